import PyProof.Rows.All
import Wide.All
import OpenK.AllK
import Wide.FinOn
import HandS.ForMost
import HandS.Wide
import HandS.WideBits
import HandS.TupAny
import HandS.TupMul
import HandS.IsInst
import HandS.Walk
import HandS.Style
import KE.GoesZip
import KE.GoesMore
import KE.GoesEnum
import HandS.Codes
import HandS.FStrTup
import PyProof.ListMulRoad
import PyProof.FactsAll.tuple_2
import PyProof.ReprLoop
import PyProof.ReprHeadsTuple
import PyProof.StrHeap
import PyProof.CallStr
import HandS.StrMore
import HandS.SortInts
import PyProof.Rows.StrRev
import PyProof.StrOps2
import KE.DataAny
import PyProof.ReprRoads
import HandS.Ends
import HandS.OwnEq
import PySem.Challenge.RW_countscribe_k23_later_and_thinned
import HandS.ForDict
import HandS.More
import HandS.DictComp
set_option Elab.async false
set_option linter.all false
set_option maxRecDepth 100000
set_option maxHeartbeats 2000000
/-! rules that the layer lacks: a power of great numbers, zip over a list and a tuple in any mix -/
namespace CK
open PySem PySem.Spec PyProof.Rows L2

section
variable {X : Cx}
theorem op_powB : OpR X (binaryOp .Pow) (rI (fun i j => 0 ≤ j ∧ (Builtin.Int.intBits i : Int) * j ≤ 2 ^ 27) fun i j => .int (i ^ j.toNat)) :=
  opI fun _ _ _ _ _ _ _ c q => pow_int c.1 c.2 q
end

/-- a list, or a tuple -/
inductive Kd | L | T
def SqB (K : PySem.W.Frag) : Kd → Hp → Addr → List V → Prop
  | .L, H, a, xs => SqL K H a xs
  | .T, H, a, xs => SqT K H a xs
def HasB : Kd → Heap → Addr → Array Value → Prop
  | .L, h, a, xs => h.IsList a xs
  | .T, h, a, xs => h.IsTuple a xs
def IterB : Kd → Heap → Addr → Addr → Nat → Prop
  | .L, h, it, a, i => h.IsListIter it a i
  | .T, h, it, a, i => h.IsTupleIter it a i
def objB : Kd → Addr → Obj
  | .L, a => { cls := .type "list_iterator", data := .fields #[.ref a, .int 0 0] }
  | .T, a => { cls := .type "tuple_iterator", data := .fields #[.ref a, .int 0 0] }
theorem drawsB (k : Kd) {prog : Program} {w : World} {A : Around} (hh : A.handled = none) (it t : Addr) (ne : t ≠ it) (zs : Array Value) :
    Draws prog w A it [it, t] zs.size (fun i v => zs[i]? = some v) (fun i h => IterB k h it t i ∧ HasB k h t zs) := by
  cases k with
  | L => exact Draws.list hh it t ne zs
  | T => exact Draws.tuple hh it t ne zs
theorem beginsB (k : Kd) (t : Addr) (zs : Array Value) : Begins (.ref t) (objB k t) fun h => HasB k h t zs := by
  cases k with
  | L => exact begins_list t zs
  | T => exact begins_tuple t zs
theorem IterB.at {k : Kd} {h h' : Heap} {it a : Addr} {i : Nat} (x : IterB k h it a i) (e : ∀ o, h.get? it = some o → h'.get? it = some o) : IterB k h' it a i := by
  cases k with
  | L => exact Heap.IsListIter.at x e
  | T => exact Heap.IsTupleIter.at x e
theorem IterB.there {k : Kd} {h : Heap} {it a : Addr} {i : Nat} (x : IterB k h it a i) : ∃ o, h.get? it = some o ∧ ∀ v, o.data ≠ .cell v := by
  cases k with
  | L =>
    obtain ⟨o, e, _, d⟩ := x
    exact ⟨o, e, fun v z => by rw [d] at z; cases z⟩
  | T =>
    obtain ⟨o, e, _, d⟩ := x
    exact ⟨o, e, fun v z => by rw [d] at z; cases z⟩
theorem IterB.new {k : Kd} {h : Heap} {it a : Addr} (e : h.get? it = some (objB k a)) : IterB k h it a 0 := by
  cases k with
  | L => exact ⟨_, e, rfl, rfl⟩
  | T => exact ⟨_, e, rfl, rfl⟩
theorem SqB.get {X : Cx} {pins : List (Addr × Obj)} {σ : L2.St} {H : Hp} {s : Shared} {k : Kd} {a : Addr} {xs : List V} (I : Inv X pins σ H s) (h : SqB X.K k H a xs) :
    ∃ zs : List Value, Vals xs zs ∧ HasB k s.heap a zs.toArray ∧ a < s.heap.objs.size := by
  cases k with
  | L =>
    obtain ⟨zs, r, p, _⟩ := I.list h
    exact ⟨zs, r, p.isList, p.lt⟩
  | T =>
    obtain ⟨zs, r, p, _⟩ := I.tuple h
    exact ⟨zs, r, p, p.lt⟩
theorem SqB.inj {X : Cx} {pins : List (Addr × Obj)} {σ : L2.St} {H : Hp} {s : Shared} {k : Kd} {a : Addr} {xs ys : List V} (I : Inv X pins σ H s) (h : SqB X.K k H a xs) (h' : SqB X.K k H a ys) : xs = ys := by
  cases k with
  | L => exact I.list_inj h h'
  | T => exact I.tuple_inj h h'

/-- both as they stand at each turn, the items in new pairs -/
def ItB (K : PySem.W.Frag) (k k' : Kd) (a b : Addr) : It :=
  ⟨fun i H => ∃ (xs ys : List V) (x y : V), SqB K k H a xs ∧ SqB K k' H b ys ∧ xs[i]? = some x ∧ ys[i]? = some y,
    fun i H v H' => ∃ T x y, v = .ref T ∧ H T = none ∧ H' = upd H T (.tup [x, y]) ∧ (∀ xs, SqB K k H a xs → xs[i]? = some x) ∧ ∀ ys, SqB K k' H b ys → ys[i]? = some y,
    fun i H => ∃ xs ys : List V, SqB K k H a xs ∧ SqB K k' H b ys ∧ i ≤ xs.length ∧ i ≤ ys.length ∧ (i = xs.length ∨ i = ys.length)⟩
theorem five {z TI TO i1 i2 c : Addr} (h : c ∈ [z, TI, TO, i1, i2]) : c = z ∨ c = TI ∨ c = TO ∨ c = i1 ∨ c = i2 := by simpa using h
theorem turnB {P : Program} {w : World} {K : PySem.W.Frag} {elts : List Expr} {kk : Nat} {tp : Pos} {k k' : Kd} {a b z TI TO i1 i2 : Addr} (S : ZipSep2 z TI TO i1 i2 [i1, a] [i2, b]) (na : a ≠ i1) (nb : b ≠ i2) :
    Turn P w K (.Tuple elts kk tp) (ItB K k k' a b) [z, TI, TO, i1, i2] z
      (fun i h => IsZip h z TI TO .none ∧ IsTupOf2 h TI (.ref i1) (.ref i2) ∧ (∃ x y, IsTupOf2 h TO x y) ∧ IterB k h i1 a i ∧ IterB k' h i2 b i) where
  mem := by simp
  obj := fun i h st c hc => by
    obtain ⟨hz, hI, ⟨x, y, hO⟩, h1, h2⟩ := st
    rcases five hc with q | q | q | q | q <;> subst q
    · exact ⟨_, hz, fun v q => nomatch q⟩
    · exact ⟨_, hI, fun v q => nomatch q⟩
    · exact ⟨_, hO, fun v q => nomatch q⟩
    · exact h1.there
    · exact h2.there
  keep := fun i h h' st q => by
    obtain ⟨hz, hI, ⟨x, y, hO⟩, h1, h2⟩ := st
    exact ⟨q z (by simp) _ hz, q TI (by simp) _ hI, ⟨x, y, q TO (by simp) _ hO⟩, h1.at (q i1 (by simp)), h2.at (q i2 (by simp))⟩
  item := by
    intro X hP hw hK hc i pins s σ H E I hf st hg
    subst hP hw hK
    obtain ⟨hz, hI, ⟨x0, y0, hO⟩, h1, h2⟩ := st
    obtain ⟨xs, ys, x, y, qx, qy, hx, hy⟩ := hg
    obtain ⟨zs, r1, p1, la⟩ := SqB.get I qx
    obtain ⟨zs', r2, p2, lb⟩ := SqB.get I qy
    obtain ⟨u, hu, ru⟩ := r1.get hx
    obtain ⟨u2, hu2, ru2⟩ := r2.get hy
    have z0 : z < s.heap.objs.size := Heap.lt_size hz
    have l1 : i < zs.toArray.size := by
      obtain ⟨q, _⟩ := List.getElem?_eq_some_iff.mp hu
      simpa using q
    have l2 : i < zs'.toArray.size := by
      obtain ⟨q, _⟩ := List.getElem?_eq_some_iff.mp hu2
      simpa using q
    have hh : X.A.in1.handled = none := I.ok.hd hc
    refine wpAny_pyNext_zipD2_item S (drawsB k hh i1 a na zs.toArray) (drawsB k' hh i2 b nb zs'.toArray) hz hI hO ⟨h1, p1⟩ ⟨h2, p2⟩ l1 l2 fun x1 x2 h' tk e1 e2 z' TO' t1 t2 hT hsz hk => ?_
    have e1' : x1 = u := by
      have q : zs[i]? = some x1 := by simpa using e1
      exact Option.some.inj (q.symm.trans hu)
    have e2' : x2 = u2 := by
      have q : zs'[i]? = some x2 := by simpa using e2
      exact Option.some.inj (q.symm.trans hu2)
    subst e1' e2'
    refine ⟨_, rfl, wpAny_letOwnedTupleGo_zip (s := { s with heap := h', toks := tk }) z' fun h'' z'' sb => ?_⟩
    have hT2 : h''.get? s.heap.objs.size = some { cls := .type "tuple", data := .seq #[x1, x2] } := (sb.2 _ (Nat.ne_of_gt z0)).trans hT
    have new : ObjOk X.prog X.w (upd H s.heap.objs.size (.tup [x, y])) h'' s.heap.objs.size (.tup [x, y]) :=
      ⟨by show 2 ≤ sizeLine; decide, [x1, x2], .cons ru (.cons ru2 .nil), ⟨_, hT2, rfl, _, rfl⟩⟩
    have I1 : Inv X pins σ (upd H s.heap.objs.size (.tup [x, y])) { s with heap := h'', toks := tk } :=
      I.turnedNew (ch := [z, TI, TO, i1, i2]) (fun c o hb q => by
        have n : c ≠ z ∧ c ≠ TI ∧ c ≠ TO ∧ c ≠ i1 ∧ c ≠ i2 := by simpa using hb
        exact (sb.2 c n.1).trans (hk c o n.1 n.2.2.1 n.2.2.2.1 n.2.2.2.2 q)) hf (Nat.le_refl _) new
    refine ⟨.ref s.heap.objs.size, _, I1, rfl, ⟨_, x, y, rfl, I.hok.fresh (Nat.le_refl _), rfl, fun l hl => by rw [SqB.inj I hl qx]; exact hx, fun l hl => by rw [SqB.inj I hl qy]; exact hy⟩, ⟨z'', ?_, ⟨x1, x2, ?_⟩, ?_, ?_⟩, fun c hcm => ?_⟩
    · exact (sb.2 _ S.TIz).trans (hk _ _ S.TIz S.TITO S.TIi1 S.TIi2 hI)
    · exact (sb.2 _ S.TOz).trans TO'
    · exact t1.1.at fun o q => (sb.2 _ S.zi1.symm).trans q
    · exact t2.1.at fun o q => (sb.2 _ S.zi2.symm).trans q
    · have lt : c < s.heap.objs.size := by
        rcases five hcm with q | q | q | q | q <;> subst q
        · exact z0
        · exact Heap.lt_size hI
        · exact Heap.lt_size hO
        · obtain ⟨_, e, _⟩ := h1.there
          exact Heap.lt_size e
        · obtain ⟨_, e, _⟩ := h2.there
          exact Heap.lt_size e
      rw [upd_ne (Nat.ne_of_lt lt)]
      exact (hf c hcm).1
  done := by
    intro X hP hw hK hc i pins s σ H E I hf st hg
    subst hP hw hK
    obtain ⟨hz, hI, ⟨x0, y0, hO⟩, h1, h2⟩ := st
    obtain ⟨xs, ys, qx, qy, m1, m2, hend⟩ := hg
    obtain ⟨zs, r1, p1, la⟩ := SqB.get I qx
    obtain ⟨zs', r2, p2, lb⟩ := SqB.get I qy
    have e1 : zs.toArray.size = xs.length := by rw [List.size_toArray]; exact r1.length.symm
    have e2 : zs'.toArray.size = ys.length := by rw [List.size_toArray]; exact r2.length.symm
    have hh : X.A.in1.handled = none := I.ok.hd hc
    exact wpAny_pyNext_zipD2_end S (drawsB k hh i1 a na zs.toArray) (drawsB k' hh i2 b nb zs'.toArray) hz hI hO ⟨h1, p1⟩ ⟨h2, p2⟩ (by omega) (by omega) (by omega) fun h' tk hk =>
      ⟨rfl, I.turnedL (ch := [z, TI, TO, i1, i2]) (fun c o hb q => by
        have n : c ≠ z ∧ c ≠ TI ∧ c ≠ TO ∧ c ≠ i1 ∧ c ≠ i2 := by simpa using hb
        exact hk c o n.1 n.2.2.1 n.2.2.2.1 n.2.2.2.2 q) hf⟩
  self := fun A i s Q E st h => wpAny_pyIter_zip st.1 h

def iZipB (K : PySem.W.Frag) (ta : TA) : TI := fun σ H R => ta σ H fun vs H1 => ∃ (k k' : Kd) (a b : Addr) (xs ys : List V), vs = [.ref a, .ref b] ∧ SqB K k H1 a xs ∧ SqB K k' H1 b ys ∧ R (ItB K k k' a b) H1
theorem pi_zipB {X : Cx} {K : PySem.W.Frag} {e e2 : Expr} {ta : TA} {p pos tp : Pos} {elts : List Expr} {kk : Nat} (hK : X.K = K) (hg : Gl X "zip") (hm : X.mg "zip" = none) (ha : PA X [e, e2] ta)
    (hs : starEach [e, e2] X.env = (false, eval e X.env) :: starEach [e2] X.env := by rfl) (hpl : (backTo pos (starEach [e2] X.env)).any (·.1) = false := by rfl) :
    PI X (.Tuple elts kk tp) (.Call (.Name "zip" p) [e, e2] [] pos) (iZipB K ta) := by
  subst hK
  refine ⟨fun pins s σ H R I h => Call_ (ld_blt I hg hm PyProof.Rows.boot_zip (callWith_type1 (thn (ha.run pos pins s σ H _ I h) fun us s1 q => ?_) hs hpl))⟩
  obtain ⟨vs, H1, I1, r1, k, k', a, b, xs, ys, rfl, qx, qy, q⟩ := q
  cases r1 with
  | cons r rr =>
  cases rr with
  | cons r' rr =>
  cases rr
  cases r
  cases r'
  obtain ⟨zs, _, p1, la⟩ := SqB.get I1 qx
  obtain ⟨zs', _, p2, lb⟩ := SqB.get I1 qy
  refine zip_begins2 (beginsB k a zs.toArray) (beginsB k' b zs'.toArray) p1 p2 fun h' hz hI hO o1 o2 hsz hk => wpAny_pyIter_zip hz ?_
  have S := zip_sep2 (N := s1.heap.objs.size) (fp1 := [a]) (fp2 := [b]) (fun c hc => by rw [List.mem_singleton.mp hc]; exact la) (fun c hc => by rw [List.mem_singleton.mp hc]; exact lb)
  refine ⟨s1.heap.objs.size + 4, _, _, _, H1, rfl, I1.kept (t' := s1.toks) hk, turnB S (Nat.ne_of_lt la) (Nat.ne_of_lt (Nat.lt_succ_of_lt lb)), ⟨hz, hI, ⟨_, _, hO⟩, .new o1, .new o2⟩, fun c hc => ?_, q⟩
  have le : s1.heap.objs.size ≤ c := by
    rcases five hc with z | z | z | z | z <;> subst z <;> first | exact Nat.le_add_right _ _ | exact Nat.le_refl _
  exact I1.fpOk le (I1.hok.fresh le)
theorem walkB {K : PySem.W.Frag} {k k' : Kd} {a b : Addr} {xs ys : List V} (hl : xs.length = ys.length) :
    Walk (ItB K k k' a b) xs.length (fun H => SqB K k H a xs ∧ SqB K k' H b ys) (YPair (fun i => xs[i]?) (fun i => ys[i]?)) := by
  refine ⟨fun i H hi q => ?_, fun H q => ⟨xs, ys, q.1, q.2, Nat.le_refl _, Nat.le_of_eq hl, .inl rfl⟩, fun i H v H' _ q y => ?_⟩
  · have h2 : i < ys.length := by omega
    exact ⟨xs, ys, xs[i], ys[i], q.1, q.2, by simp [hi], by simp [h2]⟩
  · obtain ⟨T, x, z, h1, h2, h3, h4, h5⟩ := y
    exact ⟨T, x, z, h1, h2, h3, h4 xs q.1, h5 ys q.2⟩
end CK

set_option Elab.async false
set_option linter.all false
set_option maxRecDepth 100000
set_option maxHeartbeats 4000000
namespace CK
open PySem PySem.Spec PyProof.Rows L2
theorem mulFill : fillsNumberSlot (.type "tuple") "mul" = pure false :=
  PySem.fillsNumberSlot_seq (r := some (.builtin "tuple.__rmul__")) (id := "tuple.__mul__") PySem.F.slot_tuple_mul.lookup (by decide +kernel)
    PySem.F.slot_tuple_rmul.lookup (by decide +kernel)
theorem mulSeq : seqRepeat? (.type "tuple") = pure (some (.builtin "tuple.__mul__")) := by
  unfold seqRepeat?
  rw [PySem.seqSlot_of (name := "__mul__") (id := "tuple.__mul__") (T := "tuple") PySem.F.slot_tuple_mul.lookup (by decide +kernel),
    PySem.seqSlot_of (name := "__rmul__") (id := "tuple.__rmul__") (T := "tuple") PySem.F.slot_tuple_rmul.lookup (by decide +kernel)]
  rfl
theorem rmulNo (a : Int) (t : Tok) (l : Addr) (zs : Array Value) (n : Nat) (dd : Option Addr) (sl : Array (Option Value)) :
    Meets (Builtin.«int.__rmul__» ⟨[.int a t, .ref l], []⟩) (fun _ R s =>
      s.heap.get? l = some { cls := .type "tuple", dict := dd, data := .seq zs n, slots := sl } ∧ R (.ok (.ret Value.notImplemented)) s) := by
  refine Meets.of_wp fun prog w A R s h => ?_
  obtain ⟨hq, g, d, tk, o2⟩ := s
  obtain ⟨hl, h⟩ := h
  wp_walk using wpAny_loadPart' hl
  exact ⟨_, rfl, h⟩
/-- one item, no times: a new empty tuple -/
theorem mul0 (l : Addr) (v : Value) (n : Nat) (dd : Option Addr) (sl : Array (Option Value)) (u : Tok) :
    Meets (Builtin.«tuple.__mul__» ⟨[.ref l, .int 0 u], []⟩) (fun _ R s =>
      s.heap.get? l = some { cls := .type "tuple", dict := dd, data := .seq #[v] n, slots := sl } ∧
      R (.ok (.ret (Value.ref s.heap.objs.size))) { s with heap := s.heap.push { cls := Value.type "tuple", data := Data.seq #[] } }) := by
  refine Meets.of_wp fun prog w A R s h => ?_
  obtain ⟨hq, g, d, tk, o2⟩ := s
  obtain ⟨hl, h⟩ := h
  have f1 := AutoSeq1.idx_int
  wp_walk using wpAny_loadPart' hl
  exact ⟨_, rfl, h⟩
/-- one item, once: the tuple itself -/
theorem mul1 (l : Addr) (v : Value) (n : Nat) (dd : Option Addr) (sl : Array (Option Value)) (u : Tok) :
    Meets (Builtin.«tuple.__mul__» ⟨[.ref l, .int 1 u], []⟩) (fun _ R s =>
      s.heap.get? l = some { cls := .type "tuple", dict := dd, data := .seq #[v] n, slots := sl } ∧ R (.ok (.ret (Value.ref l))) s) := by
  refine Meets.of_wp fun prog w A R s h => ?_
  obtain ⟨hq, g, d, tk, o2⟩ := s
  obtain ⟨hl, h⟩ := h
  have f1 := AutoSeq1.idx_int
  have f2 : (⟨hq, g, d, tk, o2⟩ : Shared).TypeIs (.ref l) "tuple" := ⟨_, hl, rfl⟩
  wp_walk using wpAny_loadPart' hl, wpAny_typeOf f2
  exact ⟨_, rfl, h⟩
section
variable {X : Cx}
theorem sameNew {H : Hp} {p : Addr} {o : HO} (h : H p = none) : Same H (upd H p o) := fun b z e => by
  rw [upd_ne (ne_of_none e h)]
  exact e
/-- one item, k times: 0 or 1 -/
def rRep01 : R2 := fun x y H Q => ∃ (l : Addr) (k : Int) (v : V), x = .ref l ∧ y = .int k ∧ H l = some (.tup [v]) ∧ (k = 0 ∨ k = 1) ∧
  ∀ p H', Same H H' → H' p = some (.tup (List.replicate k.toNat v)) → Q (.ref p) H'
theorem op_rep01 : OpR X (binaryOp .Mult) rRep01 := by
  intro pins s σ H x y xv yv Q I rx ry h
  obtain ⟨l, k, v, rfl, rfl, hl, hk, q⟩ := h
  cases rx
  obtain ⟨t, rfl⟩ := ry
  obtain ⟨zs, r, ⟨⟨cl, dd, da, sl⟩, ho, hc, n, hd⟩, hs⟩ := I.tuple (.inl (.inl hl) : SqT X.K H l [v])
  simp only at hc hd
  subst hc hd
  cases r with
  | cons r1 r2 =>
  cases r2
  rename_i u
  rcases hk with e | e <;> subst e
  · refine wpAny_binaryOp_repeat_ref (T := "tuple") (U := "int") (by decide) ⟨_, ho, rfl⟩ (fun s' => typeIs_int s' 0 t) mulFill F.fills_int_mul F.slot_int_rmul mulSeq F.slot_int_index.lookup
      (call_meets F.slot_int_rmul (typeIs_int s 0 t) F.entry_int_rmul (F.args_int_rmul_2 _ _) (rmulNo 0 t l _ n dd sl)
        ⟨ho, rfl, ⟨_, ho, rfl⟩, call_meets F.slot_tuple_mul ⟨_, ho, rfl⟩ F.entry_tuple_mul (F.args_tuple_mul_2 _ _) (mul0 l _ n dd sl t) ⟨ho, ?_⟩⟩)
    have hn : H s.heap.objs.size = none := I.hok.fresh (Nat.le_refl _)
    refine ⟨.ref s.heap.objs.size, _, I.laid (t' := s.toks) (o := .tup []) (fun b ob q => Heap.get?_push_of_some _ q) (Nat.le_refl _) ?_, rfl, q _ _ (sameNew hn) upd_same⟩
    exact ⟨Nat.zero_le _, [], .nil, IsTup.new _ _⟩
  · exact wpAny_binaryOp_repeat_ref (T := "tuple") (U := "int") (by decide) ⟨_, ho, rfl⟩ (fun s' => typeIs_int s' 1 t) mulFill F.fills_int_mul F.slot_int_rmul mulSeq F.slot_int_index.lookup
      (call_meets F.slot_int_rmul (typeIs_int s 1 t) F.entry_int_rmul (F.args_int_rmul_2 _ _) (rmulNo 1 t l _ n dd sl)
        ⟨ho, rfl, ⟨_, ho, rfl⟩, call_meets F.slot_tuple_mul ⟨_, ho, rfl⟩ F.entry_tuple_mul (F.args_tuple_mul_2 _ _) (mul1 l _ n dd sl t)
          ⟨ho, ⟨.ref l, H, I, rfl, q l H (Same.refl H) hl⟩⟩⟩)
/-! ### str(tuple of whole numbers): some text -/
theorem reprInts {prog : Program} {w : World} : ∀ {ns : List Int} {zs : List Value}, Vals (ns.map V.int) zs → (∀ n ∈ ns, n.natAbs.log2 < 1920) → ReprAll prog w zs (ns.map fun n => (toString n : Str))
  | [], _, r, _ => by
    cases r
    exact .nil
  | n :: l, _, r, h => by
    cases r with
    | cons r1 r2 =>
    obtain ⟨t, rfl⟩ := r1
    exact .cons (ReprIs.int t (h n List.mem_cons_self)) (reprInts r2 fun z hz => h z (List.mem_cons_of_mem _ hz))
end
end CK
namespace CK
open PySem PySem.Spec PyProof.Rows L2
section
variable {X : Cx}
/-- one item, k times -/
def rRepOne (K : PySem.W.Frag) : R2 := fun x y H Q => ∃ (l : Addr) (k : Int) (v : V), x = .ref l ∧ y = .int k ∧ H l = some (.tup [v]) ∧ 0 ≤ k ∧ k ≤ 1000 ∧
  ∀ p H', Same H H' → H' p = some (.tup (List.replicate k.toNat v)) → Q (.ref p) H'
theorem flat_rep {α : Type} (v : α) : ∀ n : Nat, (List.replicate n [v]).flatten = List.replicate n v
  | 0 => rfl
  | n + 1 => by rw [List.replicate_succ, List.flatten_cons, flat_rep v n, List.replicate_succ]; rfl
theorem op_repOne : OpR X (binaryOp .Mult) (rRepOne X.K) := by
  intro pins s σ H x y xv yv Q I rx ry h
  obtain ⟨l, k, v, rfl, rfl, hl, h0, h1, q⟩ := h
  by_cases hk : k = 0 ∨ k = 1
  · exact op_rep01 pins s σ H _ _ xv yv Q I rx ry ⟨l, k, v, rfl, rfl, hl, hk, q⟩
  · refine op_repT pins s σ H _ _ xv yv Q I rx ry ⟨l, k, [v], rfl, rfl, .inl (.inl hl), List.cons_ne_nil _ _, by omega, h1, by show 1 ≤ 1000; omega, fun p hp => q p _ (sameNew hp) ?_⟩
    rw [upd_same, flat_rep]
/-- str of a tuple of whole numbers: some text -/
theorem call_str_tup {k : Nat} (hr : Room k X.A) : CallR X (.type "str") (fun xs H Q => ∃ (a : Addr) (ns : List Int), xs = [.ref a] ∧ H a = some (.tup (ns.map V.int)) ∧ ns.length ≤ 100 ∧ (∀ n ∈ ns, n.natAbs.log2 < 1920) ∧ ∀ m : Str, Q (.str m) H) := by
  intro pins s σ H xs us Q I r h
  obtain ⟨a, ns, rfl, ha, hl, hn, q⟩ := h
  obtain ⟨u, rfl, rx⟩ := vals1 r
  cases rx
  obtain ⟨zs, rv, ⟨o, ho, hc, n, hd⟩, hz⟩ := I.tuple (.inl (.inl ha) : SqT X.K H a _)
  have hu := hr.units
  have hT : ReprAll X.prog X.w zs.toArray.toList (ns.map fun n => (toString n : Str)) := by simpa using reprInts rv hn
  have hp : ∀ l : List Int, (∀ n ∈ l, n.natAbs.log2 < 1920) → piled (l.map fun n => (toString n : Str)) ≤ l.length * 1923 := by
    intro l
    induction l with
    | nil => intro _; exact Nat.le_refl _
    | cons z l ih =>
      intro h
      have a1 := int_text_length_le (a := z) (k := 1920) (by omega) (h z List.mem_cons_self)
      have a2 := ih fun n hn => h n (List.mem_cons_of_mem _ hn)
      rw [List.map_cons, piled_cons, List.length_cons]
      have a3 : ((toString z : Str)).length = (toString z).length := PySem.ofString_length _
      omega
  have h1 := fmt_text (ns.map fun n => (toString n : Str))
  have h2 := hp ns hn
  have h3 : ns.length * 1923 ≤ 192300 := by omega
  have h4 : (tupleText (ns.map fun n => (toString n : Str))).length ≤ sizeLine := by
    rw [sizeLine_eq]
    omega
  refine callType_new F.called_str (by decide) (F.typeCall_str_1 _) (F.newCall_str_1 _) (fun obj => F.args_object_init_2 obj _) F.entry_str_new
    (meets_str_new (S := fun A' R s' => A'.units + 4 < cLine ∧ s'.heap.get? a = some o ∧ ∀ (m : Str) (u tk : Tok), R (.ok (.ret (.str m u))) { s' with toks := tk }) fun prog w A' R s' h =>
      wpAny_strOf_slot rfl (by show A'.units + 1 + 1 < cLine; have := h.1; omega) ⟨o, h.2.1, hc⟩ F.slot_tuple_str F.slot_tuple_repr
        (fmt_tuple_repr h.2.1 hc hd ?_ h4 fun m u tk _ => ⟨m, u, rfl, h.2.2 m u tk⟩))
    ⟨by show X.A.units + 1 + 4 < cLine; omega, ho, fun m u tk => ⟨typeIs_str _ _ _, .str m, H, I.tok _, ⟨u, rfl⟩, q m⟩⟩
  exact by simpa using reprInts rv hn
end
end CK

set_option Elab.async false
set_option linter.all false
set_option maxRecDepth 100000
set_option maxHeartbeats 2000000
namespace CK
open PySem PySem.Spec PyProof.Rows L2
/-! ### a def as it stands behind the top, and its promise by its body -/
structure DefF (K : PySem.W.Frag) (mg : Str → Option Value) (x : Str) (st : Stmt) (ps : List Str) : Prop where
  ex : ∃ (f : Addr) (fd : FuncData), C8.Def K mg x st f fd ∧ ∀ us : List Value, us.length = ps.length → bindArgs fd ⟨us, []⟩ = pure (ps.zip us)
theorem defF_mk {K : PySem.W.Frag} {h : Heap} {mg : Str → Option Value} {x : Str} {st : Stmt} {ps : List Str} {f : Addr} {od an : Option Addr} {oc kV dc pm cd ct : Value} {sl : Array (Option Value)}
    (X : K.In h) (G : h.Ns mainGlobals mg) (a : PySem.W.nsIn K mainGlobals x = some (some (.ref f)))
    (l : K.lookup f = some ⟨oc, od, .func (PySem.W.fnOf x x (C8.fnArgs st) (C8.fnBody st) (C8.fnScope st) .none kV dc pm an cd ct), sl⟩)
    (c : PySem.W.codeIn K cd x = true) (k : PySem.W.keepIn K (.ref f) = true)
    (hb : ∀ (kV doc pm : Value) (an : Option Addr) (cdv ct : Value) (us : List Value), us.length = ps.length →
      bindArgs (PySem.W.fnOf x x (C8.fnArgs st) (C8.fnBody st) (C8.fnScope st) .none kV doc pm an cdv ct) ⟨us, []⟩ = pure (ps.zip us)) : DefF K mg x st ps :=
  ⟨f, _, ⟨⟨oc, od, .none, kV, dc, pm, an, cd, ct, sl, rfl, l, c⟩, PySem.W.mg_of X G a, k⟩, hb kV dc pm an cd ct⟩
theorem calF {P : Program} {w : World} {K : PySem.W.Frag} {mg : Str → Option Value} {base : Heap} {x : Str} {st : Stmt} {N ps : List Str} {k : Nat} {sp : Sp} (D : DefF K mg x st ps) (S : FnScope N ps (C8.fnScope st))
    (len : ∀ vs H Q E, sp vs H Q E → vs.length = ps.length)
    (hbody : ∀ (f : Addr) (cdv : Value) (A : Around) (outer : List Env) (s : Shared) (H : Hp) (vs : List V) (Q : VK) (E : XK), Room k (A.deeper (envOfC x (C8.fnScope st) s.heap.objs.size f cdv)) → sp vs H Q E →
      ∃ t, PSs (cxOf C8.CX0 P w K mg base N x (C8.fnScope st) f cdv A outer s H E).nox (C8.fnBody st) t ∧ t { nx := fun _ H' => Q .non H', rt := Q } (start N vs) H) : C8.Cal P w K mg base (k + 1) x sp [] := by
  obtain ⟨f, fd, F, b⟩ := D.ex
  exact C8.cal0 F (.all b) .nil S len (hbody f)
/-- a def of one parameter as it stands, for the law's end -/
theorem DefF.one {K : PySem.W.Frag} {mg : Str → Option Value} {x p : Str} {st : Stmt} (D : DefF K mg x st [p]) : ∃ (f : Addr) (fd : FuncData), mg x = some (.ref f) ∧ (∀ (s : Shared) (v : Value), BindsTo s fd ⟨[v], []⟩ [(p, v)]) ∧
    ∀ {P : Program} {w : World} {base : Heap} {N : List Str} {k : Nat} {sp : Sp} (S : FnScope N [p] (C8.fnScope st)) (len : ∀ vs H Q E, sp vs H Q E → vs.length = 1)
      (hbody : ∀ (f : Addr) (cdv : Value) (A : Around) (outer : List Env) (s : Shared) (H : Hp) (vs : List V) (Q : VK) (E : XK), Room k (A.deeper (envOfC x (C8.fnScope st) s.heap.objs.size f cdv)) → sp vs H Q E →
        ∃ t, PSs (cxOf C8.CX0 P w K mg base N x (C8.fnScope st) f cdv A outer s H E).nox (C8.fnBody st) t ∧ t { nx := fun _ H' => Q .non H', rt := Q } (start N vs) H), FnOk P w K mg base C8.CX0 (k + 1) f fd [p] sp := by
  obtain ⟨f, fd, F, b⟩ := D.ex
  exact ⟨f, fd, F.mgf, fun s v => .of_eq (b [v] rfl), fun S len hbody => C8.fn0 F.fn S len (hbody f)⟩

theorem with_def {K : PySem.W.Frag} {h : Heap} {mg : Str → Option Value} (_ : K.In h) (x : Str) (st : Stmt) (ps : List Str) {R : Prop} (d : DefF K mg x st ps) (r : DefF K mg x st ps → R) : R := r d
/-! ### heaps -/
/-- all that was tracked is as it was, but for g -/
def SameX (g : Addr) (H H' : Hp) : Prop := ∀ b o, b ≠ g → H b = some o → H' b = some o
theorem SameX.refl (g : Addr) (H : Hp) : SameX g H H := fun _ _ _ h => h
theorem SameX.trans {g : Addr} {H H1 H2 : Hp} (a : SameX g H H1) (b : SameX g H1 H2) : SameX g H H2 := fun c o n h => b c o n (a c o n h)
theorem SameX.of {g : Addr} {H H1 : Hp} (a : Same H H1) : SameX g H H1 := fun c o _ h => a c o h
theorem sameX_upd {g : Addr} {H : Hp} {o : HO} : SameX g H (upd H g o) := fun b z n e => by
  rw [upd_ne n]
  exact e
theorem same_upd2 {H H1 : Hp} {D : Addr} {o : HO} (hD : H D = none) (s : Same H H1) : Same H (upd H1 D o) := fun b z e => by
  rw [upd_ne (ne_of_none e hD)]
  exact s b z e

/-! ### what a value is -/
/-- the built-in type of a value that is known -/
def tnm (H : Hp) : V → String
  | .non => "NoneType"
  | .bl _ => "bool"
  | .int _ => "int"
  | .str _ => "str"
  | .ref a => match H a with
    | some (.lst _) => "list"
    | some (.tup _) => "tuple"
    | _ => "?"
  | _ => "?"
theorem tnm_tup {H : Hp} {a : Addr} {xs : List V} (h : H a = some (.tup xs)) : tnm H (.ref a) = "tuple" := by
  simp only [tnm, h]
theorem tnm_lst {H : Hp} {a : Addr} {xs : List V} (h : H a = some (.lst xs)) : tnm H (.ref a) = "list" := by
  simp only [tnm, h]
/-- a value whose type is known -/
inductive Kn (H : Hp) : V → Prop
  | non : Kn H .non
  | bl (b : Bool) : Kn H (.bl b)
  | int (i : Int) : Kn H (.int i)
  | str (x : Str) : Kn H (.str x)
  | lst {a : Addr} {xs : List V} (e : H a = some (.lst xs)) : Kn H (.ref a)
  | tup {a : Addr} {xs : List V} (e : H a = some (.tup xs)) : Kn H (.ref a)
theorem Kn.same {H H' : Hp} {v : V} (k : Kn H v) (s : Same H H') : Kn H' v := by
  cases k with
  | non => exact .non
  | bl b => exact .bl b
  | int i => exact .int i
  | str x => exact .str x
  | lst e => exact .lst (s _ _ e)
  | tup e => exact .tup (s _ _ e)
theorem Kn.ty {K : PySem.W.Frag} {H : Hp} {v : V} (k : Kn H v) : TyX K H v (.type (tnm H v)) := by
  cases k with
  | non => exact .base .non
  | bl b => exact .base (.bl b)
  | int i => exact .base (.int i)
  | str x => exact .base (.str x)
  | lst e => rw [tnm_lst e]; exact .base (.lst e)
  | tup e => rw [tnm_tup e]; exact .base (.tup e)
section
variable {X : Cx}
/-- isinstance(v, T), a known value, a built-in type -/
theorem call_isK : CallR X (.builtin "isinstance") (fun xs H Q => ∃ (v : V) (T : String) (b : Bool), xs = [v, .ty T] ∧ Kn H v ∧ kitB (tnm H v) T = some b ∧ Q (.bl b) H) := by
  intro pins s σ H xs us Q I r h
  obtain ⟨v, T, b, rfl, k, e, q⟩ := h
  exact call_isi pins s σ H _ us Q I r ⟨v, .ty T, _, _, b, rfl, .ty T, k.ty, kit_ty e, q⟩
end
/-- a whole number, no Boolean -/
def isW : V → Bool
  | .int _ => true
  | _ => false
/-- a count -/
def isC : V → Bool
  | .int i => decide (0 ≤ i)
  | _ => false
/-- isinstance(v, int) -/
def isI : V → Bool
  | .int _ => true
  | .bl _ => true
  | _ => false
def isBo : V → Bool
  | .bl _ => true
  | _ => false
def isTu (H : Hp) : V → Bool
  | .ref a => match H a with
    | some (.tup _) => true
    | _ => false
  | _ => false
def isLi (H : Hp) : V → Bool
  | .ref a => match H a with
    | some (.lst _) => true
    | _ => false
  | _ => false
theorem kit_int {H : Hp} {v : V} (k : Kn H v) : kitB (tnm H v) "int" = some (isI v) := by
  cases k with
  | non => show kitB "NoneType" "int" = some false; decide +kernel
  | bl b => show kitB "bool" "int" = some true; decide +kernel
  | int i => show kitB "int" "int" = some true; decide +kernel
  | str x => show kitB "str" "int" = some false; decide +kernel
  | lst e => rw [tnm_lst e]; show kitB "list" "int" = some false; decide +kernel
  | tup e => rw [tnm_tup e]; show kitB "tuple" "int" = some false; decide +kernel
theorem kit_bool {H : Hp} {v : V} (k : Kn H v) : kitB (tnm H v) "bool" = some (isBo v) := by
  cases k with
  | non => show kitB "NoneType" "bool" = some false; decide +kernel
  | bl b => show kitB "bool" "bool" = some true; decide +kernel
  | int i => show kitB "int" "bool" = some false; decide +kernel
  | str x => show kitB "str" "bool" = some false; decide +kernel
  | lst e => rw [tnm_lst e]; show kitB "list" "bool" = some false; decide +kernel
  | tup e => rw [tnm_tup e]; show kitB "tuple" "bool" = some false; decide +kernel
theorem kit_tuple {H : Hp} {v : V} (k : Kn H v) : kitB (tnm H v) "tuple" = some (isTu H v) := by
  cases k with
  | non => show kitB "NoneType" "tuple" = some false; decide +kernel
  | bl b => show kitB "bool" "tuple" = some false; decide +kernel
  | int i => show kitB "int" "tuple" = some false; decide +kernel
  | str x => show kitB "str" "tuple" = some false; decide +kernel
  | lst e => rw [tnm_lst e, show isTu H (.ref _) = false by simp only [isTu, e]]; decide +kernel
  | tup e => rw [tnm_tup e, show isTu H (.ref _) = true by simp only [isTu, e]]; decide +kernel
theorem kit_list {H : Hp} {v : V} (k : Kn H v) : kitB (tnm H v) "list" = some (isLi H v) := by
  cases k with
  | non => show kitB "NoneType" "list" = some false; decide +kernel
  | bl b => show kitB "bool" "list" = some false; decide +kernel
  | int i => show kitB "int" "list" = some false; decide +kernel
  | str x => show kitB "str" "list" = some false; decide +kernel
  | lst e => rw [tnm_lst e, show isLi H (.ref _) = true by simp only [isLi, e]]; decide +kernel
  | tup e => rw [tnm_tup e, show isLi H (.ref _) = false by simp only [isLi, e]]; decide +kernel
theorem isTu_tup {H : Hp} {a : Addr} {xs : List V} (e : H a = some (.tup xs)) : isTu H (.ref a) = true := by simp only [isTu, e]
theorem isLi_lst {H : Hp} {a : Addr} {xs : List V} (e : H a = some (.lst xs)) : isLi H (.ref a) = true := by simp only [isLi, e]

/-! ### comprehensions that map -/
/-- n turns, each giving f i and leaving all that was tracked -/
theorem lc_mapW {J : It} {n : Nat} {G : Hp → Prop} {Y : Nat → Hp → V → Hp → Prop} (w : Walk J n G Y) {g : TG} {te : TE} {vs : List Nat} {σ : L2.St} {H1 : Hp} {D : Addr} {Qd : Hp → Prop} (f : Nat → V) (hn : n < sizeLine)
    (hG : ∀ H, Same H1 H → G H)
    (hs : ∀ (i : Nat) (x : V) (H H' : Hp) (R : VK), i < n → Same H1 H → Y i H x H' → (∀ H'', Same H H'' → R (f i) H'') → g x (wipe σ vs) H' fun σ2 H2 => wipe σ2 vs = wipe σ vs ∧ te σ2 H2 R)
    (hD : H1 D = none) (hd : ∀ H : Hp, Same H1 H → H D = some (.lst ((List.range n).map f)) → Qd H) :
    ∃ W : Nat → Nat → Hp → Prop, (∃ m, W 0 m (upd H1 D (.lst []))) ∧ ∀ i m H, W i m H →
      (J.stop i H ∧ Qd H) ∨ (J.go i H ∧ ∃ Nx : Hp → Prop, (∀ H', Nx H' → ∃ m', m' < m ∧ W (i + 1) m' H') ∧ ∀ x H', J.yld i H x H' → g x (wipe σ vs) H' fun σ2 H2 => wipe σ2 vs = wipe σ vs ∧ tYes σ2 H2 fun b H3 =>
        if b = true then te σ2 H3 fun y H4 => ∃ acc, H4 D = some (.lst acc) ∧ acc.length < sizeLine ∧ Nx (upd H4 D (.lst (acc ++ [y]))) else Nx H3) := by
  refine lc_it w (fun i H => Same H1 H ∧ H D = some (.lst ((List.range i).map f)) ∧ i ≤ n) ⟨sameNew hD, upd_same, Nat.zero_le _⟩ (fun i H _ p => hG H p.1) (fun i x H H' hi p y => ?_) fun H p => hd H p.1 p.2.1
  have q := hs i x H H' (fun y H4 => ∃ acc, H4 D = some (.lst acc) ∧ acc.length < sizeLine ∧ (Same H1 (upd H4 D (.lst (acc ++ [y]))) ∧ upd H4 D (.lst (acc ++ [y])) D = some (.lst ((List.range (i + 1)).map f)) ∧ i + 1 ≤ n)) hi p.1 y fun H'' s => by
    refine ⟨_, s D _ p.2.1, ?_, same_upd2 hD (p.1.trans s), ?_, hi⟩
    · rw [List.length_map, List.length_range]
      omega
    · rw [upd_same, List.range_succ, List.map_append]
      rfl
  exact q
theorem range_map_get {α β : Type} (xs : List α) (f : α → β) (d : Nat → β) (h : ∀ (i : Nat) (x : α), xs[i]? = some x → d i = f x) : (List.range xs.length).map d = xs.map f := by
  refine List.ext_getElem? fun i => ?_
  by_cases hi : i < xs.length
  · rw [List.getElem?_map, List.getElem?_map, List.getElem?_range hi, List.getElem?_eq_getElem hi]
    exact congrArg some (h i _ (List.getElem?_eq_getElem hi))
  · rw [List.getElem?_eq_none (by simp; omega), List.getElem?_eq_none (by simp; omega)]
/-- over a tuple -/
theorem lcT_map {K : PySem.W.Frag} {a : Addr} {xs : List V} {j : Nat} {te : TE} {vs : List Nat} {σ : L2.St} {H1 : Hp} {D : Addr} {Qd : Hp → Prop} (f : V → V) (ha : H1 a = some (.tup xs)) (hn : xs.length < sizeLine)
    (hs : ∀ (i : Nat) (x : V) (H : Hp) (R : VK), xs[i]? = some x → Same H1 H → (∀ H', Same H H' → R (f x) H') → wipe ((wipe σ vs).set j (some x)) vs = wipe σ vs ∧ te ((wipe σ vs).set j (some x)) H R)
    (hD : H1 D = none) (hd : ∀ H : Hp, Same H1 H → H D = some (.lst (xs.map f)) → Qd H) :
    ∃ W : Nat → Nat → Hp → Prop, (∃ m, W 0 m (upd H1 D (.lst []))) ∧ ∀ i m H, W i m H →
      ((Itt K a).stop i H ∧ Qd H) ∨ ((Itt K a).go i H ∧ ∃ Nx : Hp → Prop, (∀ H', Nx H' → ∃ m', m' < m ∧ W (i + 1) m' H') ∧ ∀ x H', (Itt K a).yld i H x H' → gName j x (wipe σ vs) H' fun σ2 H2 => wipe σ2 vs = wipe σ vs ∧ tYes σ2 H2 fun b H3 =>
        if b = true then te σ2 H3 fun y H4 => ∃ acc, H4 D = some (.lst acc) ∧ acc.length < sizeLine ∧ Nx (upd H4 D (.lst (acc ++ [y]))) else Nx H3) := by
  have e : (List.range xs.length).map (fun i => f (xs.getD i .non)) = xs.map f := range_map_get xs f _ fun i x h => by rw [List.getD_eq_getElem?_getD, h]; rfl
  refine lc_mapW (walk_tup (K := K) (a := a) (xs := xs)) (fun i => f (xs.getD i .non)) hn (fun H s => .inl (.inl (s _ _ ha))) (fun i x H H' R hi s y q => ?_) hD fun H s q => hd H s (by rw [q, e])
  obtain ⟨rfl, hx⟩ := y
  refine hs i x H' R hx s fun H'' s' => ?_
  have := q H'' s'
  rw [show xs.getD i .non = x by rw [List.getD_eq_getElem?_getD, hx]; rfl] at this
  exact this
/-- over a list -/
theorem lcL_map {K : PySem.W.Frag} {a : Addr} {xs : List V} {j : Nat} {te : TE} {vs : List Nat} {σ : L2.St} {H1 : Hp} {D : Addr} {Qd : Hp → Prop} (f : V → V) (ha : H1 a = some (.lst xs)) (hn : xs.length < sizeLine)
    (hs : ∀ (i : Nat) (x : V) (H : Hp) (R : VK), xs[i]? = some x → Same H1 H → (∀ H', Same H H' → R (f x) H') → wipe ((wipe σ vs).set j (some x)) vs = wipe σ vs ∧ te ((wipe σ vs).set j (some x)) H R)
    (hD : H1 D = none) (hd : ∀ H : Hp, Same H1 H → H D = some (.lst (xs.map f)) → Qd H) :
    ∃ W : Nat → Nat → Hp → Prop, (∃ m, W 0 m (upd H1 D (.lst []))) ∧ ∀ i m H, W i m H →
      ((Itl K a).stop i H ∧ Qd H) ∨ ((Itl K a).go i H ∧ ∃ Nx : Hp → Prop, (∀ H', Nx H' → ∃ m', m' < m ∧ W (i + 1) m' H') ∧ ∀ x H', (Itl K a).yld i H x H' → gName j x (wipe σ vs) H' fun σ2 H2 => wipe σ2 vs = wipe σ vs ∧ tYes σ2 H2 fun b H3 =>
        if b = true then te σ2 H3 fun y H4 => ∃ acc, H4 D = some (.lst acc) ∧ acc.length < sizeLine ∧ Nx (upd H4 D (.lst (acc ++ [y]))) else Nx H3) := by
  have e : (List.range xs.length).map (fun i => f (xs.getD i .non)) = xs.map f := range_map_get xs f _ fun i x h => by rw [List.getD_eq_getElem?_getD, h]; rfl
  refine lc_mapW (walk_list (K := K) (a := a) (xs := xs)) (fun i => f (xs.getD i .non)) hn (fun H s => .inl (.inl (s _ _ ha))) (fun i x H H' R hi s y q => ?_) hD fun H s q => hd H s (by rw [q, e])
  obtain ⟨rfl, hx⟩ := y
  refine hs i x H' R hx s fun H'' s' => ?_
  have := q H'' s'
  rw [show xs.getD i .non = x by rw [List.getD_eq_getElem?_getD, hx]; rfl] at this
  exact this
/-- over a range -/
theorem lcR_map {lo : Int} {n : Nat} {j : Nat} {te : TE} {vs : List Nat} {σ : L2.St} {H1 : Hp} {D : Addr} {Qd : Hp → Prop} (f : Nat → V) (hn : n < sizeLine)
    (hs : ∀ (i : Nat) (H : Hp) (R : VK), i < n → Same H1 H → (∀ H', Same H H' → R (f i) H') → wipe ((wipe σ vs).set j (some (.int (lo + i)))) vs = wipe σ vs ∧ te ((wipe σ vs).set j (some (.int (lo + i)))) H R)
    (hD : H1 D = none) (hd : ∀ H : Hp, Same H1 H → H D = some (.lst ((List.range n).map f)) → Qd H) :
    ∃ W : Nat → Nat → Hp → Prop, (∃ m, W 0 m (upd H1 D (.lst []))) ∧ ∀ i m H, W i m H →
      ((Itr lo n).stop i H ∧ Qd H) ∨ ((Itr lo n).go i H ∧ ∃ Nx : Hp → Prop, (∀ H', Nx H' → ∃ m', m' < m ∧ W (i + 1) m' H') ∧ ∀ x H', (Itr lo n).yld i H x H' → gName j x (wipe σ vs) H' fun σ2 H2 => wipe σ2 vs = wipe σ vs ∧ tYes σ2 H2 fun b H3 =>
        if b = true then te σ2 H3 fun y H4 => ∃ acc, H4 D = some (.lst acc) ∧ acc.length < sizeLine ∧ Nx (upd H4 D (.lst (acc ++ [y]))) else Nx H3) := by
  refine lc_mapW (walk_range (lo := lo) (n := n)) f hn (fun H s => True.intro) (fun i x H H' R hi s y q => ?_) hD fun H s q => hd H s q
  obtain ⟨rfl, rfl⟩ := y
  exact hs i H' R hi s q
theorem range_map_zip {α β γ : Type} (xs : List α) (ys : List β) (hl : xs.length = ys.length) (f : α → β → γ) (d : Nat → γ) (h : ∀ (i : Nat) (x : α) (y : β), xs[i]? = some x → ys[i]? = some y → d i = f x y) : (List.range xs.length).map d = List.zipWith f xs ys := by
  refine List.ext_getElem? fun i => ?_
  by_cases hi : i < xs.length
  · have hi2 : i < ys.length := by omega
    rw [List.getElem?_map, List.getElem?_range hi, List.getElem?_zipWith, List.getElem?_eq_getElem hi, List.getElem?_eq_getElem hi2]
    exact congrArg some (h i _ _ (List.getElem?_eq_getElem hi) (List.getElem?_eq_getElem hi2))
  · rw [List.getElem?_eq_none (by simp; omega), List.getElem?_eq_none (by simp; omega)]
/-- over zip -/
theorem lcZ_map {K : PySem.W.Frag} {k k' : Kd} {a b : Addr} {xs ys : List V} {i1 i2 : Nat} {te : TE} {vs : List Nat} {σ : L2.St} {H1 : Hp} {D : Addr} {Qd : Hp → Prop} (f : V → V → V) (hl : xs.length = ys.length) (hn : xs.length < sizeLine)
    (ha : ∀ H, Same H1 H → SqB K k H a xs ∧ SqB K k' H b ys)
    (hs : ∀ (i : Nat) (x y : V) (H : Hp) (R : VK), xs[i]? = some x → ys[i]? = some y → Same H1 H → (∀ H', Same H H' → R (f x y) H') → wipe (((wipe σ vs).set i1 (some x)).set i2 (some y)) vs = wipe σ vs ∧ te (((wipe σ vs).set i1 (some x)).set i2 (some y)) H R)
    (hD : H1 D = none) (hd : ∀ H : Hp, Same H1 H → H D = some (.lst (List.zipWith f xs ys)) → Qd H) :
    ∃ W : Nat → Nat → Hp → Prop, (∃ m, W 0 m (upd H1 D (.lst []))) ∧ ∀ i m H, W i m H →
      ((ItB K k k' a b).stop i H ∧ Qd H) ∨ ((ItB K k k' a b).go i H ∧ ∃ Nx : Hp → Prop, (∀ H', Nx H' → ∃ m', m' < m ∧ W (i + 1) m' H') ∧ ∀ x H', (ItB K k k' a b).yld i H x H' → gTup K 2 (gCons (gName i1) (gCons (gName i2) gNil)) x (wipe σ vs) H' fun σ2 H2 => wipe σ2 vs = wipe σ vs ∧ tYes σ2 H2 fun b H3 =>
        if b = true then te σ2 H3 fun y H4 => ∃ acc, H4 D = some (.lst acc) ∧ acc.length < sizeLine ∧ Nx (upd H4 D (.lst (acc ++ [y]))) else Nx H3) := by
  have e : (List.range xs.length).map (fun i => f (xs.getD i .non) (ys.getD i .non)) = List.zipWith f xs ys := range_map_zip xs ys hl f _ fun i x y h h' => by
    rw [List.getD_eq_getElem?_getD, List.getD_eq_getElem?_getD, h, h']
    rfl
  refine lc_mapW (walkB (K := K) (k := k) (k' := k') (a := a) (b := b) hl) (fun i => f (xs.getD i .non) (ys.getD i .non)) hn ha (fun i v H H' R hi s y q => ?_) hD fun H s q => hd H s (by rw [q, e])
  obtain ⟨T, x, y, rfl, hT, rfl, hx, hy⟩ := y
  have hx : xs[i]? = some x := hx
  have hy : ys[i]? = some y := hy
  have st : Same H (upd H T (.tup [x, y])) := sameNew hT
  refine ⟨T, [x, y], rfl, .inl (.inl upd_same), rfl, x, [y], rfl, y, [], rfl, rfl, hs i x y _ R hx hy (s.trans st) fun H'' s' => ?_⟩
  have := q H'' (st.trans s')
  rw [show xs.getD i .non = x by rw [List.getD_eq_getElem?_getD, hx]; rfl, show ys.getD i .non = y by rw [List.getD_eq_getElem?_getD, hy]; rfl] at this
  exact this
end CK

set_option Elab.async false
set_option linter.all false
set_option maxRecDepth 100000
set_option maxHeartbeats 2000000
namespace CK
open PySem PySem.Spec PyProof.Rows L2
theorem cutV_drop (xs : List V) (k : Nat) : cutV xs (some (k : Int)) none = xs.drop k := by
  unfold cutV
  rw [HT.sIx_nat xs.length 0 k, HT.sIx_none]
  by_cases h : k ≤ xs.length
  · rw [Nat.min_eq_left h, List.take_of_length_le (by rw [List.length_drop]; exact Nat.le_refl _)]
  · rw [Nat.min_eq_right (by omega), List.drop_of_length_le (Nat.le_refl _), List.drop_of_length_le (by omega), List.take_nil]
theorem cutV_take (xs : List V) (k : Nat) : cutV xs none (some (k : Int)) = xs.take k := by
  unfold cutV
  rw [HT.sIx_nat xs.length xs.length k, HT.sIx_none]
  show (xs.drop 0).take (min k xs.length - 0) = xs.take k
  rw [List.drop_zero, Nat.sub_zero]
  by_cases h : k ≤ xs.length
  · rw [Nat.min_eq_left h]
  · rw [Nat.min_eq_right (by omega), List.take_of_length_le (Nat.le_refl _), List.take_of_length_le (by omega)]
section
variable {X : Cx}
/-- a, b = a pair -/
theorem pg_two {K : PySem.W.Frag} {i j : Nat} {x y : Str} {px py pos : Pos} {k : Nat} (hK : X.K = K) (hc : X.calm = true) (hN : X.N.Nodup) (hi : X.N[i]? = some x) (hj : X.N[j]? = some y) (hx : Loc X.env.scope x) (hy : Loc X.env.scope y)
    (f1 : X.fn x = true ∨ X.env.scope.names.lookup x = some .local := by first | exact .inl rfl | exact .inr rfl)
    (f2 : X.fn y = true ∨ X.env.scope.names.lookup y = some .local := by first | exact .inl rfl | exact .inr rfl) :
    PG X (.Tuple [.Name x px, .Name y py] k pos) (gTup K 2 (gCons (gName i) (gCons (gName j) gNil))) := by
  subst hK
  exact pg_tup hc (pgs_cons (pg_name hN hi hx f1) (pgs_cons (pg_name hN hj hy f2) pgs_nil))
/-- t[k:], a tuple: what is behind, wherever it stands -/
theorem sl_drop : SlR X (fun x lo hi H Q => ∃ (a : Addr) (xs : List V) (k : Nat), x = .ref a ∧ lo = some (k : Int) ∧ hi = none ∧ H a = some (.tup xs) ∧ ∀ p H', Same H H' → H' p = some (.tup (xs.drop k)) → Q (.ref p) H') := by
  intro pins s σ H x v vl vu lo hi sl Q I rx hs pl pu h
  obtain ⟨a, xs, k, rfl, rfl, rfl, ha, q⟩ := h
  refine sl_tupA pins s σ H _ v vl vu _ _ sl Q I rx hs pl pu ⟨a, xs, rfl, .inl (.inl ha), fun z => q a H (Same.refl H) ?_, fun _ p hp => q p _ (sameNew hp) (by rw [upd_same, cutV_drop])⟩
  rw [ha, ← cutV_drop xs k]
  unfold cutV
  rw [z.1, z.2, Nat.sub_zero, List.drop_zero, List.take_length]
/-- t[:k] -/
theorem sl_take : SlR X (fun x lo hi H Q => ∃ (a : Addr) (xs : List V) (k : Nat), x = .ref a ∧ lo = none ∧ hi = some (k : Int) ∧ H a = some (.tup xs) ∧ ∀ p H', Same H H' → H' p = some (.tup (xs.take k)) → Q (.ref p) H') := by
  intro pins s σ H x v vl vu lo hi sl Q I rx hs pl pu h
  obtain ⟨a, xs, k, rfl, rfl, rfl, ha, q⟩ := h
  refine sl_tupA pins s σ H _ v vl vu _ _ sl Q I rx hs pl pu ⟨a, xs, rfl, .inl (.inl ha), fun z => q a H (Same.refl H) ?_, fun _ p hp => q p _ (sameNew hp) (by rw [upd_same, cutV_take])⟩
  rw [ha, ← cutV_take xs k]
  unfold cutV
  rw [z.1, z.2, Nat.sub_zero, List.drop_zero, List.take_length]
/-- t + u, tuples -/
theorem op_catS : OpR X (binaryOp .Add) (fun x y H Q => ∃ (a b : Addr) (xs ys : List V), x = .ref a ∧ y = .ref b ∧ H a = some (.tup xs) ∧ H b = some (.tup ys) ∧ xs.length + ys.length ≤ 1000 ∧
    ∀ p H', Same H H' → H' p = some (.tup (xs ++ ys)) → Q (.ref p) H') := by
  intro pins s σ H x y v u Q I rx ry h
  obtain ⟨a, b, xs, ys, rfl, rfl, ha, hb, hl, q⟩ := h
  refine op_catA pins s σ H _ _ v u Q I rx ry ⟨a, b, xs, ys, rfl, rfl, .inl (.inl ha), .inl (.inl hb), Nat.le_of_lt (small1000 hl), fun e => ?_, fun _ e => ?_, fun _ _ p hp => q p _ (sameNew hp) upd_same⟩
  · subst e
    exact q b H (Same.refl H) hb
  · subst e
    exact q a H (Same.refl H) (by rw [List.append_nil]; exact ha)
/-- t[i], xs[i] of what is tracked (no word of the written part, so that it stands in a comprehension) -/
theorem ix_tupH : IxR X (fun x y H Q => ∃ (p : Addr) (xs : List V) (i : Int) (v : V), x = .ref p ∧ y = .int i ∧ H p = some (.tup xs) ∧ atI xs i = some v ∧ Q v H) := by
  intro ve se pins s σ H x y xv yv Q I rx ry h e
  obtain ⟨p, xs, i, v, e1, e2, hp, e3, q⟩ := h
  exact ix_tup ve se pins s σ H x y xv yv Q I rx ry ⟨p, xs, i, v, e1, e2, .inl (.inl hp), e3, q⟩ e
theorem ix_listH : IxR X (fun x y H Q => ∃ (p : Addr) (xs : List V) (i : Int) (v : V), x = .ref p ∧ y = .int i ∧ H p = some (.lst xs) ∧ atI xs i = some v ∧ Q v H) := by
  intro ve se pins s σ H x y xv yv Q I rx ry h e
  obtain ⟨p, xs, i, v, e1, e2, hp, e3, q⟩ := h
  exact ix_list ve se pins s σ H x y xv yv Q I rx ry ⟨p, xs, i, v, e1, e2, .inl (.inl hp), e3, q⟩ e
theorem cr_sumH (hc : X.calm = true) : CallR X (.builtin "sum") (fun vs H Q => ∃ (a : Addr) (ns : List Int), vs = [V.ref a] ∧ H a = some (.lst (ns.map V.int)) ∧ Q (.int ns.sum) H) := by
  intro pins s σ H xs us Q I r h
  obtain ⟨a, ns, e, ha, q⟩ := h
  exact cr_sum hc pins s σ H xs us Q I r ⟨a, ns, e, .inl (.inl ha), q⟩
theorem call_listL : CallR X (.type "list") (fun xs H Q => ∃ (p : Addr) (ys : List V), xs = [.ref p] ∧ H p = some (.lst ys) ∧ ∀ l, H l = none → Q (.ref l) (upd H l (.lst ys))) := by
  intro pins s σ H xs us Q I r h
  obtain ⟨p, ys, e, hp, q⟩ := h
  exact call_list_of pins s σ H xs us Q I r ⟨p, ys, e, .inl (.inl (.inl hp)), q⟩
/-- tuple(xs) of a list: a new tuple -/
theorem call_tupL : CallR X (.type "tuple") (fun xs H Q => ∃ (p : Addr) (ys : List V), xs = [.ref p] ∧ H p = some (.lst ys) ∧ ∀ l H', Same H H' → H' l = some (.tup ys) → Q (.ref l) H') := by
  intro pins s σ H xs us Q I r h
  obtain ⟨p, ys, rfl, hp, q⟩ := h
  exact call_tuple_of pins s σ H _ us Q I r ⟨p, ys, rfl, .inl ⟨.inl (.inl hp), fun l hl => q l _ (sameNew hl) upd_same⟩⟩
end
end CK

set_option Elab.async false
set_option linter.all false
set_option maxRecDepth 100000
set_option maxHeartbeats 2000000
/-! the laws' generator of numbers: a list of three whole numbers -/
namespace CK
open PySem PySem.Spec PyProof.Rows L2
/-- the generator at g, from which n more numbers may be drawn -/
def Gn (n : Nat) (H : Hp) (g : Addr) : Prop := ∃ a b c : Int, H g = some (.lst [.int a, .int b, .int c]) ∧ 0 ≤ a ∧ 0 ≤ b ∧ b < 2 ^ 31 ∧ 0 ≤ c ∧ c + 8 * n ≤ 2 ^ 40
theorem Gn.le {n m : Nat} {H : Hp} {g : Addr} (h : Gn n H g) (hm : m ≤ n) : Gn m H g := by
  obtain ⟨a, b, c, h1, h2, h3, h4, h5, h6⟩ := h
  exact ⟨a, b, c, h1, h2, h3, h4, h5, by omega⟩
theorem Gn.same {n : Nat} {H H' : Hp} {g : Addr} (h : Gn n H g) (s : Same H H') : Gn n H' g := by
  obtain ⟨a, b, c, h1, r⟩ := h
  exact ⟨a, b, c, s _ _ h1, r⟩
theorem Gn.at {n : Nat} {H : Hp} {g : Addr} (h : Gn n H g) : ∃ xs, H g = some (.lst xs) := by
  obtain ⟨a, b, c, h1, r⟩ := h
  exact ⟨_, h1⟩
theorem Gn.ne {n : Nat} {H : Hp} {g D : Addr} (h : Gn n H g) (hD : H D = none) : D ≠ g := fun e => by
  obtain ⟨xs, h1⟩ := h.at
  rw [e, h1] at hD
  cases hD
theorem Gn.upd {n : Nat} {H : Hp} {g D : Addr} {o : HO} (h : Gn n H g) (hD : D ≠ g) : Gn n (upd H D o) g := by
  obtain ⟨a, b, c, h1, r⟩ := h
  exact ⟨a, b, c, by rw [upd_ne (Ne.symm hD)]; exact h1, r⟩
theorem sameX_new {g : Addr} {H : Hp} {D : Addr} {o : HO} (hD : H D = none) : SameX g H (L2.upd H D o) := .of (sameNew hD)
theorem SameX.upd2 {g D : Addr} {H H1 : Hp} {o : HO} (s : SameX g H H1) (hD : H D = none) : SameX g H (L2.upd H1 D o) := fun b z n e => by
  rw [upd_ne (ne_of_none e hD)]
  exact s b z n e
theorem SameX.tup {g a : Addr} {H H' : Hp} {xs : List V} {n : Nat} (s : SameX g H H') (G : Gn n H g) (h : H a = some (.tup xs)) : H' a = some (.tup xs) := s a _ (fun e => by
  obtain ⟨ys, h1⟩ := G.at
  rw [e, h1] at h
  cases h) h
theorem ix_at {n j : Nat} (h : j < n) : ixN n (j : Int) = some j := by
  unfold ixN
  rw [if_pos (by omega), if_pos (by omega)]
  rfl
/-- a comprehension that draws: its numbers stay within most -/
theorem lcD_draw {lo : Int} {g : Addr} {n cnt j : Nat} {most : Int} {te : TE} {vs : List Nat} {σ : L2.St} {H1 : Hp} {D : Addr} {Qd : Hp → Prop} (hc : cnt < sizeLine) (hD : H1 D = none) (hg : Gn (n + cnt) H1 g)
    (hs : ∀ (i : Nat) (H : Hp) (R : VK), i < cnt → SameX g H1 H → Gn (n + (cnt - (i + 1)) + 1) H g → (∀ (r : Int) H', SameX g H H' → Gn (n + (cnt - (i + 1))) H' g → 0 ≤ r → r ≤ most → R (.int r) H') →
      wipe ((wipe σ vs).set j (some (.int (lo + i)))) vs = wipe σ vs ∧ te ((wipe σ vs).set j (some (.int (lo + i)))) H R)
    (hd : ∀ (H : Hp) (ns : List Int), SameX g H1 H → Gn n H g → H D = some (.lst (ns.map V.int)) → ns.length = cnt → (∀ x ∈ ns, 0 ≤ x ∧ x ≤ most) → Qd H) :
    ∃ W : Nat → Nat → Hp → Prop, (∃ m, W 0 m (L2.upd H1 D (.lst []))) ∧ ∀ i m H, W i m H →
      ((Itr lo cnt).stop i H ∧ Qd H) ∨ ((Itr lo cnt).go i H ∧ ∃ Nx : Hp → Prop, (∀ H', Nx H' → ∃ m', m' < m ∧ W (i + 1) m' H') ∧ ∀ x H', (Itr lo cnt).yld i H x H' → gName j x (wipe σ vs) H' fun σ2 H2 => wipe σ2 vs = wipe σ vs ∧ tYes σ2 H2 fun b H3 =>
        if b = true then te σ2 H3 fun y H4 => ∃ acc, H4 D = some (.lst acc) ∧ acc.length < sizeLine ∧ Nx (L2.upd H4 D (.lst (acc ++ [y]))) else Nx H3) := by
  have hDg := hg.ne hD
  refine lc_range (fun i H => SameX g H1 H ∧ Gn (n + (cnt - i)) H g ∧ i ≤ cnt ∧ ∃ ns : List Int, H D = some (.lst (ns.map V.int)) ∧ ns.length = i ∧ ∀ x ∈ ns, 0 ≤ x ∧ x ≤ most)
    ⟨sameX_new hD, hg.upd hDg, Nat.zero_le _, [], upd_same, rfl, fun x h => absurd h List.not_mem_nil⟩ (fun i H hi p => ?_) fun H p => ?_
  · obtain ⟨s, G, _, ns, hL, hl, hb⟩ := p
    have G1 : Gn (n + (cnt - (i + 1)) + 1) H g := by
      have e : n + (cnt - (i + 1)) + 1 = n + (cnt - i) := by omega
      rw [e]
      exact G
    refine hs i H _ hi s G1 fun r H' s' G' h0 h1 => ⟨_, s' D _ hDg hL, by rw [List.length_map]; omega, (s.trans s').upd2 hD, G'.upd hDg, hi, ns ++ [r], ?_, ?_, fun x hx => ?_⟩
    · rw [upd_same, List.map_append]
      rfl
    · rw [List.length_append, hl]
      rfl
    · rcases List.mem_append.mp hx with z | z
      · exact hb x z
      · rw [List.mem_singleton.mp z]
        exact ⟨h0, h1⟩
  · obtain ⟨s, G, _, ns, hL, hl, hb⟩ := p
    rw [Nat.sub_self] at G
    exact hd H ns s G hL hl hb
end CK

set_option Elab.async false
set_option linter.all false
set_option maxRecDepth 100000
set_option maxHeartbeats 2000000
namespace CK
open PySem PySem.Spec PyProof.Rows L2
/-! ### data that are compared -/
def dI (ns : List Int) : PyData := .tuple (ns.map PyData.int)
theorem lay_ints : ∀ ns : List Int, PyData.canLayAll0 (ns.map PyData.int) = true
  | [] => by simp [PyData.canLayAll0]
  | n :: ns => by
    rw [List.map_cons, PyData.canLayAll0, lay_ints ns]
    simp [PyData.canLay0]
theorem deep_ints : ∀ ns : List Int, PyData.depthAll (ns.map PyData.int) = 0
  | [] => by simp [PyData.depthAll]
  | n :: ns => by
    rw [List.map_cons, PyData.depthAll, deep_ints ns]
    simp [PyData.depth]
theorem lay_dI (ns : List Int) : (dI ns).canLay0 = true := by
  unfold dI
  rw [PyData.canLay0]
  exact lay_ints ns
theorem deep_dI (ns : List Int) : (dI ns).depth = 1 := by
  unfold dI
  rw [PyData.depth, deep_ints]
theorem shaped_dI (ns : List Int) : SeqAt.shaped (dI ns) = true := by
  unfold SeqAt.shaped
  rw [lay_dI, deep_dI]
  rfl
theorem lay_forms : ∀ fs : List (List Int), PyData.canLayAll0 (fs.map dI) = true
  | [] => by simp [PyData.canLayAll0]
  | f :: fs => by
    rw [List.map_cons, PyData.canLayAll0, lay_forms fs, lay_dI]
    rfl
theorem deep_forms : ∀ fs : List (List Int), PyData.depthAll (fs.map dI) ≤ 1
  | [] => by simp [PyData.depthAll]
  | f :: fs => by
    have := deep_forms fs
    rw [List.map_cons, PyData.depthAll, deep_dI]
    omega
theorem shaped_forms (fs : List (List Int)) : SeqAt.shaped (.list (fs.map dI)) = true := by
  unfold SeqAt.shaped
  rw [PyData.canLay0, lay_forms, PyData.depth]
  have := deep_forms fs
  rw [decide_eq_true (by omega)]
  rfl
section
variable {K : PySem.W.Frag} {H : Hp}
theorem dpAll_ints : ∀ ns : List Int, DpAll K H (ns.map V.int) (ns.map PyData.int)
  | [] => .nil
  | n :: ns => .cons (.int n) (dpAll_ints ns)
theorem dp_ints {a : Addr} {ns : List Int} (h : H a = some (.tup (ns.map V.int))) : Dp K H (.ref a) (dI ns) := .tup (.inl (.inl h)) (dpAll_ints ns)
end
section
variable {X : Cx}
/-- x != y, of equal data -/
theorem op_neSame (hu : X.A.units + 64 < cLine) : OpR X (compareOp .NotEq) (fun x y H Q => ∃ d, Dp X.K H x d ∧ Dp X.K H y d ∧ SeqAt.shaped d = true ∧ Q (.bl false) H) := by
  intro pins s σ H x y v u Q I rx ry h
  obtain ⟨d, h1, h2, h3, q⟩ := h
  refine op_neD hu pins s σ H x y v u Q I rx ry ⟨d, d, h1, h2, h3, h3, ?_⟩
  rw [SeqAt.eqv_refl d (SeqAt.canLay_of_shaped h3)]
  exact q
end
/-! ### comprehensions that map, by the turn's number -/
theorem lcZ_mapI {K : PySem.W.Frag} {k k' : Kd} {a b : Addr} {xs ys : List V} {i1 i2 : Nat} {te : TE} {vs : List Nat} {σ : L2.St} {H1 : Hp} {D : Addr} {Qd : Hp → Prop} (f : Nat → V) (hl : xs.length = ys.length) (hn : xs.length < sizeLine)
    (ha : ∀ H, Same H1 H → SqB K k H a xs ∧ SqB K k' H b ys)
    (hs : ∀ (i : Nat) (x y : V) (H : Hp) (R : VK), xs[i]? = some x → ys[i]? = some y → Same H1 H → (∀ H', Same H H' → R (f i) H') → wipe (((wipe σ vs).set i1 (some x)).set i2 (some y)) vs = wipe σ vs ∧ te (((wipe σ vs).set i1 (some x)).set i2 (some y)) H R)
    (hD : H1 D = none) (hd : ∀ H : Hp, Same H1 H → H D = some (.lst ((List.range xs.length).map f)) → Qd H) :
    ∃ W : Nat → Nat → Hp → Prop, (∃ m, W 0 m (upd H1 D (.lst []))) ∧ ∀ i m H, W i m H →
      ((ItB K k k' a b).stop i H ∧ Qd H) ∨ ((ItB K k k' a b).go i H ∧ ∃ Nx : Hp → Prop, (∀ H', Nx H' → ∃ m', m' < m ∧ W (i + 1) m' H') ∧ ∀ x H', (ItB K k k' a b).yld i H x H' → gTup K 2 (gCons (gName i1) (gCons (gName i2) gNil)) x (wipe σ vs) H' fun σ2 H2 => wipe σ2 vs = wipe σ vs ∧ tYes σ2 H2 fun b H3 =>
        if b = true then te σ2 H3 fun y H4 => ∃ acc, H4 D = some (.lst acc) ∧ acc.length < sizeLine ∧ Nx (upd H4 D (.lst (acc ++ [y]))) else Nx H3) := by
  refine lc_mapW (walkB (K := K) (k := k) (k' := k') (a := a) (b := b) hl) f hn ha (fun i v H H' R hi s y q => ?_) hD hd
  obtain ⟨T, x, y, rfl, hT, rfl, hx, hy⟩ := y
  have hx : xs[i]? = some x := hx
  have hy : ys[i]? = some y := hy
  have st : Same H (upd H T (.tup [x, y])) := sameNew hT
  exact ⟨T, [x, y], rfl, .inl (.inl upd_same), rfl, x, [y], rfl, y, [], rfl, rfl, hs i x y _ R hx hy (s.trans st) fun H'' s' => q H'' (st.trans s')⟩
theorem lcL_mapI {K : PySem.W.Frag} {a : Addr} {xs : List V} {j : Nat} {te : TE} {vs : List Nat} {σ : L2.St} {H1 : Hp} {D : Addr} {Qd : Hp → Prop} (f : Nat → V) (ha : H1 a = some (.lst xs)) (hn : xs.length < sizeLine)
    (hs : ∀ (i : Nat) (x : V) (H : Hp) (R : VK), xs[i]? = some x → Same H1 H → (∀ H', Same H H' → R (f i) H') → wipe ((wipe σ vs).set j (some x)) vs = wipe σ vs ∧ te ((wipe σ vs).set j (some x)) H R)
    (hD : H1 D = none) (hd : ∀ H : Hp, Same H1 H → H D = some (.lst ((List.range xs.length).map f)) → Qd H) :
    ∃ W : Nat → Nat → Hp → Prop, (∃ m, W 0 m (upd H1 D (.lst []))) ∧ ∀ i m H, W i m H →
      ((Itl K a).stop i H ∧ Qd H) ∨ ((Itl K a).go i H ∧ ∃ Nx : Hp → Prop, (∀ H', Nx H' → ∃ m', m' < m ∧ W (i + 1) m' H') ∧ ∀ x H', (Itl K a).yld i H x H' → gName j x (wipe σ vs) H' fun σ2 H2 => wipe σ2 vs = wipe σ vs ∧ tYes σ2 H2 fun b H3 =>
        if b = true then te σ2 H3 fun y H4 => ∃ acc, H4 D = some (.lst acc) ∧ acc.length < sizeLine ∧ Nx (upd H4 D (.lst (acc ++ [y]))) else Nx H3) := by
  refine lc_mapW (walk_list (K := K) (a := a) (xs := xs)) f hn (fun H s => .inl (.inl (s _ _ ha))) (fun i x H H' R hi s y q => ?_) hD hd
  obtain ⟨rfl, hx⟩ := y
  exact hs i x H' R hx s q
end CK

set_option Elab.async false
set_option linter.all false
set_option maxRecDepth 100000
set_option maxHeartbeats 2000000
/-! own classes: their facts, their methods' promises by their bodies -/
namespace CK
open PySem PySem.Spec PyProof.Rows L2
/-- a method's def as it stands behind the top -/
structure MetF (K : PySem.W.Frag) (C : Addr) (m q : Str) (st : Stmt) (ps : List Str) : Prop where
  ex : ∃ (f : Addr) (fd : FuncData), C8.Fun K m q st f fd ∧ Meth K C m f ∧ Binds K fd ps []
/-- a class as it stands -/
structure ClF (K : PySem.W.Frag) (mg : Str → Option Value) (x : Str) (C : Addr) : Prop where
  mgC : mg x = some (.ref C)
  makes : PySem.W.makesIn K C = true
  kp : PySem.W.keepIn K (.ref C) = true
  ins : C8.InsC K C
theorem metF_mk {K : PySem.W.Frag} {mg : Str → Option Value} {x : Str} {C : Addr} (_ : ClF K mg x C) (m q : Str) (st : Stmt) (ps : List Str) {f : Addr} {od an : Option Addr} {oc kV dc pm cd ct : Value} {sl : Array (Option Value)}
    (a : PySem.W.findIn K (.ref C) m = some (some (.ref f))) (i : PySem.W.isFn K (.ref f) = true)
    (l : K.lookup f = some ⟨oc, od, .func (PySem.W.fnOf m q (C8.fnArgs st) (C8.fnBody st) (C8.fnScope st) .none kV dc pm an cd ct), sl⟩)
    (c : PySem.W.codeIn K cd q = true) (k : PySem.W.keepIn K (.ref f) = true)
    (hb : ∀ (kV doc pm : Value) (an : Option Addr) (cdv ct : Value) (us : List Value), us.length = ps.length →
      bindArgs (PySem.W.fnOf m q (C8.fnArgs st) (C8.fnBody st) (C8.fnScope st) .none kV doc pm an cdv ct) ⟨us, []⟩ = pure (ps.zip us)) : MetF K C m q st ps :=
  ⟨f, _, ⟨oc, od, .none, kV, dc, pm, an, cd, ct, sl, rfl, l, c⟩, ⟨a, i, k⟩, C8.Fun.binds ⟨oc, od, .none, kV, dc, pm, an, cd, ct, sl, rfl, l, c⟩ rfl hb⟩
theorem clF_mk {K : PySem.W.Frag} {h : Heap} {mg : Str → Option Value} {x : Str} {C : Addr} (X : K.In h) (G : h.Ns mainGlobals mg)
    (a : PySem.W.nsIn K mainGlobals x = some (some (.ref C))) (pg : PySem.W.plainGet K C Str.empty = true) (hd : PySem.W.hasDictIn K C = true) (po : PySem.W.plainOver K C = true)
    (sa : PySem.W.findIn K (.ref C) "__setattr__" = some (some (.builtin "object.__setattr__"))) (mk : PySem.W.makesIn K C = true) (kp : PySem.W.keepIn K (.ref C) = true)
    (ha : PySem.W.findIn K (.ref C) "__class__" = some (some (.builtin "object.__class__"))) (hn : PySem.W.specialIn K (.builtin "object.__class__") "__get__" = some (some (.builtin "getset_descriptor.__get__")))
    (htk : PySem.W.takesIn K (.builtin "object.__class__") = some true) (hm : PySem.W.mroIn K C (.type "object") = some true) : ClF K mg x C :=
  ⟨PySem.W.mg_of X G a, mk, kp, ⟨⟨pg, hd, po, sa⟩, ha, hn, htk, hm, if_pos (beq_self_eq_true _)⟩⟩
theorem with_cls {K : PySem.W.Frag} {h : Heap} {mg : Str → Option Value} (_ : K.In h) (x : Str) {C : Addr} {R : Prop} (d : ClF K mg x C) (r : ClF K mg x C → R) : R := r d
theorem with_met {K : PySem.W.Frag} {mg : Str → Option Value} {x : Str} {C : Addr} (_ : ClF K mg x C) (m q : Str) (st : Stmt) (ps : List Str) {R : Prop} (d : MetF K C m q st ps) (r : MetF K C m q st ps → R) : R := r d
section
variable {P : Program} {w : World} {K : PySem.W.Frag} {mg : Str → Option Value} {base : Heap} {x : Str} {C : Addr}
theorem metF {m q : Str} {st : Stmt} {N ps : List Str} {k : Nat} {sp : Sp} (c : ClF K mg x C) (D : MetF K C m q st ps) (S : FnScope N ps (C8.fnScope st))
    (len : ∀ vs H Q E, sp vs H Q E → vs.length = ps.length)
    (hbody : ∀ (f : Addr) (cdv : Value) (A : Around) (outer : List Env) (s : Shared) (H : Hp) (vs : List V) (Q : VK) (E : XK), Room k (A.deeper (envOfC q (C8.fnScope st) s.heap.objs.size f cdv)) → sp vs H Q E →
      ∃ t, PSs (cxOf C8.CX0 P w K mg base N q (C8.fnScope st) f cdv A outer s H E).nox (C8.fnBody st) t ∧ t { nx := fun _ H' => Q .non H', rt := Q } (start N vs) H) : C8.Met P w K mg base (k + 1) C m sp [] := by
  obtain ⟨f, fd, F, me, b⟩ := D.ex
  exact C8.met0 c.ins.cl me F b S len (hbody f)
theorem makF {q : Str} {st : Stmt} {N ps : List Str} {k : Nat} {sp : Sp} (c : ClF K mg x C) (D : MetF K C "__init__" q st ps) (S : FnScope N ps (C8.fnScope st))
    (len : ∀ vs H Q E, sp vs H Q E → vs.length = ps.length)
    (hbody : ∀ (f : Addr) (cdv : Value) (A : Around) (outer : List Env) (s : Shared) (H : Hp) (vs : List V) (Q : VK) (E : XK), Room k (A.deeper (envOfC q (C8.fnScope st) s.heap.objs.size f cdv)) → sp vs H Q E →
      ∃ t, PSs (cxOf C8.CX0 P w K mg base N q (C8.fnScope st) f cdv A outer s H E).nox (C8.fnBody st) t ∧ t { nx := fun _ H' => Q .non H', rt := Q } (start N vs) H) : C8.Mak P w K mg base (k + 1) x C sp [] := by
  obtain ⟨f, fd, F, me, b⟩ := D.ex
  exact C8.mak0 ⟨c.makes, me.at_, me.fn, c.kp⟩ c.mgC F b .nil S len (hbody f)
end
end CK
namespace CK
open PySem L2
theorem noA {K : PySem.W.Frag} {mg : Str → Option Value} {x : Str} {C : Addr} (_ : ClF K mg x C) (f : Str) (h : PySem.W.findIn K (.ref C) f = some none) : NoAttr K C f := h
end CK

set_option Elab.async false
set_option linter.all false
set_option maxRecDepth 100000
set_option maxHeartbeats 2000000
/-! texts by their code points -/
namespace CK
open PySem PySem.Spec PyProof.Rows L2 SX
theorem rev_S (z : List Nat) : (⟨((Builtin.Str.strSliceIndices none none (-1) (S z).length).filterMap ((S z).cps[·]?)).toArray⟩ : Str) = S z.reverse := by
  refine TL.ext_tl ?_
  show ((Builtin.Str.strSliceIndices none none (-1) (S z).length).filterMap ((S z).cps[·]?)).toArray.toList = z.reverse
  rw [List.toList_toArray, S_len, picked_rev, filterMap_get, List.map_map]
  · refine List.ext_getElem (by simp) fun i h1 h2 => ?_
    have hi : i < z.length := by simpa using h1
    rw [List.getElem_map, List.getElem_range, List.getElem_reverse]
    show (S z).cps.getD (z.length - 1 - i) 0 = _
    have : z.length - 1 - i < z.length := by omega
    simp [Array.getD, S, this]
  · intro i hi
    obtain ⟨k, hk, rfl⟩ := List.mem_map.mp hi
    have := List.mem_range.mp hk
    show z.length - 1 - k < z.length
    omega
section
variable {X : Cx}
/-- s[::-1] -/
def tRevS (te : TE) : TE := fun σ H Q => te σ H fun x H1 => ∃ z : List Nat, x = .str (S z) ∧ z.length ≤ sizeLine ∧ Q (.str (S z.reverse)) H1
theorem pe_revS {e : Expr} {te : TE} {k : Nat} {p1 p2 p3 pos : Pos} (he : PE X e te) : PE X (.Subscript e (.Slice none none (some (.UnaryOp .USub (.Constant (.int 1) k p1) p2)) p3) pos) (tRevS te) := by
  refine ⟨fun pins s σ H Q I h => ?_⟩
  refine Subscript_ (thn (he.run pins s σ H _ I h) fun v s1 ⟨x, H1, I1, r1, q1⟩ => ?_)
  obtain ⟨z, ex, hz, q⟩ := q1
  subst ex
  obtain ⟨t, rfl⟩ := r1
  have hst : PO X (some (.UnaryOp .USub (.Constant (.int 1) k p1) p2)) (tPart (tUn (rU fun i => .int (-i)) (tC (.int 1)))) := po_some (pe_un un_neg pe_int)
  refine wpAny_Slice (thn (po_none.run pins s1 σ H1 (fun o H2 => o = none ∧ H2 = H1) I1 ⟨rfl, rfl⟩) fun vl s2 ⟨l, H2, I2, pl, el, e2⟩ => ?_)
  subst el e2
  refine thn (po_none.run pins s2 σ H2 (fun o H3 => o = none ∧ H3 = H2) I2 ⟨rfl, rfl⟩) fun vu s3 ⟨u, H3, I3, pu, eu, e3⟩ => ?_
  subst eu e3
  refine thn (hst.run pins s3 σ H3 (fun o H4 => o = some (-1) ∧ H4 = H3) I3 ⟨1, rfl, -1, rfl, rfl, rfl⟩) fun vs s4 ⟨o, H4, I4, ps, eo, e4⟩ => ?_
  subst eo e4
  have I5 : Inv X pins σ H4 { s4 with heap := s4.heap.push { cls := .type "slice", data := .fields #[vl, vu, vs] } } := I4.kept (t' := s4.toks) fun b ob q => Heap.get?_push_of_some _ q
  show wpAny (model X.prog X.w) X.A (subscriptTail e (.Slice none none (some (.UnaryOp .USub (.Constant (.int 1) k p1) p2)) p3) (.str (S z) t) (.ref s4.heap.objs.size)) (EP X pins σ Q) X.xe { s4 with heap := s4.heap.push { cls := .type "slice", data := .fields #[vl, vu, vs] } }
  refine tail_any (ops := [.str (S z) t, .ref s4.heap.objs.size]) (typeIs_str _ _ _) F.slot_str_getitem.lookup ?_ (by with_unfolding_all rfl)
  obtain ⟨l, rfl, el⟩ := IsPart.raw pl
  obtain ⟨u, rfl, eu⟩ := IsPart.raw pu
  obtain ⟨st, rfl, es⟩ := IsPart.raw ps
  refine wpAny_getItem_str_slice (l := l) (u := u) (st := st) ⟨_, Heap.get?_push_size _ rfl, rfl, rfl⟩ (by rw [es]; decide) ?_
  unfold sliceMade slicePicked
  rw [es, el, eu]
  have hr := rev_S z
  show Made.post (.str ⟨((Builtin.Str.strSliceIndices none none (-1) (S z).length).filterMap ((S z).cps[·]?)).toArray⟩) _ _
  rw [hr]
  exact ⟨by rw [S_len, List.length_reverse]; exact hz, .str _, H4, I5.tok _, ⟨_, rfl⟩, q⟩
/-- s * n -/
theorem foldl_arr {α : Type} : ∀ (n : Nat) (w : Array α) (acc : Array α), ((List.replicate n w).foldl (fun a b => a ++ b) acc).toList = acc.toList ++ (List.replicate n w.toList).flatten
  | 0, _, _ => by simp
  | n + 1, w, acc => by
    rw [List.replicate_succ, List.foldl_cons, foldl_arr n w (acc ++ w), List.replicate_succ, List.flatten_cons, Array.toList_append, List.append_assoc]
theorem op_repS : OpR X (binaryOp .Mult) (fun x y H Q => ∃ (z : List Nat) (n : Nat), x = .str (S z) ∧ y = .int n ∧ n ≤ 1000 ∧ z.length ≤ 1000 ∧ Q (.str (S (List.replicate n z).flatten)) H) := by
  intro pins s σ H x y v u Q I rx ry h
  obtain ⟨z, n, rfl, rfl, hn, hz, q⟩ := h
  obtain ⟨t, rfl⟩ := rx
  obtain ⟨t', rfl⟩ := ry
  have hl : (List.replicate n z).flatten.length = n * z.length := by simp
  have hm : n * z.length ≤ 1000 * 1000 := Nat.mul_le_mul hn hz
  refine P.mul_str (by simp; omega) (fun h1 h2 => ?_) (fun h1 h2 => ?_) ?_
  · rw [S_len]
    have hn0 : (0 : Int) < n := by omega
    have h3 : (1000 : Int) ≤ (2 ^ 63 - 1) / (n : Int) := by
      refine (Int.le_ediv_iff_mul_le hn0).mpr ?_
      have : (1000 : Int) * n ≤ 1000 * 1000 := Int.mul_le_mul_of_nonneg_left (by omega) (by decide)
      omega
    omega
  · rw [S_len, Int.toNat_natCast, Nat.mul_comm]
    have : n * z.length ≤ sizeLine := by rw [sizeLine_eq]; omega
    unfold Builtin.Str.tooLong
    simp
    omega
  · by_cases h1 : (n : Int) < 1
    · rw [if_pos h1]
      have e : n = 0 := by omega
      subst e
      exact ⟨by decide, .str _, H, I.tok _, ⟨_, rfl⟩, q⟩
    · rw [if_neg h1]
      by_cases h2 : ((n : Int) == 1 || (S z).length == 0) = true
      · rw [if_pos h2]
        have e : (List.replicate n z).flatten = z := by
          rw [Bool.or_eq_true, beq_iff_eq, beq_iff_eq, S_len] at h2
          rcases h2 with h2 | h2
          · have : n = 1 := by omega
            subst this
            simp
          · rw [List.length_eq_zero_iff.mp h2]
            simp
        rw [e] at q
        exact ⟨.str _, H, I, ⟨_, rfl⟩, q⟩
      · rw [if_neg h2]
        have e : (⟨(List.replicate (n : Int).toNat (S z).cps).foldl (· ++ ·) #[]⟩ : Str) = S (List.replicate n z).flatten := by
          refine TL.ext_tl ?_
          show ((List.replicate (n : Int).toNat (S z).cps).foldl (· ++ ·) #[]).toList = _
          rw [Int.toNat_natCast, foldl_arr]
          rfl
        rw [e]
        exact ⟨by rw [S_len, hl, sizeLine_eq]; omega, .str _, H, I.tok _, ⟨_, rfl⟩, q⟩
/-- a % b, a // b of natural numbers -/
theorem fmodN (k n : Nat) : Int.fmod (k : Int) (n : Int) = ((k % n : Nat) : Int) := by
  rw [Int.fmod_eq_emod_of_nonneg _ (by omega)]
  rfl
theorem op_modZ : OpR X (binaryOp .Mod) (fun x y H Q => ∃ (k n : Nat), x = .int k ∧ y = .int n ∧ n ≠ 0 ∧ Q (.int ((k % n : Nat) : Int)) H) := by
  intro pins s σ H x y v u Q I rx ry h
  obtain ⟨k, n, e1, e2, h0, q⟩ := h
  refine op_modN pins s σ H x y v u Q I rx ry ⟨_, _, e1, e2, by omega, ?_⟩
  rw [← fmodN] at q
  exact q
theorem op_fdivZ : OpR X (binaryOp .FloorDiv) (fun x y H Q => ∃ (k n : Nat), x = .int k ∧ y = .int n ∧ n ≠ 0 ∧ n < 2 ^ 29 ∧ Q (.int ((k / n : Nat) : Int)) H) := by
  intro pins s σ H x y v u Q I rx ry h
  obtain ⟨k, n, e1, e2, h0, h1, q⟩ := h
  refine op_fdivN pins s σ H x y v u Q I rx ry ⟨_, _, e1, e2, ⟨by omega, by omega⟩, ?_⟩
  have : Int.fdiv (k : Int) (n : Int) = ((k / n : Nat) : Int) := by
    rw [Int.fdiv_eq_ediv_of_nonneg _ (by omega)]
    rfl
  rw [← this] at q
  exact q
theorem op_mulZ : OpR X (binaryOp .Mult) (fun x y H Q => ∃ (k n : Nat), x = .int k ∧ y = .int n ∧ k < 2 ^ 1000 ∧ n < 2 ^ 1000 ∧ Q (.int ((k * n : Nat) : Int)) H) := by
  intro pins s σ H x y v u Q I rx ry h
  obtain ⟨k, n, e1, e2, h0, h1, q⟩ := h
  refine op_mulW pins s σ H x y v u Q I rx ry ⟨_, _, e1, e2, wide_mul (a := 1000) (b := 1000) h0 h1 (by decide) (by decide) (by decide), ?_⟩
  rw [Int.natCast_mul] at q
  exact q
/-- len of a list that is tracked (it may stand in a comprehension) -/
theorem call_lenH : CallR X (.builtin "len") (fun xs H Q => ∃ (p : Addr) (ys : List V), xs = [.ref p] ∧ H p = some (.lst ys) ∧ Q (.int (ys.length : Nat)) H) := by
  intro pins s σ H xs us Q I r h
  obtain ⟨p, ys, e, hp, q⟩ := h
  exact call_len_seq pins s σ H xs us Q I r ⟨p, ys, e, .inl (.inl (.inl hp)), q⟩
end
end CK

set_option Elab.async false
set_option linter.all false
set_option maxRecDepth 100000
set_option maxHeartbeats 2000000
/-! any of a tuple of numbers -/
namespace CK
open PySem PySem.Spec PyProof.Rows L2 SX
theorem plain_ints : ∀ ns : List Int, PyData.plainAll (ns.map PyData.int) = true
  | [] => by simp [PyData.plainAll]
  | n :: ns => by
    rw [List.map_cons, PyData.plainAll, plain_ints ns]
    simp [PyData.plain]
theorem any_ints (ns : List Nat) : ((ns.map fun n : Nat => ((n : Nat) : Int)).map PyData.int).any PyData.truthy = ns.any fun x => decide (x ≠ 0) := by
  induction ns with
  | nil => rfl
  | cons n ns ih =>
    rw [List.map_cons, List.map_cons, List.any_cons, List.any_cons, ih]
    congr 1
    show ((n : Int) != 0) = decide (n ≠ 0)
    by_cases h : n = 0
    · subst h
      rfl
    · rw [decide_eq_true h, bne_iff_ne]
      omega
section
variable {X : Cx}
theorem cr_anyN (hc : X.calm = true) : CallR X (.builtin "any") (fun vs H Q => ∃ (a : Addr) (ns : List Nat), vs = [V.ref a] ∧ H a = some (.tup (ns.map fun n : Nat => V.int (n : Nat))) ∧ Q (.bl (ns.any fun x => decide (x ≠ 0))) H) := by
  intro pins s σ H vs us Q I r h
  obtain ⟨a, ns, rfl, ha, q⟩ := h
  obtain ⟨its, rv, hT, _⟩ := I.tuple (.inl (.inl ha))
  rw [Vals.ref1 r]
  have e : (ns.map fun n : Nat => V.int (n : Nat)) = (ns.map fun n : Nat => ((n : Nat) : Int)).map V.int := by
    rw [List.map_map]
    rfl
  rw [e] at rv
  obtain ⟨as, hr⟩ := Dp.readsAll I _ _ its (dpAll_ints _) rv
  refine PySem.W.any_tuple_data (I.ok.hd hc) hT (by rw [List.toList_toArray]; exact hr) (plain_ints _) (fun x hx => ?_) fun h' tk hk => ?_
  · obtain ⟨i, _, rfl⟩ := List.mem_map.mp hx
    trivial
  · rw [any_ints]
    exact ⟨.bl _, H, I.kept (t' := tk) hk, rfl, q⟩
end
end CK
namespace CK
open PySem PySem.Spec PyProof.Rows L2 SX
section
variable {X : Cx}
/-- a whole number and a Boolean -/
theorem op_addB : OpR X (binaryOp .Add) (fun x y H Q => ∃ (i : Int) (b : Bool), x = .int i ∧ y = .bl b ∧ Q (.int (i + if b = true then (1 : Int) else 0)) H) := by
  intro pins s σ H x y v u Q I rx ry h
  obtain ⟨i, b, rfl, rfl, q⟩ := h
  obtain ⟨t, rfl⟩ := rx
  obtain rfl : u = Value.bool b := ry
  exact add_int_bool ⟨.int _, H, I.tok _, ⟨_, rfl⟩, q⟩
end
end CK
namespace CK
open PySem PySem.Spec PyProof.Rows L2 SX
theorem vals_of_get : ∀ (vs : List V) (us : List Value), us.length = vs.length → (∀ (j : Nat) (v : V) (u : Value), vs[j]? = some v → us[j]? = some u → RelV v u) → Vals vs us
  | [], [], _, _ => .nil
  | [], _ :: _, h, _ => by simp at h
  | _ :: _, [], h, _ => by simp at h
  | v :: vs, u :: us, h, g => .cons (g 0 v u rfl rfl) (vals_of_get vs us (by simpa using h) fun j a b ha hb => g (j + 1) a b (by simpa using ha) (by simpa using hb))
section
variable {X : Cx}
/-- list(text): its letters -/
theorem call_listS (hc : X.calm = true) : CallR X (.type "list") (fun xs H Q => ∃ z : List Nat, xs = [.str (S z)] ∧ z.length ≤ 1000000 ∧ ∀ l, H l = none → Q (.ref l) (upd H l (.lst (z.map fun c => V.str (S [c]))))) := by
  intro pins s σ H xs us Q I r h
  obtain ⟨z, rfl, hz, q⟩ := h
  obtain ⟨u, rfl, rx⟩ := vals1 r
  obtain ⟨t, rfl⟩ := rx
  have sz : (S z).cps.size = z.length := S_len z
  refine call_list_str (I.ok.hd hc) (S z) t (fun h' tk acc' c' hk hS hacc => ?_) (by rw [sz, sizeLine_eq]; omega)
  refine ⟨.ref s.heap.objs.size, upd H s.heap.objs.size (.lst (z.map fun c => V.str (S [c]))), I.laid (t' := tk) hk (Nat.le_refl _) ?_, rfl, q _ (I.hok.fresh (Nat.le_refl _))⟩
  refine ⟨by rw [List.length_map, sizeLine_eq]; omega, acc'.toList, c', vals_of_get _ _ (by rw [List.length_map, Array.length_toList, hacc.1, sz]) fun j v u hv hu => ?_, by simpa using hS⟩
  obtain ⟨c, tt, hc', rfl⟩ := hacc.2 j u (by simpa using hu)
  rw [List.getElem?_map] at hv
  have e : z[j]? = some c := by
    have : (S z).cps[j]? = some c := hc'
    simpa [S] using this
  rw [e] at hv
  cases hv
  exact ⟨tt, rfl⟩
end
end CK
namespace CK
open PySem PySem.Spec PyProof.Rows L2 SX
section
variable {X : Cx} {o e : Expr} {es : List Expr} {to : TE} {t : TA} {name : Str} {apos cpos : Pos} {T id : String} {r : V → List V → Hp → VK → Prop}
/-- a built-in's method, where the written part is told apart (it may stand in a comprehension) -/
theorem pe_bmB {K : PySem.W.Frag} (hK : X.K = K) (pa : PlainAttrs T) (slot : Slot T name id) (hty : typeOf (.builtin id) = pure (.type "method_descriptor")) (hm : MtR X id r) (ho : PE X o to) (ha : PA X (e :: es) t)
    (hb : attributeBase o name X.env (eval o X.env) = eval o X.env := by rfl)
    (hf : ((backTo cpos (starEach (e :: es) X.env)).all (fun x => !x.1) && (backToKw cpos (keywordEach [] X.env)).all (fun x => x.1.isSome) && decide ((e :: es).length + ([] : List Keyword).length + (if ([] : List Keyword).isEmpty then 0 else 1) < 30)) = true := by rfl)
    (hl : (apos.endLine == cpos.line) = true := by rfl) (hs : starEach (e :: es) X.env = (false, eval e X.env) :: starEach es X.env := by rfl) (hp : (backTo cpos (starEach es X.env)).any (·.1) = false := by rfl) :
    PE X (.Call (.Attribute o name apos) (e :: es) [] cpos) (tBM K T r to t) := by
  subst hK
  exact pe_bm pa slot hty hm ho ha hb hf hl hs hp
end
end CK

set_option Elab.async false
set_option linter.all false
set_option maxRecDepth 100000
set_option maxHeartbeats 2000000
/-! any of a list of numbers -/
namespace CK
open PySem PySem.Spec PyProof.Rows L2 SX
section
variable {X : Cx}
theorem cr_anyL (hc : X.calm = true) : CallR X (.builtin "any") (fun vs H Q => ∃ (a : Addr) (ns : List Nat), vs = [V.ref a] ∧ H a = some (.lst (ns.map fun n : Nat => V.int (n : Nat))) ∧ Q (.bl (ns.any fun x => decide (x ≠ 0))) H) := by
  intro pins s σ H vs us Q I r h
  obtain ⟨a, ns, rfl, ha, q⟩ := h
  obtain ⟨its, rv, hT, _⟩ := I.list (.inl (.inl ha))
  rw [Vals.ref1 r]
  have e : (ns.map fun n : Nat => V.int (n : Nat)) = (ns.map fun n : Nat => ((n : Nat) : Int)).map V.int := by
    rw [List.map_map]
    rfl
  rw [e] at rv
  obtain ⟨as, hr⟩ := Dp.readsAll I _ _ its (dpAll_ints _) rv
  refine PySem.W.any_list_data (I.ok.hd hc) hT.isList (by rw [List.toList_toArray]; exact hr) (plain_ints _) (fun x hx => ?_) fun h' tk hk => ?_
  · obtain ⟨i, _, rfl⟩ := List.mem_map.mp hx
    trivial
  · rw [any_ints]
    exact ⟨.bl _, H, I.kept (t' := tk) hk, rfl, q⟩
/-- over a list, with the written part told apart (it may stand in a comprehension) -/
theorem pi_listK {K : PySem.W.Frag} (hK : X.K = K) {tg l : Expr} {tl : TE} (hl : PE X l tl) : PI X tg l (iList K tl) := by
  subst hK
  exact pi_list hl
end
end CK

set_option Elab.async false
set_option linter.all false
set_option maxRecDepth 100000
set_option maxHeartbeats 2000000
/-! defs that are called with no repr under way; repr of data -/
namespace CK
open PySem PySem.Spec PyProof.Rows L2
/-- what a def promises where no repr is under way -/
structure FnG (P : Program) (w : World) (K : PySem.W.Frag) (mg : Str → Option Value) (base : Heap) (k : Nat) (f : Addr) (fd : FuncData) (ps : List Str) (sp : Sp) : Prop where
  len : ∀ vs H Q E, sp vs H Q E → vs.length = ps.length
  go : ∀ (A : Around) (outer : List Env) (z : Shared) (H : Hp) (args : Args) (us : List Value) (vs : List V) (Q : VK) (E : XK), Room k A → A.guards = some [] → Env0 P w K mg base A outer z H → BindsTo z fd args (ps.zip us) →
    Vals vs us → sp vs H Q E → codeAny (model P w) A (.call (.ref f) args) (CR C8.CX0 outer P w H z Q E) z
theorem FnG.of {P : Program} {w : World} {K : PySem.W.Frag} {mg : Str → Option Value} {base : Heap} {k : Nat} {f : Addr} {fd : FuncData} {ps : List Str} {sp : Sp} (F : FnOk P w K mg base C8.CX0 k f fd ps sp) : FnG P w K mg base k f fd ps sp :=
  ⟨F.len, fun A outer z H args us vs Q E hr _ e0 hb r h => F.run A outer z H args us vs Q E hr e0 hb r h⟩
theorem fnG_of {P : Program} {w : World} {K : PySem.W.Frag} {mg : Str → Option Value} {base : Heap} {k : Nat} {f : Addr} {x : Str} {st : Stmt} {fd : FuncData} {N ps : List Str} {sp : Sp} (F : C8.Fun K x x st f fd) (S : FnScope N ps (C8.fnScope st))
    (len : ∀ vs H Q E, sp vs H Q E → vs.length = ps.length)
    (body : ∀ (cdv : Value) (A : Around) (outer : List Env) (z : Shared) (H : Hp) (vs : List V) (Q : VK) (E : XK), Room k (A.deeper (envOfC x (C8.fnScope st) z.heap.objs.size f cdv)) → A.guards = some [] → sp vs H Q E →
      ∃ t, PSs (cxOf C8.CX0 P w K mg base N x (C8.fnScope st) f cdv A outer z H E).nox (C8.fnBody st) t ∧ t { nx := fun _ H' => Q .non H', rt := Q } (start N vs) H) : FnG P w K mg base (k + 1) f fd ps sp := by
  obtain ⟨_, _, _, _, _, _, _, cdv, _, _, rfl, lk, hc⟩ := F.ex
  refine ⟨len, fun A outer z H args us vs Q E room gd en bnd va want => ?_⟩
  have ln := len _ _ _ _ want
  have up : ∀ b o, base.get? b = some o → z.heap.get? b = some o := fun b o e => (en.bs b o e).1
  have inK : K.In z.heap := en.mod.kin.keeps up
  have kinds : ∀ y ∈ ps.zip us, (C8.fnScope st).names.lookup y.1 = some .local ∨ ((C8.fnScope st).names.lookup y.1 = some .cell ∧ ((cellsFrom (z.heap.objs.size + 1) (C8.fnScope st).names []).lookup y.1).isSome = true) := by
    intro y hy
    have := S.par y.1 (List.of_mem_zip (a := y.1) (b := y.2) hy).1
    cases this with
    | inl a => exact .inl a
    | inr a => exact .inr ⟨a, PySem.W.cellsFrom_some _ _ _ (.inl a)⟩
  refine codeAny_call_function room.depth (inK _ _ lk) rfl S.co S.gen rfl (PySem.W.codeRec_of inK hc) (bnd _ _ _ _ (wpAny_newFunctionEnv_cells S.kind kinds fun env he z1 call => ?_))
  subst he
  refine ⟨(en.mod.nolimit.keeps up).keeps call.toInCall.keep, codeAny_func ?_⟩
  obtain ⟨t, ht, ok⟩ := body cdv A outer z H vs Q E (room.deeper _) gd want
  refine wpAny_mono (ht.nox.run [] z1 (start N vs) H _ (inv_start S room.hd en ln va call) ok) (fun fl z' got => ?_) fun e z' got => got
  have last : ∀ {σ' : L2.St} {H' : Hp} {v : V} {u : Value}, Inv (cxOf C8.CX0 P w K mg base N x (C8.fnScope st) f cdv A outer z H E) [] σ' H' z' → RelV v u → Q v H' → CE outer P w H z Q u z' :=
    fun {_ H' v _} J a b => ⟨v, H', J.os, J.bare, J.base, J.hok, a, b⟩
  cases fl with
  | ret u =>
    obtain ⟨v, _, H', J, a, b⟩ := got
    exact last J a b
  | next =>
    obtain ⟨_, H', J, b⟩ := got
    exact last (v := V.non) (u := Value.none) J rfl b
  | brk => exact got.choose_spec.choose_spec.2.elim
  | cont => exact got.choose_spec.choose_spec.2.elim
/-- a def by its name -/
structure CalG (P : Program) (w : World) (K : PySem.W.Frag) (mg : Str → Option Value) (base : Heap) (k : Nat) (x : Str) (sp : Sp) : Prop where
  ex : ∃ (f : Addr) (fd : FuncData) (ps : List Str), FnG P w K mg base k f fd ps sp ∧ mg x = some (.ref f) ∧ PySem.W.keepIn K (.ref f) = true ∧ Binds K fd ps []
theorem calG {P : Program} {w : World} {K : PySem.W.Frag} {mg : Str → Option Value} {base : Heap} {x : Str} {st : Stmt} {N ps : List Str} {k : Nat} {sp : Sp} (D : DefF K mg x st ps) (S : FnScope N ps (C8.fnScope st))
    (len : ∀ vs H Q E, sp vs H Q E → vs.length = ps.length)
    (body : ∀ (f : Addr) (cdv : Value) (A : Around) (outer : List Env) (z : Shared) (H : Hp) (vs : List V) (Q : VK) (E : XK), Room k (A.deeper (envOfC x (C8.fnScope st) z.heap.objs.size f cdv)) → A.guards = some [] → sp vs H Q E →
      ∃ t, PSs (cxOf C8.CX0 P w K mg base N x (C8.fnScope st) f cdv A outer z H E).nox (C8.fnBody st) t ∧ t { nx := fun _ H' => Q .non H', rt := Q } (start N vs) H) : CalG P w K mg base (k + 1) x sp := by
  obtain ⟨f, fd, F, b⟩ := D.ex
  exact ⟨f, fd, ps, fnG_of F.fn S len (body f), F.mgf, F.kp, .all b⟩
section
variable {X : Cx} {k j : Nat} {x : Str} {sp : Sp} {p pos : Pos} {e : Expr} {es : List Expr} {t : TA}
theorem run_fnG {pins : List (Addr × Obj)} {σ : L2.St} {H : Hp} {z : Shared} {Q : VK} {us : List Value} {vs : List V} {f : Addr} {fd : FuncData} {ps : List Str} (F : FnG X.prog X.w X.K X.mg X.base k f fd ps sp) (room : Room k X.A) (gd : X.A.guards = some [])
    (b : Binds X.K fd ps []) (I : Inv X pins σ H z) (r : Vals vs us) (h : sp (vs ++ []) H Q E0) : wpAny (model X.prog X.w) X.A (call (.ref f) us) (EP X pins σ Q) X.xe z := by
  rw [List.append_nil] at h
  have ll : (us ++ []).length = ps.length := by
    rw [List.append_nil, ← r.length]
    exact F.len _ _ _ _ h
  have bb := b z us I.kIn ll
  rw [List.append_nil] at bb
  refine wpAny_call (codeAny_mono (F.go X.A X.stack z H ⟨us, []⟩ us vs Q E0 room gd I.env0 bb r h) fun res z' got => ?_)
  match res, got with
  | .ok (.ret u), got => exact I.after got
  | .error e, got => exact pass0 pins σ H z e z' I got
theorem pe_cG (c : CalG X.prog X.w X.K X.mg X.base k x sp) (hr : Room j X.A) (gd : X.A.guards = some []) (hk : k ≤ j) (hg : Gl X x) (ha : PA X (e :: es) t)
    (hdb : (x == ("__debug__" : Str)) = false := by decide) (he : starEach (e :: es) X.env = (false, eval e X.env) :: starEach es X.env := by rfl) (hpl : (backTo pos (starEach es X.env)).any (·.1) = false := by rfl) :
    PE X (.Call (.Name x p) (e :: es) [] pos) (tCall sp [] E0 t) := by
  obtain ⟨f, fd, ps, F, hm, kp, b⟩ := c.ex
  refine ⟨fun pins s σ H Q I h => wpAny_Call_Name_kw (ld_glob I hg hm ?_ hdb)⟩
  exact PySem.W.callWith_K (h₀ := X.base) I.ok.mod.kin kp (thn (ha.run pos pins s σ H _ I h) fun us s1 ⟨vs, H1, I1, r, q⟩ => ⟨I1.kIn, run_fnG F (hr.mono hk) gd b I1 r q⟩) he hpl
theorem pe_cG0 (c : CalG X.prog X.w X.K X.mg X.base k x sp) (hr : Room j X.A) (gd : X.A.guards = some []) (hk : k ≤ j) (hg : Gl X x)
    (hdb : (x == ("__debug__" : Str)) = false := by decide) :
    PE X (.Call (.Name x p) [] [] pos) (tCall sp [] E0 tNil) := by
  obtain ⟨f, fd, ps, F, hm, kp, b⟩ := c.ex
  refine ⟨fun pins s σ H Q I h => wpAny_Call_Name_kw (ld_glob I hg hm ?_ hdb)⟩
  exact PySem.W.callWith_K0 I.kIn kp (run_fnG (us := []) F (hr.mono hk) gd b I .nil h)
/-- repr of data -/
theorem call_repr (hr : Room j X.A) (gd : X.A.guards = some []) : CallR X (.builtin "repr") (fun xs H Q => ∃ (v : V) (d : PyData), xs = [v] ∧ Dp X.K H v d ∧ d.showable = true ∧ d.hasDict = false ∧ d.depth ≤ 60 ∧ d.shown.length ≤ sizeLine ∧ Q (.str d.shown) H) := by
  intro pins s σ H xs us Q I r h
  obtain ⟨v, d, rfl, dp, hs, hd, hdep, hz, q⟩ := h
  obtain ⟨u, rfl, rx⟩ := vals1 r
  obtain ⟨as, rd⟩ := Dp.reads I d v u dp rx
  have hu := hr.units
  have fin : ∀ (a : Addr) (d : PyData), Reads s.heap (.ref a) d as → d.showable = true → d.hasDict = false → d.depth ≤ 60 → d.shown.length ≤ sizeLine → Q (.str d.shown) H →
      wpAny (model X.prog X.w) X.A (call (.builtin "repr") [.ref a]) (EP X pins σ Q) X.xe s := fun a d rd hs hd hdep hz q =>
    repr_of_reads' rd hs (PyData.noDict_hsm hd) gd (by omega) (fun _ _ e => e) (fun h' u tk hk => ⟨.str _, H, I.kept (t' := tk) hk, ⟨u, rfl⟩, q⟩) hz
  cases rd with
  | none => exact PySem.P.repr_of_none ⟨.str _, H, I.tok _, ⟨_, rfl⟩, by simpa only [PyData.shown] using q⟩
  | bool b => exact PySem.P.repr_of_bool ⟨.str _, H, I.tok _, ⟨_, rfl⟩, by simpa only [PyData.shown] using q⟩
  | int i t => exact PySem.P.repr_of_int (by simpa [PyData.showable] using hs) ⟨.str _, H, I.tok _, ⟨_, rfl⟩, by simpa only [PyData.shown] using q⟩
  | str y t => exact PySem.P.repr_of_str ⟨.str _, H, I.tok _, ⟨_, rfl⟩, by simpa only [PyData.shown] using q⟩ (by simpa only [PyData.shown] using hz)
  | list a b c e => exact fin _ _ (.list a b c e) hs hd hdep hz q
  | tuple a b c e => exact fin _ _ (.tuple a b c e) hs hd hdep hz q
  | dict a b c e g => exact fin _ _ (.dict a b c e g) hs hd hdep hz q
end
end CK

set_option Elab.async false
set_option linter.all false
set_option maxRecDepth 100000
set_option maxHeartbeats 2000000
/-! comprehensions with a test; equality of data made of whole numbers -/
namespace CK
open PySem PySem.Spec PyProof.Rows L2
/-- n turns, each kept if b i, giving f i, leaving all that was tracked -/
theorem lc_filtW {J : It} {n : Nat} {G : Hp → Prop} {Y : Nat → Hp → V → Hp → Prop} (w : Walk J n G Y) {g : TG} {tt : TT} {te : TE} {vs : List Nat} {σ : L2.St} {H1 : Hp} {D : Addr} {Qd : Hp → Prop} (b : Nat → Bool) (f : Nat → V) (hn : n < sizeLine)
    (hG : ∀ H, Same H1 H → G H)
    (hs : ∀ (i : Nat) (x : V) (H H' : Hp) (R : VK) (R0 : Hp → Prop), i < n → Same H1 H → Y i H x H' → (b i = true → ∀ H'', Same H H'' → R (f i) H'') → (b i = false → ∀ H'', Same H H'' → R0 H'') →
      g x (wipe σ vs) H' fun σ2 H2 => wipe σ2 vs = wipe σ vs ∧ tt σ2 H2 fun c H3 => if c = true then te σ2 H3 R else R0 H3)
    (hD : H1 D = none) (hd : ∀ H : Hp, Same H1 H → H D = some (.lst (((List.range n).filter b).map f)) → Qd H) :
    ∃ W : Nat → Nat → Hp → Prop, (∃ m, W 0 m (upd H1 D (.lst []))) ∧ ∀ i m H, W i m H →
      (J.stop i H ∧ Qd H) ∨ (J.go i H ∧ ∃ Nx : Hp → Prop, (∀ H', Nx H' → ∃ m', m' < m ∧ W (i + 1) m' H') ∧ ∀ x H', J.yld i H x H' → g x (wipe σ vs) H' fun σ2 H2 => wipe σ2 vs = wipe σ vs ∧ tt σ2 H2 fun b H3 =>
        if b = true then te σ2 H3 fun y H4 => ∃ acc, H4 D = some (.lst acc) ∧ acc.length < sizeLine ∧ Nx (upd H4 D (.lst (acc ++ [y]))) else Nx H3) := by
  refine lc_it w (fun i H => Same H1 H ∧ H D = some (.lst (((List.range i).filter b).map f)) ∧ i ≤ n) ⟨sameNew hD, upd_same, Nat.zero_le _⟩ (fun i H _ p => hG H p.1) (fun i x H H' hi p y => ?_) fun H p => hd H p.1 p.2.1
  refine hs i x H H' _ _ hi p.1 y (fun hb H'' s => ?_) fun hb H'' s => ?_
  · refine ⟨_, s D _ p.2.1, ?_, same_upd2 hD (p.1.trans s), ?_, hi⟩
    · have := List.length_filter_le b (List.range i)
      rw [List.length_range] at this
      rw [List.length_map]
      omega
    · rw [upd_same, List.range_succ, List.filter_append, List.map_append, List.filter_cons_of_pos hb]
      rfl
  · refine ⟨p.1.trans s, ?_, hi⟩
    rw [s D _ p.2.1, List.range_succ, List.filter_append, List.filter_cons_of_neg (by rw [hb]; exact Bool.false_ne_true), List.filter_nil, List.append_nil]
theorem filt_nil (b : Nat → Bool) (f : Nat → V) (n : Nat) : ((List.range n).filter b).map f = [] ↔ ∀ i, i < n → b i = false := by
  rw [List.map_eq_nil_iff, List.filter_eq_nil_iff]
  constructor
  · intro h i hi
    have := h i (List.mem_range.mpr hi)
    simpa using this
  · intro h i hi
    rw [h i (List.mem_range.mp hi)]
    exact Bool.false_ne_true
/-- over zip -/
theorem lcZ_filt {K : PySem.W.Frag} {k k' : Kd} {a c : Addr} {xs ys : List V} {i1 i2 : Nat} {tt : TT} {te : TE} {vs : List Nat} {σ : L2.St} {H1 : Hp} {D : Addr} {Qd : Hp → Prop} (b : Nat → Bool) (f : Nat → V) (hl : xs.length = ys.length) (hn : xs.length < sizeLine)
    (ha : ∀ H, Same H1 H → SqB K k H a xs ∧ SqB K k' H c ys)
    (hs : ∀ (i : Nat) (x y : V) (H : Hp) (R : VK) (R0 : Hp → Prop), xs[i]? = some x → ys[i]? = some y → Same H1 H → (b i = true → ∀ H', Same H H' → R (f i) H') → (b i = false → ∀ H', Same H H' → R0 H') →
      wipe (((wipe σ vs).set i1 (some x)).set i2 (some y)) vs = wipe σ vs ∧ tt (((wipe σ vs).set i1 (some x)).set i2 (some y)) H fun c H3 => if c = true then te (((wipe σ vs).set i1 (some x)).set i2 (some y)) H3 R else R0 H3)
    (hD : H1 D = none) (hd : ∀ H : Hp, Same H1 H → H D = some (.lst (((List.range xs.length).filter b).map f)) → Qd H) :
    ∃ W : Nat → Nat → Hp → Prop, (∃ m, W 0 m (upd H1 D (.lst []))) ∧ ∀ i m H, W i m H →
      ((ItB K k k' a c).stop i H ∧ Qd H) ∨ ((ItB K k k' a c).go i H ∧ ∃ Nx : Hp → Prop, (∀ H', Nx H' → ∃ m', m' < m ∧ W (i + 1) m' H') ∧ ∀ x H', (ItB K k k' a c).yld i H x H' → gTup K 2 (gCons (gName i1) (gCons (gName i2) gNil)) x (wipe σ vs) H' fun σ2 H2 => wipe σ2 vs = wipe σ vs ∧ tt σ2 H2 fun b H3 =>
        if b = true then te σ2 H3 fun y H4 => ∃ acc, H4 D = some (.lst acc) ∧ acc.length < sizeLine ∧ Nx (upd H4 D (.lst (acc ++ [y]))) else Nx H3) := by
  refine lc_filtW (walkB (K := K) (k := k) (k' := k') (a := a) (b := c) hl) b f hn ha (fun i v H H' R R0 hi s y q q0 => ?_) hD hd
  obtain ⟨T, x, y, rfl, hT, rfl, hx, hy⟩ := y
  have hx : xs[i]? = some x := hx
  have hy : ys[i]? = some y := hy
  have st : Same H (upd H T (.tup [x, y])) := sameNew hT
  exact ⟨T, [x, y], rfl, .inl (.inl upd_same), rfl, x, [y], rfl, y, [], rfl, rfl, hs i x y _ R R0 hx hy (s.trans st) (fun hb H'' s' => q hb H'' (st.trans s')) fun hb H'' s' => q0 hb H'' (st.trans s')⟩
/-- over a list -/
theorem lcL_filt {K : PySem.W.Frag} {a : Addr} {xs : List V} {j : Nat} {tt : TT} {te : TE} {vs : List Nat} {σ : L2.St} {H1 : Hp} {D : Addr} {Qd : Hp → Prop} (b : Nat → Bool) (f : Nat → V) (ha : ∀ H, Same H1 H → SqL K H a xs) (hn : xs.length < sizeLine)
    (hs : ∀ (i : Nat) (x : V) (H : Hp) (R : VK) (R0 : Hp → Prop), xs[i]? = some x → Same H1 H → (b i = true → ∀ H', Same H H' → R (f i) H') → (b i = false → ∀ H', Same H H' → R0 H') →
      wipe ((wipe σ vs).set j (some x)) vs = wipe σ vs ∧ tt ((wipe σ vs).set j (some x)) H fun c H3 => if c = true then te ((wipe σ vs).set j (some x)) H3 R else R0 H3)
    (hD : H1 D = none) (hd : ∀ H : Hp, Same H1 H → H D = some (.lst (((List.range xs.length).filter b).map f)) → Qd H) :
    ∃ W : Nat → Nat → Hp → Prop, (∃ m, W 0 m (upd H1 D (.lst []))) ∧ ∀ i m H, W i m H →
      ((Itl K a).stop i H ∧ Qd H) ∨ ((Itl K a).go i H ∧ ∃ Nx : Hp → Prop, (∀ H', Nx H' → ∃ m', m' < m ∧ W (i + 1) m' H') ∧ ∀ x H', (Itl K a).yld i H x H' → gName j x (wipe σ vs) H' fun σ2 H2 => wipe σ2 vs = wipe σ vs ∧ tt σ2 H2 fun b H3 =>
        if b = true then te σ2 H3 fun y H4 => ∃ acc, H4 D = some (.lst acc) ∧ acc.length < sizeLine ∧ Nx (upd H4 D (.lst (acc ++ [y]))) else Nx H3) := by
  refine lc_filtW (walk_list (K := K) (a := a) (xs := xs)) b f hn ha (fun i v H H' R R0 hi s y q q0 => ?_) hD hd
  obtain ⟨rfl, hx⟩ := y
  exact hs i v H' R R0 hx s q q0
/-- over a tuple -/
theorem lcT_filt {K : PySem.W.Frag} {a : Addr} {xs : List V} {j : Nat} {tt : TT} {te : TE} {vs : List Nat} {σ : L2.St} {H1 : Hp} {D : Addr} {Qd : Hp → Prop} (b : Nat → Bool) (f : Nat → V) (ha : ∀ H, Same H1 H → SqT K H a xs) (hn : xs.length < sizeLine)
    (hs : ∀ (i : Nat) (x : V) (H : Hp) (R : VK) (R0 : Hp → Prop), xs[i]? = some x → Same H1 H → (b i = true → ∀ H', Same H H' → R (f i) H') → (b i = false → ∀ H', Same H H' → R0 H') →
      wipe ((wipe σ vs).set j (some x)) vs = wipe σ vs ∧ tt ((wipe σ vs).set j (some x)) H fun c H3 => if c = true then te ((wipe σ vs).set j (some x)) H3 R else R0 H3)
    (hD : H1 D = none) (hd : ∀ H : Hp, Same H1 H → H D = some (.lst (((List.range xs.length).filter b).map f)) → Qd H) :
    ∃ W : Nat → Nat → Hp → Prop, (∃ m, W 0 m (upd H1 D (.lst []))) ∧ ∀ i m H, W i m H →
      ((Itt K a).stop i H ∧ Qd H) ∨ ((Itt K a).go i H ∧ ∃ Nx : Hp → Prop, (∀ H', Nx H' → ∃ m', m' < m ∧ W (i + 1) m' H') ∧ ∀ x H', (Itt K a).yld i H x H' → gName j x (wipe σ vs) H' fun σ2 H2 => wipe σ2 vs = wipe σ vs ∧ tt σ2 H2 fun b H3 =>
        if b = true then te σ2 H3 fun y H4 => ∃ acc, H4 D = some (.lst acc) ∧ acc.length < sizeLine ∧ Nx (upd H4 D (.lst (acc ++ [y]))) else Nx H3) := by
  refine lc_filtW (walk_tup (K := K) (a := a) (xs := xs)) b f hn ha (fun i v H H' R R0 hi s y q q0 => ?_) hD hd
  obtain ⟨rfl, hx⟩ := y
  exact hs i v H' R R0 hx s q q0
/-- a tuple of the module's own -/
theorem tupF {K : PySem.W.Frag} {h : Heap} {mg : Str → Option Value} {x : Str} {f : Addr} {o : Obj} {its : Array Value} {n : Nat} {xs : List V} (X : K.In h) (G : h.Ns mainGlobals mg) (a : PySem.W.nsIn K mainGlobals x = some (some (.ref f))) (l : K.lookup f = some o)
    (hc : o.cls = .type "tuple") (hd : o.data = .seq its n) (hs : its.size ≤ sizeLine) (hv : Vals xs its.toList) : ∃ a, mg x = some (.ref a) ∧ ∀ H, SqT K H a xs :=
  ⟨f, PySem.W.mg_of X G a, fun H => .inr ⟨o, its, n, l, hc, hd, hs, hv⟩⟩
abbrev TupF (K : PySem.W.Frag) (mg : Str → Option Value) (x : Str) (xs : List V) : Prop := ∃ a, mg x = some (.ref a) ∧ ∀ H, SqT K H a xs
theorem with_tup {K : PySem.W.Frag} {h : Heap} {mg : Str → Option Value} (_ : K.In h) (x : Str) (xs : List V) {R : Prop} (d : TupF K mg x xs) (r : TupF K mg x xs → R) : R := r d
/-! data of whole numbers -/
theorem eqvAll_ints : ∀ f g : List Int, PyData.eqvAll (f.map PyData.int) (g.map PyData.int) = decide (f = g)
  | [], [] => by simp [PyData.eqvAll]
  | [], _ :: _ => by simp [PyData.eqvAll]
  | _ :: _, [] => by simp [PyData.eqvAll]
  | x :: f, y :: g => by
    rw [List.map_cons, List.map_cons, PyData.eqvAll, eqvAll_ints f g]
    simp [PyData.eqv, Bool.beq_eq_decide_eq]
theorem eqv_dI (f g : List Int) : PyData.eqv (dI f) (dI g) = decide (f = g) := by
  unfold dI
  simp only [PyData.eqv, eqvAll_ints]
def dLI (ns : List Int) : PyData := .list (ns.map PyData.int)
theorem eqv_dLI (f g : List Int) : PyData.eqv (dLI f) (dLI g) = decide (f = g) := by
  unfold dLI
  simp only [PyData.eqv, eqvAll_ints]
theorem shaped_dLI (ns : List Int) : SeqAt.shaped (dLI ns) = true := by
  unfold SeqAt.shaped dLI
  rw [PyData.canLay0, lay_ints, PyData.depth, deep_ints]
  decide
theorem dp_lints {K : PySem.W.Frag} {H : Hp} {a : Addr} {ns : List Int} (h : H a = some (.lst (ns.map V.int))) : Dp K H (.ref a) (dLI ns) := .lst (.inl (.inl h)) (dpAll_ints ns)
/-! repr of whole numbers -/
theorem shown_ints : ∀ ns : List Int, (∀ n ∈ ns, n.natAbs.log2 < 1920) → PyData.showableAll (ns.map PyData.int) = true
  | [], _ => by simp [PyData.showableAll]
  | n :: ns, h => by
    rw [List.map_cons, PyData.showableAll, shown_ints ns fun z hz => h z (List.mem_cons_of_mem _ hz)]
    simp [PyData.showable, h n List.mem_cons_self]
theorem noDict_ints : ∀ ns : List Int, PyData.hasDictAll (ns.map PyData.int) = false
  | [] => by simp [PyData.hasDictAll]
  | n :: ns => by
    rw [List.map_cons, PyData.hasDictAll, noDict_ints ns]
    simp [PyData.hasDict]
theorem piled_ints : ∀ ns : List Int, (∀ n ∈ ns, n.natAbs.log2 < 1920) → piled (PyData.shownAll (ns.map PyData.int)) ≤ ns.length * 1923
  | [], _ => Nat.zero_le _
  | n :: ns, h => by
    have a1 := int_text_length_le (a := n) (k := 1920) (by omega) (h n List.mem_cons_self)
    have a2 := piled_ints ns fun z hz => h z (List.mem_cons_of_mem _ hz)
    have a3 : ((toString n : Str)).length = (toString n).length := PySem.ofString_length _
    have e : PyData.shown (.int n) = (toString n : Str) := by simp only [PyData.shown]
    rw [List.map_cons, PyData.shownAll, piled_cons, List.length_cons, e]
    omega
theorem show_dI {ns : List Int} (h : ∀ n ∈ ns, n.natAbs.log2 < 1920) (hl : ns.length ≤ 100) : (dI ns).showable = true ∧ (dI ns).hasDict = false ∧ (dI ns).depth ≤ 60 ∧ (dI ns).shown.length ≤ sizeLine := by
  refine ⟨?_, ?_, by rw [deep_dI]; decide, ?_⟩
  · unfold dI
    rw [PyData.showable]
    exact shown_ints ns h
  · unfold dI
    rw [PyData.hasDict]
    exact noDict_ints ns
  · unfold dI
    rw [PyData.shown]
    have := fmt_text (PyData.shownAll (ns.map PyData.int))
    have := piled_ints ns h
    have : ns.length * 1923 ≤ 100 * 1923 := Nat.mul_le_mul_right _ hl
    rw [sizeLine_eq]
    omega
theorem log_lt {n : Int} (h : n.natAbs < 2 ^ 1900) : n.natAbs.log2 < 1920 := by
  by_cases z : n.natAbs = 0
  · rw [z]
    decide
  · have := (Nat.log2_lt z).mpr h
    omega
end CK

set_option Elab.async false
set_option linter.all false
set_option maxRecDepth 100000
set_option maxHeartbeats 2000000
/-! statements in order, tests that may end the call -/
namespace CK
open PySem PySem.Spec PyProof.Rows L2
theorem seq_cut {t u : TS} {D : Ends} {σ : L2.St} {H : Hp} (Mid : L2.St → Hp → Prop) (h1 : ∀ K : L2.St → Hp → Prop, (∀ σ' H', Mid σ' H' → K σ' H') → t { D with nx := K } σ H) (h2 : ∀ σ' H', Mid σ' H' → u D σ' H') : tSeq t u D σ H := h1 _ h2
/-- a test whose answer is b: what is within, and what follows -/
theorem if_dec {c : TT} {t u : TS} {D : Ends} {σ : L2.St} {H : Hp} (b : Bool) (h : ∀ R : Bool → Hp → Prop, (∀ H', Same H H' → R b H') → c σ H R)
    (yes : b = true → ∀ H', Same H H' → t { D with nx := fun σ' H'' => u D σ' H'' } σ H') (no : b = false → ∀ H', Same H H' → u D σ H') : tSeq (tIfS c t tNext) u D σ H :=
  h _ fun H' s => by
    cases b with
    | true => exact iteT (yes rfl H' s)
    | false => exact iteF (no rfl H' s)
/-- the last test of a block -/
theorem if_end {c : TT} {t u : TS} {D : Ends} {σ : L2.St} {H : Hp} (b : Bool) (h : ∀ R : Bool → Hp → Prop, (∀ H', Same H H' → R b H') → c σ H R)
    (yes : b = true → ∀ H', Same H H' → t D σ H') (no : b = false → ∀ H', Same H H' → u D σ H') : tIfS c t u D σ H :=
  h _ fun H' s => by
    cases b with
    | true => exact iteT (yes rfl H' s)
    | false => exact iteF (no rfl H' s)
theorem if_not {c : TT} {t u : TS} {D : Ends} {σ : L2.St} {H : Hp} (h : ∀ R : Bool → Hp → Prop, (∀ H', Same H H' → R false H') → c σ H R) (r : ∀ H', Same H H' → u D σ H') : tSeq (tIfS c t tNext) u D σ H :=
  h _ fun H' s => iteF (r H' s)
theorem yes_if {σ : L2.St} {H : Hp} {A B : Hp → Prop} (h : A H) : tYes σ H fun b H3 => if b = true then A H3 else B H3 := by
  show (if true = true then A H else B H)
  exact if_pos rfl ▸ h
end CK

set_option Elab.async false
set_option linter.all false
set_option maxRecDepth 100000
set_option maxHeartbeats 2000000
/-! sum of a tuple of numbers -/
namespace CK
open PySem PySem.Spec PyProof.Rows L2 SX
section
variable {prog : Program} {w : World} {A : Around} {E : Value → Shared → Prop} {s : Shared} {l : Addr} {xs : Array (Int × Tok)}
theorem sum_tupG {Q : Value → Shared → Prop} (hh : A.handled = none) (hl : s.heap.IsTuple l (intItems xs))
    (h : ∀ h' tk t', (∀ b o, s.heap.get? b = some o → h'.get? b = some o) → Q (.int (preSum (numAt xs) xs.size) t') { s with heap := h', toks := tk }) :
    wpAny (model prog w) A (call (.builtin "sum") [.ref l]) Q E s := by
  have hlt : l < s.heap.objs.size := by obtain ⟨_, e, _⟩ := hl; exact Heap.lt_size e
  refine call_sum_walkG (wpAny_pyIter_tuple hl ?_)
  refine ⟨_, _, _, _, _, _, numAt xs, rfl, Walks.tuple (A := A.in1) hh _ l (Nat.ne_of_lt hlt) (intItems xs), ⟨⟨_, Heap.get?_push_size _ rfl, rfl, rfl⟩, hl.push _⟩, fun b hb => ?_, (fun _ _ => intItems_at), fun h' tk t' hk => ?_⟩
  · show b < (s.heap.push _).objs.size
    rw [Heap.size_push]
    rcases List.mem_cons.mp hb with rfl | hb
    · exact Nat.lt_succ_self _
    · rcases List.mem_cons.mp hb with rfl | hb
      · exact Nat.lt_succ_of_lt hlt
      · cases hb
  · have := h h' tk t' fun b o e => by
      refine hk b o (fun hm => ?_) (Heap.get?_push_of_some _ e)
      have := List.mem_singleton.mp hm
      have hb := Heap.lt_size e
      rw [this] at hb
      exact absurd hb (Nat.lt_irrefl _)
    simpa [intItems] using this
end
section
variable {X : Cx}
theorem cr_sumT (hc : X.calm = true) : CallR X (.builtin "sum") (fun vs H Q => ∃ (a : Addr) (ns : List Int), vs = [V.ref a] ∧ H a = some (.tup (ns.map V.int)) ∧ Q (.int ns.sum) H) := by
  intro pins s σ H vs us Q I r h
  obtain ⟨a, ns, rfl, ha, q⟩ := h
  obtain ⟨its, rv, hl, _⟩ := I.tuple (.inl (.inl ha))
  rw [Vals.ref1 r]
  have hi := rv.ints
  obtain ⟨xs, e⟩ := hi.allInts.items
  have hn : numsOf (intItems xs).toList = ns := by rw [← e]; exact hi.numsOf
  rw [nums_intItems] at hn
  have hl' : s.heap.IsTuple a (intItems xs) := by rw [← e]; exact hl
  refine sum_tupG (I.ok.hd hc) hl' fun h' tk t' hk => ?_
  have es : preSum (numAt xs) xs.size = ns.sum := by rw [preSum_eq, List.take_of_length_le (by simp), hn]
  rw [es]
  exact ⟨.int _, H, I.kept (t' := tk) hk, ⟨_, rfl⟩, q⟩
end
end CK

set_option Elab.async false
set_option linter.all false
set_option maxRecDepth 100000
set_option maxHeartbeats 2000000
/-! a tuple of one item, k times, k of at least -1 -/
namespace CK
open PySem PySem.Spec PyProof.Rows L2 SX
theorem mulM1 (l : Addr) (v : Value) (n : Nat) (dd : Option Addr) (sl : Array (Option Value)) (u : Tok) :
    Meets (Builtin.«tuple.__mul__» ⟨[.ref l, .int (-1) u], []⟩) (fun _ R s =>
      s.heap.get? l = some { cls := .type "tuple", dict := dd, data := .seq #[v] n, slots := sl } ∧
      R (.ok (.ret (Value.ref s.heap.objs.size))) { s with heap := s.heap.push { cls := Value.type "tuple", data := Data.seq #[] } }) := by
  refine Meets.of_wp fun prog w A R s h => ?_
  obtain ⟨hq, g, d, tk, o2⟩ := s
  obtain ⟨hl, h⟩ := h
  have f1 := AutoSeq1.idx_int
  wp_walk using wpAny_loadPart' hl
  exact ⟨_, rfl, h⟩
section
variable {X : Cx}
theorem op_repOneZ : OpR X (binaryOp .Mult) (fun x y H Q => ∃ (l : Addr) (k : Int) (v : V), x = .ref l ∧ y = .int k ∧ H l = some (.tup [v]) ∧ -1 ≤ k ∧ k ≤ 1000 ∧
    ∀ p H', Same H H' → H' p = some (.tup (List.replicate k.toNat v)) → Q (.ref p) H') := by
  intro pins s σ H x y xv yv Q I rx ry h
  obtain ⟨l, k, v, rfl, rfl, hl, h0, h1, q⟩ := h
  by_cases hk : k = -1
  · subst hk
    cases rx
    obtain ⟨t, rfl⟩ := ry
    obtain ⟨zs, r, ⟨⟨cl, dd, da, sl⟩, ho, hc, n, hd⟩, hs⟩ := I.tuple (.inl (.inl hl) : SqT X.K H l [v])
    simp only at hc hd
    subst hc hd
    cases r with
    | cons r1 r2 =>
    cases r2
    rename_i u
    refine wpAny_binaryOp_repeat_ref (T := "tuple") (U := "int") (by decide) ⟨_, ho, rfl⟩ (fun s' => typeIs_int s' (-1) t) mulFill F.fills_int_mul F.slot_int_rmul mulSeq F.slot_int_index.lookup
      (call_meets F.slot_int_rmul (typeIs_int s (-1) t) F.entry_int_rmul (F.args_int_rmul_2 _ _) (rmulNo (-1) t l _ n dd sl)
        ⟨ho, rfl, ⟨_, ho, rfl⟩, call_meets F.slot_tuple_mul ⟨_, ho, rfl⟩ F.entry_tuple_mul (F.args_tuple_mul_2 _ _) (mulM1 l _ n dd sl t) ⟨ho, ?_⟩⟩)
    have hn : H s.heap.objs.size = none := I.hok.fresh (Nat.le_refl _)
    refine ⟨.ref s.heap.objs.size, _, I.laid (t' := s.toks) (o := .tup []) (fun b ob q => Heap.get?_push_of_some _ q) (Nat.le_refl _) ?_, rfl, q _ _ (sameNew hn) upd_same⟩
    exact ⟨Nat.zero_le _, [], .nil, IsTup.new _ _⟩
  · exact op_repOne pins s σ H _ _ xv yv Q I rx ry ⟨l, k, v, rfl, rfl, hl, by omega, h1, q⟩
end
end CK

set_option Elab.async false
set_option linter.all false
set_option maxRecDepth 100000
set_option maxHeartbeats 2000000
/-! == of two objects of an own class, by its __eq__, which may say yes or no -/
namespace CK
open PySem PySem.Spec PyProof.Rows L2 SX
section
variable {X : Cx} {k j : Nat} {C : Addr} {sp : Sp}
def rEqO (C : Addr) (sp : Sp) : R2 := fun x y H Q => ∃ a b dx fs dy gs, x = .ref a ∧ y = .ref b ∧ H a = some (.ins C dx fs) ∧ H b = some (.ins C dy gs) ∧ sp [.ref a, .ref b] H (fun v H' => (∃ r, v = .bl r) ∧ Q v H') C8.E0
theorem op_eqO (c : C8.Met X.prog X.w X.K X.mg X.base k C "__eq__" sp []) (hr : Room j X.A) (hk : k ≤ j) : OpR X (compareOp .Eq) (rEqO C sp) := by
  intro pins s σ H x y v u Q I rx ry h
  obtain ⟨a, b, dx, fs, dy, gs, rfl, rfl, ha, hb', hsp⟩ := h
  obtain ⟨f, fd, ps, ds, hc, hm, F, bnd, d⟩ := c.ex
  cases d
  cases rx
  cases ry
  obtain ⟨mA, J, _⟩ := ins_get I.hok ha
  obtain ⟨mB, J', _⟩ := ins_get I.hok hb'
  obtain ⟨od, J, _⟩ := J.look
  obtain ⟨od', J', _⟩ := J'.look
  obtain ⟨m, hF⟩ := I.fr
  have hr' := hr.mono hk
  show wpAny (model X.prog X.w) X.A (richCompare .Eq (.ref a) (.ref b)) (EP X pins σ Q) X.xe s
  refine PySem.W.cmp_K (op := .Eq) (tb := .ref C) hr.units0 hF I.ok.mod.kin J J'.type (by simp [PySem.W.notFirst]) hm.at_ hm.fn ?_
  have hl := F.len _ _ _ _ hsp
  have r2 : Vals [V.ref a, V.ref b] [Value.ref a, Value.ref b] := .cons rfl (.cons rfl .nil)
  refine wpAny_call (codeAny_mono (F.run X.A X.stack s H ⟨[.ref a, .ref b], []⟩ [.ref a, .ref b] [.ref a, .ref b] _ C8.E0 hr' I.env0 (by
    have := bnd s [.ref a, .ref b] I.kIn (by simpa using hl)
    simpa using this) r2 hsp) fun r s' hq => ?_)
  cases r with
  | error e => exact C8.pass0 (E := C8.E0) pins σ H s e s' I hq
  | ok fl =>
    cases fl with
    | ret w =>
      obtain ⟨z, H', I', rz, ⟨r, ez⟩, q⟩ := I.after hq
      subst ez
      cases rz
      exact ⟨.bl r, H', I', rfl, q⟩
    | next => exact False.elim hq
    | brk => exact False.elim hq
    | cont => exact False.elim hq
end
end CK

set_option Elab.async false
set_option linter.all false
set_option maxRecDepth 100000
set_option maxHeartbeats 2000000
/-! == of an object of an own class and a list, by the object's __eq__ -/
namespace CK
open PySem PySem.Spec PyProof.Rows L2 SX
section
variable {X : Cx} {k j : Nat} {C : Addr} {sp : Sp}
def rEqOL (C : Addr) (sp : Sp) : R2 := fun x y H Q => ∃ a b dx fs xs, x = .ref a ∧ y = .ref b ∧ H a = some (.ins C dx fs) ∧ H b = some (.lst xs) ∧ sp [.ref a, .ref b] H (fun v H' => (∃ r, v = .bl r) ∧ Q v H') C8.E0
theorem notFirst_list (K : PySem.W.Frag) (C : Addr) : PySem.W.notFirst K C (.type "list") = true := by
  have : PySem.W.subIn K (.type "list") (.ref C) = some false := by rfl
  unfold PySem.W.notFirst
  rw [this]
  simp
theorem op_eqOL (c : C8.Met X.prog X.w X.K X.mg X.base k C "__eq__" sp []) (hr : Room j X.A) (hk : k ≤ j) : OpR X (compareOp .Eq) (rEqOL C sp) := by
  intro pins s σ H x y v u Q I rx ry h
  obtain ⟨a, b, dx, fs, xs, rfl, rfl, ha, hb', hsp⟩ := h
  obtain ⟨f, fd, ps, ds, hc, hm, F, bnd, d⟩ := c.ex
  cases d
  cases rx
  cases ry
  obtain ⟨mA, J, _⟩ := ins_get I.hok ha
  obtain ⟨od, J, _⟩ := J.look
  obtain ⟨its, rv, hT, _⟩ := I.list (.inl (.inl hb'))
  obtain ⟨m, hF⟩ := I.fr
  have hr' := hr.mono hk
  obtain ⟨ob, nb, eb, cb, _, _⟩ := hT
  have hty : PySem.W.Looks (model X.prog X.w) s.heap (typeOf (.ref b)) (.type "list") := (PySem.W.Looks.ld eb).andThen (by rw [cb]; exact .now)
  show wpAny (model X.prog X.w) X.A (richCompare .Eq (.ref a) (.ref b)) (EP X pins σ Q) X.xe s
  refine PySem.W.cmp_K (op := .Eq) (tb := .type "list") hr.units0 hF I.ok.mod.kin J hty (notFirst_list _ _) hm.at_ hm.fn ?_
  have hl := F.len _ _ _ _ hsp
  have r2 : Vals [V.ref a, V.ref b] [Value.ref a, Value.ref b] := .cons rfl (.cons rfl .nil)
  refine wpAny_call (codeAny_mono (F.run X.A X.stack s H ⟨[.ref a, .ref b], []⟩ [.ref a, .ref b] [.ref a, .ref b] _ C8.E0 hr' I.env0 (by
    have := bnd s [.ref a, .ref b] I.kIn (by simpa using hl)
    simpa using this) r2 hsp) fun r s' hq => ?_)
  cases r with
  | error e => exact C8.pass0 (E := C8.E0) pins σ H s e s' I hq
  | ok fl =>
    cases fl with
    | ret w =>
      obtain ⟨z, H', I', rz, ⟨r, ez⟩, q⟩ := I.after hq
      subst ez
      cases rz
      exact ⟨.bl r, H', I', rfl, q⟩
    | next => exact False.elim hq
    | brk => exact False.elim hq
    | cont => exact False.elim hq
/-- the class object is of the type type -/
def TyC (K : PySem.W.Frag) (C : Addr) : Prop := ∃ od cd sl, K.lookup C = some ⟨.type "type", od, .cls cd, sl⟩
theorem tyc_mk {K : PySem.W.Frag} {mg : Str → Option Value} {x : Str} {C : Addr} (_ : ClF K mg x C) {oc : Value} {od : Option Addr} {cd : ClassData} {sl : Array (Option Value)} (l : K.lookup C = some ⟨oc, od, .cls cd, sl⟩) (e : oc = .type "type") : TyC K C := by
  subst e
  exact ⟨_, _, _, l⟩
theorem with_tyc {K : PySem.W.Frag} {mg : Str → Option Value} {x : Str} {C : Addr} (_ : ClF K mg x C) {R : Prop} (d : TyC K C) (r : TyC K C → R) : R := r d
theorem kit_listC {K : PySem.W.Frag} {C : Addr} (t : TyC K C) : PySem.W.kitOne K (.type "list") (.ref C) = some false := by
  obtain ⟨od, cd, sl, l⟩ := t
  have s : PySem.W.subIn K (.type "list") (.ref C) = some false := by rfl
  have h1 : PySem.W.clsIn K C = some cd := by unfold PySem.W.clsIn; rw [l]
  have h2 : PySem.W.typeIn K (.ref C) = some (.type "type") := by
    show (K.lookup C).map _ = _
    rw [l]
    rfl
  have h3 : PySem.W.kitCls K (.type "list") (.ref C) = some false := by
    unfold PySem.W.kitCls
    dsimp only
    rw [h1, h2, s]
    rfl
  unfold PySem.W.kitOne
  rw [h3]
  rfl
/-- isinstance of an object of an own class, or of a list -/
theorem call_isCL (c : C8.InsC X.K C) (t : TyC X.K C) : CallR X (.builtin "isinstance") (fun xs H Q => (∃ a dx fs, xs = [.ref a, .ref C] ∧ H a = some (.ins C dx fs) ∧ Q (.bl true) H) ∨ ∃ a ys, xs = [.ref a, .ref C] ∧ H a = some (.lst ys) ∧ Q (.bl false) H) := by
  intro pins s σ H xs us Q I r h
  rcases h with h | ⟨a, ys, rfl, ha, q⟩
  · exact C8.call_isC c pins s σ H xs us Q I r h
  · exact call_isi pins s σ H _ us Q I r ⟨.ref a, .ref C, .type "list", .ref C, false, rfl, .own C, .base (.lst ha), kit_listC t, q⟩
end
end CK

set_option Elab.async false
set_option linter.all false
set_option maxRecDepth 100000
/-! (instance, number) == (instance, number): tuples whose instances are equal by their own == -/
namespace CK
open PySem PySem.Spec PyProof.Rows L2
section
variable {X : Cx} {k j : Nat} {C : Addr} {sp : Sp} {R : Addr → Addr → Hp → Prop}
/-- two of the class that R tells equal, or two equal flat values -/
abbrev DPart (C : Addr) (R : Addr → Addr → Hp → Prop) : Eqv := fun x y H => DIns C R x y H ∨ DFlat x y H
theorem op_eqTO (c : C8.Met X.prog X.w X.K X.mg X.base k C "__eq__" sp []) (hR : ∀ a b H H', Ext H H' → R a b H → R a b H') (hs : ∀ vs H Q E, spEq R vs H Q E → sp vs H Q E) (hr : Room j X.A) (hk : k + 1 ≤ j) : OpR X (compareOp .Eq) (rEqG (DTup X.K (DPart C R))) := by
  obtain ⟨f, fd, ps, ds, hc, hm, F, bnd, d⟩ := c.ex
  cases d
  have e1 : EqG X k (DIns C R) := eqG_ins (F.imp hs) hm.at_ hm.fn bnd (C8.pass0 (E := C8.E0))
  exact op_eqG (rcG_tup (Mon.or (mon_ins hR) mon_flat) (e1.or (eqG_flat.mono (Nat.zero_le _)))) (hr.mono hk)
end
end CK

set_option Elab.async false
set_option linter.all false
set_option maxRecDepth 100000
set_option maxHeartbeats 4000000
namespace K23
open PySem PySem.Spec PyProof.Rows L2 CK
def topS (i : Nat) : Stmt := PySem.Challenge.pw_countscribe_k23_later_and_thinned.main.body.getD i (.Pass ⟨0, 0, 0, 0⟩)
theorem sc_is_whole : FnScope ["value"] ["value"] (C8.fnScope (topS 12)) := C8.fnScope_by (by decide +kernel)
theorem sc_is_count : FnScope ["value"] ["value"] (C8.fnScope (topS 13)) := C8.fnScope_by (by decide +kernel)
theorem sc_is_within : FnScope ["value", "low", "high"] ["value", "low", "high"] (C8.fnScope (topS 14)) := C8.fnScope_by (by decide +kernel)
theorem sc_is_lettered : FnScope ["value", "most"] ["value", "most"] (C8.fnScope (topS 15)) := C8.fnScope_by (by decide +kernel)
theorem sc_is_counts : FnScope ["value", "many", "number"] ["value", "many"] (C8.fnScope (topS 16)) := C8.fnScope_by (by decide +kernel)
theorem sc_need_count : FnScope ["value"] ["value"] (C8.fnScope (topS 17)) := C8.fnScope_by (by decide +kernel)
theorem sc_need_within : FnScope ["value", "low", "high"] ["value", "low", "high"] (C8.fnScope (topS 18)) := C8.fnScope_by (by decide +kernel)
theorem sc_need_many : FnScope ["value"] ["value"] (C8.fnScope (topS 19)) := C8.fnScope_by (by decide +kernel)
theorem sc_need_point : FnScope ["value", "many"] ["value", "many"] (C8.fnScope (topS 20)) := C8.fnScope_by (by decide +kernel)
theorem sc_is_form_for : FnScope ["many", "value", "number"] ["many", "value"] (C8.fnScope (topS 22)) := C8.fnScope_by (by decide +kernel)
theorem sc_is_forms : FnScope ["value", "size", "many", "form"] ["value", "size", "many"] (C8.fnScope (topS 23)) := C8.fnScope_by (by decide +kernel)
theorem sc_plain_form : FnScope ["number", "many"] ["number", "many"] (C8.fnScope (topS 24)) := C8.fnScope_by (by decide +kernel)
theorem sc_form_value : FnScope ["form", "point", "number", "count"] ["form", "point"] (C8.fnScope (topS 25)) := C8.fnScope_by (by decide +kernel)
theorem sc_form_sum : FnScope ["one", "other", "left", "right"] ["one", "other"] (C8.fnScope (topS 26)) := C8.fnScope_by (by decide +kernel)
theorem sc_form_times : FnScope ["number", "form", "own"] ["number", "form"] (C8.fnScope (topS 27)) := C8.fnScope_by (by decide +kernel)
theorem sc_form_inserted : FnScope ["form", "many", "forms", "result", "number", "other"] ["form", "many", "forms"] (C8.fnScope (topS 28)) := C8.fnScope_by (by decide +kernel)
theorem sc_turned_word : FnScope ["word", "by", "at"] ["word", "by"] (C8.fnScope (topS 30)) := C8.fnScope_by (by decide +kernel)
theorem sc_stretch : FnScope ["word", "start", "size", "at"] ["word", "start", "size"] (C8.fnScope (topS 31)) := C8.fnScope_by (by decide +kernel)
theorem sc_alike_ahead : FnScope ["one", "other", "low", "high", "middle"] ["one", "other"] (C8.fnScope (topS 32)) := C8.fnScope_by (by decide +kernel)
theorem sc_alike_behind : FnScope ["one", "other"] ["one", "other"] (C8.fnScope (topS 33)) := C8.fnScope_by (by decide +kernel)
theorem sc_follows : FnScope ["word", "text"] ["word", "text"] (C8.fnScope (topS 34)) := C8.fnScope_by (by decide +kernel)
theorem sc_border_sizes : FnScope ["word", "sizes", "size", "at"] ["word"] (C8.fnScope (topS 35)) := C8.fnScope_by (by decide +kernel)
theorem sc_root_size : FnScope ["word", "step"] ["word"] (C8.fnScope (topS 36)) := C8.fnScope_by (by decide +kernel)
theorem sc_is_piece : FnScope ["many", "value"] ["many", "value"] (C8.fnScope (topS 41)) := C8.fnScope_by (by decide +kernel)
theorem sc_is_open_form : FnScope ["form"] ["form"] (C8.fnScope (topS 42)) := C8.fnScope_by (by decide +kernel)
theorem sc_is_power : FnScope ["piece"] ["piece"] (C8.fnScope (topS 43)) := C8.fnScope_by (by decide +kernel)
theorem sc_fixed_piece : FnScope ["word", "many"] ["word", "many"] (C8.fnScope (topS 44)) := C8.fnScope_by (by decide +kernel)
theorem sc_measure : FnScope ["pieces", "word", "form"] ["pieces"] (C8.fnScope (topS 45)) := C8.fnScope_by (by decide +kernel)
theorem sc_normal_pieces : FnScope ["pieces", "ready", "word", "form", "size"] ["pieces"] (C8.fnScope (topS 46)) := C8.fnScope_by (by decide +kernel)
theorem sc_put_fixed : FnScope ["ready", "word", "many"] ["ready", "word", "many"] (C8.fnScope (topS 47)) := C8.fnScope_by (by decide +kernel)
theorem sc_put_power : FnScope ["ready", "word", "form", "many", "behind", "ahead", "moved"] ["ready", "word", "form"] (C8.fnScope (topS 48)) := C8.fnScope_by (by decide +kernel)
theorem sc_without_start : FnScope ["pieces", "word", "left", "at", "own", "form"] ["pieces", "word"] (C8.fnScope (topS 49)) := C8.fnScope_by (by decide +kernel)
theorem sc_need_pieces : FnScope ["many", "pieces", "item"] ["many", "pieces"] (C8.fnScope (topS 51)) := C8.fnScope_by (by decide +kernel)
theorem sc_need_measure : FnScope ["total"] ["total"] (C8.fnScope (topS 52)) := C8.fnScope_by (by decide +kernel)
theorem sc_normal : FnScope ["many", "pieces"] ["many", "pieces"] (C8.fnScope (topS 53)) := C8.fnScope_by (by decide +kernel)
theorem sc_OpenText___init__ : FnScope ["self", "many", "pieces"] ["self", "many", "pieces"] (C8.fnScope (inClass (topS 55) 0)) := C8.fnScope_by (by decide +kernel)
theorem sc_OpenText___eq__ : FnScope ["self", "other"] ["self", "other"] (C8.fnScope (inClass (topS 55) 1)) := C8.fnScope_by (by decide +kernel)
theorem sc_OpenText_many : FnScope ["self"] ["self"] (C8.fnScope (inClass (topS 55) 2)) := C8.fnScope_by (by decide +kernel)
theorem sc_OpenText_pieces : FnScope ["self"] ["self"] (C8.fnScope (inClass (topS 55) 3)) := C8.fnScope_by (by decide +kernel)
theorem sc_need_text : FnScope ["value"] ["value"] (C8.fnScope (topS 56)) := C8.fnScope_by (by decide +kernel)
theorem sc_text_of : FnScope ["many", "pieces"] ["many", "pieces"] (C8.fnScope (topS 57)) := C8.fnScope_by (by decide +kernel)
theorem sc_counted : FnScope ["text", "point", "word", "form"] ["text", "point"] (C8.fnScope (topS 58)) := C8.fnScope_by (by decide +kernel)
theorem sc_written : FnScope ["text", "point", "total"] ["text", "point"] (C8.fnScope (topS 59)) := C8.fnScope_by (by decide +kernel)
theorem sc_word_at : FnScope ["text", "point", "word", "times"] ["text", "point"] (C8.fnScope (topS 60)) := C8.fnScope_by (by decide +kernel)
theorem sc_length : FnScope ["text", "total", "word", "form"] ["text"] (C8.fnScope (topS 61)) := C8.fnScope_by (by decide +kernel)
theorem sc_replaced : FnScope ["text", "many", "forms", "word", "form"] ["text", "many", "forms"] (C8.fnScope (topS 62)) := C8.fnScope_by (by decide +kernel)
theorem sc_need_unknown : FnScope ["text", "at"] ["text", "at"] (C8.fnScope (topS 64)) := C8.fnScope_by (by decide +kernel)
theorem sc_unit_form : FnScope ["number", "many"] ["number", "many"] (C8.fnScope (topS 65)) := C8.fnScope_by (by decide +kernel)
theorem sc_later : FnScope ["text", "at", "by", "many", "forms", "number"] ["text", "at", "by"] (C8.fnScope (topS 66)) := C8.fnScope_by (by decide +kernel)
theorem sc_earlier : FnScope ["text", "at"] ["text", "at"] (C8.fnScope (topS 67)) := C8.fnScope_by (by decide +kernel)
theorem sc_moved_back : FnScope ["text", "at", "by", "total", "rest", "word", "form"] ["text", "at", "by"] (C8.fnScope (topS 68)) := C8.fnScope_by (by decide +kernel)
theorem sc_thinned : FnScope ["text", "at", "by", "pieces", "word", "form"] ["text", "at", "by"] (C8.fnScope (topS 69)) := C8.fnScope_by (by decide +kernel)
theorem sc_need_positive : FnScope ["value"] ["value"] (C8.fnScope (topS 70)) := C8.fnScope_by (by decide +kernel)
theorem sc_first : FnScope ["text", "at", "total", "low", "high", "middle"] ["text", "at"] (C8.fnScope (topS 71)) := C8.fnScope_by (by decide +kernel)
theorem sc_law_hash : FnScope ["_law_seed", "_law_index", "_law_mixed"] ["_law_seed", "_law_index"] (C8.fnScope (topS 73)) := C8.fnScope_by (by decide +kernel)
theorem sc_law_random : FnScope ["_law_generator_here", "_law_bound", "_law_drawn", "_law_turn"] ["_law_generator_here", "_law_bound"] (C8.fnScope (topS 74)) := C8.fnScope_by (by decide +kernel)
theorem sc_law_cell : FnScope ["_law_script", "_law_index"] ["_law_script", "_law_index"] (C8.fnScope (topS 75)) := C8.fnScope_by (by decide +kernel)
theorem sc_law_generator : FnScope ["_law_script", "_law_index", "_law_seed"] ["_law_script", "_law_index"] (C8.fnScope (topS 76)) := C8.fnScope_by (by decide +kernel)
theorem sc_law_letters : FnScope ["_law_generator_here", "_law_left", "_law_turn"] ["_law_generator_here"] (C8.fnScope (topS 77)) := C8.fnScope_by (by decide +kernel)
theorem sc_law_word : FnScope ["_law_generator_here", "_law_signs", "_law_least", "_law_most", "_law_many", "_law_turn"] ["_law_generator_here", "_law_signs", "_law_least", "_law_most"] (C8.fnScope (topS 78)) := C8.fnScope_by (by decide +kernel)
theorem sc_law_form : FnScope ["_law_generator_here", "_law_many", "_law_most", "_law_turn"] ["_law_generator_here", "_law_many", "_law_most"] (C8.fnScope (topS 79)) := C8.fnScope_by (by decide +kernel)
theorem sc_law_plain : FnScope ["_law_many", "_law_number"] ["_law_many", "_law_number"] (C8.fnScope (topS 80)) := C8.fnScope_by (by decide +kernel)
theorem sc_law_value : FnScope ["_law_form_here", "_law_point_here", "_law_number", "_law_count"] ["_law_form_here", "_law_point_here"] (C8.fnScope (topS 81)) := C8.fnScope_by (by decide +kernel)
theorem sc_law_write : FnScope ["_law_pieces", "_law_point_here", "_law_word_here", "_law_form_here"] ["_law_pieces", "_law_point_here"] (C8.fnScope (topS 82)) := C8.fnScope_by (by decide +kernel)
theorem sc_law_point : FnScope ["_law_generator_here", "_law_many", "_law_most", "_law_turn"] ["_law_generator_here", "_law_many", "_law_most"] (C8.fnScope (topS 83)) := C8.fnScope_by (by decide +kernel)
theorem sc_law_piece : FnScope ["_law_generator_here", "_law_many", "_law_signs", "_law_base", "_law_most", "_law_way", "_law_turn", "_law_turned"] ["_law_generator_here", "_law_many", "_law_signs", "_law_base", "_law_most"] (C8.fnScope (topS 84)) := C8.fnScope_by (by decide +kernel)
theorem sc_law_raw : FnScope ["_law_generator_here", "_law_many", "_law_signs", "_law_count", "_law_most", "_law_found", "_law_base", "_law_turn"] ["_law_generator_here", "_law_many", "_law_signs", "_law_count", "_law_most"] (C8.fnScope (topS 85)) := C8.fnScope_by (by decide +kernel)
theorem sc_law_units : FnScope ["_law_many", "_law_at", "_law_by", "_law_found", "_law_other", "_law_place"] ["_law_many", "_law_at", "_law_by"] (C8.fnScope (topS 86)) := C8.fnScope_by (by decide +kernel)
theorem sc_law_first_right : FnScope ["_law_text", "_law_at", "_law_by", "_law_numbers", "_law_told", "_law_low", "_law_start", "_law_times"] ["_law_text", "_law_at", "_law_by", "_law_numbers"] (C8.fnScope (topS 87)) := C8.fnScope_by (by decide +kernel)
theorem sc_law_right : FnScope ["_law_generator_here", "_law_many", "_law_signs", "_law_pieces", "_law_at", "_law_by", "_law_times", "_law_text", "_law_grown", "_law_turn", "_law_point_here", "_law_far", "_law_told", "_law_powers", "_law_word_here", "_law_form_here", "_law_wide", "_law_back", "_law_step", "_law_deeper", "_law_spot", "_law_anew", "_law_again"] ["_law_generator_here"] (C8.fnScope (topS 88)) := C8.fnScope_by (by decide +kernel)
theorem sc_law : FnScope ["_law_script", "_law_long", "_law_index"] ["_law_script"] (C8.fnScope (topS 89)) := C8.fnScope_by (by decide +kernel)
structure Txt (K : PySem.W.Frag) (mg : Str → Option Value) (C : Addr) : Prop where
  k_OpenText : ClF K mg "OpenText" C
  t_OpenText : TyC K C
  f_many : NoAttr K C "_many"
  f_pieces : NoAttr K C "_pieces"
  d_is_whole : DefF K mg "is_whole" (topS 12) ["value"]
  d_is_count : DefF K mg "is_count" (topS 13) ["value"]
  d_is_within : DefF K mg "is_within" (topS 14) ["value", "low", "high"]
  d_is_lettered : DefF K mg "is_lettered" (topS 15) ["value", "most"]
  d_is_counts : DefF K mg "is_counts" (topS 16) ["value", "many"]
  d_need_count : DefF K mg "need_count" (topS 17) ["value"]
  d_need_within : DefF K mg "need_within" (topS 18) ["value", "low", "high"]
  d_need_many : DefF K mg "need_many" (topS 19) ["value"]
  d_need_point : DefF K mg "need_point" (topS 20) ["value", "many"]
  d_is_form_for : DefF K mg "is_form_for" (topS 22) ["many", "value"]
  d_is_forms : DefF K mg "is_forms" (topS 23) ["value", "size", "many"]
  d_plain_form : DefF K mg "plain_form" (topS 24) ["number", "many"]
  d_form_value : DefF K mg "form_value" (topS 25) ["form", "point"]
  d_form_sum : DefF K mg "form_sum" (topS 26) ["one", "other"]
  d_form_times : DefF K mg "form_times" (topS 27) ["number", "form"]
  d_form_inserted : DefF K mg "form_inserted" (topS 28) ["form", "many", "forms"]
  d_turned_word : DefF K mg "turned_word" (topS 30) ["word", "by"]
  d_stretch : DefF K mg "stretch" (topS 31) ["word", "start", "size"]
  d_alike_ahead : DefF K mg "alike_ahead" (topS 32) ["one", "other"]
  d_alike_behind : DefF K mg "alike_behind" (topS 33) ["one", "other"]
  d_follows : DefF K mg "follows" (topS 34) ["word", "text"]
  d_border_sizes : DefF K mg "border_sizes" (topS 35) ["word"]
  d_root_size : DefF K mg "root_size" (topS 36) ["word"]
  d_is_piece : DefF K mg "is_piece" (topS 41) ["many", "value"]
  d_is_open_form : DefF K mg "is_open_form" (topS 42) ["form"]
  d_is_power : DefF K mg "is_power" (topS 43) ["piece"]
  d_fixed_piece : DefF K mg "fixed_piece" (topS 44) ["word", "many"]
  d_measure : DefF K mg "measure" (topS 45) ["pieces"]
  d_normal_pieces : DefF K mg "normal_pieces" (topS 46) ["pieces"]
  d_put_fixed : DefF K mg "put_fixed" (topS 47) ["ready", "word", "many"]
  d_put_power : DefF K mg "put_power" (topS 48) ["ready", "word", "form"]
  d_without_start : DefF K mg "without_start" (topS 49) ["pieces", "word"]
  d_need_pieces : DefF K mg "need_pieces" (topS 51) ["many", "pieces"]
  d_need_measure : DefF K mg "need_measure" (topS 52) ["total"]
  d_normal : DefF K mg "normal" (topS 53) ["many", "pieces"]
  d_OpenText___init__ : MetF K C "__init__" "OpenText.__init__" (inClass (topS 55) 0) ["self", "many", "pieces"]
  d_OpenText___eq__ : MetF K C "__eq__" "OpenText.__eq__" (inClass (topS 55) 1) ["self", "other"]
  d_OpenText_many : MetF K C "many" "OpenText.many" (inClass (topS 55) 2) ["self"]
  d_OpenText_pieces : MetF K C "pieces" "OpenText.pieces" (inClass (topS 55) 3) ["self"]
  d_need_text : DefF K mg "need_text" (topS 56) ["value"]
  d_text_of : DefF K mg "text_of" (topS 57) ["many", "pieces"]
  d_counted : DefF K mg "counted" (topS 58) ["text", "point"]
  d_written : DefF K mg "written" (topS 59) ["text", "point"]
  d_word_at : DefF K mg "word_at" (topS 60) ["text", "point"]
  d_length : DefF K mg "length" (topS 61) ["text"]
  d_replaced : DefF K mg "replaced" (topS 62) ["text", "many", "forms"]
  d_need_unknown : DefF K mg "need_unknown" (topS 64) ["text", "at"]
  d_unit_form : DefF K mg "unit_form" (topS 65) ["number", "many"]
  d_later : DefF K mg "later" (topS 66) ["text", "at", "by"]
  d_earlier : DefF K mg "earlier" (topS 67) ["text", "at"]
  d_moved_back : DefF K mg "moved_back" (topS 68) ["text", "at", "by"]
  d_thinned : DefF K mg "thinned" (topS 69) ["text", "at", "by"]
  d_need_positive : DefF K mg "need_positive" (topS 70) ["value"]
  d_first : DefF K mg "first" (topS 71) ["text", "at"]
  d_law_hash : DefF K mg "_law_hash" (topS 73) ["_law_seed", "_law_index"]
  d_law_random : DefF K mg "_law_random" (topS 74) ["_law_generator_here", "_law_bound"]
  d_law_cell : DefF K mg "_law_cell" (topS 75) ["_law_script", "_law_index"]
  d_law_generator : DefF K mg "_law_generator" (topS 76) ["_law_script", "_law_index"]
  d_law_letters : DefF K mg "_law_letters" (topS 77) ["_law_generator_here"]
  d_law_word : DefF K mg "_law_word" (topS 78) ["_law_generator_here", "_law_signs", "_law_least", "_law_most"]
  d_law_form : DefF K mg "_law_form" (topS 79) ["_law_generator_here", "_law_many", "_law_most"]
  d_law_plain : DefF K mg "_law_plain" (topS 80) ["_law_many", "_law_number"]
  d_law_value : DefF K mg "_law_value" (topS 81) ["_law_form_here", "_law_point_here"]
  d_law_write : DefF K mg "_law_write" (topS 82) ["_law_pieces", "_law_point_here"]
  d_law_point : DefF K mg "_law_point" (topS 83) ["_law_generator_here", "_law_many", "_law_most"]
  d_law_piece : DefF K mg "_law_piece" (topS 84) ["_law_generator_here", "_law_many", "_law_signs", "_law_base", "_law_most"]
  d_law_raw : DefF K mg "_law_raw" (topS 85) ["_law_generator_here", "_law_many", "_law_signs", "_law_count", "_law_most"]
  d_law_units : DefF K mg "_law_units" (topS 86) ["_law_many", "_law_at", "_law_by"]
  d_law_first_right : DefF K mg "_law_first_right" (topS 87) ["_law_text", "_law_at", "_law_by", "_law_numbers"]
  d_law_right : DefF K mg "_law_right" (topS 88) ["_law_generator_here"]
  d_law : DefF K mg "law" (topS 89) ["_law_script"]
  m_all : mg "all" = none
  m_any : mg "any" = none
  m_bool : mg "bool" = none
  m_enumerate : mg "enumerate" = none
  m_int : mg "int" = none
  m_isinstance : mg "isinstance" = none
  m_len : mg "len" = none
  m_list : mg "list" = none
  m_max : mg "max" = none
  m_min : mg "min" = none
  m_range : mg "range" = none
  m_reversed : mg "reversed" = none
  m_str : mg "str" = none
  m_sum : mg "sum" = none
  m_tuple : mg "tuple" = none
  m_zip : mg "zip" = none
  k_MOST_LETTERS : ∃ u, mg "MOST_LETTERS" = some u ∧ RelV (.int 20000) u
  k_MOST_MEASURE : ∃ u, mg "MOST_MEASURE" = some u ∧ RelV (.int 2000) u
  k_MOST_PIECES : ∃ u, mg "MOST_PIECES" = some u ∧ RelV (.int 5000) u
  k_MOST_PIECE_LETTERS : ∃ u, mg "MOST_PIECE_LETTERS" = some u ∧ RelV (.int 2000) u
  k_MOST_UNKNOWNS : ∃ u, mg "MOST_UNKNOWNS" = some u ∧ RelV (.int 3) u
end K23

set_option linter.all false
/-! words as lists of numbers: beginnings, borders, periods, powers, roots -/
namespace WM
abbrev W := List Nat
/-! ### beginnings in common -/
def lcp : W → W → Nat
  | x :: xs, y :: ys => if x = y then lcp xs ys + 1 else 0
  | _, _ => 0
theorem lcp_le : ∀ a b : W, lcp a b ≤ a.length ∧ lcp a b ≤ b.length
  | [], b => by simp [lcp]
  | _ :: _, [] => by simp [lcp]
  | x :: xs, y :: ys => by
    have := lcp_le xs ys
    unfold lcp
    split <;> simp <;> omega
theorem lcp_take : ∀ (a b : W) (k : Nat), k ≤ lcp a b → a.take k = b.take k
  | _, _, 0, _ => by simp
  | [], b, k + 1, h => by simp [lcp] at h
  | _ :: _, [], k + 1, h => by simp [lcp] at h
  | x :: xs, y :: ys, k + 1, h => by
    unfold lcp at h
    split at h
    · rename_i e
      subst e
      rw [List.take_succ_cons, List.take_succ_cons, lcp_take xs ys k (by omega)]
    · omega
theorem le_lcp : ∀ (a b : W) (k : Nat), k ≤ a.length → k ≤ b.length → a.take k = b.take k → k ≤ lcp a b
  | _, _, 0, _, _, _ => Nat.zero_le _
  | [], b, k + 1, h, _, _ => by simp at h
  | _ :: _, [], k + 1, _, h, _ => by simp at h
  | x :: xs, y :: ys, k + 1, h1, h2, h => by
    rw [List.take_succ_cons, List.take_succ_cons] at h
    injection h with e1 e2
    subst e1
    have := le_lcp xs ys k (by simpa using h1) (by simpa using h2) e2
    unfold lcp
    rw [if_pos rfl]
    omega
theorem lcp_iff {a b : W} {k : Nat} (h1 : k ≤ a.length) (h2 : k ≤ b.length) : a.take k = b.take k ↔ k ≤ lcp a b := ⟨le_lcp a b k h1 h2, lcp_take a b k⟩

/-! ### periods and borders -/
/-- letters that stand p apart are the same -/
def Per (p : Nat) (w : W) : Prop := ∀ i, i + p < w.length → w[i]? = w[i + p]?
/-- the first b letters are the last b -/
def Bor (b : Nat) (w : W) : Prop := b ≤ w.length ∧ ∀ i, i < b → w[i]? = w[w.length - b + i]?
instance (b : Nat) (w : W) : Decidable (Bor b w) := by unfold Bor; exact inferInstance
theorem bor_per {b : Nat} {w : W} (h : Bor b w) : Per (w.length - b) w := fun i hi => by
  rw [h.2 i (by have := h.1; omega), Nat.add_comm i]
theorem per_bor {p : Nat} {w : W} (hp : p ≤ w.length) (h : Per p w) : Bor (w.length - p) w := by
  refine ⟨Nat.sub_le _ _, fun i hi => ?_⟩
  rw [h i (by omega)]
  congr 1
  omega
theorem per_zero (w : W) : Per 0 w := fun i _ => rfl
theorem per_len {p : Nat} {w : W} (h : w.length ≤ p) : Per p w := fun i hi => by omega
theorem per_take {p k : Nat} {w : W} (h : Per p w) : Per p (w.take k) := fun i hi => by
  rw [List.length_take] at hi
  rw [List.getElem?_take_of_lt (by omega), List.getElem?_take_of_lt (by omega)]
  exact h i (by omega)
theorem per_mul {p : Nat} {w : W} (h : Per p w) : ∀ (k i : Nat), i + p * k < w.length → w[i]? = w[i + p * k]?
  | 0, i, _ => by simp
  | k + 1, i, hi => by
    rw [Nat.mul_succ] at hi ⊢
    rw [per_mul h k i (by omega), h (i + p * k) (by omega)]
    congr 1
    omega
/-- Fine and Wilf's, the weak form -/
theorem per_sub {p q : Nat} {w : W} (hpq : p ≤ q) (hp : Per p w) (hq : Per q w) (hl : p + q ≤ w.length) : Per (q - p) w := fun i hi => by
  by_cases h : i + q < w.length
  · rw [hq i h]
    have := hp (i + (q - p)) (by omega)
    rw [this]
    congr 1
    omega
  · have h1 : p ≤ i := by omega
    have a := hp (i - p) (by omega)
    have b := hq (i - p) (by omega)
    rw [show i - p + p = i by omega] at a
    rw [show i - p + q = i + (q - p) by omega] at b
    rw [← a, b]
theorem fine_wilf : ∀ (n p q : Nat) (w : W), p + q ≤ n → Per p w → Per q w → p + q ≤ w.length → Per (Nat.gcd p q) w
  | 0, p, q, w, hn, hp, hq, _ => by
    have e1 : p = 0 := by omega
    have e2 : q = 0 := by omega
    subst e1 e2
    exact hp
  | n + 1, p, q, w, hn, hp, hq, hl => by
    by_cases p0 : p = 0
    · subst p0
      rw [Nat.gcd_zero_left]
      exact hq
    by_cases q0 : q = 0
    · subst q0
      rw [Nat.gcd_zero_right]
      exact hp
    by_cases h : p ≤ q
    · have := fine_wilf n p (q - p) w (by omega) hp (per_sub h hp hq hl) (by omega)
      rw [Nat.gcd_sub_self_right h] at this
      exact this
    · have := fine_wilf n (p - q) q w (by omega) (per_sub (by omega) hq hp (by omega)) hq (by omega)
      rw [Nat.gcd_sub_self_left (by omega)] at this
      exact this
theorem per_gcd {p q : Nat} {w : W} (hp : Per p w) (hq : Per q w) (hl : p + q ≤ w.length) : Per (Nat.gcd p q) w := fine_wilf _ p q w (Nat.le_refl _) hp hq hl

/-! ### the longest border -/
def lbF (w : W) : Nat → Nat
  | 0 => 0
  | b + 1 => if Bor (b + 1) w then b + 1 else lbF w b
/-- how long the longest border is, besides the word itself -/
def lb (w : W) : Nat := lbF w (w.length - 1)
theorem bor_zero (w : W) : Bor 0 w := ⟨Nat.zero_le _, fun i h => by omega⟩
theorem lbF_bor (w : W) : ∀ b, Bor (lbF w b) w ∧ lbF w b ≤ b
  | 0 => ⟨bor_zero w, Nat.le_refl _⟩
  | b + 1 => by
    unfold lbF
    split
    · rename_i h
      exact ⟨h, Nat.le_refl _⟩
    · have := lbF_bor w b
      exact ⟨this.1, by omega⟩
theorem lbF_max (w : W) : ∀ b c, c ≤ b → Bor c w → c ≤ lbF w b
  | 0, c, h, _ => by omega
  | b + 1, c, h, hc => by
    unfold lbF
    split
    · omega
    · rename_i hn
      by_cases e : c = b + 1
      · subst e
        exact absurd hc hn
      · exact lbF_max w b c (by omega) hc
theorem lb_bor (w : W) : Bor (lb w) w := (lbF_bor w _).1
theorem lb_lt {w : W} (h : w ≠ []) : lb w < w.length := by
  have := (lbF_bor w (w.length - 1)).2
  have := List.length_pos_iff.mpr h
  unfold lb
  omega
theorem lb_max {w : W} {c : Nat} (h : c < w.length) (hc : Bor c w) : c ≤ lb w := lbF_max w _ c (by omega) hc
/-- a border of a border is a border; a shorter border is one of the longer -/
theorem bor_take {w : W} {b c : Nat} (hb : Bor b w) (hc : c ≤ b) : Bor c w ↔ Bor c (w.take b) := by
  have l : (w.take b).length = b := by rw [List.length_take]; have := hb.1; omega
  constructor
  · intro h
    refine ⟨by rw [l]; exact hc, fun i hi => ?_⟩
    rw [l, List.getElem?_take_of_lt (by omega), List.getElem?_take_of_lt (by omega), h.2 i hi, hb.2 (b - c + i) (by omega)]
    congr 1
    have := hb.1
    omega
  · intro h
    refine ⟨Nat.le_trans hc hb.1, fun i hi => ?_⟩
    have := h.2 i hi
    rw [l, List.getElem?_take_of_lt (by omega), List.getElem?_take_of_lt (by omega)] at this
    rw [this, hb.2 (b - c + i) (by omega)]
    congr 1
    have := hb.1
    omega
/-- a border, one letter longer -/
theorem bor_succ {w : W} {n b : Nat} (hn : n < w.length) (hb : b < n) : Bor (b + 1) (w.take (n + 1)) ↔ Bor b (w.take n) ∧ w[b]? = w[n]? := by
  have l1 : (w.take (n + 1)).length = n + 1 := by rw [List.length_take]; omega
  have l0 : (w.take n).length = n := by rw [List.length_take]; omega
  constructor
  · intro h
    refine ⟨⟨by omega, fun i hi => ?_⟩, ?_⟩
    · have := h.2 i (by omega)
      rw [l1, List.getElem?_take_of_lt (by omega), List.getElem?_take_of_lt (by omega)] at this
      rw [l0, List.getElem?_take_of_lt (by omega), List.getElem?_take_of_lt (by omega), this]
      congr 1
      omega
    · have := h.2 b (by omega)
      rw [l1, List.getElem?_take_of_lt (by omega), List.getElem?_take_of_lt (by omega)] at this
      rw [this]
      congr 1
      omega
  · rintro ⟨h, e⟩
    refine ⟨by omega, fun i hi => ?_⟩
    rw [l1, List.getElem?_take_of_lt (by omega), List.getElem?_take_of_lt (by omega)]
    by_cases z : i < b
    · have := h.2 i z
      rw [l0, List.getElem?_take_of_lt (by omega), List.getElem?_take_of_lt (by omega)] at this
      rw [this]
      congr 1
      omega
    · have e1 : i = b := by omega
      subst e1
      rw [e]
      congr 1
      omega
/-- the walk down the borders: the state at a turn of the inner loop -/
def Cand (w : W) (n s : Nat) : Prop := s < n ∧ Bor s (w.take n) ∧ ∀ b, b < n → Bor b (w.take n) → w[b]? = w[n]? → b ≤ s
theorem cand_start {w : W} {n : Nat} (hn : n ≤ w.length) (h0 : 0 < n) : Cand w n (lb (w.take n)) := by
  have l0 : (w.take n).length = n := by rw [List.length_take]; omega
  have ne : w.take n ≠ [] := fun z => by rw [z] at l0; simp at l0; omega
  refine ⟨by have := lb_lt ne; omega, lb_bor _, fun b hb h _ => lb_max (by omega) h⟩
theorem cand_down {w : W} {n s : Nat} (hn : n ≤ w.length) (h : Cand w n s) (hs : 0 < s) (hd : w[s]? ≠ w[n]?) : Cand w n (lb (w.take s)) := by
  obtain ⟨h1, h2, h3⟩ := h
  have ls : (w.take s).length = s := by rw [List.length_take]; omega
  have ne : w.take s ≠ [] := fun z => by rw [z] at ls; simp at ls; omega
  have lt := lb_lt ne
  have tt : (w.take n).take s = w.take s := by rw [List.take_take]; congr 1; omega
  have bs : Bor (lb (w.take s)) (w.take n) := by
    rw [bor_take h2 (by omega), tt]
    exact lb_bor _
  refine ⟨by omega, bs, fun b hb hB e => ?_⟩
  have le := h3 b hb hB e
  have ne2 : b ≠ s := fun z => hd (by rw [← z]; exact e)
  have : Bor b (w.take s) := by
    rw [← tt, ← bor_take h2 (by omega)]
    exact hB
  exact lb_max (by omega) this
theorem cand_hit {w : W} {n s : Nat} (hn : n < w.length) (h : Cand w n s) (e : w[s]? = w[n]?) : lb (w.take (n + 1)) = s + 1 := by
  obtain ⟨h1, h2, h3⟩ := h
  have l1 : (w.take (n + 1)).length = n + 1 := by rw [List.length_take]; omega
  have ne : w.take (n + 1) ≠ [] := fun z => by rw [z] at l1; simp at l1
  have hB : Bor (s + 1) (w.take (n + 1)) := (bor_succ hn h1).mpr ⟨h2, e⟩
  have le := lb_max (by omega) hB
  have lt := lb_lt ne
  have lB := lb_bor (w.take (n + 1))
  generalize lb (w.take (n + 1)) = x at le lt lB ⊢
  cases x with
  | zero => omega
  | succ x =>
    obtain ⟨a, b⟩ := (bor_succ hn (by omega)).mp lB
    have := h3 x (by omega) a b
    omega
theorem cand_miss {w : W} {n : Nat} (hn : n < w.length) (h : Cand w n 0) (e : w[0]? ≠ w[n]?) : lb (w.take (n + 1)) = 0 := by
  obtain ⟨h1, h2, h3⟩ := h
  have l1 : (w.take (n + 1)).length = n + 1 := by rw [List.length_take]; omega
  have ne : w.take (n + 1) ≠ [] := fun z => by rw [z] at l1; simp at l1
  have lt := lb_lt ne
  have lB := lb_bor (w.take (n + 1))
  generalize lb (w.take (n + 1)) = x at lt lB ⊢
  cases x with
  | zero => rfl
  | succ x =>
    obtain ⟨a, b⟩ := (bor_succ hn (by omega)).mp lB
    have := h3 x (by omega) a b
    have z : x = 0 := by omega
    subst z
    exact absurd b e
theorem lb_one {w : W} : lb (w.take 1) = 0 := by
  cases w with
  | nil => simp [lb, lbF]
  | cons x r => simp [lb, lbF]

/-! ### powers and roots -/
/-- w taken k times -/
def pw (w : W) (k : Nat) : W := (List.replicate k w).flatten
theorem pw_succ (w : W) (k : Nat) : pw w (k + 1) = w ++ pw w k := by unfold pw; rw [List.replicate_succ, List.flatten_cons]
theorem pw_zero (w : W) : pw w 0 = [] := rfl
theorem pw_len (w : W) : ∀ k, (pw w k).length = w.length * k
  | 0 => by simp [pw_zero]
  | k + 1 => by rw [pw_succ, List.length_append, pw_len w k, Nat.mul_succ, Nat.add_comm]
theorem pw_add (w : W) : ∀ a b, pw w (a + b) = pw w a ++ pw w b
  | 0, b => by rw [Nat.zero_add, pw_zero, List.nil_append]
  | a + 1, b => by rw [show a + 1 + b = a + b + 1 by omega, pw_succ, pw_add w a b, pw_succ, List.append_assoc]
theorem pw_get {w : W} (h : w ≠ []) : ∀ (k i : Nat), i < w.length * k → (pw w k)[i]? = w[i % w.length]?
  | 0, i, hi => by simp at hi
  | k + 1, i, hi => by
    have n0 := List.length_pos_iff.mpr h
    rw [pw_succ]
    by_cases z : i < w.length
    · rw [List.getElem?_append_left z, Nat.mod_eq_of_lt z]
    · have hm : w.length * (k + 1) = w.length * k + w.length := Nat.mul_succ ..
      rw [List.getElem?_append_right (by omega), pw_get h k _ (by omega), Nat.mod_eq_sub_mod (show i ≥ w.length by omega)]
/-- a word with a period that divides its length is a power -/
theorem per_pw {w : W} {d : Nat} (hd : 0 < d) (hp : Per d w) (hv : d ∣ w.length) : w = pw (w.take d) (w.length / d) := by
  obtain ⟨k, hk⟩ := hv
  by_cases k0 : k = 0
  · subst k0
    rw [Nat.mul_zero] at hk
    rw [List.length_eq_zero_iff.mp hk]
    simp [pw]
  have dl : d ≤ w.length := by rw [hk]; exact Nat.le_mul_of_pos_right d (by omega)
  have lt : (w.take d).length = d := by rw [List.length_take]; omega
  have ne : w.take d ≠ [] := fun z => by rw [z] at lt; simp at lt; omega
  have ek : w.length / d = k := by rw [hk]; exact Nat.mul_div_cancel_left k hd
  rw [ek]
  refine List.ext_getElem? fun i => ?_
  by_cases hi : i < w.length
  · rw [pw_get ne k i (by rw [lt, ← hk]; exact hi), lt, List.getElem?_take_of_lt (Nat.mod_lt i hd)]
    have := per_mul hp (i / d) (i % d) (by rw [Nat.mod_add_div]; exact hi)
    rw [this, Nat.mod_add_div]
  · rw [List.getElem?_eq_none (by omega), List.getElem?_eq_none (by rw [pw_len, lt, ← hk]; omega)]
theorem pw_per {u : W} (h : u ≠ []) (k : Nat) : Per u.length (pw u k) := fun i hi => by
  rw [pw_len] at hi
  rw [pw_get h k i (by omega), pw_get h k _ hi, Nat.add_mod_right]
/-- not empty, and no shorter word taken several times -/
def Prim (w : W) : Prop := w ≠ [] ∧ ∀ d, 0 < d → d ∣ w.length → Per d w → d = w.length
theorem prim_pw {w u : W} {k : Nat} (h : Prim w) (e : w = pw u k) : k = 1 ∧ u = w := by
  have une : u ≠ [] := fun z => by
    subst z
    apply h.1
    rw [e]
    simp [pw]
  have l : w.length = u.length * k := by rw [e, pw_len]
  have := h.2 u.length (List.length_pos_iff.mpr une) ⟨k, l⟩ (by rw [e]; exact pw_per une k)
  have n0 := List.length_pos_iff.mpr une
  have k1 : k = 1 := by
    rw [this] at l
    have : w.length * 1 = w.length * k := by omega
    exact (Nat.eq_of_mul_eq_mul_left (by omega) this).symm
  subst k1
  exact ⟨rfl, by rw [e, pw_succ, pw_zero, List.append_nil]⟩
/-- the root's length, as the program finds it -/
def rootN (w : W) : Nat := if w.length % (w.length - lb w) = 0 then w.length - lb w else w.length
theorem rootN_dvd (w : W) : rootN w ∣ w.length := by
  unfold rootN
  split
  · rename_i h
    exact Nat.dvd_of_mod_eq_zero h
  · exact Nat.dvd_refl _
theorem rootN_pos {w : W} (h : w ≠ []) : 0 < rootN w := by
  have := lb_lt h
  have := List.length_pos_iff.mpr h
  unfold rootN
  split <;> omega
theorem rootN_le {w : W} (h : w ≠ []) : rootN w ≤ w.length := Nat.le_of_dvd (List.length_pos_iff.mpr h) (rootN_dvd w)
theorem rootN_per (w : W) : Per (rootN w) w := by
  unfold rootN
  split
  · exact bor_per (lb_bor w)
  · exact per_len (Nat.le_refl _)
/-- no period is less than the program's step -/
theorem step_least {w : W} {p : Nat} (hp : 0 < p) (hl : p ≤ w.length) (h : Per p w) : w.length - lb w ≤ p := by
  have := lb_max (c := w.length - p) (by omega) (per_bor hl h)
  omega
/-- a period of the word that divides its length is a multiple of the root's -/
theorem root_div {w : W} (hw : w ≠ []) {d : Nat} (hd : 0 < d) (hv : d ∣ w.length) (h : Per d w) : rootN w ∣ d := by
  have n0 := List.length_pos_iff.mpr hw
  have dl := Nat.le_of_dvd n0 hv
  have lt := lb_lt hw
  have s := step_least hd dl h
  by_cases e : d = w.length
  · rw [e]
    exact rootN_dvd w
  · have two : d + d ≤ w.length := by
      obtain ⟨k, hk⟩ := hv
      have : k ≠ 0 := fun z => by subst z; omega
      have : k ≠ 1 := fun z => by subst z; omega
      have : d * 2 ≤ d * k := Nat.mul_le_mul_left d (by omega)
      omega
    have g := per_gcd (bor_per (lb_bor w)) h (by omega)
    have gp : 0 < Nat.gcd (w.length - lb w) d := Nat.gcd_pos_of_pos_right _ hd
    have g1 := step_least gp (Nat.le_trans (Nat.gcd_le_right _ hd) dl) g
    have g2 : Nat.gcd (w.length - lb w) d ∣ w.length - lb w := Nat.gcd_dvd_left _ _
    have g3 : Nat.gcd (w.length - lb w) d = w.length - lb w := Nat.le_antisymm (Nat.le_of_dvd (by omega) g2) g1
    have g4 : w.length - lb w ∣ d := by rw [← g3]; exact Nat.gcd_dvd_right _ _
    have : w.length % (w.length - lb w) = 0 := Nat.mod_eq_zero_of_dvd (Nat.dvd_trans g4 hv)
    unfold rootN
    rw [if_pos this]
    exact g4
theorem root_prim {w : W} (hw : w ≠ []) : Prim (w.take (rootN w)) := by
  have r0 := rootN_pos hw
  have rl := rootN_le hw
  have l : (w.take (rootN w)).length = rootN w := by rw [List.length_take]; omega
  refine ⟨fun z => by rw [z] at l; simp at l; omega, fun d hd hv h => ?_⟩
  rw [l] at hv ⊢
  -- a period of the root that divides it is one of the word
  have hw' : Per d w := fun i hi => by
    have mul : ∀ j, j < w.length → w[j]? = w[j % rootN w]? := fun j hj => by
      have := per_mul (rootN_per w) (j / rootN w) (j % rootN w) (by rw [Nat.mod_add_div]; exact hj)
      rw [Nat.mod_add_div] at this
      exact this.symm
    have inner : ∀ j, j < rootN w → w[j]? = w[j % d]? := fun j hj => by
      have := per_mul h (j / d) (j % d) (by rw [Nat.mod_add_div, l]; exact hj)
      rw [Nat.mod_add_div, List.getElem?_take_of_lt hj, List.getElem?_take_of_lt (by have := Nat.mod_le j d; omega)] at this
      exact this.symm
    rw [mul i (by omega), mul (i + d) hi, inner _ (Nat.mod_lt _ r0), inner ((i + d) % rootN w) (Nat.mod_lt _ r0)]
    congr 1
    rw [Nat.mod_mod_of_dvd _ hv, Nat.mod_mod_of_dvd _ hv, Nat.add_mod_right]
  exact Nat.dvd_antisymm hv (root_div hw hd (Nat.dvd_trans hv (rootN_dvd w)) hw')
theorem root_pw {w : W} (hw : w ≠ []) : w = pw (w.take (rootN w)) (w.length / rootN w) := per_pw (rootN_pos hw) (rootN_per w) (rootN_dvd w)
end WM

set_option linter.all false
set_option maxRecDepth 100000
namespace NM
open WM
/-! ### the last letters of a word taken without end; rotations -/
theorem mod_of {a b L x y : Nat} (h : a + L * x = b + L * y) : a % L = b % L := by
  rw [← Nat.add_mul_mod_self_left a L x, h, Nat.add_mul_mod_self_left]
def rotR (u : W) (k : Nat) : W := u.drop (u.length - k % u.length) ++ u.take (u.length - k % u.length)
def tailE (u : W) (k : Nat) : W := u.drop (u.length - k % u.length) ++ pw u (k / u.length)
theorem tailE_len {u : W} (h : u ≠ []) (k : Nat) : (tailE u k).length = k := by
  have n0 := List.length_pos_iff.mpr h
  have := Nat.mod_lt k n0
  have := Nat.mod_add_div k u.length
  unfold tailE
  rw [List.length_append, List.length_drop, pw_len]
  omega
theorem tailE_get {u : W} (h : u ≠ []) {k i : Nat} (hi : i < k) : (tailE u k)[i]? = u[(i + (u.length - k % u.length)) % u.length]? := by
  have n0 := List.length_pos_iff.mpr h
  have hm := Nat.mod_lt k n0
  have hd := Nat.mod_add_div k u.length
  unfold tailE
  by_cases z : i < k % u.length
  · rw [List.getElem?_append_left (by rw [List.length_drop]; omega), List.getElem?_drop, Nat.mod_eq_of_lt (show i + (u.length - k % u.length) < u.length by omega), Nat.add_comm]
  · rw [List.getElem?_append_right (by rw [List.length_drop]; omega), List.length_drop, pw_get h _ _ (by omega)]
    congr 1
    exact mod_of (x := 1) (y := 0) (by omega)
theorem tailE_drop {u : W} (h : u ≠ []) {n k : Nat} (hk : k ≤ n) : (tailE u n).drop (n - k) = tailE u k := by
  have n0 := List.length_pos_iff.mpr h
  refine List.ext_getElem? fun i => ?_
  by_cases hi : i < k
  · rw [List.getElem?_drop, tailE_get h (by omega), tailE_get h hi]
    congr 1
    have h1 := Nat.mod_add_div n u.length
    have h2 := Nat.mod_add_div k u.length
    have h3 := Nat.mod_lt n n0
    have h4 := Nat.mod_lt k n0
    exact mod_of (x := k / u.length) (y := n / u.length) (by omega)
  · rw [List.getElem?_eq_none (by rw [List.length_drop, tailE_len h]; omega), List.getElem?_eq_none (by rw [tailE_len h]; omega)]
theorem pw_comm (p s : W) : ∀ j, pw (s ++ p) j ++ s = s ++ pw (p ++ s) j
  | 0 => by simp [pw]
  | j + 1 => by
    rw [pw_succ, pw_succ, List.append_assoc, pw_comm p s j]
    simp [List.append_assoc]
theorem rotR_split (u : W) (k : Nat) : rotR u k = u.drop (u.length - k % u.length) ++ u.take (u.length - k % u.length) := rfl
theorem rotR_len (u : W) (k : Nat) : (rotR u k).length = u.length := by
  unfold rotR
  rw [List.length_append, List.length_drop, List.length_take]
  omega
/-- what is moved behind a power, and the power turned -/
theorem move_pw (u : W) (k j : Nat) : pw (rotR u k) j ++ tailE u k = tailE u k ++ pw u j := by
  have e : u.take (u.length - k % u.length) ++ u.drop (u.length - k % u.length) = u := List.take_append_drop _ _
  unfold tailE rotR
  rw [← List.append_assoc, pw_comm, e, List.append_assoc, ← pw_add, List.append_assoc, ← pw_add, Nat.add_comm]
theorem rotR_get {u : W} (h : u ≠ []) (k : Nat) {i : Nat} (hi : i < u.length) : (rotR u k)[i]? = u[(i + (u.length - k % u.length)) % u.length]? := by
  have n0 := List.length_pos_iff.mpr h
  have hm := Nat.mod_lt k n0
  unfold rotR
  by_cases z : i < k % u.length
  · rw [List.getElem?_append_left (by rw [List.length_drop]; omega), List.getElem?_drop, Nat.mod_eq_of_lt (show i + (u.length - k % u.length) < u.length by omega), Nat.add_comm]
  · rw [List.getElem?_append_right (by rw [List.length_drop]; omega), List.length_drop, List.getElem?_take_of_lt (by omega)]
    congr 1
    rw [show i - (u.length - (u.length - k % u.length)) = i - k % u.length by omega]
    have := mod_of (a := i + (u.length - k % u.length)) (b := i - k % u.length) (L := u.length) (x := 0) (y := 1) (by omega)
    rw [this, Nat.mod_eq_of_lt (show i - k % u.length < u.length by omega)]
theorem rotR_ne {u : W} (h : u ≠ []) (k : Nat) : rotR u k ≠ [] := fun z => by
  have := rotR_len u k
  rw [z] at this
  exact h (List.length_eq_zero_iff.mp this.symm)
theorem rotR_zero (u : W) : rotR u 0 = u := by
  unfold rotR
  simp
theorem last_get {w : W} (h : w ≠ []) : w.getLast? = w[w.length - 1]? := List.getLast?_eq_getElem? ..
/-- the last letter of the turned word is the letter ahead of what was moved -/
theorem rotR_last {u : W} (h : u ≠ []) {n k : Nat} (hk : k < n) : (rotR u k).getLast? = (tailE u n)[n - k - 1]? := by
  have n0 := List.length_pos_iff.mpr h
  rw [last_get (rotR_ne h k), rotR_len, rotR_get h k (by omega), tailE_get h (by omega)]
  congr 1
  have h1 := Nat.mod_add_div n u.length
  have h2 := Nat.mod_add_div k u.length
  have h3 := Nat.mod_lt n n0
  have h4 := Nat.mod_lt k n0
  exact mod_of (x := n / u.length) (y := k / u.length + 1) (by rw [Nat.mul_add]; omega)
theorem per_at {d : Nat} {w : W} (hd : 0 < d) (h : Per d w) {i : Nat} (hi : i < w.length) : w[i]? = w[i % d]? := by
  have := per_mul h (i / d) (i % d) (by rw [Nat.mod_add_div]; exact hi)
  rw [Nat.mod_add_div] at this
  exact this.symm
theorem prim_rotR {u : W} (h : Prim u) (k : Nat) : Prim (rotR u k) := by
  have ne := h.1
  have n0 := List.length_pos_iff.mpr ne
  refine ⟨rotR_ne ne k, fun d hd hv hp => ?_⟩
  rw [rotR_len] at hv ⊢
  refine h.2 d hd hv fun i hi => ?_
  -- letter i of u stands in the turned word at the place i + k
  have at_ : ∀ j, j < u.length → u[j]? = (rotR u k)[(j + k) % u.length]? := fun j hj => by
    rw [rotR_get ne k (Nat.mod_lt _ n0)]
    congr 1
    have h1 := Nat.mod_add_div (j + k) u.length
    have h2 := Nat.mod_add_div k u.length
    have h4 := Nat.mod_lt k n0
    have := mod_of (a := (j + k) % u.length + (u.length - k % u.length)) (b := j) (L := u.length) (x := (j + k) / u.length) (y := k / u.length + 1) (by rw [Nat.mul_add]; omega)
    rw [this, Nat.mod_eq_of_lt hj]
  have l := rotR_len u k
  rw [at_ i (by omega), at_ (i + d) hi, per_at hd hp (by rw [l]; exact Nat.mod_lt _ n0), per_at hd hp (i := (i + d + k) % u.length) (by rw [l]; exact Nat.mod_lt _ n0)]
  congr 1
  rw [Nat.mod_mod_of_dvd _ hv, Nat.mod_mod_of_dvd _ hv, show i + d + k = i + k + d by omega, Nat.add_mod_right]
/-! ### how many letters are moved -/
def movedE (ahead u : W) : Nat := lcp ahead.reverse (tailE u ahead.length).reverse
theorem movedE_le (ahead u : W) : movedE ahead u ≤ ahead.length := by
  have := (lcp_le ahead.reverse (tailE u ahead.length).reverse).1
  rw [List.length_reverse] at this
  exact this
theorem moved_drop {ahead u : W} (h : u ≠ []) : ahead.drop (ahead.length - movedE ahead u) = tailE u (movedE ahead u) := by
  have hle := movedE_le ahead u
  have e := lcp_take ahead.reverse (tailE u ahead.length).reverse _ (Nat.le_refl _)
  rw [List.take_reverse, List.take_reverse] at e
  have e2 := List.reverse_inj.mp e
  rw [tailE_len h] at e2
  rw [← tailE_drop h hle]
  exact e2
theorem lcp_next : ∀ (a b : W), lcp a b < a.length → lcp a b < b.length → a[lcp a b]? ≠ b[lcp a b]?
  | [], b, h, _ => by simp at h
  | _ :: _, [], _, h => by simp at h
  | x :: xs, y :: ys, h1, h2 => by
    unfold lcp at h1 h2 ⊢
    by_cases e : x = y
    · rw [if_pos e] at h1 h2 ⊢
      rw [List.getElem?_cons_succ, List.getElem?_cons_succ]
      exact lcp_next xs ys (by simpa using h1) (by simpa using h2)
    · rw [if_neg e]
      simp [e]
theorem moved_next {ahead u : W} (h : u ≠ []) (hk : movedE ahead u < ahead.length) : (ahead.take (ahead.length - movedE ahead u)).getLast? ≠ (rotR u (movedE ahead u)).getLast? := by
  rw [rotR_last h hk, List.getLast?_eq_getElem?, List.length_take, Nat.min_eq_left (by omega), List.getElem?_take_of_lt (by omega)]
  have := lcp_next ahead.reverse (tailE u ahead.length).reverse (by rw [List.length_reverse]; exact hk) (by rw [List.length_reverse, tailE_len h]; exact hk)
  rw [List.getElem?_reverse (by exact hk), List.getElem?_reverse (by rw [tailE_len h]; exact hk), tailE_len h] at this
  have e : ahead.length - movedE ahead u - 1 = ahead.length - 1 - movedE ahead u := by omega
  rw [e]
  exact this
theorem moved_zero {ahead u : W} (h : u ≠ []) (ha : ahead ≠ []) (hl : ahead.getLast? ≠ u.getLast?) : movedE ahead u = 0 := by
  have n0 := List.length_pos_iff.mpr ha
  have u0 := List.length_pos_iff.mpr h
  by_cases z : movedE ahead u = 0
  · exact z
  exfalso
  apply hl
  have e := moved_drop (ahead := ahead) h
  have hle := movedE_le ahead u
  rw [List.getLast?_eq_getElem?, List.getLast?_eq_getElem?]
  have h1 : (ahead.drop (ahead.length - movedE ahead u))[movedE ahead u - 1]? = (tailE u (movedE ahead u))[movedE ahead u - 1]? := by rw [e]
  rw [List.getElem?_drop, tailE_get h (by omega)] at h1
  rw [show ahead.length - 1 = ahead.length - movedE ahead u + (movedE ahead u - 1) by omega, h1]
  congr 1
  have h2 := Nat.mod_add_div (movedE ahead u) u.length
  have h4 := Nat.mod_lt (movedE ahead u) u0
  have := mod_of (a := movedE ahead u - 1 + (u.length - movedE ahead u % u.length)) (b := u.length - 1) (L := u.length) (x := 0) (y := movedE ahead u / u.length) (by omega)
  rw [this, Nat.mod_eq_of_lt (show u.length - 1 < u.length by omega)]
end NM

set_option linter.all false
set_option maxRecDepth 100000
/-! normal lists of pieces: the program's steps as functions, and what they keep -/
namespace NM
open WM
abbrev F := List Nat
abbrev Pn := W × F
def isOpen (f : F) : Bool := f.tail.any fun x => decide (x ≠ 0)
def isPow (p : Pn) : Bool := decide (p.2.headD 0 = 0)
def one1 (m : Nat) : F := 1 :: List.replicate m 0
def fixP (w : W) (m : Nat) : Pn := (w, one1 m)
def addF (f g : F) : F := List.zipWith (fun x y => x + y) f g
def timesF (k : Nat) (f : F) : F := f.map fun x => k * x
def joinF (acc : List Pn) (w : W) (m : Nat) : List Pn :=
  match acc.getLast? with
  | some q => if isPow q then (if w = [] then acc else acc ++ [fixP w m]) else (if q.1 ++ w = [] then acc.dropLast else acc.dropLast ++ [fixP (q.1 ++ w) m])
  | none => if w = [] then acc else acc ++ [fixP w m]
/-- a power, behind what is no fixed piece -/
def pushP (acc : List Pn) (u : W) (f : F) : List Pn :=
  match acc.getLast? with
  | some q => if isPow q ∧ q.1 = u then acc.dropLast ++ [(u, addF q.2 f)] else acc ++ [(u, f)]
  | none => acc ++ [(u, f)]
def putP (acc : List Pn) (u : W) (f : F) : List Pn :=
  match acc.getLast? with
  | some q => if isPow q then joinF (pushP acc u f) [] (f.length - 1)
    else joinF (pushP (joinF acc.dropLast (q.1.take (q.1.length - movedE q.1 u)) (f.length - 1)) (rotR u (movedE q.1 u)) f) (q.1.drop (q.1.length - movedE q.1 u)) (f.length - 1)
  | none => joinF (pushP acc u f) [] (f.length - 1)
def stepA (acc : List Pn) (p : Pn) : List Pn := if p.1 ≠ [] ∧ isOpen p.2 then putP acc (p.1.take (rootN p.1)) (timesF (p.1.length / rootN p.1) (0 :: p.2.tail)) else acc
def stepB (acc : List Pn) (p : Pn) : List Pn := if p.1 ≠ [] ∧ p.2.headD 0 ≠ 0 then joinF acc (pw p.1 (p.2.headD 0)) (p.2.length - 1) else acc
def stepN (acc : List Pn) (p : Pn) : List Pn := stepB (stepA acc p) p
def normL (ps : List Pn) : List Pn := ps.foldl stepN []

/-! ### what is written at a point -/
def dot : List Nat → List Nat → Nat
  | x :: xs, y :: ys => x * y + dot xs ys
  | _, _ => 0
def valF (f : F) (pt : List Nat) : Nat := f.headD 0 + dot f.tail pt
def wrt (pt : List Nat) (p : Pn) : W := pw p.1 (valF p.2 pt)
def wr (pt : List Nat) : List Pn → W
  | [] => []
  | p :: r => wrt pt p ++ wr pt r
theorem wr_app (pt : List Nat) : ∀ a b, wr pt (a ++ b) = wr pt a ++ wr pt b
  | [], b => rfl
  | p :: r, b => by rw [List.cons_append, wr, wr, wr_app pt r b, List.append_assoc]
theorem wr_one (pt : List Nat) (p : Pn) : wr pt [p] = wrt pt p := by rw [wr, wr, List.append_nil]
theorem dot_zero : ∀ (m : Nat) (pt : List Nat), dot (List.replicate m 0) pt = 0
  | 0, _ => by simp [dot]
  | m + 1, [] => by simp [dot, List.replicate_succ]
  | m + 1, y :: ys => by rw [List.replicate_succ, dot, dot_zero m ys]; simp
theorem val_one (m : Nat) (pt : List Nat) : valF (one1 m) pt = 1 := by
  unfold valF one1
  simp [dot_zero]
theorem pw_one (w : W) : pw w 1 = w := by rw [pw_succ, pw_zero, List.append_nil]
theorem wrt_fix (pt : List Nat) (w : W) (m : Nat) : wrt pt (fixP w m) = w := by
  unfold wrt fixP
  rw [val_one, pw_one]
theorem last_split {α : Type} {l : List α} {q : α} (h : l.getLast? = some q) : l = l.dropLast ++ [q] := by
  obtain ⟨ne, e⟩ := List.getLast?_eq_some_iff.mp h
  subst e
  simp
theorem dot_add : ∀ (f g pt : List Nat), f.length = g.length → dot (List.zipWith (fun x y => x + y) f g) pt = dot f pt + dot g pt
  | [], [], _, _ => by simp [dot]
  | _ :: _, [], _, h => by simp at h
  | [], _ :: _, _, h => by simp at h
  | x :: f, y :: g, [], _ => by simp [dot]
  | x :: f, y :: g, z :: pt, h => by
    rw [List.zipWith_cons_cons, dot, dot, dot, dot_add f g pt (by simpa using h), Nat.add_mul]
    omega
theorem val_add {f g : F} (pt : List Nat) (h : f.length = g.length) : valF (addF f g) pt = valF f pt + valF g pt := by
  cases f with
  | nil =>
    cases g with
    | nil => simp [valF, addF, dot]
    | cons _ _ => simp at h
  | cons x f =>
    cases g with
    | nil => simp at h
    | cons y g =>
      unfold valF addF
      rw [List.zipWith_cons_cons]
      simp only [List.headD_cons, List.tail_cons]
      rw [dot_add f g pt (by simpa using h)]
      omega
theorem dot_times (k : Nat) : ∀ (f pt : List Nat), dot (f.map fun x => k * x) pt = k * dot f pt
  | [], _ => by simp [dot]
  | x :: f, [] => by simp [dot]
  | x :: f, y :: pt => by rw [List.map_cons, dot, dot, dot_times k f pt, Nat.mul_add, Nat.mul_assoc]
theorem val_times (k : Nat) (f : F) (pt : List Nat) : valF (timesF k f) pt = k * valF f pt := by
  cases f with
  | nil => simp [valF, timesF, dot]
  | cons x f =>
    unfold valF timesF
    rw [List.map_cons]
    simp only [List.headD_cons, List.tail_cons]
    rw [dot_times, Nat.mul_add]
/-- forms as they stand in a list for m unknowns -/
def LenF (m : Nat) (ps : List Pn) : Prop := ∀ p ∈ ps, p.2.length = m + 1
/-- the fixed pieces have the form of one -/
def FixOk (m : Nat) (ps : List Pn) : Prop := ∀ p ∈ ps, isPow p = false → p.2 = one1 m
theorem isPow_fix (w : W) (m : Nat) : isPow (fixP w m) = false := rfl
theorem wr_joinF {acc : List Pn} {m : Nat} (h : FixOk m acc) (w : W) (pt : List Nat) : wr pt (joinF acc w m) = wr pt acc ++ w := by
  unfold joinF
  split
  · next q hq =>
    have e := last_split hq
    have mem : q ∈ acc := List.mem_of_getLast? hq
    split
    · split
      · next z => rw [z, List.append_nil]
      · rw [wr_app, wr_one, wrt_fix]
    · next np =>
      have f1 := h q mem (by simpa using np)
      have wq : wrt pt q = q.1 := by unfold wrt; rw [f1, val_one, pw_one]
      have ew : wr pt acc = wr pt acc.dropLast ++ q.1 := by
        conv => lhs; rw [e]
        rw [wr_app, wr_one, wq]
      split
      · next z =>
        rw [ew]
        have z1 := (List.append_eq_nil_iff.mp z).1
        have z2 := (List.append_eq_nil_iff.mp z).2
        rw [z1, z2, List.append_nil, List.append_nil]
      · rw [wr_app, wr_one, wrt_fix, ew, List.append_assoc]
  · split
    · next z => rw [z, List.append_nil]
    · rw [wr_app, wr_one, wrt_fix]
theorem wr_pushP {acc : List Pn} {m : Nat} (h : LenF m acc) {u : W} {f : F} (hf : f.length = m + 1) (pt : List Nat) : wr pt (pushP acc u f) = wr pt acc ++ wrt pt (u, f) := by
  unfold pushP
  split
  · next q hq =>
    have e := last_split hq
    have mem : q ∈ acc := List.mem_of_getLast? hq
    split
    · next z =>
      have ew : wr pt acc = wr pt acc.dropLast ++ wrt pt q := by
        conv => lhs; rw [e]
        rw [wr_app, wr_one]
      rw [wr_app, wr_one, ew, List.append_assoc]
      congr 1
      show pw u (valF (addF q.2 f) pt) = pw q.1 (valF q.2 pt) ++ pw u (valF f pt)
      rw [val_add pt (by rw [h q mem, hf]), pw_add, z.2]
    · rw [wr_app, wr_one]
  · rw [wr_app, wr_one]

/-! ### the fold's facts -/
theorem get_dropLast {α : Type} {l : List α} {i : Nat} {x : α} (h : l.dropLast[i]? = some x) : l[i]? = some x := by
  rw [List.getElem?_dropLast] at h
  split at h
  · exact h
  · cases h
theorem mem_dropLast {α : Type} {l : List α} {x : α} (h : x ∈ l.dropLast) : x ∈ l := List.dropLast_subset _ h
structure NormP (m : Nat) (p : Pn) : Prop where
  ne : p.1 ≠ []
  len : p.2.length = m + 1
  fix : isPow p = false → p.2 = one1 m
  pow : isPow p = true → Prim p.1 ∧ isOpen p.2 = true
structure Adj (p q : Pn) : Prop where
  fix : isPow p = false → isPow q = true ∧ p.1.getLast? ≠ q.1.getLast?
  pow : isPow p = true → isPow q = true → p.1 ≠ q.1
structure Nm (m : Nat) (ps : List Pn) : Prop where
  all : ∀ p ∈ ps, NormP m p
  adj : ∀ i p q, ps[i]? = some p → ps[i + 1]? = some q → Adj p q
theorem Nm.nil {m : Nat} : Nm m [] := ⟨fun p h => absurd h List.not_mem_nil, fun i p q h => by simp at h⟩
theorem Nm.init {m : Nat} {l : List Pn} (h : Nm m l) : Nm m l.dropLast :=
  ⟨fun p hp => h.all p (mem_dropLast hp), fun i p q hp hq => h.adj i p q (get_dropLast hp) (get_dropLast hq)⟩
theorem Nm.snoc {m : Nat} {l : List Pn} {p : Pn} (h : Nm m l) (hp : NormP m p) (ha : ∀ q, l.getLast? = some q → Adj q p) : Nm m (l ++ [p]) := by
  refine ⟨fun q hq => ?_, fun i a b hi hj => ?_⟩
  · rcases List.mem_append.mp hq with z | z
    · exact h.all q z
    · rw [List.mem_singleton.mp z]
      exact hp
  · by_cases z : i + 1 < l.length
    · rw [List.getElem?_append_left (by omega)] at hi
      rw [List.getElem?_append_left z] at hj
      exact h.adj i a b hi hj
    · by_cases y : i + 1 = l.length
      · rw [List.getElem?_append_left (by omega)] at hi
        rw [List.getElem?_append_right (by omega), y, Nat.sub_self] at hj
        cases hj
        refine ha a ?_
        rw [List.getLast?_eq_getElem?, ← hi]
        congr 1
        omega
      · rw [List.getElem?_append_right (by omega), List.getElem?_eq_none (by simp; omega)] at hj
        cases hj
/-- the piece ahead of the last one -/
theorem Nm.pre {m : Nat} {l : List Pn} {p q : Pn} (h : Nm m l) (hp : l.getLast? = some p) (hq : l.dropLast.getLast? = some q) : Adj q p := by
  rw [List.getLast?_eq_getElem?] at hp hq
  have hq' := get_dropLast hq
  rw [List.length_dropLast] at hq'
  have hl := (List.getElem?_eq_some_iff.mp hq).1
  rw [List.length_dropLast] at hl
  refine h.adj (l.length - 1 - 1) q p hq' ?_
  rw [← hp]
  congr 1
  omega
theorem fixP_norm {m : Nat} {w : W} (h : w ≠ []) : NormP m (fixP w m) := ⟨h, by simp [fixP, one1], fun _ => rfl, fun z => by cases z⟩
/-- a fixed word behind a normal list -/
theorem nm_joinF {m : Nat} {acc : List Pn} (h : Nm m acc) (w : W) : Nm m (joinF acc w m) := by
  unfold joinF
  split
  · next q hq =>
    split
    · next pq =>
      split
      · exact h
      · next ne =>
        refine h.snoc (fixP_norm ne) fun q' hq' => ?_
        rw [hq] at hq'
        cases hq'
        exact ⟨fun z => (by rw [pq] at z; cases z), fun _ z => (by cases z)⟩
    · next pq =>
      split
      · exact h.init
      · next ne =>
        refine h.init.snoc (fixP_norm ne) fun q' hq' => ?_
        have a := h.pre hq hq'
        have pq' : isPow q = false := by simpa using pq
        exact ⟨fun z => (by have := (a.fix z).1; rw [pq'] at this; cases this), fun _ z => (by cases z)⟩
  · next hn =>
    split
    · exact h
    · next ne =>
      refine h.snoc (fixP_norm ne) fun q' hq' => ?_
      rw [hn] at hq'
      cases hq'
theorem isOpen_iff {f : F} : isOpen f = true ↔ ∃ x ∈ f.tail, x ≠ 0 := by
  unfold isOpen
  rw [List.any_eq_true]
  constructor
  · rintro ⟨x, hx, h⟩
    exact ⟨x, hx, by simpa using h⟩
  · rintro ⟨x, hx, h⟩
    exact ⟨x, hx, by simpa using h⟩
theorem open_add {f g : F} (hl : f.length = g.length) (h : isOpen g = true) : isOpen (addF f g) = true := by
  obtain ⟨x, hx, h0⟩ := isOpen_iff.mp h
  refine isOpen_iff.mpr ?_
  cases f with
  | nil =>
    cases g with
    | nil => cases hx
    | cons _ _ => simp at hl
  | cons a f =>
    cases g with
    | nil => simp at hl
    | cons b g =>
      obtain ⟨i, hi⟩ := List.getElem?_of_mem (show x ∈ g from hx)
      have hi2 := (List.getElem?_eq_some_iff.mp hi).1
      have hf : i < f.length := by simp at hl; omega
      refine ⟨f[i] + x, ?_, by omega⟩
      refine List.mem_of_getElem? (i := i) ?_
      show (List.zipWith (fun x y => x + y) f g)[i]? = _
      rw [List.getElem?_zipWith, List.getElem?_eq_getElem hf, hi]
theorem len_add {f g : F} (hl : f.length = g.length) : (addF f g).length = g.length := by
  unfold addF
  rw [List.length_zipWith]
  omega
theorem head_add {f g : F} (hl : f.length = g.length) (h1 : f.headD 0 = 0) (h2 : g.headD 0 = 0) : (addF f g).headD 0 = 0 := by
  cases f with
  | nil => simp [addF]
  | cons a f =>
    cases g with
    | nil => simp at hl
    | cons b g =>
      simp only [List.headD_cons] at h1 h2
      show a + b = 0
      omega
theorem pow_norm {m : Nat} {u : W} {f : F} (hu : Prim u) (hl : f.length = m + 1) (h0 : f.headD 0 = 0) (ho : isOpen f = true) : NormP m (u, f) ∧ isPow (u, f) = true := by
  have e : isPow (u, f) = true := decide_eq_true h0
  exact ⟨⟨hu.1, hl, fun z => (by rw [e] at z; cases z), fun _ => ⟨hu, ho⟩⟩, e⟩
/-- a power behind what does not end with its last letter -/
theorem nm_pushP {m : Nat} {acc : List Pn} (h : Nm m acc) {u : W} {f : F} (hu : Prim u) (hl : f.length = m + 1) (h0 : f.headD 0 = 0) (ho : isOpen f = true)
    (hx : ∀ q, acc.getLast? = some q → isPow q = false → q.1.getLast? ≠ u.getLast?) : Nm m (pushP acc u f) ∧ ∃ g, (pushP acc u f).getLast? = some (u, g) ∧ isPow (u, g) = true := by
  obtain ⟨np, pp⟩ := pow_norm hu hl h0 ho
  unfold pushP
  split
  · next q hq =>
    have mq := h.all q (List.mem_of_getLast? hq)
    split
    · next z =>
      obtain ⟨z1, z2⟩ := z
      have lq : q.2.length = f.length := by rw [mq.len, hl]
      have hq0 : q.2.headD 0 = 0 := of_decide_eq_true z1
      obtain ⟨np2, pp2⟩ := pow_norm (m := m) (f := addF q.2 f) hu (by rw [len_add lq, hl]) (head_add lq hq0 h0) (open_add lq ho)
      refine ⟨h.init.snoc np2 fun q' hq' => ?_, _, by simp, pp2⟩
      have a := h.pre hq hq'
      exact ⟨fun y => ⟨pp2, by have := (a.fix y).2; rw [z2] at this; exact this⟩, fun y _ => by have := a.pow y z1; rw [z2] at this; exact this⟩
    · next z =>
      refine ⟨h.snoc np fun q' hq' => ?_, _, by simp, pp⟩
      rw [hq] at hq'
      cases hq'
      exact ⟨fun y => ⟨pp, hx q hq y⟩, fun y _ e => z ⟨y, e⟩⟩
  · next hn =>
    refine ⟨h.snoc np fun q' hq' => ?_, _, by simp, pp⟩
    rw [hn] at hq'
    cases hq'
theorem joinF_nil {acc : List Pn} {q : Pn} {m : Nat} (h : acc.getLast? = some q) (hp : isPow q = true) : joinF acc [] m = acc := by
  unfold joinF
  rw [h]
  simp [hp]
theorem nm_putP {m : Nat} {acc : List Pn} (h : Nm m acc) {u : W} {f : F} (hu : Prim u) (hl : f.length = m + 1) (h0 : f.headD 0 = 0) (ho : isOpen f = true) : Nm m (putP acc u f) := by
  have em : f.length - 1 = m := by omega
  unfold putP
  rw [em]
  split
  · next q hq =>
    split
    · next pq =>
      exact nm_joinF (nm_pushP h hu hl h0 ho fun q' hq' z => by rw [hq] at hq'; cases hq'; rw [pq] at z; cases z).1 _
    · next pq =>
      have pq' : isPow q = false := by simpa using pq
      refine nm_joinF (nm_pushP (nm_joinF h.init _) (prim_rotR hu _) hl h0 ho fun q' hq' z => ?_).1 _
      by_cases e : q.1.take (q.1.length - movedE q.1 u) = []
      · -- nothing is left of the fixed piece: what is ahead is a power
        exfalso
        rw [e] at hq'
        have : joinF acc.dropLast [] m = acc.dropLast := by
          cases hd : acc.dropLast.getLast? with
          | none =>
            unfold joinF
            rw [hd]
            simp
          | some r =>
            have a := h.pre hq hd
            have pr : isPow r = true := by
              cases y : isPow r with
              | true => rfl
              | false =>
                have := (a.fix y).1
                rw [pq'] at this
                cases this
            exact joinF_nil hd pr
        rw [this] at hq'
        have a := h.pre hq hq'
        have := (a.fix z).1
        rw [pq'] at this
        cases this
      · have lt : movedE q.1 u < q.1.length := by
          have := List.length_pos_iff.mpr e
          rw [List.length_take] at this
          omega
        have eq : joinF acc.dropLast (q.1.take (q.1.length - movedE q.1 u)) m = acc.dropLast ++ [fixP (q.1.take (q.1.length - movedE q.1 u)) m] := by
          unfold joinF
          split
          · next r hr =>
            have a := h.pre hq hr
            have pr : isPow r = true := by
              cases y : isPow r with
              | true => rfl
              | false =>
                have := (a.fix y).1
                rw [pq'] at this
                cases this
            rw [if_pos pr, if_neg e]
          · rw [if_neg e]
        rw [eq] at hq'
        rw [List.getLast?_append] at hq'
        cases hq'
        exact moved_next hu.1 lt
  · next hn =>
    exact nm_joinF (nm_pushP h hu hl h0 ho fun q' hq' => by rw [hn] at hq'; cases hq').1 _
theorem open_times {k : Nat} (hk : 0 < k) {f : F} (h : isOpen f = true) : isOpen (timesF k (0 :: f.tail)) = true := by
  obtain ⟨x, hx, h0⟩ := isOpen_iff.mp h
  refine isOpen_iff.mpr ⟨k * x, List.mem_map.mpr ⟨x, hx, rfl⟩, ?_⟩
  have := Nat.mul_pos hk (Nat.pos_of_ne_zero h0)
  omega
theorem root_times {w : W} (h : w ≠ []) : 0 < w.length / rootN w := Nat.div_pos (rootN_le h) (rootN_pos h)
theorem nm_stepA {m : Nat} {acc : List Pn} (h : Nm m acc) {p : Pn} (hl : p.2.length = m + 1) : Nm m (stepA acc p) := by
  unfold stepA
  split
  · next z =>
    refine nm_putP h (root_prim z.1) ?_ ?_ (open_times (root_times z.1) z.2)
    · unfold timesF
      simp [hl]
    · simp [timesF]
  · exact h
theorem nm_stepB {m : Nat} {acc : List Pn} (h : Nm m acc) {p : Pn} (hl : p.2.length = m + 1) : Nm m (stepB acc p) := by
  unfold stepB
  split
  · have e : p.2.length - 1 = m := by omega
    rw [e]
    exact nm_joinF h _
  · exact h
theorem nm_fold {m : Nat} : ∀ (ps acc : List Pn), Nm m acc → LenF m ps → Nm m (ps.foldl stepN acc)
  | [], _, h, _ => h
  | p :: r, acc, h, hl => nm_fold r _ (nm_stepB (nm_stepA h (hl p List.mem_cons_self)) (hl p List.mem_cons_self)) fun q hq => hl q (List.mem_cons_of_mem _ hq)
theorem nm_normL {m : Nat} {ps : List Pn} (h : LenF m ps) : Nm m (normL ps) := nm_fold ps [] .nil h
theorem Nm.lenF {m : Nat} {ps : List Pn} (h : Nm m ps) : LenF m ps := fun p hp => (h.all p hp).len
theorem Nm.fixOk {m : Nat} {ps : List Pn} (h : Nm m ps) : FixOk m ps := fun p hp => (h.all p hp).fix
/-! ### what is written stays -/
theorem wr_putP {m : Nat} {acc : List Pn} (h : Nm m acc) {u : W} {f : F} (hu : Prim u) (hl : f.length = m + 1) (h0 : f.headD 0 = 0) (ho : isOpen f = true) (pt : List Nat) : wr pt (putP acc u f) = wr pt acc ++ wrt pt (u, f) := by
  have em : f.length - 1 = m := by omega
  have one : ∀ {acc : List Pn}, Nm m acc → (∀ q, acc.getLast? = some q → isPow q = true) → wr pt (joinF (pushP acc u f) [] m) = wr pt acc ++ wrt pt (u, f) := fun {acc} h hp => by
    obtain ⟨n, g, hg, pg⟩ := nm_pushP h hu hl h0 ho fun q' hq' z => by rw [hp q' hq'] at z; cases z
    rw [joinF_nil hg pg, wr_pushP h.lenF hl]
  unfold putP
  rw [em]
  split
  · next q hq =>
    split
    · next pq => exact one h fun q' hq' => by rw [hq] at hq'; cases hq'; exact pq
    · next pq =>
      have pq' : isPow q = false := by simpa using pq
      have e := last_split hq
      have mq := h.all q (List.mem_of_getLast? hq)
      have wq : wrt pt q = q.1 := by unfold wrt; rw [mq.fix pq', val_one, pw_one]
      have n1 := nm_joinF h.init (q.1.take (q.1.length - movedE q.1 u)) (m := m)
      have n2 : Nm m (putP acc u f) := nm_putP h hu hl h0 ho
      have l2 : FixOk m (pushP (joinF acc.dropLast (q.1.take (q.1.length - movedE q.1 u)) m) (rotR u (movedE q.1 u)) f) := by
        intro p hp z
        unfold pushP at hp
        have pr : isPow (rotR u (movedE q.1 u), f) = true := decide_eq_true h0
        split at hp
        · next r hr =>
          split at hp
          · next y =>
            rcases List.mem_append.mp hp with x | x
            · exact n1.fixOk p (mem_dropLast x) z
            · rw [List.mem_singleton.mp x] at z
              have : isPow (rotR u (movedE q.1 u), addF r.2 f) = true := decide_eq_true (head_add (by rw [n1.lenF r (List.mem_of_getLast? hr), hl]) (of_decide_eq_true y.1) h0)
              rw [this] at z
              cases z
          · rcases List.mem_append.mp hp with x | x
            · exact n1.fixOk p x z
            · rw [List.mem_singleton.mp x, pr] at z
              cases z
        · rcases List.mem_append.mp hp with x | x
          · exact n1.fixOk p x z
          · rw [List.mem_singleton.mp x, pr] at z
            cases z
      rw [wr_joinF l2, wr_pushP n1.lenF hl, wr_joinF h.init.fixOk]
      have ew : wr pt acc = wr pt acc.dropLast ++ q.1 := by
        conv => lhs; rw [e]
        rw [wr_app, wr_one, wq]
      rw [ew, moved_drop hu.1]
      have mv := move_pw u (movedE q.1 u) (valF f pt)
      rw [List.append_assoc, List.append_assoc, List.append_assoc]
      congr 1
      show q.1.take _ ++ (pw (rotR u (movedE q.1 u)) (valF f pt) ++ tailE u (movedE q.1 u)) = q.1 ++ pw u (valF f pt)
      rw [mv, ← moved_drop hu.1, ← List.append_assoc, List.take_append_drop]
  · next hn => exact one h fun q' hq' => by rw [hn] at hq'; cases hq'
theorem pw_mul (w : W) (a : Nat) : ∀ b, pw (pw w a) b = pw w (a * b)
  | 0 => by simp [pw]
  | b + 1 => by rw [pw_succ, pw_mul w a b, ← pw_add, Nat.mul_succ, Nat.add_comm]
theorem pw_nil (n : Nat) : pw [] n = [] := List.length_eq_zero_iff.mp (by rw [pw_len]; simp)
theorem val_split (f : F) (pt : List Nat) : valF f pt = valF (0 :: f.tail) pt + f.headD 0 := by
  unfold valF
  simp
  omega
theorem dot_closed : ∀ {f : List Nat}, (∀ x ∈ f, x = 0) → ∀ pt : List Nat, dot f pt = 0
  | [], _, _ => by simp [dot]
  | x :: f, h, [] => by simp [dot]
  | x :: f, h, y :: pt => by
    rw [dot, dot_closed (fun z hz => h z (List.mem_cons_of_mem _ hz)) pt, h x List.mem_cons_self]
    simp
theorem wr_stepN {m : Nat} {acc : List Pn} (h : Nm m acc) {p : Pn} (hl : p.2.length = m + 1) (pt : List Nat) : wr pt (stepN acc p) = wr pt acc ++ wrt pt p := by
  have hA := nm_stepA h hl
  have wA : wr pt (stepA acc p) = wr pt acc ++ pw p.1 (valF (0 :: p.2.tail) pt) := by
    unfold stepA
    split
    · next z =>
      have lt : (timesF (p.1.length / rootN p.1) (0 :: p.2.tail)).length = m + 1 := by unfold timesF; simp [hl]
      rw [wr_putP h (root_prim z.1) lt (by simp [timesF]) (open_times (root_times z.1) z.2)]
      congr 1
      show pw (p.1.take (rootN p.1)) (valF (timesF _ _) pt) = _
      rw [val_times, ← pw_mul, ← root_pw z.1]
    · next z =>
      by_cases ne : p.1 = []
      · rw [ne, pw_nil, List.append_nil]
      · have hc : ∀ x ∈ p.2.tail, x = 0 := fun x hx => Classical.byContradiction fun y => z ⟨ne, isOpen_iff.mpr ⟨x, hx, y⟩⟩
        rw [show valF (0 :: p.2.tail) pt = 0 by unfold valF; simp [dot_closed hc], pw_zero, List.append_nil]
  have wB : wr pt (stepB (stepA acc p) p) = wr pt (stepA acc p) ++ pw p.1 (p.2.headD 0) := by
    unfold stepB
    split
    · have e : p.2.length - 1 = m := by omega
      rw [e, wr_joinF hA.fixOk]
    · next z =>
      by_cases ne : p.1 = []
      · rw [ne, pw_nil, List.append_nil]
      · have : p.2.headD 0 = 0 := Classical.byContradiction fun y => z ⟨ne, y⟩
        rw [this, pw_zero, List.append_nil]
  unfold stepN
  rw [wB, wA, List.append_assoc, ← pw_add, ← val_split]
  rfl
theorem wr_fold {m : Nat} (pt : List Nat) : ∀ (ps acc : List Pn), Nm m acc → LenF m ps → wr pt (ps.foldl stepN acc) = wr pt acc ++ wr pt ps
  | [], acc, _, _ => by simp [wr]
  | p :: r, acc, h, hl => by
    have lp := hl p List.mem_cons_self
    rw [List.foldl_cons, show stepN acc p = stepB (stepA acc p) p from rfl, wr_fold pt r _ (nm_stepB (nm_stepA h lp) lp) (fun q hq => hl q (List.mem_cons_of_mem _ hq)), show stepB (stepA acc p) p = stepN acc p from rfl, wr_stepN h lp, List.append_assoc]
    rfl
/-- the normal list writes the same -/
theorem wr_normL {m : Nat} {ps : List Pn} (h : LenF m ps) (pt : List Nat) : wr pt (normL ps) = wr pt ps := wr_fold pt ps [] .nil h
end NM

set_option linter.all false
set_option maxRecDepth 100000
namespace NM
open WM
/-! ### the measure -/
def measP (p : Pn) : Nat := p.1.length * (p.2.headD 0 + (if isOpen p.2 then 1 else 0))
def meas (ps : List Pn) : Nat := (ps.map measP).sum
theorem meas_app (a b : List Pn) : meas (a ++ b) = meas a + meas b := by unfold meas; rw [List.map_append, List.sum_append]
theorem meas_one (p : Pn) : meas [p] = measP p := by simp [meas]
theorem open_one (m : Nat) : isOpen (one1 m) = false := by
  unfold isOpen one1
  rw [List.any_eq_false]
  intro x hx
  have := List.eq_of_mem_replicate (show x ∈ List.replicate m 0 from hx)
  simp [this]
theorem measP_fix (w : W) (m : Nat) : measP (fixP w m) = w.length := by
  unfold measP fixP
  simp only [open_one]
  simp [one1]
theorem meas_last {l : List Pn} {q : Pn} (h : l.getLast? = some q) : meas l = meas l.dropLast + measP q := by
  conv => lhs; rw [last_split h]
  rw [meas_app, meas_one]
theorem meas_joinF {m : Nat} {acc : List Pn} (h : FixOk m acc) (w : W) : meas (joinF acc w m) = meas acc + w.length := by
  unfold joinF
  split
  · next q hq =>
    split
    · split
      · next z => rw [z]; rfl
      · rw [meas_app, meas_one, measP_fix]
    · next np =>
      have f1 := h q (List.mem_of_getLast? hq) (by simpa using np)
      have mq : measP q = q.1.length := by
        have : q = fixP q.1 m := by unfold fixP; rw [← f1]
        conv => lhs; rw [this]
        rw [measP_fix]
      have ml := meas_last hq
      split
      · next z =>
        have z1 := congrArg List.length z
        rw [List.length_append, List.length_nil] at z1
        omega
      · rw [meas_app, meas_one, measP_fix, List.length_append]
        omega
  · split
    · next z => rw [z]; rfl
    · rw [meas_app, meas_one, measP_fix]
theorem measP_pow {u : W} {f : F} (h0 : f.headD 0 = 0) : measP (u, f) ≤ u.length := by
  unfold measP
  simp only [h0, Nat.zero_add]
  split
  · rw [Nat.mul_one]
    exact Nat.le_refl _
  · rw [Nat.mul_zero]
    exact Nat.zero_le _
theorem meas_pushP {acc : List Pn} {u : W} {f : F} (h0 : f.headD 0 = 0) (hx : ∀ q, acc.getLast? = some q → isPow q = true → q.1 = u → (addF q.2 f).headD 0 = 0 ∧ u.length ≤ measP q) : meas (pushP acc u f) ≤ meas acc + u.length := by
  unfold pushP
  split
  · next q hq =>
    have ml := meas_last hq
    split
    · next z =>
      obtain ⟨a, b⟩ := hx q hq z.1 z.2
      have := measP_pow (u := u) a
      rw [meas_app, meas_one]
      omega
    · have := measP_pow (u := u) h0
      rw [meas_app, meas_one]
      omega
  · have := measP_pow (u := u) h0
    rw [meas_app, meas_one]
    omega
theorem measP_le {m : Nat} {q : Pn} (h : NormP m q) : q.1.length ≤ measP q := by
  unfold measP
  cases e : isPow q with
  | false =>
    rw [h.fix e]
    simp [one1]
    exact Nat.le_mul_of_pos_right _ (by omega)
  | true =>
    rw [if_pos (h.pow e).2]
    exact Nat.le_mul_of_pos_right _ (by omega)
theorem meas_pushN {m : Nat} {acc : List Pn} (h : Nm m acc) {u : W} {f : F} (hl : f.length = m + 1) (h0 : f.headD 0 = 0) : meas (pushP acc u f) ≤ meas acc + u.length :=
  meas_pushP h0 fun q hq pq e => by
    have nq := h.all q (List.mem_of_getLast? hq)
    refine ⟨head_add (by rw [nq.len, hl]) (of_decide_eq_true pq) h0, ?_⟩
    rw [← e]
    exact measP_le nq
theorem fix_pushP {m : Nat} {acc : List Pn} (h : Nm m acc) {u : W} {f : F} (hl : f.length = m + 1) (h0 : f.headD 0 = 0) : FixOk m (pushP acc u f) := by
  intro p hp z
  unfold pushP at hp
  have pr : isPow (u, f) = true := decide_eq_true h0
  split at hp
  · next r hr =>
    split at hp
    · next y =>
      rcases List.mem_append.mp hp with x | x
      · exact h.fixOk p (mem_dropLast x) z
      · rw [List.mem_singleton.mp x] at z
        have : isPow (u, addF r.2 f) = true := decide_eq_true (head_add (by rw [h.lenF r (List.mem_of_getLast? hr), hl]) (of_decide_eq_true y.1) h0)
        rw [this] at z
        cases z
    · rcases List.mem_append.mp hp with x | x
      · exact h.fixOk p x z
      · rw [List.mem_singleton.mp x, pr] at z
        cases z
  · rcases List.mem_append.mp hp with x | x
    · exact h.fixOk p x z
    · rw [List.mem_singleton.mp x, pr] at z
      cases z
theorem meas_putP {m : Nat} {acc : List Pn} (h : Nm m acc) {u : W} {f : F} (hl : f.length = m + 1) (h0 : f.headD 0 = 0) : meas (putP acc u f) ≤ meas acc + u.length := by
  have em : f.length - 1 = m := by omega
  have one : ∀ {acc : List Pn}, Nm m acc → meas (joinF (pushP acc u f) [] m) ≤ meas acc + u.length := fun {acc} h => by
    rw [meas_joinF (fix_pushP h hl h0)]
    exact meas_pushN h hl h0
  unfold putP
  rw [em]
  split
  · next q hq =>
    split
    · exact one h
    · next pq =>
      have pq' : isPow q = false := by simpa using pq
      have mq := h.all q (List.mem_of_getLast? hq)
      have e : measP q = q.1.length := by
        have : q = fixP q.1 m := by unfold fixP; rw [← mq.fix pq']
        conv => lhs; rw [this]
        rw [measP_fix]
      have ml := meas_last hq
      have n1 := nm_joinF h.init (q.1.take (q.1.length - movedE q.1 u)) (m := m)
      rw [meas_joinF (fix_pushP n1 hl h0)]
      have a := meas_pushN n1 (u := rotR u (movedE q.1 u)) hl h0
      rw [meas_joinF h.init.fixOk, List.length_take, rotR_len] at a
      rw [List.length_drop]
      have := movedE_le q.1 u
      omega
  · exact one h
theorem meas_stepN {m : Nat} {acc : List Pn} (h : Nm m acc) {p : Pn} (hl : p.2.length = m + 1) : meas (stepN acc p) ≤ meas acc + measP p := by
  have hA := nm_stepA h hl
  have a : meas (stepA acc p) ≤ meas acc + p.1.length * (if isOpen p.2 then 1 else 0) := by
    unfold stepA
    split
    · next z =>
      have lt : (timesF (p.1.length / rootN p.1) (0 :: p.2.tail)).length = m + 1 := by unfold timesF; simp [hl]
      have := meas_putP h (u := p.1.take (rootN p.1)) lt (by simp [timesF])
      rw [if_pos z.2]
      rw [List.length_take] at this
      omega
    · omega
  have b : meas (stepB (stepA acc p) p) ≤ meas (stepA acc p) + p.1.length * p.2.headD 0 := by
    unfold stepB
    split
    · have e : p.2.length - 1 = m := by omega
      rw [e, meas_joinF hA.fixOk, pw_len]
      exact Nat.le_refl _
    · omega
  unfold stepN measP
  rw [Nat.mul_add]
  omega
theorem meas_fold {m : Nat} : ∀ (ps acc : List Pn), Nm m acc → LenF m ps → meas (ps.foldl stepN acc) ≤ meas acc + meas ps
  | [], acc, _, _ => by simp [meas]
  | p :: r, acc, h, hl => by
    have lp := hl p List.mem_cons_self
    have a := meas_stepN h lp
    have b := meas_fold r (stepN acc p) (nm_stepB (nm_stepA h lp) lp) fun q hq => hl q (List.mem_cons_of_mem _ hq)
    rw [List.foldl_cons]
    have : meas (p :: r) = measP p + meas r := by simp [meas]
    omega
theorem meas_normL {m : Nat} {ps : List Pn} (h : LenF m ps) : meas (normL ps) ≤ meas ps := by
  have := meas_fold ps [] (Nm.nil (m := m)) h
  unfold normL
  have e : meas [] = 0 := rfl
  omega
/-! ### a normal list stays -/
theorem joinF_app {m : Nat} {acc : List Pn} {w : W} (hw : w ≠ []) (h : ∀ q, acc.getLast? = some q → isPow q = true) : joinF acc w m = acc ++ [fixP w m] := by
  unfold joinF
  split
  · next q hq => rw [if_pos (h q hq), if_neg hw]
  · rw [if_neg hw]
theorem pushP_app {acc : List Pn} {u : W} {f : F} (h : ∀ q, acc.getLast? = some q → ¬ (isPow q = true ∧ q.1 = u)) : pushP acc u f = acc ++ [(u, f)] := by
  unfold pushP
  split
  · next q hq => rw [if_neg (h q hq)]
  · rfl
theorem prim_root {w : W} (h : Prim w) : rootN w = w.length := h.2 _ (rootN_pos h.1) (rootN_dvd w) (rootN_per w)
theorem times_one {f : F} (h : f.headD 0 = 0) (hl : 0 < f.length) : timesF 1 (0 :: f.tail) = f := by
  cases f with
  | nil => simp at hl
  | cons a f =>
    simp only [List.headD_cons] at h
    subst h
    simp [timesF]
theorem step_fix {m : Nat} {l : List Pn} {p : Pn} (h : Nm m l) (hp : NormP m p) (ha : ∀ q, l.getLast? = some q → Adj q p) : stepN l p = l ++ [p] := by
  cases e : isPow p with
  | false =>
    have f1 := hp.fix e
    have ep : fixP p.1 m = p := by unfold fixP; rw [← f1]
    have no : isOpen p.2 = false := by rw [f1, open_one]
    have h1 : p.2.headD 0 = 1 := by rw [f1]; rfl
    have eA : stepA l p = l := by
      unfold stepA
      rw [if_neg fun z => by rw [no] at z; exact Bool.false_ne_true z.2]
    unfold stepN
    rw [eA]
    unfold stepB
    rw [if_pos ⟨hp.ne, by rw [h1]; decide⟩, h1, pw_one, show p.2.length - 1 = m by rw [hp.len]; rfl, joinF_app hp.ne fun q hq => ?_, ep]
    cases y : isPow q with
    | true => rfl
    | false =>
      have := ((ha q hq).fix y).1
      rw [e] at this
      cases this
  | true =>
    obtain ⟨pr, op⟩ := hp.pow e
    have h0 : p.2.headD 0 = 0 := of_decide_eq_true e
    have n0 := List.length_pos_iff.mpr hp.ne
    have eA : stepA l p = putP l p.1 p.2 := by
      unfold stepA
      rw [if_pos ⟨hp.ne, op⟩, prim_root pr, List.take_length, Nat.div_self n0, times_one h0 (by rw [hp.len]; omega)]
    have eB : ∀ acc, stepB acc p = acc := fun acc => by
      unfold stepB
      rw [if_neg fun z => z.2 h0]
    have last : ∀ l : List Pn, (l ++ [p]).getLast? = some p := fun l => by simp
    unfold stepN
    rw [eB, eA]
    unfold putP
    rw [show p.2.length - 1 = m by rw [hp.len]; rfl]
    split
    · next q hq =>
      have a := ha q hq
      split
      · next pq =>
        rw [pushP_app fun q' hq' => by rw [hq] at hq'; cases hq'; exact fun z => a.pow pq e z.2]
        exact joinF_nil (last l) e
      · next pq =>
        have pq' : isPow q = false := by simpa using pq
        have mq := h.all q (List.mem_of_getLast? hq)
        have mz : movedE q.1 p.1 = 0 := moved_zero hp.ne mq.ne (a.fix pq').2
        have el : joinF l.dropLast q.1 m = l := by
          rw [joinF_app mq.ne fun r hr => ?_]
          · have : fixP q.1 m = q := by unfold fixP; rw [← mq.fix pq']
            rw [this]
            exact (last_split hq).symm
          · have b := h.pre hq hr
            cases y : isPow r with
            | true => rfl
            | false =>
              have := (b.fix y).1
              rw [pq'] at this
              cases this
        rw [mz, Nat.sub_zero, List.take_length, List.drop_length, rotR_zero, el, pushP_app fun q' hq' => by rw [hq] at hq'; cases hq'; exact fun z => pq z.1]
        exact joinF_nil (last l) e
    · next hn =>
      rw [pushP_app fun q' hq' => by rw [hn] at hq'; cases hq']
      exact joinF_nil (last l) e
theorem Nm.take {m : Nat} {l : List Pn} (h : Nm m l) (i : Nat) : Nm m (l.take i) := by
  refine ⟨fun p hp => h.all p (List.mem_of_mem_take hp), fun j p q hj hq => ?_⟩
  rw [List.getElem?_take] at hj hq
  split at hq
  · split at hj
    · exact h.adj j p q hj hq
    · cases hj
  · cases hq
theorem normL_take {m : Nat} {ps : List Pn} (h : Nm m ps) : ∀ i, i ≤ ps.length → normL (ps.take i) = ps.take i
  | 0, _ => by simp [normL]
  | i + 1, hi => by
    have hp := List.getElem?_eq_getElem (show i < ps.length by omega)
    generalize ps[i] = p at hp
    have e : ps.take (i + 1) = ps.take i ++ [p] := by rw [List.take_succ, hp]; rfl
    rw [e]
    unfold normL
    rw [List.foldl_append]
    have := normL_take h i (by omega)
    unfold normL at this
    rw [this]
    refine step_fix (h.take i) (h.all p (List.mem_of_getElem? hp)) fun q hq => ?_
    rw [List.getLast?_eq_getElem?, List.length_take, Nat.min_eq_left (by omega)] at hq
    rw [List.getElem?_take] at hq
    split at hq
    · refine h.adj (i - 1) q p hq ?_
      rw [show i - 1 + 1 = i by omega]
      exact hp
    · cases hq
/-- a normal list is its own -/
theorem normL_id {m : Nat} {ps : List Pn} (h : Nm m ps) : normL ps = ps := by
  have := normL_take h ps.length (Nat.le_refl _)
  rw [List.take_length] at this
  exact this
end NM

set_option Elab.async false
set_option linter.all false
set_option maxRecDepth 100000
set_option maxHeartbeats 2000000
namespace K23
open PySem PySem.Spec PyProof.Rows L2 CK SX NM
/-! ### letters -/
def Low (w : List Nat) : Prop := ∀ c ∈ w, 97 ≤ c ∧ c ≤ 122
theorem low_cases {c : Nat} (h : 97 ≤ c ∧ c ≤ 122) : Unicode.isAlpha c = true ∧ Unicode.isLower c = true ∧ (Unicode.isUpper c || Unicode.isTitle c) = false := by
  have : c ∈ List.range' 97 26 := by
    rw [List.mem_range']
    exact ⟨c - 97, by omega, by omega⟩
  have all : (List.range' 97 26).all (fun c => Unicode.isAlpha c && Unicode.isLower c && !(Unicode.isUpper c || Unicode.isTitle c)) = true := by decide +kernel
  have := List.all_eq_true.mp all c this
  simp only [Bool.and_eq_true, Bool.not_eq_true'] at this
  exact ⟨this.1.1, this.1.2, this.2⟩
theorem low_ascii {w : List Nat} (h : Low w) : Txt.isascii (S w) = true := by
  unfold Txt.isascii
  rw [← Array.all_toList, List.all_eq_true]
  exact fun c hc => decide_eq_true (by have := h c hc; omega)
theorem low_alpha {w : List Nat} (h : Low w) (ne : w ≠ []) : Txt.isalpha (S w) = true := by
  unfold Txt.isalpha
  rw [← Array.all_toList, S_len, decide_eq_true (List.length_pos_iff.mpr ne), Bool.true_and, List.all_eq_true]
  exact fun c hc => (low_cases (h c hc)).1
theorem low_lower {w : List Nat} (h : Low w) (ne : w ≠ []) : Txt.islower (S w) = true := by
  unfold Txt.islower
  rw [← Array.any_toList, ← Array.any_toList, Bool.and_eq_true]
  constructor
  · obtain ⟨c, hc⟩ := List.exists_mem_of_ne_nil w ne
    exact List.any_eq_true.mpr ⟨c, hc, (low_cases (h c hc)).2.1⟩
  · rw [Bool.not_eq_true', List.any_eq_false]
    exact fun c hc => by rw [(low_cases (h c hc)).2.2]; exact Bool.false_ne_true
section
variable {P : Program} {w : World} {K : PySem.W.Frag} {mg : Str → Option Value} {base : Heap} {C : Addr}
/-! ### checks -/
def sp_is_whole : Sp := fun vs H Q _ => ∃ v, vs = [v] ∧ Kn H v ∧ Q (.bl (isW v)) H
theorem c_is_whole (T : Txt K mg C) : C8.Cal P w K mg base 1 "is_whole" sp_is_whole [] := by
  refine calF T.d_is_whole sc_is_whole (fun vs H Q E h => ?_) (fun f cdv A outer s H vs Q E hr h => ?_)
  · obtain ⟨v, rfl, _⟩ := h; rfl
  · obtain ⟨v, rfl, k, q⟩ := h
    refine ⟨_, (pss_one (ps_ret (pe_and (pe_callB call_isK (by rfl) T.m_isinstance (by decide +kernel) (pa_cons (pv 0) (pa_cons (pe_bltn (v := .ty "int") (by rfl) T.m_int (by decide +kernel) rfl) pa_nil))) (pe_one (pe_not (pe_callB call_isK (by rfl) T.m_isinstance (by decide +kernel) (pa_cons (pv 0) (pa_cons (pe_bltn (v := .ty "bool") (by rfl) T.m_bool (by decide +kernel) rfl) pa_nil)))))))), ?_⟩
    refine ⟨v, rfl, v, "int", _, rfl, k, kit_int k, _, rfl, ite2 (fun e => ?_) (fun e => ?_)⟩
    · refine ⟨v, rfl, v, "bool", _, rfl, k, kit_bool k, _, rfl, ?_⟩
      rw [show (!isBo v) = isW v by cases v <;> first | rfl | (exact absurd e Bool.false_ne_true)]
      exact q
    · rw [show false = isW v by cases v <;> first | rfl | (exact absurd rfl e)]
      exact q
def sp_is_count : Sp := fun vs H Q _ => ∃ v, vs = [v] ∧ Kn H v ∧ Q (.bl (isC v)) H
theorem c_is_count (T : Txt K mg C) : C8.Cal P w K mg base 2 "is_count" sp_is_count [] := by
  refine calF T.d_is_count sc_is_count (fun vs H Q E h => ?_) (fun f cdv A outer s H vs Q E hr h => ?_)
  · obtain ⟨v, rfl, _⟩ := h; rfl
  · obtain ⟨v, rfl, k, q⟩ := h
    refine ⟨_, (pss_one (ps_ret (pe_and (C8.pe_c (c_is_whole T) hr (by decide) (by rfl) (pa_cons (pv 0) pa_nil)) (pe_one (pe_cmpR op_ge (pv 0) pe_int (nomark _)))))), ?_⟩
    refine ⟨v, rfl, v, rfl, k, _, rfl, ite2 (fun e => ?_) (fun e => ?_)⟩
    · cases v <;> first | (exact absurd e Bool.false_ne_true) | exact ⟨_, rfl, _, 0, rfl, rfl, q⟩
    · rw [show false = isC v by cases v <;> first | rfl | (exact absurd rfl e)]
      exact q
def sp_is_within : Sp := fun vs H Q _ => ∃ i lo hi : Int, vs = [.int i, .int lo, .int hi] ∧ Q (.bl (decide (lo ≤ i) && decide (i ≤ hi))) H
theorem c_is_within (T : Txt K mg C) : C8.Cal P w K mg base 2 "is_within" sp_is_within [] := by
  refine calF T.d_is_within sc_is_within (fun vs H Q E h => ?_) (fun f cdv A outer s H vs Q E hr h => ?_)
  · obtain ⟨i, lo, hi, rfl, _⟩ := h; rfl
  · obtain ⟨i, lo, hi, rfl, q⟩ := h
    refine ⟨_, (pss_one (ps_ret (pe_and (C8.pe_c (c_is_whole T) hr (by decide) (by rfl) (pa_cons (pv 0) pa_nil)) (pe_one (pe_chain op_le op_le (pv 1) (pv 0) (pv 2)))))), ?_⟩
    refine ⟨.int i, rfl, .int i, rfl, .int i, _, rfl, iteT ?_⟩
    refine ⟨_, rfl, _, rfl, lo, i, rfl, rfl, _, rfl, ite2 (fun e => ?_) (fun e => ?_)⟩
    · refine ⟨_, rfl, i, hi, rfl, rfl, ?_⟩
      rw [e, Bool.true_and] at q
      exact q
    · rw [Bool.not_eq_true] at e
      rw [e, Bool.false_and] at q
      exact q
def sp_need_within : Sp := fun vs H Q _ => ∃ i lo hi : Int, vs = [.int i, .int lo, .int hi] ∧ lo ≤ i ∧ i ≤ hi ∧ Q .non H
theorem c_need_within (T : Txt K mg C) : C8.Cal P w K mg base 3 "need_within" sp_need_within [] := by
  refine calF T.d_need_within sc_need_within (fun vs H Q E h => ?_) (fun f cdv A outer s H vs Q E hr h => ?_)
  · obtain ⟨i, lo, hi, rfl, _⟩ := h; rfl
  · obtain ⟨i, lo, hi, rfl, h1, h2, q⟩ := h
    refine ⟨_, (pss_one (ps_if (pt_not (pt_val (C8.pe_c (c_is_within T) hr (by decide) (by rfl) (pa_cons (pv 0) (pa_cons (pv 1) (pa_cons (pv 2) pa_nil))))))
    (pss_one ps_never)
    pss_nil)), ?_⟩
    refine ⟨_, rfl, _, rfl, _, rfl, i, lo, hi, rfl, _, rfl, ?_⟩
    rw [decide_eq_true h1, decide_eq_true h2]
    exact iteF q
theorem len_line {w : List Nat} (h : w.length ≤ 1000000) : (S w).length ≤ sizeLine := by rw [S_len, sizeLine_eq]; omega
def sp_is_lettered : Sp := fun vs H Q _ => ∃ (z : List Nat) (m : Nat), vs = [.str (S z), .int m] ∧ z.length ≤ 1000000 ∧ Low z ∧ Q (.bl (decide (z.length ≤ m))) H
theorem S_nil {z : List Nat} (h : (S z : Str) = "") : z = [] := by
  have := congrArg Str.length h
  rw [S_len] at this
  exact List.length_eq_zero_iff.mp this
theorem c_is_lettered (T : Txt K mg C) : C8.Cal P w K mg base 1 "is_lettered" sp_is_lettered [] := by
  refine calF T.d_is_lettered sc_is_lettered (fun vs H Q E h => ?_) (fun f cdv A outer s H vs Q E hr h => ?_)
  · obtain ⟨_, _, rfl, _⟩ := h; rfl
  · obtain ⟨z, m, rfl, hl, lw, q⟩ := h
    refine ⟨_, (pss_cons (ps_if (PW.pt (pw_or (pt_not (pt_val (pe_callB call_isK (by rfl) T.m_isinstance (by decide +kernel) (pa_cons (pv 0) (pa_cons (pe_bltn (v := .ty "str") (by rfl) T.m_str (by decide +kernel) rfl) pa_nil))))) (pw_or1 (pt_cmpR op_gt (pe_callB call_len_str (by rfl) T.m_len (by decide +kernel) (pa_cons (pv 0) pa_nil)) (pv 1) (nomark _)))))
    (pss_one (ps_ret pe_bl))
    pss_nil)
    (pss_one (ps_ret (pe_or (pe_cmpR op_eq (pv 0) pe_str (nomark _)) (pe_one (pe_and (pe_m0 PySem.F.slot_str_isascii PySem.F.type_str_isascii mt_isascii (pv 0)) (pe_and (pe_m0 PySem.F.slot_str_isalpha PySem.F.type_str_isalpha mt_isalpha (pv 0)) (pe_one (pe_m0 PySem.F.slot_str_islower PySem.F.type_str_islower mt_islower (pv 0)))))))))), ?_⟩
    refine ⟨_, rfl, .str (S z), "str", true, rfl, .str _, by show kitB "str" "str" = some true; decide +kernel, _, rfl, iteF ?_⟩
    refine ⟨_, rfl, S z, rfl, len_line hl, _, rfl, _, m, rfl, rfl, _, rfl, ?_⟩
    rw [S_len]
    by_cases hm : ¬ z.length ≤ m
    · rw [decide_eq_false hm] at q
      rw [decide_eq_true (show (z.length : Int) > m by omega)]
      exact iteT q
    rw [decide_eq_true (show z.length ≤ m by omega)] at q
    rw [decide_eq_false (show ¬ (z.length : Int) > m by omega)]
    refine iteF ⟨_, rfl, rfl, _, rfl, ite2 (fun e => q) fun e => ?_⟩
    have ne : z ≠ [] := fun y => e (by rw [y]; decide +kernel)
    refine ⟨_, rfl, ⟨_, rfl⟩, _, rfl, rfl, trivial, _, rfl, ?_⟩
    rw [low_ascii lw]
    refine iteT ⟨_, rfl, ⟨_, rfl⟩, _, rfl, rfl, trivial, _, rfl, ?_⟩
    rw [low_alpha lw ne]
    refine iteT ⟨_, rfl, ⟨_, rfl⟩, _, rfl, rfl, trivial, ?_⟩
    rw [low_lower lw ne]
    exact q
def sp_need_many : Sp := fun vs H Q _ => ∃ i : Int, vs = [.int i] ∧ 0 ≤ i ∧ i ≤ 3 ∧ Q .non H
theorem c_need_many (T : Txt K mg C) : C8.Cal P w K mg base 4 "need_many" sp_need_many [] := by
  refine calF T.d_need_many sc_need_many (fun vs H Q E h => ?_) (fun f cdv A outer s H vs Q E hr h => ?_)
  · obtain ⟨v, rfl, _⟩ := h; rfl
  · obtain ⟨i, rfl, h1, h2, q⟩ := h
    refine ⟨_, (pss_one (ps_expr (C8.pe_c (c_need_within T) hr (by decide) (by rfl) (pa_cons (pv 0) (pa_cons pe_int (pa_cons (C8.pe_gc (by rfl) T.k_MOST_UNKNOWNS) pa_nil)))))), ?_⟩
    exact ⟨_, rfl, i, 0, 3, rfl, h1, h2, q⟩
/-- what is_form_for says of a value -/
def formB (H : Hp) (m : Int) : V → Bool
  | .ref a => match H a with
    | some (.tup xs) => decide ((xs.length : Int) = m + 1) && xs.all isC
    | _ => false
  | _ => false
theorem formB_tup {H : Hp} {m : Int} {a : Addr} {xs : List V} (h : H a = some (.tup xs)) : formB H m (.ref a) = (decide ((xs.length : Int) = m + 1) && xs.all isC) := by simp only [formB, h]
def sp_is_form_for : Sp := fun vs H Q _ => ∃ (m : Int) (v : V), vs = [.int m, v] ∧ Kn H v ∧ (∀ a xs, v = .ref a → H a = some (.tup xs) → xs.length < sizeLine ∧ ∀ x ∈ xs, Kn H x) ∧ ∀ H', Same H H' → Q (.bl (formB H m v)) H'
theorem c_is_form_for (T : Txt K mg C) : C8.Cal P w K mg base 3 "is_form_for" sp_is_form_for [] := by
  refine calF T.d_is_form_for sc_is_form_for (fun vs H Q E h => ?_) (fun f cdv A outer s H vs Q E hr h => ?_)
  · obtain ⟨_, _, rfl, _⟩ := h; rfl
  · obtain ⟨m, v, rfl, kn, ht, q⟩ := h
    refine ⟨_, (pss_one (ps_ret (pe_and (pe_callB call_isK (by rfl) T.m_isinstance (by decide +kernel) (pa_cons (pv 1) (pa_cons (pe_bltn (v := .ty "tuple") (by rfl) T.m_tuple (by decide +kernel) rfl) pa_nil))) (pe_and (pe_cmpR op_eq (pe_callB call_len_seq (by rfl) T.m_len (by decide +kernel) (pa_cons (pv 1) pa_nil)) (pe_op op_add (pv 0) pe_int) (nomark _)) (pe_one (pe_callB (cr_all rfl) (by rfl) T.m_all (by decide +kernel) (pa_cons (pe_lc (own := [("number", 2)]) (by rfl) sc_is_form_for.nd (pi_tup (pv 1)) (blkOk_by (N := ["many", "value", "number"]) (sc := C8.fnScope (topS 22)) (own := [("number", 2)]) (by decide +kernel)) (fun _ _ _ _ _ => (pg_name (i := 2) sc_is_form_for.nd rfl (Or.inl rfl))) (fun _ _ _ _ _ => pts_nil) (fun _ _ _ _ _ => (C8.pe_c (c_is_count T) hr (by decide) (by rfl) (pa_cons (pv 2) pa_nil)))) pa_nil))))))), ?_⟩
    refine ⟨_, rfl, v, "tuple", _, rfl, kn, kit_tuple kn, _, rfl, ite2 (fun e => ?_) (fun e => ?_)⟩
    · cases kn <;> first | (exact absurd e Bool.false_ne_true) | skip
      · rename_i a xs ha
        simp only [isTu, ha] at e
        exact absurd e (by decide)
      · rename_i a xs ha
        obtain ⟨hl, hk⟩ := ht a xs rfl ha
        rw [formB_tup ha] at q
        refine ⟨_, rfl, a, xs, rfl, .inr (.inl (.inl ha)), _, rfl, _, _, rfl, rfl, rfl, _, rfl, ite2 (fun e => ?_) (fun e => ?_)⟩
        · have e' : (xs.length : Int) = m + 1 := V.int.inj (of_decide_eq_true e)
          rw [decide_eq_true e', Bool.true_and] at q
          refine ⟨_, rfl, a, rfl, ⟨xs, .inl (.inl ha)⟩, ?_⟩
          refine fun D hD => lcT_map (fun x => .bl (isC x)) ha hl (fun i x H' R hx s q' => ?_) hD fun H' s hL => ?_
          · exact ⟨rfl, x, rfl, x, rfl, (hk x (List.mem_of_getElem? hx)).same s, q' _ (Same.refl _)⟩
          refine ⟨D, xs.map isC, rfl, .inl (.inl (by rw [hL, List.map_map]; rfl)), ?_⟩
          rw [List.all_map]
          exact q H' s
        · have e' : ¬ (xs.length : Int) = m + 1 := fun z => e (by rw [z]; exact decide_eq_true rfl)
          rw [decide_eq_false e', Bool.false_and] at q
          exact q H (Same.refl _)
    · rw [show formB H m v = false by
        cases kn <;> first | rfl | skip
        · rename_i a xs ha
          simp only [formB, ha]
        · rename_i a xs ha
          exact absurd (isTu_tup ha) e] at q
      exact q H (Same.refl _)

theorem kn_nats {H : Hp} {ns : List Nat} : ∀ x ∈ ns.map (fun n : Nat => V.int (n : Nat)), Kn H x := fun x hx => by
  obtain ⟨i, _, rfl⟩ := List.mem_map.mp hx
  exact .int _
/-- a form in the heap -/
def FT (H : Hp) (a : Addr) (f : F) : Prop := H a = some (.tup (f.map fun n : Nat => V.int (n : Nat)))
theorem FT.same {H H' : Hp} {a : Addr} {f : F} (h : FT H a f) (s : Same H H') : FT H' a f := s _ _ h
theorem formB_FT {H : Hp} {m : Nat} {a : Addr} {f : F} (h : FT H a f) (hl : f.length = m + 1) : formB H m (.ref a) = true := by
  rw [formB_tup h, List.length_map, hl, decide_eq_true (show ((m + 1 : Nat) : Int) = (m : Int) + 1 by omega), Bool.true_and, List.all_map, List.all_eq_true]
  exact fun x hx => decide_eq_true (show (0 : Int) ≤ ((x : Nat) : Int) by omega)
end
end K23

set_option Elab.async false
set_option linter.all false
set_option maxRecDepth 100000
set_option maxHeartbeats 4000000
namespace K23
open PySem PySem.Spec PyProof.Rows L2 CK SX NM
theorem re_st {t : TS} {D : Ends} {σ σ' : L2.St} {H : Hp} (e : σ = σ') (h : t D σ' H) : t D σ H := by
  subst e
  exact h
theorem slice_mid {a : List Nat} {i j : Nat} (h : i ≤ j) (hj : j ≤ a.length) : Txt.slice (S a) (some (i : Int)) (some (j : Int)) = S ((a.drop i).take (j - i)) := by
  have e := beq_iff_eq.mp (slice_closesL (x := S a) (i := (i : Int)) (j := (j : Int)) (by omega) (by omega) (by rw [S_len]; omega))
  refine e.trans (TL.ext_tl ?_)
  show (a.drop (i : Int).toNat).take ((j : Int) - (i : Int)).toNat = (a.drop i).take (j - i)
  congr 1
  omega
theorem lcp_mid {a b : WM.W} {lo mid : Nat} (h1 : lo ≤ WM.lcp a b) (h2 : lo ≤ mid) (ha : mid ≤ a.length) (hb : mid ≤ b.length) :
    (a.drop lo).take (mid - lo) = (b.drop lo).take (mid - lo) ↔ mid ≤ WM.lcp a b := by
  have sp : ∀ z : WM.W, z.take mid = z.take lo ++ (z.drop lo).take (mid - lo) := fun z => by
    have : mid = lo + (mid - lo) := by omega
    conv => lhs; rw [this]
    rw [List.take_add]
  rw [← WM.lcp_iff ha hb, sp a, sp b, WM.lcp_take a b lo h1]
  constructor
  · intro h
    rw [h]
  · intro h
    exact List.append_cancel_left h
section
variable {X : Cx}
/-- s * n, up to a million letters -/
theorem op_repM : OpR X (binaryOp .Mult) (fun x y H Q => ∃ (z : List Nat) (n : Nat), x = .str (S z) ∧ y = .int n ∧ n ≤ 1000000 ∧ z.length ≤ 1000000 ∧ n * z.length ≤ 1000000 ∧ Q (.str (S (List.replicate n z).flatten)) H) := by
  intro pins s σ H x y v u Q I rx ry h
  obtain ⟨z, n, rfl, rfl, hn, hz, hm, q⟩ := h
  obtain ⟨t, rfl⟩ := rx
  obtain ⟨t', rfl⟩ := ry
  have hl : (List.replicate n z).flatten.length = n * z.length := by simp
  refine P.mul_str (by simp; omega) (fun h1 h2 => ?_) (fun h1 h2 => ?_) ?_
  · rw [S_len]
    have hn0 : (0 : Int) < n := by omega
    have h3 : (1000000 : Int) ≤ (2 ^ 63 - 1) / (n : Int) := by
      refine (Int.le_ediv_iff_mul_le hn0).mpr ?_
      have : (1000000 : Int) * n ≤ 1000000 * 1000000 := Int.mul_le_mul_of_nonneg_left (by omega) (by decide)
      omega
    omega
  · rw [S_len, Int.toNat_natCast, Nat.mul_comm]
    have : n * z.length ≤ sizeLine := by rw [sizeLine_eq]; omega
    unfold Builtin.Str.tooLong
    simp
    omega
  · by_cases h1 : (n : Int) < 1
    · rw [if_pos h1]
      have e : n = 0 := by omega
      subst e
      exact ⟨by decide, .str _, H, I.tok _, ⟨_, rfl⟩, q⟩
    · rw [if_neg h1]
      by_cases h2 : ((n : Int) == 1 || (S z).length == 0) = true
      · rw [if_pos h2]
        have e : (List.replicate n z).flatten = z := by
          rw [Bool.or_eq_true, beq_iff_eq, beq_iff_eq, S_len] at h2
          rcases h2 with h2 | h2
          · have : n = 1 := by omega
            subst this
            simp
          · rw [List.length_eq_zero_iff.mp h2]
            simp
        rw [e] at q
        exact ⟨.str _, H, I, ⟨_, rfl⟩, q⟩
      · rw [if_neg h2]
        have e : (⟨(List.replicate (n : Int).toNat (S z).cps).foldl (· ++ ·) #[]⟩ : Str) = S (List.replicate n z).flatten := by
          refine TL.ext_tl ?_
          show ((List.replicate (n : Int).toNat (S z).cps).foldl (· ++ ·) #[]).toList = _
          rw [Int.toNat_natCast, foldl_arr]
          rfl
        rw [e]
        exact ⟨by rw [S_len, hl, sizeLine_eq]; omega, .str _, H, I.tok _, ⟨_, rfl⟩, q⟩
end
section
variable {P : Program} {w : World} {K : PySem.W.Frag} {mg : Str → Option Value} {base : Heap} {C : Addr}
/-! ### words -/
theorem fmodZ (i : Int) {n : Nat} (h : n ≠ 0) : ∃ k : Nat, i.fmod (n : Int) = k ∧ k < n := by
  have h0 : 0 ≤ i.fmod (n : Int) := Int.fmod_nonneg_of_pos i (by omega)
  have h1 : i.fmod (n : Int) < n := Int.fmod_lt_of_pos i (by omega)
  exact ⟨(i.fmod n).toNat, by omega, by omega⟩
def rotZ (z : List Nat) (i : Int) : List Nat := z.drop (i.fmod (z.length : Int)).toNat ++ z.take (i.fmod (z.length : Int)).toNat
theorem fmod_neg (k : Nat) {n : Nat} (h : 0 < n) : (-(k : Int)).fmod (n : Int) = (((n - k % n) % n : Nat) : Int) := by
  have hm := Nat.mod_lt k h
  have hd := Nat.mod_add_div k n
  rw [Int.fmod_eq_emod_of_nonneg _ (by omega)]
  have e : (-(k : Int)) = ((n - k % n : Nat) : Int) + (n : Int) * (-((k / n : Nat) : Int) - 1) := by
    have : ((n - k % n : Nat) : Int) = (n : Int) - ((k % n : Nat) : Int) := by omega
    rw [this]
    have h2 : (k : Int) = ((k % n : Nat) : Int) + (n : Int) * ((k / n : Nat) : Int) := by
      have := congrArg (fun z : Nat => (z : Int)) hd
      simp only [Int.natCast_add, Int.natCast_mul] at this
      exact this.symm
    rw [Int.mul_sub, Int.mul_neg, Int.mul_one]
    omega
  rw [e, Int.add_mul_emod_self_left]
  rfl
theorem rotZ_neg {z : List Nat} (h : z ≠ []) (k : Nat) : rotZ z (-(k : Int)) = rotR z k := by
  have n0 := List.length_pos_iff.mpr h
  unfold rotZ rotR
  rw [fmod_neg k n0, Int.toNat_natCast]
  by_cases e : k % z.length = 0
  · rw [e, Nat.sub_zero, Nat.mod_self]
    simp
  · have hm := Nat.mod_lt k n0
    rw [Nat.mod_eq_of_lt (show z.length - k % z.length < z.length by omega)]
def sp_turned : Sp := fun vs H Q _ => ∃ (z : List Nat) (k : Int), vs = [.str (S z), .int k] ∧ z.length ≤ 1000000 ∧ z ≠ [] ∧ Q (.str (S (rotZ z k))) H
theorem c_turned_word (T : Txt K mg C) : C8.Cal P w K mg base 1 "turned_word" sp_turned [] := by
  refine calF T.d_turned_word sc_turned_word (fun vs H Q E h => ?_) (fun f cdv A outer s H vs Q E hr h => ?_)
  · obtain ⟨_, _, rfl, _⟩ := h; rfl
  · obtain ⟨z, k, rfl, hl, ne, q⟩ := h
    have n0 := List.length_pos_iff.mpr ne
    refine ⟨_, (pss_cons (ps_if (pt_not (pt_truth (pv 0) (by intro _; rfl)))
    (pss_one (ps_ret (pv 0)))
    pss_nil)
    (pss_cons (ps_set (i := 2) sc_turned_word.nd rfl (Or.inl rfl) (pe_op op_modN (pv 1) (pe_callB call_len_str (by rfl) T.m_len (by decide +kernel) (pa_cons (pv 0) pa_nil))))
    (pss_one (ps_ret (pe_op op_add_str (pe_slice C8.sl_txt (pv 0) (po_some (pv 2)) po_none) (pe_slice C8.sl_txt (pv 0) po_none (po_some (pv 2)))))))), ?_⟩
    refine ⟨_, rfl, true, ⟨len_line hl, by rw [S_len]; symm; rw [bne_iff_ne]; omega⟩, iteF ?_⟩
    obtain ⟨m, hm, hlt⟩ := fmodZ k (show z.length ≠ 0 by omega)
    refine ⟨_, rfl, _, rfl, S z, rfl, len_line hl, k, z.length, rfl, congrArg (fun n : Nat => V.int n) (S_len z), by omega, ?_⟩
    refine ⟨_, rfl, _, rfl, m, congrArg V.int hm, S z, rfl, len_line hl, _, rfl, _, rfl, m, congrArg V.int hm, S z, rfl, len_line hl, ?_⟩
    rw [SX.slice_from (by omega), SX.slice_to (by omega), Int.toNat_natCast]
    refine ⟨_, _, rfl, rfl, ?_, ?_⟩
    · rw [S_len, S_len, List.length_drop, List.length_take, sizeLine_eq]
      omega
    · rw [S_cat]
      unfold rotZ at q
      rw [hm, Int.toNat_natCast] at q
      exact q
theorem stretch_tail {u : List Nat} (h : u ≠ []) (n k : Nat) (hk : (u.length - n % u.length) % u.length + n ≤ u.length * k) :
    ((List.replicate k u).flatten.drop ((u.length - n % u.length) % u.length)).take n = tailE u n := by
  have n0 := List.length_pos_iff.mpr h
  have l : (List.replicate k u).flatten.length = u.length * k := WM.pw_len u k
  refine List.ext_getElem? fun i => ?_
  by_cases hi : i < n
  · rw [List.getElem?_take_of_lt hi, List.getElem?_drop, tailE_get h hi]
    have := WM.pw_get h k ((u.length - n % u.length) % u.length + i) (by omega)
    unfold WM.pw at this
    rw [this]
    congr 1
    rw [Nat.mod_add_mod, Nat.add_comm]
  · rw [List.getElem?_eq_none (by rw [List.length_take]; omega), List.getElem?_eq_none (by rw [tailE_len h]; omega)]
def sp_stretch : Sp := fun vs H Q _ => ∃ (u : List Nat) (n : Nat), vs = [.str (S u), .int (-(n : Int)), .int n] ∧ u ≠ [] ∧ u.length ≤ 100000 ∧ n ≤ 100000 ∧ Q (.str (S (tailE u n))) H
theorem c_stretch (T : Txt K mg C) : C8.Cal P w K mg base 1 "stretch" sp_stretch [] := by
  refine calF T.d_stretch sc_stretch (fun vs H Q E h => ?_) (fun f cdv A outer s H vs Q E hr h => ?_)
  · obtain ⟨_, _, rfl, _⟩ := h; rfl
  · obtain ⟨u, n, rfl, ne, hu, hn, q⟩ := h
    have n0 := List.length_pos_iff.mpr ne
    refine ⟨_, (pss_cons (ps_set (i := 3) sc_stretch.nd rfl (Or.inl rfl) (pe_op op_modN (pv 1) (pe_callB call_len_str (by rfl) T.m_len (by decide +kernel) (pa_cons (pv 0) pa_nil))))
    (pss_one (ps_ret (pe_slice C8.sl_txt (pe_op op_repM (pv 0) (pe_op op_add (pe_op op_fdivZ (pe_op op_add (pv 3) (pv 2)) (pe_callB call_len_str (by rfl) T.m_len (by decide +kernel) (pa_cons (pv 0) pa_nil))) pe_int)) (po_some (pv 3)) (po_some (pe_op op_add (pv 3) (pv 2))))))), ?_⟩
    have hm := fmod_neg n n0
    generalize ha : (u.length - n % u.length) % u.length = a at hm
    have alt : a < u.length := by rw [← ha]; exact Nat.mod_lt _ n0
    refine ⟨_, rfl, _, rfl, S u, rfl, len_line (by omega), -(n : Int), u.length, rfl, congrArg (fun n : Nat => V.int n) (S_len u), by omega, ?_⟩
    have hdm := Nat.div_add_mod (a + n) u.length
    have hml := Nat.mod_lt (a + n) n0
    have dl : (a + n) / u.length ≤ a + n := Nat.div_le_self _ _
    refine ⟨_, rfl, _, rfl, _, rfl, a, n, congrArg V.int hm, rfl, _, rfl, S u, rfl, len_line (by omega), a + n, u.length, congrArg V.int (by omega), congrArg (fun n : Nat => V.int n) (S_len u), by omega, by omega, _, _, rfl, rfl, u, (a + n) / u.length + 1, rfl, congrArg V.int (by omega), by omega, by omega, ?_, ?_⟩
    · rw [Nat.add_mul, Nat.one_mul, Nat.mul_comm]
      omega
    · have l : (List.replicate ((a + n) / u.length + 1) u).flatten.length = u.length * ((a + n) / u.length + 1) := WM.pw_len u _
      have hle : a + n ≤ u.length * ((a + n) / u.length + 1) := by rw [Nat.mul_succ]; omega
      refine ⟨_, rfl, a, congrArg V.int hm, _, rfl, _, rfl, a, n, congrArg V.int hm, rfl, ((a + n : Nat) : Int), congrArg V.int (by omega), S _, rfl, ?_, ?_⟩
      · rw [S_len, l, Nat.mul_succ, sizeLine_eq]
        omega
      · rw [slice_mid (by omega) (by rw [l]; exact hle), show a + n - a = n by omega, ← ha, stretch_tail ne n _ (by rw [ha]; exact hle)]
        exact q
def sp_alike : Sp := fun vs H Q _ => ∃ (a b : List Nat), vs = [.str (S a), .str (S b)] ∧ a.length ≤ 1000000 ∧ b.length ≤ 1000000 ∧ Q (.int (WM.lcp a b : Nat)) H
theorem c_alike_ahead (T : Txt K mg C) : C8.Cal P w K mg base 1 "alike_ahead" sp_alike [] := by
  refine calF T.d_alike_ahead sc_alike_ahead (fun vs H Q E h => ?_) (fun f cdv A outer s H vs Q E hr h => ?_)
  · obtain ⟨_, _, rfl, _⟩ := h; rfl
  · obtain ⟨a, b, rfl, ha, hb, q⟩ := h
    refine ⟨_, (pss_cons (ps_par (i := 2) (j := 3) (by rfl) sc_alike_ahead.nd rfl rfl (by decide) rfl rfl (pa_cons pe_int (pa_cons (pe_callB (call_min2 rfl) (by rfl) T.m_min (by decide +kernel) (pa_cons (pe_callB call_len_str (by rfl) T.m_len (by decide +kernel) (pa_cons (pv 0) pa_nil)) (pa_cons (pe_callB call_len_str (by rfl) T.m_len (by decide +kernel) (pa_cons (pv 1) pa_nil)) pa_nil))) pa_nil)) (by rfl))
    (pss_cons (ps_if (pt_cmpR op_eq (pe_slice C8.sl_txt (pv 0) po_none (po_some (pv 3))) (pe_slice C8.sl_txt (pv 1) po_none (po_some (pv 3))) (nomark _))
    (pss_one (ps_ret (pv 3)))
    pss_nil)
    (pss_cons (ps_while PassesOwn.never (pt_cmpR op_gt (pe_op op_sub (pv 3) (pv 2)) pe_int (nomark _))
    (pss_cons (ps_set (i := 4) sc_alike_ahead.nd rfl (Or.inl rfl) (pe_op op_fdivZ (pe_op op_add (pv 2) (pv 3)) pe_int))
    (pss_one (ps_if (pt_cmpR op_eq (pe_slice C8.sl_txt (pv 0) (po_some (pv 2)) (po_some (pv 4))) (pe_slice C8.sl_txt (pv 1) (po_some (pv 2)) (po_some (pv 4))) (nomark _))
    (pss_one (ps_set (i := 2) sc_alike_ahead.nd rfl (Or.inl rfl) (pv 4)))
    (pss_one (ps_set (i := 3) sc_alike_ahead.nd rfl (Or.inl rfl) (pv 4)))))))
    (pss_one (ps_ret (pv 2)))))), ?_⟩
    have lle := WM.lcp_le a b
    obtain ⟨m, hma, hmb, hm, hmm⟩ : ∃ m : Nat, m ≤ a.length ∧ m ≤ b.length ∧ (if (((S b).length : Nat) : Int) < (((S a).length : Nat) : Int) then (((S b).length : Nat) : Int) else (((S a).length : Nat) : Int)) = m ∧ (a.length ≤ m ∨ b.length ≤ m) := by
      rw [S_len, S_len]
      by_cases z : (b.length : Int) < a.length
      · exact ⟨b.length, by omega, by omega, if_pos z, .inr (Nat.le_refl _)⟩
      · exact ⟨a.length, by omega, by omega, if_neg z, .inl (Nat.le_refl _)⟩
    refine ⟨_, rfl, S a, rfl, len_line ha, _, rfl, S b, rfl, len_line hb, _, _, rfl, .int 0, .int m, congrArg (fun z => [V.int 0, V.int z]) hm, ?_⟩
    refine ⟨_, rfl, _, rfl, m, rfl, S a, rfl, len_line ha, _, rfl, _, rfl, m, rfl, S b, rfl, len_line hb, rfl, _, rfl, ?_⟩
    rw [SX.slice_to (by omega), SX.slice_to (by omega), Int.toNat_natCast]
    refine ite2 (fun e => ?_) (fun e => ?_)
    · have e' := S_inj (V.str.inj (of_decide_eq_true e))
      have := WM.le_lcp a b m hma hmb e'
      refine ⟨_, rfl, ?_⟩
      rw [show m = WM.lcp a b by omega]
      exact q
    · have e' : WM.lcp a b < m := by
        by_cases z : WM.lcp a b < m
        · exact z
        · exact absurd (decide_eq_true (congrArg (fun l => V.str (S l)) (WM.lcp_take a b m (by omega)))) e
      refine while_by (fun σ H' => H' = H ∧ ∃ (lo hi : Nat) (zl zh : Int) (y : Option V), σ = [some (.str (S a)), some (.str (S b)), some (.int zl), some (.int zh), y] ∧ zl = lo ∧ zh = hi ∧ lo ≤ WM.lcp a b ∧ WM.lcp a b < hi ∧ hi ≤ m)
        (fun σ _ => match σ with | [_, _, some (.int zl), some (.int zh), _] => (zh - zl).toNat | _ => 0) ?_ (fun σ H' p => ?_) ?_
      · exact ⟨rfl, 0, m, _, _, none, rfl, rfl, rfl, Nat.zero_le _, e', Nat.le_refl _⟩
      · obtain ⟨rfl, lo, hi, zl, zh, y, rfl, rfl, rfl, h1, h2, h3⟩ := p
        refine ⟨_, rfl, _, rfl, _, _, rfl, rfl, _, _, rfl, rfl, _, rfl, ite2 (fun c => ?_) (fun c => ?_)⟩
        · have c' : lo + 1 < hi := by
            have := of_decide_eq_true c
            omega
          refine ⟨_, rfl, _, rfl, _, _, rfl, rfl, lo + hi, 2, congrArg V.int (by omega), rfl, by decide, by decide, ?_⟩
          have m1 : lo < (lo + hi) / 2 := by omega
          have m2 : (lo + hi) / 2 < hi := by omega
          generalize (lo + hi) / 2 = md at m1 m2
          refine ⟨_, rfl, _, rfl, lo, rfl, _, rfl, md, rfl, S a, rfl, len_line ha, _, rfl, _, rfl, lo, rfl, _, rfl, md, rfl, S b, rfl, len_line hb, rfl, _, rfl, ?_⟩
          rw [slice_mid (by omega) (by omega), slice_mid (by omega) (by omega)]
          have iff := lcp_mid (a := a) (b := b) (lo := lo) (mid := md) h1 (by omega) (by omega) (by omega)
          refine ite2 (fun d => ?_) (fun d => ?_)
          · have d' := iff.mp (S_inj (V.str.inj (of_decide_eq_true d)))
            refine ⟨_, rfl, ⟨rfl, md, hi, _, _, _, rfl, rfl, rfl, d', h2, h3⟩, ?_⟩
            show ((hi : Int) - ((md : Nat) : Int)).toNat < ((hi : Int) - (lo : Int)).toNat
            omega
          · have d' : WM.lcp a b < md := by
              by_cases z : WM.lcp a b < md
              · exact z
              · exact absurd (decide_eq_true (congrArg (fun l => V.str (S l)) (iff.mpr (by omega)))) d
            refine ⟨_, rfl, ⟨rfl, lo, md, _, _, _, rfl, rfl, rfl, h1, d', by omega⟩, ?_⟩
            show (((md : Nat) : Int) - (lo : Int)).toNat < ((hi : Int) - (lo : Int)).toNat
            omega
        · have c' : lo = WM.lcp a b := by
            have : ¬ ((hi : Int) - lo > 1) := fun z => c (decide_eq_true z)
            omega
          subst c'
          exact ⟨_, rfl, q⟩
      · intro σ H' Q1 Q2 hq h
        obtain ⟨a1, h1, a2, h2, a3, a4, h3, h4, a5, a6, h5, h6, k, h7, h⟩ := h
        exact ⟨a1, h1, a2, h2, a3, a4, h3, h4, a5, a6, h5, h6, k, h7, hq _ _ h⟩
def sp_behind : Sp := fun vs H Q _ => ∃ (a b : List Nat), vs = [.str (S a), .str (S b)] ∧ a.length ≤ 1000000 ∧ b.length ≤ 1000000 ∧ Q (.int (WM.lcp a.reverse b.reverse : Nat)) H
theorem c_alike_behind (T : Txt K mg C) : C8.Cal P w K mg base 2 "alike_behind" sp_behind [] := by
  refine calF T.d_alike_behind sc_alike_behind (fun vs H Q E h => ?_) (fun f cdv A outer s H vs Q E hr h => ?_)
  · obtain ⟨_, _, rfl, _⟩ := h; rfl
  · obtain ⟨a, b, rfl, ha, hb, q⟩ := h
    refine ⟨_, (pss_one (ps_ret (C8.pe_c (c_alike_ahead T) hr (by decide) (by rfl) (pa_cons (pe_revS (pv 0)) (pa_cons (pe_revS (pv 1)) pa_nil))))), ?_⟩
    refine ⟨_, rfl, a, rfl, by rw [sizeLine_eq]; omega, _, rfl, b, rfl, by rw [sizeLine_eq]; omega, a.reverse, b.reverse, rfl, by simpa using ha, by simpa using hb, q⟩
end
end K23

set_option Elab.async false
set_option linter.all false
set_option maxRecDepth 100000
set_option maxHeartbeats 4000000
namespace K23
open PySem PySem.Spec PyProof.Rows L2 CK SX NM
/-- the borders' sizes, up to the place i -/
def szL (z : List Nat) (i : Nat) : List Nat := (List.range z.length).map fun j => if j ≤ i then WM.lb (z.take (j + 1)) else 0
theorem szL_len (z : List Nat) (i : Nat) : (szL z i).length = z.length := by simp [szL]
theorem szL_get {z : List Nat} {i j : Nat} (h : j ≤ i) (hj : j < z.length) : (szL z i)[j]? = some (WM.lb (z.take (j + 1))) := by
  unfold szL
  rw [List.getElem?_map, List.getElem?_range hj]
  simp [h]
theorem szL_zero {z : List Nat} (h : z ≠ []) : szL z 0 = List.replicate z.length 0 := by
  refine List.ext_getElem? fun j => ?_
  unfold szL
  by_cases hj : j < z.length
  · rw [List.getElem?_map, List.getElem?_range hj, List.getElem?_replicate, if_pos hj]
    simp only [Option.map_some]
    split
    · rename_i e
      have : j = 0 := by omega
      subst this
      rw [WM.lb_one]
    · rfl
  · rw [List.getElem?_eq_none (by simp; omega), List.getElem?_eq_none (by simp; omega)]
theorem szL_set {z : List Nat} {i : Nat} (h : i + 1 < z.length) : (szL z i).set (i + 1) (WM.lb (z.take (i + 2))) = szL z (i + 1) := by
  refine List.ext_getElem? fun j => ?_
  by_cases hj : j < z.length
  · rw [List.getElem?_set]
    unfold szL
    by_cases e : i + 1 = j
    · subst e
      rw [if_pos rfl, if_pos (by simp; omega), List.getElem?_map, List.getElem?_range hj]
      simp
    · rw [if_neg e, List.getElem?_map, List.getElem?_map, List.getElem?_range hj]
      simp only [Option.map_some]
      congr 1
      by_cases a : j ≤ i
      · rw [if_pos a, if_pos (by omega)]
      · rw [if_neg a, if_neg (by omega)]
  · rw [List.getElem?_eq_none (by simp [szL]; omega), List.getElem?_eq_none (by simp [szL]; omega)]
def natsV (ns : List Nat) : List V := ns.map fun n : Nat => V.int (n : Nat)
theorem natsV_get {ns : List Nat} {i n : Nat} (h : ns[i]? = some n) : (natsV ns)[i]? = some (.int (n : Nat)) := by
  unfold natsV
  rw [List.getElem?_map, h]
  rfl
theorem natsV_set (ns : List Nat) (i n : Nat) : (natsV ns).set i (.int (n : Nat)) = natsV (ns.set i n) := by
  unfold natsV
  rw [List.map_set]
theorem natsV_len (ns : List Nat) : (natsV ns).length = ns.length := by simp [natsV]
section
variable {P : Program} {w : World} {K : PySem.W.Frag} {mg : Str → Option Value} {base : Heap} {C : Addr}
def sp_border : Sp := fun vs H Q _ => ∃ (z : List Nat), vs = [.str (S z)] ∧ z ≠ [] ∧ z.length ≤ 1000000 ∧ ∀ p H', Same H H' → H p = none → H' p = some (.lst (natsV (szL z (z.length - 1)))) → Q (.ref p) H'
theorem c_border_sizes (T : Txt K mg C) : C8.Cal P w K mg base 1 "border_sizes" sp_border [] := by
  refine calF T.d_border_sizes sc_border_sizes (fun vs H Q E h => ?_) (fun f cdv A outer s H vs Q E hr h => ?_)
  · obtain ⟨_, rfl, _⟩ := h; rfl
  · obtain ⟨z, rfl, ne, hz, q⟩ := h
    have n0 := List.length_pos_iff.mpr ne
    refine ⟨_, (pss_cons (ps_set (i := 1) sc_border_sizes.nd rfl (Or.inl rfl) (pe_op op_rep (pe_lst (pa_cons pe_int pa_nil)) (pe_callB call_len_str (by rfl) T.m_len (by decide +kernel) (pa_cons (pv 0) pa_nil))))
    (pss_cons (ps_set (i := 2) sc_border_sizes.nd rfl (Or.inl rfl) pe_int)
    (pss_cons (ps_for PassesOwn.never rfl (pi_range2 (by rfl) T.m_range (pa_cons pe_int (pa_cons (pe_callB call_len_str (by rfl) T.m_len (by decide +kernel) (pa_cons (pv 0) pa_nil)) pa_nil))) (pg_name (i := 3) sc_border_sizes.nd rfl (Or.inl rfl))
    (pss_cons (ps_while PassesOwn.never (PW.pt (pw_and (pt_truth (pv 2) (by intro _; rfl)) (pw_and1 (pt_cmpR op_ne (pe_ix ix_str (pv 0) (pv 3) (fun _ _ => rfl)) (pe_ix ix_str (pv 0) (pv 2) (fun _ _ => rfl)) (nomark _)))))
    (pss_one (ps_set (i := 2) sc_border_sizes.nd rfl (Or.inl rfl) (pe_ix ix_list (pv 1) (pe_op op_sub (pv 2) pe_int) (fun _ _ => rfl)))))
    (pss_cons (ps_if (pt_cmpR op_eq (pe_ix ix_str (pv 0) (pv 3) (fun _ _ => rfl)) (pe_ix ix_str (pv 0) (pv 2) (fun _ _ => rfl)) (nomark _))
    (pss_one (ps_aug (i := 2) sc_border_sizes.nd rfl (.inl rfl) pe_int ip_add))
    pss_nil)
    (pss_one (ps_asg (pv 2) (pg_sub (pv 1) (pv 3) set_list))))))
    (pss_one (ps_ret (pv 1)))))), ?_⟩
    refine ⟨by show 1 ≤ sizeLine; decide, fun L0 h0 => ⟨_, rfl, S z, rfl, len_line hz, L0, _, _, rfl, rfl, upd_same, by omega, by rw [S_len]; omega, by rw [S_len, sizeLine_eq]; simp; omega, fun p hp => ?_⟩⟩
    have s0 := (sameNew (o := .lst [V.int 0]) h0).trans (sameNew (o := .lst (List.replicate (((S z).length : Nat) : Int).toNat [V.int 0]).flatten) hp)
    have hp0 : H p = none := (sameNew (o := .lst [V.int 0]) h0).free hp
    have e0 : (List.replicate (((S z).length : Nat) : Int).toNat [V.int 0]).flatten = natsV (szL z 0) := by
      rw [S_len, Int.toNat_natCast, szL_zero ne]
      unfold natsV
      rw [List.map_replicate]
      generalize z.length = k
      induction k with
      | zero => rfl
      | succ k ih => rw [List.replicate_succ, List.flatten_cons, ih, List.replicate_succ]; rfl
    rw [e0] at s0 ⊢
    have hpl : (upd (upd H L0 (.lst [V.int 0])) p (.lst (natsV (szL z 0)))) p = some (.lst (natsV (szL z 0))) := upd_same
    generalize upd (upd H L0 (.lst [V.int 0])) p (.lst (natsV (szL z 0))) = H1 at s0 hpl
    refine ⟨_, rfl, S z, rfl, len_line hz, 1, _, rfl, ⟨by omega, by omega, by omega, by rw [S_len]; omega⟩, ?_⟩
    refine for_it walk_range (fun i σ H' => i ≤ z.length - 1 ∧ SameX p H1 H' ∧ H' p = some (.lst (natsV (szL z i))) ∧ ∃ (zs : Int) (y3 : Option V), σ = [some (.str (S z)), some (.ref p), some (.int zs), y3] ∧ zs = ((WM.lb (z.take (i + 1)) : Nat) : Int))
      ⟨by omega, .refl _ _, hpl, 0, none, rfl, by rw [WM.lb_one]; rfl⟩ (fun _ _ _ _ _ => True.intro) (fun i x σ H' H'' hi pI yy => ?_) fun σ H' pI => ?_
    · obtain ⟨_, s1, hl1, zs, y3, rfl, rfl⟩ := pI
      obtain ⟨rfl, rfl⟩ := yy
      have hi' : i + 1 < z.length := by
        have : i < ((((S z).length : Nat) : Int) - 1).toNat := hi
        rw [S_len] at this
        omega
      have zn : z[i + 1]? = some z[i + 1] := List.getElem?_eq_getElem hi'
      generalize z[i + 1] = cn at zn
      have cand0 : WM.Cand z (i + 1) (WM.lb (z.take (i + 1))) := WM.cand_start (by omega) (by omega)
      refine while_by (fun σ H2 => H2 = H'' ∧ ∃ (s' : Nat) (zs : Int), σ = [some (.str (S z)), some (.ref p), some (.int zs), some (.int (1 + (i : Int)))] ∧ zs = s' ∧ WM.Cand z (i + 1) s')
        (fun σ _ => match σ with | [_, _, some (.int zs), _] => zs.toNat | _ => 0) ⟨rfl, _, _, rfl, rfl, cand0⟩ (fun σ H2 pJ => ?_) ?_
      · obtain ⟨rfl, s', zs, rfl, rfl, cand⟩ := pJ
        have slt := cand.1
        have zk : z[s']? = some z[s'] := List.getElem?_eq_getElem (by omega)
        generalize z[s'] = ck at zk
        refine ⟨_, rfl, _, rfl, ?_⟩
        by_cases z0 : s' = 0
        · subst z0
          refine iteF ?_
          refine ⟨_, rfl, _, rfl, S z, 1 + (i : Int), cn, rfl, rfl, len_line hz, ?_, _, rfl, _, rfl, S z, ((0 : Nat) : Int), ck, rfl, rfl, len_line hz, atI_nat (xs := z) zk, rfl, _, rfl, ?_⟩
          · rw [show 1 + (i : Int) = ((i + 1 : Nat) : Int) by omega]
            exact atI_nat (xs := z) zn
          refine ite2 (fun e => ?_) (fun e => ?_)
          · have ec : cn = ck := by
              have := S_inj (a := [cn]) (b := [ck]) (V.str.inj (of_decide_eq_true e))
              simpa using this
            have hit := WM.cand_hit hi' cand (by rw [zk, zn, ec])
            refine ⟨_, rfl, _, _, rfl, rfl, _, rfl, _, rfl, _, rfl, p, _, 1 + (i : Int), i + 1, rfl, rfl, hl1, ?_, ?_⟩
            · unfold ixN
              rw [natsV_len, szL_len, if_pos (by omega), if_pos (by omega)]
              congr 1
              omega
            · refine ⟨by omega, fun b o hb e => by rw [upd_ne hb]; exact s1 b o hb e, ?_, _, _, rfl, by rw [show i + 1 + 1 = i + 2 by omega] at hit ⊢; rw [hit]; rfl⟩
              rw [upd_same]
              have := natsV_set (szL z i) (i + 1) (WM.lb (z.take (i + 2)))
              rw [szL_set hi', show i + 2 = i + 1 + 1 by omega, hit] at this
              rw [← this]
              rfl
          · have nc : z[0]? ≠ z[i + 1]? := by
              rw [zk, zn]
              intro y
              exact e (decide_eq_true (by rw [Option.some.inj y]))
            have miss := WM.cand_miss hi' cand nc
            refine ⟨_, rfl, _, rfl, _, rfl, p, _, 1 + (i : Int), i + 1, rfl, rfl, hl1, ?_, ?_⟩
            · unfold ixN
              rw [natsV_len, szL_len, if_pos (by omega), if_pos (by omega)]
              congr 1
              omega
            · refine ⟨by omega, fun b o hb e => by rw [upd_ne hb]; exact s1 b o hb e, ?_, _, _, rfl, by rw [miss]⟩
              rw [upd_same]
              have := natsV_set (szL z i) (i + 1) (WM.lb (z.take (i + 2)))
              rw [szL_set hi', show i + 2 = i + 1 + 1 by omega, miss] at this
              rw [← this]
        · have tz : ((((s' : Nat) : Int)) != 0) = true := by rw [bne_iff_ne]; omega
          rw [tz]
          refine iteT ?_
          refine ⟨_, rfl, _, rfl, S z, 1 + (i : Int), cn, rfl, rfl, len_line hz, ?_, _, rfl, _, rfl, S z, ((s' : Nat) : Int), ck, rfl, rfl, len_line hz, atI_nat (xs := z) zk, rfl, _, rfl, ?_⟩
          · rw [show 1 + (i : Int) = ((i + 1 : Nat) : Int) by omega]
            exact atI_nat (xs := z) zn
          by_cases ec : cn = ck
          · refine iteNS (by rw [ec]) ?_
            refine ⟨_, rfl, _, rfl, S z, 1 + (i : Int), cn, rfl, rfl, len_line hz, ?_, _, rfl, _, rfl, S z, ((s' : Nat) : Int), ck, rfl, rfl, len_line hz, atI_nat (xs := z) zk, rfl, _, rfl, ?_⟩
            · rw [show 1 + (i : Int) = ((i + 1 : Nat) : Int) by omega]
              exact atI_nat (xs := z) zn
            rw [ec, decide_eq_true rfl]
            have hit := WM.cand_hit hi' cand (by rw [zk, zn, ec])
            refine iteT ⟨_, rfl, _, _, rfl, rfl, _, rfl, _, rfl, _, rfl, p, _, 1 + (i : Int), i + 1, rfl, rfl, hl1, ?_, ?_⟩
            · unfold ixN
              rw [natsV_len, szL_len, if_pos (by omega), if_pos (by omega)]
              congr 1
              omega
            · refine ⟨by omega, fun b o hb e => by rw [upd_ne hb]; exact s1 b o hb e, ?_, _, _, rfl, by rw [show i + 1 + 1 = i + 2 by omega] at hit ⊢; rw [hit]; rfl⟩
              rw [upd_same]
              have := natsV_set (szL z i) (i + 1) (WM.lb (z.take (i + 2)))
              rw [szL_set hi', show i + 2 = i + 1 + 1 by omega, hit] at this
              rw [← this]
              rfl
          · have hd : z[s']? ≠ z[i + 1]? := by
              rw [zk, zn]
              intro y
              exact ec (Option.some.inj y).symm
            have down := WM.cand_down (by omega) cand (by omega) hd
            have : (!decide (V.str (S [cn]) = V.str (S [ck]))) = true := by
              rw [decide_eq_false (fun y => ec (by simpa using S_inj (a := [cn]) (b := [ck]) (V.str.inj y)))]
              rfl
            rw [show (⟨#[cn]⟩ : Str) = S [cn] from rfl, show (⟨#[ck]⟩ : Str) = S [ck] from rfl, this]
            have get := szL_get (z := z) (i := i) (j := s' - 1) (by omega) (by omega)
            rw [show s' - 1 + 1 = s' by omega] at get
            refine iteT ⟨_, rfl, _, rfl, _, _, rfl, rfl, p, _, _, .int ((WM.lb (z.take s') : Nat) : Int), rfl, rfl, .inl (.inl hl1), ?_, ⟨rfl, WM.lb (z.take s'), _, rfl, rfl, down⟩, ?_⟩
            · rw [show ((s' : Nat) : Int) - 1 = ((s' - 1 : Nat) : Int) by omega]
              exact atI_nat (natsV_get get)
            · show (((WM.lb (z.take s') : Nat) : Int)).toNat < (((s' : Nat) : Int)).toNat
              have := WM.lb_lt (w := z.take s') (fun y => by have := congrArg List.length y; rw [List.length_take, List.length_nil] at this; omega)
              rw [List.length_take] at this
              omega
      · intro σ H' Q1 Q2 hq h
        obtain ⟨a1, h1, k, h2, h⟩ := h
        refine ⟨a1, h1, k, h2, ?_⟩
        cases k with
        | false => exact hq _ _ h
        | true =>
          obtain ⟨a1, h1, a2, h2, a3, a4, a5, h3, h4, h5, h6, a6, h7, a7, h8, a8, a9, a10, h9, h10, h11, h12, h13, k, h14, h⟩ := h
          exact ⟨a1, h1, a2, h2, a3, a4, a5, h3, h4, h5, h6, a6, h7, a7, h8, a8, a9, a10, h9, h10, h11, h12, h13, k, h14, hq _ _ h⟩
    · obtain ⟨_, s1, hl1, zs, y3, rfl, rfl⟩ := pI
      have en : ((((S z).length : Nat) : Int) - 1).toNat = z.length - 1 := by rw [S_len]; omega
      rw [en] at hl1
      refine ⟨_, rfl, q p H' (fun b o e => ?_) hp0 hl1⟩
      have hb : b ≠ p := fun y => by rw [y, hp0] at e; cases e
      exact s1 _ _ hb (s0 _ _ e)
def sp_root : Sp := fun vs H Q _ => ∃ (z : List Nat), vs = [.str (S z)] ∧ z ≠ [] ∧ z.length ≤ 1000000 ∧ ∀ H', Same H H' → Q (.int (WM.rootN z : Nat)) H'
theorem c_root_size (T : Txt K mg C) : C8.Cal P w K mg base 2 "root_size" sp_root [] := by
  refine calF T.d_root_size sc_root_size (fun vs H Q E h => ?_) (fun f cdv A outer s H vs Q E hr h => ?_)
  · obtain ⟨_, rfl, _⟩ := h; rfl
  · obtain ⟨z, rfl, ne, hz, q⟩ := h
    have n0 := List.length_pos_iff.mpr ne
    have lt := WM.lb_lt ne
    refine ⟨_, (pss_cons (ps_set (i := 1) sc_root_size.nd rfl (Or.inl rfl) (pe_op op_sub (pe_callB call_len_str (by rfl) T.m_len (by decide +kernel) (pa_cons (pv 0) pa_nil)) (pe_ix ix_list (C8.pe_c (c_border_sizes T) hr (by decide) (by rfl) (pa_cons (pv 0) pa_nil)) (pe_un un_neg pe_int) (fun _ _ => rfl))))
    (pss_one (ps_ret (pe_ifExp (pt_truth (pe_op op_modZ (pe_callB call_len_str (by rfl) T.m_len (by decide +kernel) (pa_cons (pv 0) pa_nil)) (pv 1)) (by intro _; rfl)) (pe_callB call_len_str (by rfl) T.m_len (by decide +kernel) (pa_cons (pv 0) pa_nil)) (pv 1))))), ?_⟩
    refine ⟨_, rfl, S z, rfl, len_line hz, _, rfl, z, rfl, ne, hz, fun p H1 s1 n1 hp => ?_⟩
    have get := szL_get (z := z) (i := z.length - 1) (j := z.length - 1) (Nat.le_refl _) (by omega)
    rw [show z.length - 1 + 1 = z.length by omega, List.take_length] at get
    have e1 : (((S z).length : Nat) : Int) - ((WM.lb z : Nat) : Int) = ((z.length - WM.lb z : Nat) : Int) := by rw [S_len]; omega
    refine ⟨1, rfl, p, _, -1, .int (WM.lb z : Nat), rfl, rfl, .inl (.inl hp), ?_, _, _, rfl, rfl, ?_⟩
    · unfold atI ixN
      rw [natsV_len, szL_len, if_neg (by omega), if_pos (by omega)]
      show (natsV (szL z (z.length - 1)))[((-1 : Int) + z.length).toNat]? = _
      rw [show ((-1 : Int) + z.length).toNat = z.length - 1 by omega]
      exact natsV_get get
    · refine ⟨_, rfl, S z, rfl, len_line hz, _, rfl, z.length, z.length - WM.lb z, congrArg (fun n : Nat => V.int n) (S_len z), congrArg V.int e1, by omega, _, rfl, ?_⟩
      unfold WM.rootN at q
      by_cases m0 : z.length % (z.length - WM.lb z) = 0
      · rw [if_pos m0] at q
        rw [show ((((z.length % (z.length - WM.lb z) : Nat) : Int)) != 0) = false by rw [m0]; rfl]
        refine iteF ⟨_, rfl, ?_⟩
        show Q (V.int ((((S z).length : Nat) : Int) - ((WM.lb z : Nat) : Int))) H1
        rw [e1]
        exact q H1 s1
      · rw [if_neg m0] at q
        rw [show ((((z.length % (z.length - WM.lb z) : Nat) : Int)) != 0) = true by rw [bne_iff_ne]; omega]
        refine iteT ⟨_, rfl, S z, rfl, len_line hz, ?_⟩
        show Q (V.int (((S z).length : Nat) : Int)) H1
        rw [S_len]
        exact q H1 s1
/-! ### forms -/
theorem get_nat {xs : List Nat} {i : Nat} {v : V} (h : (xs.map fun n : Nat => V.int (n : Nat))[i]? = some v) : ∃ z, z ∈ xs ∧ xs[i]? = some z ∧ v = .int (z : Nat) := by
  rw [List.getElem?_map] at h
  cases e : xs[i]? with
  | none => rw [e] at h; cases h
  | some z =>
    rw [e] at h
    exact ⟨z, List.mem_of_getElem? e, rfl, (Option.some.inj h).symm⟩
def vAdd : V → V → V
  | .int i, .int j => .int (i + j)
  | _, _ => .non
theorem zip_addN : ∀ (xs ys : List Nat), List.zipWith vAdd (xs.map fun n : Nat => V.int (n : Nat)) (ys.map fun n : Nat => V.int (n : Nat)) = (addF xs ys).map fun n : Nat => V.int (n : Nat)
  | [], _ => by simp [addF]
  | _ :: _, [] => by simp [addF]
  | x :: xs, y :: ys => by
    show V.int ((x : Int) + (y : Int)) :: _ = V.int ((x + y : Nat) : Int) :: _
    rw [zip_addN xs ys]
    rfl
theorem small5 {n : Nat} (h : n ≤ 5) : n < sizeLine := small1000 (by omega)
def sp_form_sum : Sp := fun vs H Q _ => ∃ (a b : Addr) (f g : F), vs = [.ref a, .ref b] ∧ FT H a f ∧ FT H b g ∧ f.length ≤ 4 ∧ f.length = g.length ∧ ∀ p H', Same H H' → FT H' p (addF f g) → Q (.ref p) H'
theorem c_form_sum (T : Txt K mg C) : C8.Cal P w K mg base 1 "form_sum" sp_form_sum [] := by
  refine calF T.d_form_sum sc_form_sum (fun vs H Q E h => ?_) (fun f cdv A outer s H vs Q E hr h => ?_)
  · obtain ⟨_, _, _, _, rfl, _⟩ := h; rfl
  · obtain ⟨a, b, f, g, rfl, ha, hb, h4, hl, q⟩ := h
    refine ⟨_, (pss_one (ps_ret (pe_callTy call_tupL (by rfl) T.m_tuple (by decide +kernel) (pa_cons (pe_lc (own := [("left", 2), ("right", 3)]) (by rfl) sc_form_sum.nd (pi_zipB (K := K) rfl (by rfl) T.m_zip (pa_cons (pv 0) (pa_cons (pv 1) pa_nil))) (blkOk_by (N := ["one", "other", "left", "right"]) (sc := C8.fnScope (topS 26)) (own := [("left", 2), ("right", 3)]) (by decide +kernel)) (fun _ _ _ _ _ => (pg_two (K := K) (i := 2) (j := 3) rfl rfl sc_form_sum.nd rfl rfl (Or.inl rfl) (Or.inl rfl))) (fun _ _ _ _ _ => pts_nil) (fun _ _ _ _ _ => (pe_op op_add (pv 2) (pv 3)))) pa_nil)))), ?_⟩
    refine ⟨_, rfl, _, rfl, .T, .T, a, b, _, _, rfl, .inl (.inl ha), .inl (.inl hb), ?_⟩
    refine fun D hD => lcZ_map vAdd (by simp; omega) (by rw [List.length_map]; exact small5 (by omega)) (fun H' s => ⟨.inl (.inl (s _ _ ha)), .inl (.inl (s _ _ hb))⟩) (fun i x y H' R hx hy s q' => ?_) hD fun H' s hL => ?_
    · obtain ⟨x', mx, _, rfl⟩ := get_nat hx
      obtain ⟨y', my, _, rfl⟩ := get_nat hy
      exact ⟨rfl, _, rfl, _, rfl, _, _, rfl, rfl, q' _ (Same.refl _)⟩
    · rw [zip_addN] at hL
      exact ⟨D, _, rfl, hL, fun l H2 s2 h2 => q l H2 (s.trans s2) h2⟩
def Bf (f : F) : Prop := ∀ n ∈ f, n < 2 ^ 900
def sp_form_times : Sp := fun vs H Q _ => ∃ (k : Nat) (a : Addr) (f : F), vs = [.int k, .ref a] ∧ FT H a f ∧ f.length ≤ 4 ∧ k < 2 ^ 900 ∧ Bf f ∧ ∀ p H', Same H H' → FT H' p (timesF k f) → Q (.ref p) H'
theorem c_form_times (T : Txt K mg C) : C8.Cal P w K mg base 1 "form_times" sp_form_times [] := by
  refine calF T.d_form_times sc_form_times (fun vs H Q E h => ?_) (fun f cdv A outer s H vs Q E hr h => ?_)
  · obtain ⟨_, _, _, rfl, _⟩ := h; rfl
  · obtain ⟨k, a, f, rfl, ha, h4, hk, bf, q⟩ := h
    refine ⟨_, (pss_one (ps_ret (pe_callTy call_tupL (by rfl) T.m_tuple (by decide +kernel) (pa_cons (pe_lc (own := [("own", 2)]) (by rfl) sc_form_times.nd (pi_tup (pv 1)) (blkOk_by (N := ["number", "form", "own"]) (sc := C8.fnScope (topS 27)) (own := [("own", 2)]) (by decide +kernel)) (fun _ _ _ _ _ => (pg_name (i := 2) sc_form_times.nd rfl (Or.inl rfl))) (fun _ _ _ _ _ => pts_nil) (fun _ _ _ _ _ => (pe_op op_mulW (pv 0) (pv 2)))) pa_nil)))), ?_⟩
    refine ⟨_, rfl, a, rfl, ⟨_, .inl (.inl ha)⟩, ?_⟩
    refine fun D hD => lcT_map (fun x => match x with | .int j => .int ((k : Int) * j) | _ => .non) ha (by rw [List.length_map]; exact small5 (by omega)) (fun i x H' R hx s q' => ?_) hD fun H' s hL => ?_
    · obtain ⟨x', mx, _, rfl⟩ := get_nat hx
      have := bf x' mx
      exact ⟨rfl, _, rfl, _, rfl, _, _, rfl, rfl, wide_mul (a := 900) (b := 900) (by omega) (by omega) (by decide) (by decide) (by decide), q' _ (Same.refl _)⟩
    · refine ⟨D, _, rfl, hL, fun l H2 s2 h2 => q l H2 (s.trans s2) ?_⟩
      unfold FT
      rw [h2, timesF, List.map_map, List.map_map]
      congr 2
end
end K23

set_option Elab.async false
set_option linter.all false
set_option maxRecDepth 100000
set_option maxHeartbeats 4000000
namespace K23
open PySem PySem.Spec PyProof.Rows L2 CK SX NM
/-! ### pieces in the heap -/
def PC (H : Hp) (a : Addr) (p : Pn) : Prop := ∃ fa, H a = some (.tup [.str (S p.1), .ref fa]) ∧ FT H fa p.2
theorem PC.mono {H H' : Hp} {a : Addr} {p : Pn} (h : PC H a p) (s : ∀ a xs, H a = some (.tup xs) → H' a = some (.tup xs)) : PC H' a p := by
  obtain ⟨fa, h1, h2⟩ := h
  exact ⟨fa, s _ _ h1, s _ _ h2⟩
inductive Pcs (H : Hp) : List V → List Pn → Prop
  | nil : Pcs H [] []
  | cons {a : Addr} {vs : List V} {p : Pn} {ps : List Pn} : PC H a p → Pcs H vs ps → Pcs H (.ref a :: vs) (p :: ps)
theorem Pcs.mono {H H' : Hp} {vs : List V} {ps : List Pn} (h : Pcs H vs ps) (s : ∀ a xs, H a = some (.tup xs) → H' a = some (.tup xs)) : Pcs H' vs ps := by
  induction h with
  | nil => exact .nil
  | cons e _ ih => exact .cons (e.mono s) ih
theorem tup_same {H H' : Hp} (s : Same H H') : ∀ a xs, H a = some (.tup xs) → H' a = some (.tup xs) := fun a xs e => s _ _ e
theorem tup_upd {H : Hp} {l : Addr} {xs ys : List V} (hl : H l = some (.lst xs)) : ∀ a zs, H a = some (.tup zs) → (upd H l (.lst ys)) a = some (.tup zs) := fun a zs e => by
  rw [upd_ne (fun z => by rw [z, hl] at e; cases e)]
  exact e
theorem tup_sameX {l : Addr} {H H' : Hp} {xs : List V} (hl : H l = some (.lst xs)) (s : SameX l H H') : ∀ a zs, H a = some (.tup zs) → H' a = some (.tup zs) := fun a zs e =>
  s _ _ (fun z => by rw [z, hl] at e; cases e) e
theorem Pcs.same {H H' : Hp} {vs : List V} {ps : List Pn} (h : Pcs H vs ps) (s : Same H H') : Pcs H' vs ps := h.mono (tup_same s)
theorem Pcs.upd {H : Hp} {vs : List V} {ps : List Pn} {l : Addr} {xs ys : List V} (h : Pcs H vs ps) (hl : H l = some (.lst xs)) : Pcs (upd H l (.lst ys)) vs ps := h.mono (tup_upd hl)
theorem Pcs.len {H : Hp} {vs : List V} {ps : List Pn} (h : Pcs H vs ps) : vs.length = ps.length := by
  induction h with
  | nil => rfl
  | cons _ _ ih => simp [ih]
theorem Pcs.app {H : Hp} {vs us : List V} {ps qs : List Pn} (h : Pcs H vs ps) (g : Pcs H us qs) : Pcs H (vs ++ us) (ps ++ qs) := by
  induction h with
  | nil => exact g
  | cons e _ ih => exact .cons e ih
theorem Pcs.get {H : Hp} {vs : List V} {ps : List Pn} (h : Pcs H vs ps) {i : Nat} {v : V} (hi : vs[i]? = some v) : ∃ a p, v = .ref a ∧ ps[i]? = some p ∧ PC H a p := by
  induction h generalizing i with
  | nil => simp at hi
  | cons e _ ih =>
    cases i with
    | zero =>
      cases hi
      exact ⟨_, _, rfl, rfl, e⟩
    | succ i => exact ih hi
theorem Pcs.init {H : Hp} {vs : List V} {ps : List Pn} (h : Pcs H vs ps) : Pcs H vs.dropLast ps.dropLast := by
  induction h with
  | nil => exact .nil
  | cons e h ih =>
    cases h with
    | nil => exact .nil
    | cons e2 h2 => exact .cons e ih
theorem Pcs.one {H : Hp} {a : Addr} {p : Pn} (e : PC H a p) : Pcs H [.ref a] [p] := .cons e .nil
def PL (H : Hp) (l : Addr) (ps : List Pn) : Prop := ∃ vs, H l = some (.lst vs) ∧ Pcs H vs ps
theorem PL.same {H H' : Hp} {l : Addr} {ps : List Pn} (h : PL H l ps) (s : Same H H') : PL H' l ps := by
  obtain ⟨vs, e, p⟩ := h
  exact ⟨vs, s _ _ e, p.same s⟩
theorem last_at {vs : List V} {v : V} (h : vs[vs.length - 1]? = some v) : atI vs (-1) = some v := by
  have := (List.getElem?_eq_some_iff.mp h).1
  unfold atI ixN
  rw [if_neg (by omega), if_pos (by omega)]
  show vs[((-1 : Int) + vs.length).toNat]? = _
  rw [show ((-1 : Int) + vs.length).toNat = vs.length - 1 by omega]
  exact h
theorem head_get {f : F} {m : Nat} (h : f.length = m + 1) : (f.map fun n : Nat => V.int (n : Nat))[0]? = some (.int ((f.headD 0 : Nat) : Int)) := by
  cases f with
  | nil => simp at h
  | cons a f => rfl
theorem nat_dec (a b : Nat) : decide (V.int (a : Nat) = V.int (b : Nat)) = decide (a = b) := by
  by_cases h : a = b
  · rw [h, decide_eq_true rfl, decide_eq_true rfl]
  · rw [decide_eq_false h, decide_eq_false (fun z => h (by have := V.int.inj z; omega))]
theorem not_empty {α : Type} {l : List α} {q : α} (h : l.getLast? = some q) : (!l.isEmpty) = true := by
  cases l with
  | nil => cases h
  | cons _ _ => rfl
section
variable {P : Program} {w : World} {K : PySem.W.Frag} {mg : Str → Option Value} {base : Heap} {C : Addr}
def sp_open : Sp := fun vs H Q _ => ∃ (a : Addr) (f : F), vs = [.ref a] ∧ FT H a f ∧ ∀ H', Same H H' → Q (.bl (isOpen f)) H'
theorem c_is_open_form (T : Txt K mg C) : C8.Cal P w K mg base 1 "is_open_form" sp_open [] := by
  refine calF T.d_is_open_form sc_is_open_form (fun vs H Q E h => ?_) (fun f cdv A outer s H vs Q E hr h => ?_)
  · obtain ⟨_, _, rfl, _⟩ := h; rfl
  · obtain ⟨a, f, rfl, ha, q⟩ := h
    refine ⟨_, (pss_one (ps_ret (pe_callB (cr_anyN rfl) (by rfl) T.m_any (by decide +kernel) (pa_cons (pe_slice sl_drop (pv 0) (po_some pe_int) po_none) pa_nil)))), ?_⟩
    refine ⟨_, rfl, 1, rfl, a, _, 1, rfl, rfl, rfl, ha, fun p1 H1 s1 h1 => ⟨p1, f.tail, rfl, ?_, q H1 s1⟩⟩
    rw [h1, ← List.map_drop]
    cases f <;> rfl
def sp_is_power : Sp := fun vs H Q _ => ∃ (a : Addr) (p : Pn) (m : Nat), vs = [.ref a] ∧ PC H a p ∧ p.2.length = m + 1 ∧ Q (.bl (isPow p)) H
theorem c_is_power (T : Txt K mg C) : C8.Cal P w K mg base 1 "is_power" sp_is_power [] := by
  refine calF T.d_is_power sc_is_power (fun vs H Q E h => ?_) (fun f cdv A outer s H vs Q E hr h => ?_)
  · obtain ⟨_, _, _, rfl, _⟩ := h; rfl
  · obtain ⟨a, p, m, rfl, ⟨fa, h1, h2⟩, hl, q⟩ := h
    refine ⟨_, (pss_one (ps_ret (pe_cmpR op_eq (pe_ix ix_tup (pe_ix ix_tup (pv 0) pe_int (fun _ _ => rfl)) pe_int (fun _ _ => rfl)) pe_int (nomark _)))), ?_⟩
    refine ⟨_, rfl, a, _, 1, _, rfl, rfl, .inl (.inl h1), atI_nat (j := 1) rfl, fa, _, 0, _, rfl, rfl, .inl (.inl h2), atI_nat (j := 0) (head_get hl), rfl, ?_⟩
    have := nat_dec (p.2.headD 0) 0
    rw [show V.int ((0 : Nat) : Int) = V.int 0 from rfl] at this
    rw [this]
    exact q
def sp_fixed : Sp := fun vs H Q _ => ∃ (z : List Nat) (m : Nat), vs = [.str (S z), .int m] ∧ m ≤ 3 ∧ ∀ p H', Same H H' → PC H' p (fixP z m) → Q (.ref p) H'
theorem c_fixed_piece (T : Txt K mg C) : C8.Cal P w K mg base 1 "fixed_piece" sp_fixed [] := by
  refine calF T.d_fixed_piece sc_fixed_piece (fun vs H Q E h => ?_) (fun f cdv A outer s H vs Q E hr h => ?_)
  · obtain ⟨_, _, rfl, _⟩ := h; rfl
  · obtain ⟨z, m, rfl, hm, q⟩ := h
    refine ⟨_, (pss_one (ps_ret (pe_tup (pa_cons (pv 0) (pa_cons (pe_op op_catS (pe_tup (pa_cons pe_int pa_nil)) (pe_op op_repOne (pe_tup (pa_cons pe_int pa_nil)) (pv 1))) pa_nil))))), ?_⟩
    refine ⟨_, rfl, by show 1 ≤ sizeLine; decide, fun t1 n1 => ⟨by decide, fun t2 n2 => ⟨_, rfl, t2, _, _, rfl, rfl, upd_same, by omega, by omega, fun p H' s hp => ?_⟩⟩⟩
    have e1 : H' t1 = some (.tup [.int 1]) := s _ _ (by rw [upd_ne (ne_of_none upd_same n2)]; exact upd_same)
    refine ⟨t1, p, _, _, rfl, rfl, e1, hp, by simp; omega, fun p2 H2 s2 h2 => ⟨by show 2 ≤ sizeLine; decide, fun t ht => ?_⟩⟩
    refine q t _ ((((sameNew n1).trans (sameNew n2)).trans (s.trans s2)).trans (sameNew ht)) ⟨p2, upd_same, ?_⟩
    refine sameNew ht _ _ ?_
    rw [h2]
    unfold fixP one1
    simp
theorem tru_word {K : PySem.W.Frag} {H : Hp} {z : List Nat} (h : z.length ≤ 1000000) : TruV K (.str (S z)) H (decide (z ≠ [])) := by
  refine ⟨len_line h, ?_⟩
  rw [S_len]
  by_cases e : z = []
  · subst e; rfl
  · have := List.length_pos_iff.mpr e
    rw [decide_eq_true e]
    symm
    rw [bne_iff_ne]
    omega
theorem SameX.updL {l : Addr} {H H1 : Hp} {o : HO} (s : SameX l H H1) : SameX l H (upd H1 l o) := fun b x hb e => by
  rw [upd_ne hb]
  exact s b x hb e
/-- behind the first test -/
theorem fixed_tail (T : Txt K mg C) (f : Addr) (cdv : Value) (A : Around) (outer : List Env) (s : Shared) (H0 : Hp) (E : XK) (hr : Room 1 (A.deeper (envOfC "put_fixed" (C8.fnScope (topS 47)) s.heap.objs.size f cdv))) :
    ∃ u, PSs (cxOf C8.CX0 P w K mg base ["ready", "word", "many"] "put_fixed" (C8.fnScope (topS 47)) f cdv A outer s H0 E).nox ((C8.fnBody (topS 47)).drop 1) u ∧
      ∀ (D : Ends) (H : Hp) (l : Addr) (us : List V) (X : List Pn) (z : List Nat) (m : Nat), H l = some (.lst us) → Pcs H us X → m ≤ 3 → X.length < 1000000 → z.length ≤ 200000 →
        (∀ σ H', SameX l H H' → PL H' l (if z = [] then X else X ++ [fixP z m]) → D.nx σ H') → u D [some (.ref l), some (.str (S z)), some (.int m)] H := by
  refine ⟨_, (pss_one (ps_if (pt_truth (pv 1) (by intro _; rfl))
    (pss_one (ps_expr (pe_bm PySem.F.plainAttrs_list PySem.F.slot_list_append PySem.F.type_list_append mt_append (pv 0) (pa_cons (C8.pe_c (c_fixed_piece T) hr (by decide) (by rfl) (pa_cons (pv 1) (pa_cons (pv 2) pa_nil))) pa_nil))))
    pss_nil)), ?_⟩
  intro D H l us X z m hl hX hm lX lz q
  refine ⟨_, rfl, _, tru_word (by omega), ite2 (fun e => ?_) (fun e => ?_)⟩
  · have e' := of_decide_eq_true e
    refine ⟨_, rfl, .inl ⟨rfl, _, .inl (.inl hl)⟩, _, rfl, _, rfl, z, m, rfl, hm, fun t H2 s2 pc => ?_⟩
    have h2 := s2 _ _ hl
    refine ⟨l, _, _, rfl, rfl, h2, by have := hX.len; rw [sizeLine_eq]; omega, q _ _ (SameX.updL (.of s2)) ?_⟩
    rw [if_neg e']
    exact ⟨_, upd_same, ((hX.same s2).upd h2).app (.one (pc.mono (tup_upd h2)))⟩
  · have e' : z = [] := Classical.byContradiction fun y => e (decide_eq_true y)
    exact q _ _ (.refl _ _) (by rw [if_pos e']; exact ⟨us, hl, hX⟩)
/-- the list at l grows, all else stays -/
def sp_put_fixed : Sp := fun vs H Q _ => ∃ (l : Addr) (acc : List Pn) (z : List Nat) (m : Nat), vs = [.ref l, .str (S z), .int m] ∧ PL H l acc ∧ LenF m acc ∧ m ≤ 3 ∧ acc.length < 1000000 ∧ z.length ≤ 100000 ∧ (∀ p ∈ acc, p.1.length ≤ 100000) ∧
  ∀ H', SameX l H H' → PL H' l (joinF acc z m) → Q .non H'
theorem c_put_fixed (T : Txt K mg C) : C8.Cal P w K mg base 2 "put_fixed" sp_put_fixed [] := by
  refine calF T.d_put_fixed sc_put_fixed (fun vs H Q E h => ?_) (fun f cdv A outer s H vs Q E hr h => ?_)
  · obtain ⟨_, _, _, _, rfl, _⟩ := h; rfl
  · obtain ⟨l, acc, z, m, rfl, ⟨vs, hl, hp⟩, lf, hm, hacc, hz, hw, q⟩ := h
    have lv := hp.len
    obtain ⟨u1, hu1, tail⟩ := fixed_tail (P := P) (w := w) (base := base) T f cdv A outer s H E hr
    refine ⟨_, (pss_cons (ps_if (PW.pt (pw_and (pt_truth (pv 0) (by intro _; rfl)) (pw_and1 (pt_not (pt_val (C8.pe_c (c_is_power T) hr (by decide) (by rfl) (pa_cons (pe_ix ix_list (pv 0) (pe_un un_neg pe_int) (fun _ _ => rfl)) pa_nil)))))))
    (pss_one (ps_set (i := 1) sc_put_fixed.nd rfl (Or.inl rfl) (pe_op op_add_str (pe_ix ix_tup (pe_bm0 PySem.F.plainAttrs_list PySem.F.slot_list_pop PySem.F.type_list_pop mt_pop (pv 0)) pe_int (fun _ _ => rfl)) (pv 1))))
    pss_nil)
    hu1), ?_⟩
    cases hlast : vs.getLast? with
    | none =>
      have ve : vs = [] := List.getLast?_eq_none_iff.mp hlast
      have ae : acc = [] := List.length_eq_zero_iff.mp (by rw [← lv, ve]; rfl)
      have ep : joinF acc z m = if z = [] then acc else acc ++ [fixP z m] := by rw [ae]; rfl
      rw [ep] at q
      refine ⟨_, rfl, false, .inl ⟨_, .inl (.inl hl), by rw [ve]; rfl⟩, iteF (iteF ?_)⟩
      exact tail _ H l vs acc z m hl hp hm hacc (by omega) fun _ H' s' p' => q H' s' p'
    | some v =>
      have hv : vs[vs.length - 1]? = some v := by rw [← List.getLast?_eq_getElem?]; exact hlast
      obtain ⟨b, p, rfl, hpi, pc⟩ := hp.get hv
      have ha : acc.getLast? = some p := by rw [List.getLast?_eq_getElem?, ← lv]; exact hpi
      have mem := List.mem_of_getLast? ha
      refine ⟨_, rfl, true, .inl ⟨_, .inl (.inl hl), (not_empty hlast).symm⟩, iteT ?_⟩
      refine ⟨_, rfl, 1, rfl, l, _, -1, _, rfl, rfl, .inl (.inl hl), last_at hv, b, p, m, rfl, pc, lf p mem, _, rfl, ?_⟩
      cases ep : isPow p with
      | true =>
        have e : joinF acc z m = if z = [] then acc else acc ++ [fixP z m] := by
          unfold joinF
          rw [ha]
          simp [ep]
        rw [e] at q
        refine iteF ?_
        exact tail _ H l vs acc z m hl hp hm hacc (by omega) fun _ H' s' p' => q H' s' p'
      | false =>
        have e : joinF acc z m = if p.1 ++ z = [] then acc.dropLast else acc.dropLast ++ [fixP (p.1 ++ z) m] := by
          unfold joinF
          rw [ha]
          simp [ep]
        rw [e] at q
        obtain ⟨fa, h1, h2⟩ := id pc
        have lp := hw p mem
        refine iteT ⟨_, rfl, .inl ⟨rfl, _, .inl (.inl hl)⟩, l, _, _, rfl, rfl, hl, hv, b, _, 0, _, rfl, rfl, .inl (.inl (tup_upd hl _ _ h1)), atI_nat (j := 0) rfl, _, rfl, _, _, rfl, rfl, ?_, ?_⟩
        · rw [S_len, S_len, sizeLine_eq]
          omega
        · rw [S_cat]
          exact tail _ _ l vs.dropLast acc.dropLast (p.1 ++ z) m upd_same (hp.init.upd hl) hm (by rw [List.length_dropLast]; omega) (by rw [List.length_append]; omega) fun _ H' s' p' => q H' ((SameX.updL (.refl _ _)).trans s') p'
end
end K23

set_option Elab.async false
set_option linter.all false
set_option maxRecDepth 100000
set_option maxHeartbeats 4000000
namespace K23
open PySem PySem.Spec PyProof.Rows L2 CK SX NM
def Ws (B : Nat) (ps : List Pn) : Prop := ∀ p ∈ ps, p.1.length ≤ B
theorem mem_joinF {acc : List Pn} {z : WM.W} {m : Nat} {p : Pn} (h : p ∈ joinF acc z m) : p ∈ acc ∨ p = fixP z m ∨ ∃ q ∈ acc, p = fixP (q.1 ++ z) m := by
  unfold joinF at h
  split at h
  · next q hq =>
    have mq := List.mem_of_getLast? hq
    split at h
    · split at h
      · exact .inl h
      · rcases List.mem_append.mp h with x | x
        · exact .inl x
        · exact .inr (.inl (List.mem_singleton.mp x))
    · split at h
      · exact .inl (mem_dropLast h)
      · rcases List.mem_append.mp h with x | x
        · exact .inl (mem_dropLast x)
        · exact .inr (.inr ⟨q, mq, List.mem_singleton.mp x⟩)
  · split at h
    · exact .inl h
    · rcases List.mem_append.mp h with x | x
      · exact .inl x
      · exact .inr (.inl (List.mem_singleton.mp x))
theorem len_one1 (m : Nat) : (one1 m).length = m + 1 := by simp [one1]
theorem lenF_joinF {acc : List Pn} {z : WM.W} {m : Nat} (h : LenF m acc) : LenF m (joinF acc z m) := fun p hp => by
  rcases mem_joinF hp with x | x | ⟨q, _, x⟩
  · exact h p x
  · rw [x]; exact len_one1 m
  · rw [x]; exact len_one1 m
theorem ws_joinF {acc : List Pn} {z : WM.W} {m B : Nat} (h : Ws B acc) (hz : z.length ≤ B) : Ws (2 * B) (joinF acc z m) := fun p hp => by
  rcases mem_joinF hp with x | x | ⟨q, hq, x⟩
  · have := h p x
    omega
  · rw [x]
    show z.length ≤ 2 * B
    omega
  · rw [x]
    show (q.1 ++ z).length ≤ 2 * B
    have := h q hq
    rw [List.length_append]
    omega
theorem len_joinF (acc : List Pn) (z : WM.W) (m : Nat) : (joinF acc z m).length ≤ acc.length + 1 := by
  unfold joinF
  split
  · split
    · split <;> simp
    · split <;> simp
      omega
  · split <;> simp
section
variable {P : Program} {w : World} {K : PySem.W.Frag} {mg : Str → Option Value} {base : Heap} {C : Addr}
theorem power_tail2 (T : Txt K mg C) (f0 : Addr) (cdv : Value) (A : Around) (outer : List Env) (s : Shared) (H0 : Hp) (E : XK) (hr : Room 2 (A.deeper (envOfC "put_power" (C8.fnScope (topS 48)) s.heap.objs.size f0 cdv))) :
    ∃ u, PSs (cxOf C8.CX0 P w K mg base ["ready", "word", "form", "many", "behind", "ahead", "moved"] "put_power" (C8.fnScope (topS 48)) f0 cdv A outer s H0 E).nox ((C8.fnBody (topS 48)).drop 4) u ∧
      ∀ (D : Ends) (H : Hp) (l fa : Addr) (us : List V) (X : List Pn) (z b : List Nat) (f : F) (m : Nat) (y5 y6 : Option V), H l = some (.lst us) → Pcs H us X → FT H fa f → f.length = m + 1 → LenF m X → m ≤ 3 → X.length < 900000 → b.length ≤ 100000 → z.length ≤ 100000 → Ws 100000 X →
        (∀ σ H', SameX l H H' → PL H' l (joinF (X ++ [(z, f)]) b m) → D.nx σ H') → u D [some (.ref l), some (.str (S z)), some (.ref fa), some (.int m), some (.str (S b)), y5, y6] H := by
  refine ⟨_, (pss_cons (ps_expr (pe_bm PySem.F.plainAttrs_list PySem.F.slot_list_append PySem.F.type_list_append mt_append (pv 0) (pa_cons (pe_tup (pa_cons (pv 1) (pa_cons (pv 2) pa_nil))) pa_nil)))
    (pss_one (ps_expr (C8.pe_c (c_put_fixed T) hr (by decide) (by rfl) (pa_cons (pv 0) (pa_cons (pv 4) (pa_cons (pv 3) pa_nil))))))), ?_⟩
  intro D H l fa us X z b f m y5 y6 hl hX hf lf lX hm hn lb lz ws q
  have lu := hX.len
  refine ⟨_, rfl, .inl ⟨rfl, _, .inl (.inl hl)⟩, _, rfl, _, rfl, by show 2 ≤ sizeLine; decide, fun t ht => ?_⟩
  have st := sameNew (o := .tup [.str (S z), .ref fa]) ht
  have h1 := st _ _ hl
  refine ⟨l, _, _, rfl, rfl, h1, by rw [sizeLine_eq]; omega, ?_⟩
  have PL1 : PL (upd (upd H t (.tup [.str (S z), .ref fa])) l (.lst (us ++ [.ref t]))) l (X ++ [(z, f)]) := by
    refine ⟨_, upd_same, ((hX.same st).upd h1).app (.one ⟨fa, tup_upd h1 _ _ upd_same, tup_upd h1 _ _ (st _ _ hf)⟩)⟩
  refine ⟨_, rfl, _, rfl, _, rfl, l, X ++ [(z, f)], b, m, rfl, PL1, fun p hp => ?_, hm, by simp; omega, by omega, fun p hp => ?_, fun H' s' p' => q _ H' ((SameX.updL (.of st)).trans s') p'⟩
  · rcases List.mem_append.mp hp with x | x
    · exact lX p x
    · rw [List.mem_singleton.mp x]
      exact lf
  · rcases List.mem_append.mp hp with x | x
    · exact ws p x
    · rw [List.mem_singleton.mp x]
      exact lz
theorem power_tail1 (T : Txt K mg C) (f0 : Addr) (cdv : Value) (A : Around) (outer : List Env) (s : Shared) (H0 : Hp) (E : XK) (hr : Room 2 (A.deeper (envOfC "put_power" (C8.fnScope (topS 48)) s.heap.objs.size f0 cdv))) :
    ∃ u, PSs (cxOf C8.CX0 P w K mg base ["ready", "word", "form", "many", "behind", "ahead", "moved"] "put_power" (C8.fnScope (topS 48)) f0 cdv A outer s H0 E).nox ((C8.fnBody (topS 48)).drop 3) u ∧
      ∀ (D : Ends) (σ : L2.St) (H : Hp) (l fa : Addr) (us : List V) (X : List Pn) (z b : List Nat) (f : F) (m : Nat) (y5 y6 : Option V), σ = [some (.ref l), some (.str (S z)), some (.ref fa), some (.int m), some (.str (S b)), y5, y6] → H l = some (.lst us) → Pcs H us X → FT H fa f → f.length = m + 1 → LenF m X → m ≤ 3 → X.length < 900000 → b.length ≤ 100000 → z.length ≤ 100000 → Ws 100000 X →
        (∀ σ H', SameX l H H' → PL H' l (joinF (pushP X z f) b m) → D.nx σ H') → u D σ H := by
  obtain ⟨u2, hu2, tail⟩ := power_tail2 (P := P) (w := w) (base := base) T f0 cdv A outer s H0 E hr
  refine ⟨_, (pss_cons (ps_if (PW.pt (pw_and (pt_truth (pv 0) (by intro _; rfl)) (pw_and (pt_val (C8.pe_c (c_is_power T) hr (by decide) (by rfl) (pa_cons (pe_ix ix_list (pv 0) (pe_un un_neg pe_int) (fun _ _ => rfl)) pa_nil))) (pw_and1 (pt_cmpR op_eq (pe_ix ix_tup (pe_ix ix_list (pv 0) (pe_un un_neg pe_int) (fun _ _ => rfl)) pe_int (fun _ _ => rfl)) (pv 1) (nomark _))))))
    (pss_one (ps_set (i := 2) sc_put_power.nd rfl (Or.inl rfl) (C8.pe_c (c_form_sum T) hr (by decide) (by rfl) (pa_cons (pe_ix ix_tup (pe_bm0 PySem.F.plainAttrs_list PySem.F.slot_list_pop PySem.F.type_list_pop mt_pop (pv 0)) pe_int (fun _ _ => rfl)) (pa_cons (pv 2) pa_nil)))))
    pss_nil)
    hu2), ?_⟩
  intro D σ H l fa us X z b f m y5 y6 eσ hl hX hf lf lX hm hn lb lz ws q
  subst eσ
  have lu := hX.len
  cases hlast : us.getLast? with
  | none =>
    have ve : us = [] := List.getLast?_eq_none_iff.mp hlast
    have ae : X = [] := List.length_eq_zero_iff.mp (by rw [← lu, ve]; rfl)
    have ep : pushP X z f = X ++ [(z, f)] := by rw [ae]; rfl
    rw [ep] at q
    refine ⟨_, rfl, false, .inl ⟨_, .inl (.inl hl), by rw [ve]; rfl⟩, iteF (iteF ?_)⟩
    exact tail _ H l fa us X z b f m y5 y6 hl hX hf lf lX hm hn lb lz ws q
  | some v =>
    have hv : us[us.length - 1]? = some v := by rw [← List.getLast?_eq_getElem?]; exact hlast
    obtain ⟨c, p, rfl, hpi, pc⟩ := hX.get hv
    have ha : X.getLast? = some p := by rw [List.getLast?_eq_getElem?, ← lu]; exact hpi
    have mem := List.mem_of_getLast? ha
    have other : ¬ (isPow p = true ∧ p.1 = z) → u2 D [some (.ref l), some (.str (S z)), some (.ref fa), some (.int m), some (.str (S b)), y5, y6] H := fun no => by
      have ep : pushP X z f = X ++ [(z, f)] := by
        unfold pushP
        rw [ha]
        simp [no]
      rw [ep] at q
      exact tail _ H l fa us X z b f m y5 y6 hl hX hf lf lX hm hn lb lz ws q
    refine ⟨_, rfl, true, .inl ⟨_, .inl (.inl hl), (not_empty hlast).symm⟩, iteT ?_⟩
    refine ⟨_, rfl, 1, rfl, l, _, -1, _, rfl, rfl, .inl (.inl hl), last_at hv, c, p, m, rfl, pc, lX p mem, _, rfl, ?_⟩
    cases ep : isPow p with
    | false => exact iteF (iteF (other fun z => by rw [ep] at z; cases z.1))
    | true =>
      obtain ⟨fp, h1, h2⟩ := id pc
      refine iteT ⟨_, rfl, 1, rfl, l, _, -1, _, rfl, rfl, .inl (.inl hl), last_at hv, c, _, 0, _, rfl, rfl, .inl (.inl h1), atI_nat (j := 0) rfl, _, rfl, rfl, _, rfl, ite2 (fun e => ?_) (fun e => ?_)⟩
      · have e1 : p.1 = z := S_inj (V.str.inj (of_decide_eq_true e))
        have es : pushP X z f = X.dropLast ++ [(z, addF p.2 f)] := by
          unfold pushP
          rw [ha]
          simp [ep, e1]
        rw [es] at q
        have lp := lX p mem
        have h2' : FT (upd H l (.lst us.dropLast)) fp p.2 := tup_upd hl _ _ h2
        refine ⟨_, rfl, .inl ⟨rfl, _, .inl (.inl hl)⟩, l, _, _, rfl, rfl, hl, hv, c, _, 1, _, rfl, rfl, .inl (.inl (tup_upd hl _ _ h1)), atI_nat (j := 1) rfl, _, rfl, fp, fa, p.2, f, rfl, h2', tup_upd hl _ _ hf, by omega, by omega, fun fs H2 s2 h3 => ?_⟩
        have hl2 : H2 l = some (.lst us.dropLast) := s2 _ _ upd_same
        refine tail _ H2 l fs us.dropLast X.dropLast z b (addF p.2 f) m y5 y6 hl2 ((hX.init.upd hl).same s2) h3 (by rw [len_add (by omega)]; exact lf) (fun r hr' => lX r (mem_dropLast hr')) hm (by rw [List.length_dropLast]; omega) lb lz (fun r hr' => ws r (mem_dropLast hr')) fun σ H' s' p' => q σ H' (((SameX.updL (.refl _ _)).trans (.of s2)).trans s') p'
      · exact other fun y => e (decide_eq_true (by rw [y.2]))
def sp_put_power : Sp := fun vs H Q _ => ∃ (l fa : Addr) (acc : List Pn) (z : List Nat) (f : F) (m : Nat), vs = [.ref l, .str (S z), .ref fa] ∧ PL H l acc ∧ FT H fa f ∧ f.length = m + 1 ∧ LenF m acc ∧ m ≤ 3 ∧ acc.length < 100000 ∧ z ≠ [] ∧ z.length ≤ 10000 ∧ Ws 10000 acc ∧
  ∀ H', SameX l H H' → PL H' l (putP acc z f) → Q .non H'
theorem c_put_power (T : Txt K mg C) : C8.Cal P w K mg base 3 "put_power" sp_put_power [] := by
  refine calF T.d_put_power sc_put_power (fun vs H Q E h => ?_) (fun f0 cdv A outer s H vs Q E hr h => ?_)
  · obtain ⟨_, _, _, _, _, _, rfl, _⟩ := h; rfl
  · obtain ⟨l, fa, acc, z, f, m, rfl, ⟨vs, hl, hp⟩, hf, lf, lA, hm, hacc, zne, hz, ws, q⟩ := h
    have lv := hp.len
    have em : f.length - 1 = m := by omega
    obtain ⟨u1, hu1, tail⟩ := power_tail1 (P := P) (w := w) (base := base) T f0 cdv A outer s H E hr
    refine ⟨_, (pss_cons (ps_set (i := 3) sc_put_power.nd rfl (Or.inl rfl) (pe_op op_sub (pe_callB call_len_seq (by rfl) T.m_len (by decide +kernel) (pa_cons (pv 2) pa_nil)) pe_int))
    (pss_cons (ps_set (i := 4) sc_put_power.nd rfl (Or.inl rfl) pe_str)
    (pss_cons (ps_if (PW.pt (pw_and (pt_truth (pv 0) (by intro _; rfl)) (pw_and1 (pt_not (pt_val (C8.pe_c (c_is_power T) hr (by decide) (by rfl) (pa_cons (pe_ix ix_list (pv 0) (pe_un un_neg pe_int) (fun _ _ => rfl)) pa_nil)))))))
    (pss_cons (ps_set (i := 5) sc_put_power.nd rfl (Or.inl rfl) (pe_ix ix_tup (pe_bm0 PySem.F.plainAttrs_list PySem.F.slot_list_pop PySem.F.type_list_pop mt_pop (pv 0)) pe_int (fun _ _ => rfl)))
    (pss_cons (ps_set (i := 6) sc_put_power.nd rfl (Or.inl rfl) (C8.pe_c (c_alike_behind T) hr (by decide) (by rfl) (pa_cons (pv 5) (pa_cons (C8.pe_c (c_stretch T) hr (by decide) (by rfl) (pa_cons (pv 1) (pa_cons (pe_un un_neg (pe_callB call_len_str (by rfl) T.m_len (by decide +kernel) (pa_cons (pv 5) pa_nil))) (pa_cons (pe_callB call_len_str (by rfl) T.m_len (by decide +kernel) (pa_cons (pv 5) pa_nil)) pa_nil)))) pa_nil))))
    (pss_cons (ps_set (i := 4) sc_put_power.nd rfl (Or.inl rfl) (pe_slice C8.sl_txt (pv 5) (po_some (pe_op op_sub (pe_callB call_len_str (by rfl) T.m_len (by decide +kernel) (pa_cons (pv 5) pa_nil)) (pv 6))) po_none))
    (pss_cons (ps_set (i := 1) sc_put_power.nd rfl (Or.inl rfl) (C8.pe_c (c_turned_word T) hr (by decide) (by rfl) (pa_cons (pv 1) (pa_cons (pe_un un_neg (pv 6)) pa_nil))))
    (pss_one (ps_expr (C8.pe_c (c_put_fixed T) hr (by decide) (by rfl) (pa_cons (pv 0) (pa_cons (pe_slice C8.sl_txt (pv 5) po_none (po_some (pe_op op_sub (pe_callB call_len_str (by rfl) T.m_len (by decide +kernel) (pa_cons (pv 5) pa_nil)) (pv 6)))) (pa_cons (pv 3) pa_nil))))))))))
    pss_nil)
    hu1))), ?_⟩
    refine ⟨_, rfl, fa, _, rfl, .inr (.inl (.inl hf)), _, _, rfl, rfl, ?_⟩
    have lm : (((f.map fun n : Nat => V.int (n : Nat)).length : Nat) : Int) - 1 = (m : Int) := by rw [List.length_map, lf]; omega
    have eS : (V.str "") = V.str (S []) := by decide +kernel
    have eσ : [some (V.ref l), some (V.str (S z)), some (V.ref fa), some (V.int ((((f.map fun n : Nat => V.int (n : Nat)).length : Nat) : Int) - 1)), some (V.str ""), none, none] = [some (V.ref l), some (V.str (S z)), some (V.ref fa), some (V.int (m : Nat)), some (V.str (S [])), none, none] := by rw [lm, eS]
    have simple : (∀ q, acc.getLast? = some q → isPow q = true) → u1 { nx := fun _ H' => Q .non H', rt := Q } [some (V.ref l), some (V.str (S z)), some (V.ref fa), some (V.int ((((f.map fun n : Nat => V.int (n : Nat)).length : Nat) : Int) - 1)), some (V.str ""), none, none] H := fun hp' => by
      have e : putP acc z f = joinF (pushP acc z f) [] m := by
        unfold putP
        rw [em]
        split
        · next q hq => rw [if_pos (hp' q hq)]
        · rfl
      rw [e] at q
      exact tail _ _ H l fa vs acc z [] f m none none eσ hl hp hf lf lA hm (by omega) (by simp) (by omega) (fun p hp => by have := ws p hp; omega) fun _ H' s' p' => q H' s' p'
    cases hlast : vs.getLast? with
    | none =>
      have ve : vs = [] := List.getLast?_eq_none_iff.mp hlast
      have ae : acc = [] := List.length_eq_zero_iff.mp (by rw [← lv, ve]; rfl)
      refine ⟨_, rfl, false, .inl ⟨_, .inl (.inl hl), by rw [ve]; rfl⟩, iteF (iteF ?_)⟩
      exact simple fun q hq => by rw [ae] at hq; cases hq
    | some v =>
      have hv : vs[vs.length - 1]? = some v := by rw [← List.getLast?_eq_getElem?]; exact hlast
      obtain ⟨b, p, rfl, hpi, pc⟩ := hp.get hv
      have ha : acc.getLast? = some p := by rw [List.getLast?_eq_getElem?, ← lv]; exact hpi
      have mem := List.mem_of_getLast? ha
      refine ⟨_, rfl, true, .inl ⟨_, .inl (.inl hl), (not_empty hlast).symm⟩, iteT ?_⟩
      refine ⟨_, rfl, 1, rfl, l, _, -1, _, rfl, rfl, .inl (.inl hl), last_at hv, b, p, m, rfl, pc, lA p mem, _, rfl, ?_⟩
      cases ep : isPow p with
      | true => exact iteF (simple fun q hq => by rw [ha] at hq; cases hq; exact ep)
      | false =>
        have e : putP acc z f = joinF (pushP (joinF acc.dropLast (p.1.take (p.1.length - movedE p.1 z)) m) (rotR z (movedE p.1 z)) f) (p.1.drop (p.1.length - movedE p.1 z)) m := by
          unfold putP
          rw [ha, em]
          simp [ep]
        rw [e] at q
        obtain ⟨fp, h1, h2⟩ := id pc
        have lp := ws p mem
        have mle := movedE_le p.1 z
        have hl1 : (upd H l (.lst vs.dropLast)) l = some (.lst vs.dropLast) := upd_same
        have hp1 := hp.init.upd (ys := vs.dropLast) hl
        have hf1 : FT (upd H l (.lst vs.dropLast)) fa f := tup_upd hl _ _ hf
        refine iteT ⟨_, rfl, .inl ⟨rfl, _, .inl (.inl hl)⟩, l, _, _, rfl, rfl, hl, hv, b, _, 0, _, rfl, rfl, .inl (.inl (tup_upd hl _ _ h1)), atI_nat (j := 0) rfl, ?_⟩
        generalize hmv : movedE p.1 z = mv at mle q
        have emv : WM.lcp p.1.reverse (tailE z p.1.length).reverse = mv := hmv
        refine ⟨_, rfl, _, rfl, _, rfl, S p.1, rfl, len_line (by omega), _, rfl, _, rfl, S p.1, rfl, len_line (by omega), z, p.1.length, by rw [S_len]; rfl, zne, by omega, by omega, p.1, tailE z p.1.length, rfl, by omega, by rw [tailE_len zne]; omega, ?_⟩
        rw [emv]
        refine ⟨_, rfl, _, rfl, S p.1, rfl, len_line (by omega), _, rfl, _, _, rfl, rfl, ((p.1.length - mv : Nat) : Int), congrArg V.int (by rw [S_len]; omega), S p.1, rfl, len_line (by omega), ?_⟩
        rw [SX.slice_from (by omega), Int.toNat_natCast]
        refine ⟨_, rfl, _, rfl, _, rfl, z, -(mv : Int), rfl, by omega, zne, ?_⟩
        rw [rotZ_neg zne]
        refine ⟨_, rfl, _, rfl, _, rfl, S p.1, rfl, len_line (by omega), _, rfl, _, _, rfl, rfl, ((p.1.length - mv : Nat) : Int), congrArg V.int (by rw [S_len]; omega), S p.1, rfl, len_line (by omega), ?_⟩
        rw [SX.slice_to (by omega), Int.toNat_natCast]
        refine ⟨_, rfl, l, acc.dropLast, p.1.take (p.1.length - mv), m, by
          show [V.ref l, V.str _, V.int ((((f.map fun n : Nat => V.int (n : Nat)).length : Nat) : Int) - 1)] = _
          rw [lm], ⟨_, hl1, hp1⟩, fun r hr' => lA r (mem_dropLast hr'), hm, by rw [List.length_dropLast]; omega, by rw [List.length_take]; omega, fun r hr' => by have := ws r (mem_dropLast hr'); omega, fun H2 s2 p2 => ?_⟩
        obtain ⟨us, hus, pus⟩ := p2
        have wsJ : Ws 20000 (joinF acc.dropLast (p.1.take (p.1.length - mv)) m) := ws_joinF (B := 10000) (fun r hr' => ws r (mem_dropLast hr')) (by rw [List.length_take]; omega)
        have lJ := len_joinF acc.dropLast (p.1.take (p.1.length - mv)) m
        rw [List.length_dropLast] at lJ
        refine tail _ _ H2 l fa us _ (rotR z mv) (p.1.drop (p.1.length - mv)) f m (some (.str (S p.1))) (some (.int (mv : Nat))) (by
          show [some (V.ref l), some (V.str (S (rotR z mv))), some (V.ref fa), some (V.int ((((f.map fun n : Nat => V.int (n : Nat)).length : Nat) : Int) - 1)), some (V.str (S (p.1.drop (p.1.length - mv)))), some (V.str (S p.1)), some (V.int (mv : Nat))] = _
          rw [lm]) hus pus (tup_sameX hl1 s2 _ _ hf1) lf (lenF_joinF fun r hr' => lA r (mem_dropLast hr')) hm (by omega) (by rw [List.length_drop]; omega) (by rw [rotR_len]; omega) (fun r hr' => by have := wsJ r hr'; omega) fun σ H' s' p' => q H' (((SameX.updL (.refl _ _)).trans s2).trans s') p'
end
end K23

set_option Elab.async false
set_option linter.all false
set_option maxRecDepth 100000
set_option maxHeartbeats 4000000
namespace K23
open PySem PySem.Spec PyProof.Rows L2 CK SX NM
/-- what holds between two statements -/
theorem cut_seq {t u : TS} {D : Ends} {σ : L2.St} {H : Hp} (Mid : L2.St → Hp → Prop) (h1 : ∀ K : L2.St → Hp → Prop, (∀ σ' H', Mid σ' H' → K σ' H') → t { D with nx := K } σ H) (h2 : ∀ σ' H', Mid σ' H' → u D σ' H') : tSeq t u D σ H := h1 _ h2
theorem meas_cons (p : Pn) (r : List Pn) : meas (p :: r) = measP p + meas r := by simp [meas]
theorem le_meas : ∀ {l : List Pn} {p : Pn}, p ∈ l → measP p ≤ meas l
  | [], _, h => absurd h List.not_mem_nil
  | q :: r, p, h => by
    rw [meas_cons]
    rcases List.mem_cons.mp h with x | x
    · rw [x]; omega
    · have := le_meas x
      omega
theorem len_meas : ∀ {l : List Pn}, (∀ p ∈ l, 1 ≤ measP p) → l.length ≤ meas l
  | [], _ => Nat.zero_le _
  | p :: r, h => by
    have a := len_meas fun q hq => h q (List.mem_cons_of_mem _ hq)
    have b := h p List.mem_cons_self
    rw [meas_cons, List.length_cons]
    omega
theorem _root_.NM.Nm.small {m B : Nat} {l : List Pn} (h : Nm m l) (hb : meas l ≤ B) : l.length ≤ B ∧ Ws B l := by
  refine ⟨Nat.le_trans (len_meas fun p hp => ?_) hb, fun p hp => Nat.le_trans (measP_le (h.all p hp)) (Nat.le_trans (le_meas hp) hb)⟩
  exact Nat.le_trans (List.length_pos_iff.mpr (h.all p hp).ne) (measP_le (h.all p hp))
theorem nm_stepA' {m : Nat} {acc : List Pn} {p : Pn} (h : Nm m acc) (hl : p.2.length = m + 1) : Nm m (stepA acc p) ∧ meas (stepA acc p) ≤ meas acc + p.1.length := by
  refine ⟨nm_stepA h hl, ?_⟩
  unfold stepA
  split
  · next z =>
    have lt : (timesF (p.1.length / WM.rootN p.1) (0 :: p.2.tail)).length = m + 1 := by unfold timesF; simp [hl]
    have := meas_putP h (u := p.1.take (WM.rootN p.1)) lt (by simp [timesF])
    rw [List.length_take] at this
    omega
  · omega
theorem meas_take_step {ps : List Pn} {m i : Nat} {p : Pn} (h : LenF m ps) (hp : ps[i]? = some p) : meas ((ps.take i).foldl stepN []) + measP p ≤ meas ps := by
  have a := meas_fold (ps.take i) [] (Nm.nil (m := m)) fun q hq => h q (List.mem_of_mem_take hq)
  have e : meas ([] : List Pn) = 0 := rfl
  have hi := (List.getElem?_eq_some_iff.mp hp).1
  have s : ps = ps.take i ++ (p :: ps.drop (i + 1)) := by
    conv => lhs; rw [← List.take_append_drop i ps]
    rw [← List.getElem_cons_drop hi, (List.getElem?_eq_some_iff.mp hp).2]
  have b : meas ps = meas (ps.take i) + (measP p + meas (ps.drop (i + 1))) := by
    conv => lhs; rw [s]
    rw [meas_app, meas_cons]
  omega
section
variable {P : Program} {w : World} {K : PySem.W.Frag} {mg : Str → Option Value} {base : Heap} {C : Addr}
def sp_normal_pieces : Sp := fun vs H Q _ => ∃ (l : Addr) (ps : List Pn) (m : Nat), vs = [.ref l] ∧ PL H l ps ∧ LenF m ps ∧ m ≤ 3 ∧ meas ps ≤ 5000 ∧ Ws 5000 ps ∧ (∀ p ∈ ps, Bf p.2) ∧ ps.length ≤ 100000 ∧
  ∀ r H', Same H H' → H r = none → PL H' r (normL ps) → Q (.ref r) H'
theorem c_normal_pieces (T : Txt K mg C) : C8.Cal P w K mg base 4 "normal_pieces" sp_normal_pieces [] := by
  refine calF T.d_normal_pieces sc_normal_pieces (fun vs H Q E h => ?_) (fun f0 cdv A outer s H vs Q E hr h => ?_)
  · obtain ⟨_, _, _, rfl, _⟩ := h; rfl
  · obtain ⟨l, ps, m, rfl, ⟨vs, hl, hp⟩, lF, hm, hmeas, hws, hbf, hlen, q⟩ := h
    have lv := hp.len
    refine ⟨_, (pss_cons (ps_set (i := 1) sc_normal_pieces.nd rfl (Or.inl rfl) (pe_lst pa_nil))
    (pss_cons (ps_for PassesOwn.never rfl (pi_list (pv 0)) (pg_two (K := K) (i := 2) (j := 3) rfl rfl sc_normal_pieces.nd rfl rfl (Or.inl rfl) (Or.inl rfl))
    (pss_cons (ps_if (PW.pt (pw_and (pt_truth (pv 2) (by intro _; rfl)) (pw_and1 (pt_val (C8.pe_c (c_is_open_form T) hr (by decide) (by rfl) (pa_cons (pv 3) pa_nil))))))
    (pss_cons (ps_set (i := 4) sc_normal_pieces.nd rfl (Or.inl rfl) (C8.pe_c (c_root_size T) hr (by decide) (by rfl) (pa_cons (pv 2) pa_nil)))
    (pss_one (ps_expr (C8.pe_c (c_put_power T) hr (by decide) (by rfl) (pa_cons (pv 1) (pa_cons (pe_slice C8.sl_txt (pv 2) po_none (po_some (pv 4))) (pa_cons (C8.pe_c (c_form_times T) hr (by decide) (by rfl) (pa_cons (pe_op op_fdivZ (pe_callB call_len_str (by rfl) T.m_len (by decide +kernel) (pa_cons (pv 2) pa_nil)) (pv 4)) (pa_cons (pe_op op_catS (pe_tup (pa_cons pe_int pa_nil)) (pe_slice sl_drop (pv 3) (po_some pe_int) po_none)) pa_nil))) pa_nil)))))))
    pss_nil)
    (pss_one (ps_if (PW.pt (pw_and (pt_truth (pv 2) (by intro _; rfl)) (pw_and1 (pt_truth (pe_ix ix_tup (pv 3) pe_int (fun _ _ => rfl)) (by intro _; rfl)))))
    (pss_one (ps_expr (C8.pe_c (c_put_fixed T) hr (by decide) (by rfl) (pa_cons (pv 1) (pa_cons (pe_op op_repM (pv 2) (pe_ix ix_tup (pv 3) pe_int (fun _ _ => rfl))) (pa_cons (pe_op op_sub (pe_callB call_len_seq (by rfl) T.m_len (by decide +kernel) (pa_cons (pv 3) pa_nil)) pe_int) pa_nil))))))
    pss_nil))))
    (pss_one (ps_ret (pv 1))))), ?_⟩
    refine ⟨by show 0 ≤ sizeLine; omega, fun r hr0 => ?_⟩
    have rl : r ≠ l := fun z => by rw [z, hl] at hr0; cases hr0
    have s0 := sameNew (o := .lst []) hr0
    refine ⟨_, rfl, l, rfl, ⟨_, .inl (.inl (s0 _ _ hl))⟩, for_list (K := K) (a := l) (xs := vs) (fun i σ H' => Same H H' ∧ (∃ y2 y3 y4, σ = [some (.ref l), some (.ref r), y2, y3, y4]) ∧ PL H' r ((ps.take i).foldl stepN []))
      ⟨s0, ⟨none, none, none, rfl⟩, [], upd_same, .nil⟩ (fun i σ H' _ p => .inl (.inl (p.1 _ _ hl))) (fun i y σ H' hi pI => ?_) (fun σ H' pI => ?_)⟩
    · obtain ⟨s1, ⟨y2, y3, y4, rfl⟩, pl⟩ := pI
      obtain ⟨a, p, rfl, hpi, pc⟩ := hp.get hi
      have mem := List.mem_of_getElem? hpi
      have lp := lF p mem
      have wp := hws p mem
      have bp := hbf p mem
      have step := meas_take_step lF hpi
      have nm : Nm m ((ps.take i).foldl stepN []) := nm_fold _ [] .nil fun q hq => lF q (List.mem_of_mem_take hq)
      have et : (ps.take (i + 1)).foldl stepN [] = stepN ((ps.take i).foldl stepN []) p := by rw [List.take_succ, hpi, List.foldl_append]; rfl
      rw [et]
      generalize (ps.take i).foldl stepN [] = acc at pl nm step
      obtain ⟨nmA, mA⟩ := nm_stepA' nm lp
      have sm := nm.small (B := 5000) (by omega)
      have smA := nmA.small (B := 10000) (by omega)
      obtain ⟨fa, h1, h2⟩ := pc.mono (tup_same s1)
      refine ⟨a, _, rfl, .inl (.inl h1), rfl, _, _, rfl, _, _, rfl, rfl, ?_⟩
      refine cut_seq (fun σ' H2 => SameX r H' H2 ∧ (∃ y4, σ' = [some (.ref l), some (.ref r), some (.str (S p.1)), some (.ref fa), y4]) ∧ PL H2 r (stepA acc p)) (fun K hK => ?_) fun σ' H2 pM => ?_
      · refine ⟨_, rfl, _, tru_word (by omega), ?_⟩
        by_cases ne : p.1 = []
        · rw [decide_eq_false (fun z => z ne)]
          refine iteF (iteF (hK _ _ ⟨.refl _ _, ⟨_, rfl⟩, ?_⟩))
          have e : stepA acc p = acc := by unfold stepA; rw [if_neg fun z => z.1 ne]
          rw [e]
          exact pl
        · rw [decide_eq_true ne]
          refine iteT ⟨_, rfl, fa, p.2, rfl, h2, fun H1 s2 => ⟨_, rfl, ?_⟩⟩
          cases op : isOpen p.2 with
          | false =>
            refine iteF (hK _ _ ⟨.of s2, ⟨_, rfl⟩, ?_⟩)
            have e : stepA acc p = acc := by unfold stepA; rw [if_neg fun z => by rw [op] at z; exact Bool.false_ne_true z.2]
            rw [e]
            exact pl.same s2
          | true =>
            have n0 := List.length_pos_iff.mpr ne
            have r0 := WM.rootN_pos ne
            have rl' := WM.rootN_le ne
            refine iteT ⟨_, rfl, p.1, rfl, ne, by omega, fun H3 s3 => ?_⟩
            have e : stepA acc p = putP acc (p.1.take (WM.rootN p.1)) (timesF (p.1.length / WM.rootN p.1) (0 :: p.2.tail)) := by unfold stepA; rw [if_pos ⟨ne, op⟩]
            refine ⟨_, rfl, _, rfl, _, rfl, _, rfl, S p.1, rfl, len_line (by omega), _, rfl, S p.1, rfl, len_line (by omega), _, rfl, p.1.length, WM.rootN p.1, congrArg (fun n : Nat => V.int n) (S_len p.1), rfl, by omega, by omega, by show 1 ≤ sizeLine; decide, fun t1 n1 => ?_⟩
            have st1 := sameNew (o := .tup [V.int 0]) n1
            have h23 := st1 _ _ ((s2.trans s3) _ _ h2)
            refine ⟨_, rfl, 1, rfl, fa, _, 1, rfl, rfl, rfl, h23, fun p4 H4 s4 h4 => ?_⟩
            have l4 : ((p.2.map fun n : Nat => V.int (n : Nat)).drop 1).length ≤ 4 := by rw [List.length_drop, List.length_map]; omega
            refine ⟨t1, p4, _, _, rfl, rfl, s4 _ _ upd_same, h4, Nat.le_trans (Nat.add_le_add_left l4 1) (by decide), fun p5 H5 s5 h5 => ?_⟩
            have hF5 : FT H5 p5 (0 :: p.2.tail) := by
              unfold FT
              obtain ⟨x, f, ef⟩ : ∃ x f, p.2 = x :: f := by
                cases e : p.2 with
                | nil => rw [e] at lp; simp at lp
                | cons x f => exact ⟨x, f, rfl⟩
              rw [h5, ef]
              rfl
            have sk : p.1.length / WM.rootN p.1 ≤ p.1.length := Nat.div_le_self _ _
            refine ⟨p.1.length / WM.rootN p.1, p5, 0 :: p.2.tail, rfl, hF5, by simp [lp]; omega, by omega, fun n hn => ?_, fun p6 H6 s6 h6 => ?_⟩
            · rcases List.mem_cons.mp hn with x | x
              · omega
              · exact bp n (List.mem_of_mem_tail x)
            · have sAll : Same H' H6 := ((((s2.trans s3).trans st1).trans s4).trans s5).trans s6
              refine ⟨r, p6, acc, p.1.take (WM.rootN p.1), timesF (p.1.length / WM.rootN p.1) (0 :: p.2.tail), m, ?_, pl.same sAll, h6, by unfold timesF; simp [lp], nm.lenF, hm, by omega, fun z => ?_, by rw [List.length_take]; omega, fun x hx => by have := sm.2 x hx; omega, fun H7 s7 p7 => hK _ _ ⟨(SameX.of sAll).trans s7, ⟨_, rfl⟩, by rw [e]; exact p7⟩⟩
              · rw [SX.slice_to (by omega), Int.toNat_natCast]
                rfl
              · have := congrArg List.length z
                rw [List.length_take, List.length_nil] at this
                omega
      · obtain ⟨sX, ⟨y4, rfl⟩, plA⟩ := pM
        have rne : ∀ {b : Addr} {xs : List V}, H' b = some (.tup xs) → H2 b = some (.tup xs) := fun {b xs} e => by
          obtain ⟨us, hus, _⟩ := pl
          exact sX _ _ (fun z => by rw [z, hus] at e; cases e) e
        have h2' : FT H2 fa p.2 := rne h2
        have sH : ∀ {H3 : Hp}, SameX r H' H3 → Same H H3 := fun {H3} sx b o eb => sx _ _ (fun z => by rw [z, hr0] at eb; cases eb) (s1 _ _ eb)
        refine ⟨_, rfl, _, tru_word (by omega), ?_⟩
        have skip : ¬ (p.1 ≠ [] ∧ p.2.headD 0 ≠ 0) → PL H2 r (stepN acc p) := fun no => by
          have e : stepN acc p = stepA acc p := by
            unfold stepN stepB
            rw [if_neg no]
          rw [e]
          exact plA
        by_cases ne : p.1 = []
        · rw [decide_eq_false (fun z => z ne)]
          exact iteF (iteF ⟨sH sX, ⟨_, _, _, rfl⟩, skip fun z => z.1 ne⟩)
        · rw [decide_eq_true ne]
          refine iteT ⟨_, rfl, fa, _, 0, _, rfl, rfl, .inl (.inl h2'), atI_nat (j := 0) (head_get lp), _, rfl, ?_⟩
          by_cases h0 : p.2.headD 0 = 0
          · rw [h0]
            exact iteF ⟨sH sX, ⟨_, _, _, rfl⟩, skip fun z => z.2 h0⟩
          · rw [show ((((p.2.headD 0 : Nat) : Int)) != 0) = true by rw [bne_iff_ne]; omega]
            have mP : p.1.length * p.2.headD 0 ≤ measP p := by unfold measP; exact Nat.mul_le_mul_left _ (by omega)
            have n0 := List.length_pos_iff.mpr ne
            have hh : p.2.headD 0 ≤ p.1.length * p.2.headD 0 := Nat.le_mul_of_pos_left _ n0
            have lw : (WM.pw p.1 (p.2.headD 0)).length ≤ 5000 := by rw [WM.pw_len]; omega
            have lm : (((p.2.map fun n : Nat => V.int (n : Nat)).length : Nat) : Int) - 1 = (m : Int) := by rw [List.length_map, lp]; omega
            refine iteT ⟨_, rfl, _, rfl, _, rfl, fa, _, 0, _, rfl, rfl, .inl (.inl h2'), atI_nat (j := 0) (head_get lp), p.1, p.2.headD 0, rfl, rfl, by omega, by omega, by rw [Nat.mul_comm]; omega, ?_⟩
            refine ⟨_, rfl, fa, _, rfl, .inr (.inl (.inl h2')), _, _, rfl, rfl, r, stepA acc p, WM.pw p.1 (p.2.headD 0), m, ?_, plA, nmA.lenF, hm, by omega, by omega, fun x hx => by have := smA.2 x hx; omega, fun H3 s3 p3 => ⟨sH (sX.trans s3), ⟨_, _, _, rfl⟩, ?_⟩⟩
            · show [V.ref r, V.str (S (WM.pw p.1 (p.2.headD 0))), V.int ((((p.2.map fun n : Nat => V.int (n : Nat)).length : Nat) : Int) - 1)] = _
              rw [lm]
            · have e : stepN acc p = joinF (stepA acc p) (WM.pw p.1 (p.2.headD 0)) m := by unfold stepN stepB; rw [if_pos ⟨ne, h0⟩, lp]; rfl
              rw [e]
              exact p3
    · obtain ⟨s1, ⟨y2, y3, y4, rfl⟩, pl⟩ := pI
      rw [lv, List.take_length] at pl
      exact ⟨_, rfl, q r H' s1 hr0 pl⟩
end
end K23

set_option Elab.async false
set_option linter.all false
set_option maxRecDepth 100000
set_option maxHeartbeats 4000000
namespace K23
open PySem PySem.Spec PyProof.Rows L2 CK SX NM
/-! ### pieces as data -/
def dF (f : F) : PyData := .tuple (f.map fun n : Nat => PyData.int (n : Nat))
def dP (p : Pn) : PyData := .tuple [.str (S p.1), dF p.2]
theorem eqvAll_nats : ∀ f g : F, PyData.eqvAll (f.map fun n : Nat => PyData.int (n : Nat)) (g.map fun n : Nat => PyData.int (n : Nat)) = decide (f = g)
  | [], [] => by simp [PyData.eqvAll]
  | [], _ :: _ => by simp [PyData.eqvAll]
  | _ :: _, [] => by simp [PyData.eqvAll]
  | x :: f, y :: g => by
    rw [List.map_cons, List.map_cons, PyData.eqvAll, eqvAll_nats f g]
    simp [PyData.eqv, Bool.beq_eq_decide_eq]
    by_cases h : x = y
    · subst h
      simp
    · have h' : ¬ ((x : Int) = (y : Int)) := by omega
      simp [h, h']
theorem eqv_dP (p q : Pn) : PyData.eqv (dP p) (dP q) = decide (p = q) := by
  obtain ⟨a, f⟩ := p
  obtain ⟨b, g⟩ := q
  unfold dP dF
  simp only [PyData.eqv, PyData.eqvAll, eqvAll_nats, Bool.and_true]
  have e : (S a == S b) = decide (a = b) := S_beq_eq
  simp only [e]
  by_cases h1 : a = b <;> by_cases h2 : f = g <;> simp [h1, h2]
theorem eqvAll_dP : ∀ a b : List Pn, PyData.eqvAll (a.map dP) (b.map dP) = decide (a = b)
  | [], [] => by simp [PyData.eqvAll]
  | [], _ :: _ => by simp [PyData.eqvAll]
  | _ :: _, [] => by simp [PyData.eqvAll]
  | x :: f, y :: g => by
    rw [List.map_cons, List.map_cons, PyData.eqvAll, eqvAll_dP f g, eqv_dP]
    by_cases h : x = y <;> simp [h]
theorem eqv_dPs (a b : List Pn) : PyData.eqv (.list (a.map dP)) (.list (b.map dP)) = decide (a = b) := by
  rw [← eqvAll_dP]
  simp [PyData.eqv]
theorem str_low {w : List Nat} (h : Low w) : PyData.strOk (S w) = true := by
  unfold PyData.strOk
  rw [← Array.all_toList, List.all_eq_true]
  exact fun c hc => decide_eq_true (by have := h c hc; omega)
theorem lay_nats : ∀ f : F, PyData.canLayAll0 (f.map fun n : Nat => PyData.int (n : Nat)) = true
  | [] => by simp [PyData.canLayAll0]
  | n :: ns => by
    rw [List.map_cons, PyData.canLayAll0, lay_nats ns]
    simp [PyData.canLay0]
theorem deep_nats : ∀ f : F, PyData.depthAll (f.map fun n : Nat => PyData.int (n : Nat)) = 0
  | [] => by simp [PyData.depthAll]
  | n :: ns => by
    rw [List.map_cons, PyData.depthAll, deep_nats ns]
    simp [PyData.depth]
theorem lay_dP {p : Pn} (h : Low p.1) : (dP p).canLay0 = true := by simp [dP, dF, PyData.canLay0, PyData.canLayAll0, str_low h, lay_nats]
theorem deep_dP (p : Pn) : (dP p).depth = 2 := by simp [dP, dF, PyData.depth, PyData.depthAll, deep_nats]
theorem lay_dPs : ∀ ps : List Pn, (∀ p ∈ ps, Low p.1) → PyData.canLayAll0 (ps.map dP) = true
  | [], _ => by simp [PyData.canLayAll0]
  | p :: r, h => by
    rw [List.map_cons, PyData.canLayAll0, lay_dPs r fun q hq => h q (List.mem_cons_of_mem _ hq), lay_dP (h p List.mem_cons_self)]
    rfl
theorem deep_dPs : ∀ ps : List Pn, PyData.depthAll (ps.map dP) ≤ 2
  | [] => by simp [PyData.depthAll]
  | p :: r => by
    have := deep_dPs r
    rw [List.map_cons, PyData.depthAll, deep_dP]
    omega
theorem shaped_dPs {ps : List Pn} (h : ∀ p ∈ ps, Low p.1) : SeqAt.shaped (.list (ps.map dP)) = true := by
  unfold SeqAt.shaped
  rw [PyData.canLay0, lay_dPs ps h, PyData.depth]
  have := deep_dPs ps
  rw [decide_eq_true (by omega)]
  rfl
section
variable {K : PySem.W.Frag} {H : Hp}
theorem dpAll_nats : ∀ f : F, DpAll K H (f.map fun n : Nat => V.int (n : Nat)) (f.map fun n : Nat => PyData.int (n : Nat))
  | [] => .nil
  | n :: ns => .cons (.int _) (dpAll_nats ns)
theorem dp_FT {a : Addr} {f : F} (h : FT H a f) : Dp K H (.ref a) (dF f) := .tup (.inl (.inl h)) (dpAll_nats f)
theorem dp_PC {a : Addr} {p : Pn} (h : PC H a p) : Dp K H (.ref a) (dP p) := by
  obtain ⟨fa, h1, h2⟩ := h
  exact .tup (.inl (.inl h1)) (.cons (.str _) (.cons (dp_FT h2) .nil))
theorem dpAll_Pcs {vs : List V} {ps : List Pn} (h : Pcs H vs ps) : DpAll K H vs (ps.map dP) := by
  induction h with
  | nil => exact .nil
  | cons e _ ih => exact .cons (dp_PC e) ih
theorem dp_PL {l : Addr} {ps : List Pn} (h : PL H l ps) : Dp K H (.ref l) (.list (ps.map dP)) := by
  obtain ⟨vs, e, p⟩ := h
  exact .lst (.inl (.inl e)) (dpAll_Pcs p)
end
/-! ### letters stay letters -/
def LowP (ps : List Pn) : Prop := ∀ p ∈ ps, Low p.1
theorem low_app {a b : List Nat} (h : Low a) (g : Low b) : Low (a ++ b) := fun c hc => (List.mem_append.mp hc).elim (h c) (g c)
theorem low_take {a : List Nat} (h : Low a) (n : Nat) : Low (a.take n) := fun c hc => h c (List.mem_of_mem_take hc)
theorem low_drop {a : List Nat} (h : Low a) (n : Nat) : Low (a.drop n) := fun c hc => h c (List.mem_of_mem_drop hc)
theorem low_pw {a : List Nat} (h : Low a) : ∀ n, Low (WM.pw a n)
  | 0 => fun c hc => absurd hc List.not_mem_nil
  | n + 1 => by rw [WM.pw_succ]; exact low_app h (low_pw h n)
theorem low_rotR {u : List Nat} (h : Low u) (k : Nat) : Low (rotR u k) := low_app (low_drop h _) (low_take h _)
theorem lowP_joinF {acc : List Pn} {z : WM.W} {m : Nat} (h : LowP acc) (hz : Low z) : LowP (joinF acc z m) := fun p hp => by
  rcases mem_joinF hp with x | x | ⟨q, hq, x⟩
  · exact h p x
  · rw [x]; exact hz
  · rw [x]; exact low_app (h q hq) hz
theorem lowP_pushP {acc : List Pn} {u : WM.W} {f : F} (h : LowP acc) (hu : Low u) : LowP (pushP acc u f) := fun p hp => by
  unfold pushP at hp
  split at hp
  · split at hp
    · rcases List.mem_append.mp hp with x | x
      · exact h p (mem_dropLast x)
      · rw [List.mem_singleton.mp x]; exact hu
    · rcases List.mem_append.mp hp with x | x
      · exact h p x
      · rw [List.mem_singleton.mp x]; exact hu
  · rcases List.mem_append.mp hp with x | x
    · exact h p x
    · rw [List.mem_singleton.mp x]; exact hu
theorem low_nil : Low [] := fun c hc => absurd hc List.not_mem_nil
theorem lowP_putP {acc : List Pn} {u : WM.W} {f : F} (h : LowP acc) (hu : Low u) : LowP (putP acc u f) := by
  unfold putP
  split
  · next q hq =>
    split
    · exact lowP_joinF (lowP_pushP h hu) low_nil
    · have lq := h q (List.mem_of_getLast? hq)
      exact lowP_joinF (lowP_pushP (lowP_joinF (fun p hp => h p (mem_dropLast hp)) (low_take lq _)) (low_rotR hu _)) (low_drop lq _)
  · exact lowP_joinF (lowP_pushP h hu) low_nil
theorem lowP_fold : ∀ (ps acc : List Pn), LowP acc → LowP ps → LowP (ps.foldl stepN acc)
  | [], _, h, _ => h
  | p :: r, acc, h, hp => lowP_fold r _ (by
      have lp := hp p List.mem_cons_self
      have hA : LowP (stepA acc p) := by
        unfold stepA
        split
        · exact lowP_putP h (low_take lp _)
        · exact h
      show LowP (stepB (stepA acc p) p)
      unfold stepB
      split
      · exact lowP_joinF hA (low_pw lp _)
      · exact hA) fun q hq => hp q (List.mem_cons_of_mem _ hq)
theorem lowP_normL {ps : List Pn} (h : LowP ps) : LowP (normL ps) := lowP_fold ps [] (fun p hp => absurd hp List.not_mem_nil) h
end K23

set_option Elab.async false
set_option linter.all false
set_option maxRecDepth 100000
set_option maxHeartbeats 4000000
namespace K23
open PySem PySem.Spec PyProof.Rows L2 CK SX NM
theorem sum_meas : ∀ ps : List Pn, (ps.map fun p => ((measP p : Nat) : Int)).sum = ((meas ps : Nat) : Int)
  | [] => rfl
  | p :: r => by
    rw [List.map_cons, List.sum_cons, sum_meas r, meas_cons, Int.natCast_add]
/-- a value that is a piece, or one of the wrong ones that are met -/
inductive PV (H : Hp) (m : Nat) : V → Bool → Prop
  | good {a : Addr} {p : Pn} : PC H a p → p.2.length = m + 1 → p.1.length ≤ 2000 → Low p.1 → PV H m (.ref a) true
  | non : PV H m .non false
  | lst {a : Addr} {xs : List V} : H a = some (.lst xs) → PV H m (.ref a) false
  | long {a fa : Addr} {z : List Nat} : H a = some (.tup [.str (S z), .ref fa]) → 2000 < z.length → z.length ≤ 1000000 → Low z → PV H m (.ref a) false
theorem PV.same {H H' : Hp} {m : Nat} {v : V} {b : Bool} (h : PV H m v b) (s : Same H H') : PV H' m v b := by
  cases h with
  | good h1 h2 h3 h4 => exact .good (h1.mono (tup_same s)) h2 h3 h4
  | non => exact .non
  | lst h => exact .lst (s _ _ h)
  | long h1 h2 h3 h4 => exact .long (s _ _ h1) h2 h3 h4
section
variable {P : Program} {w : World} {K : PySem.W.Frag} {mg : Str → Option Value} {base : Heap} {C : Addr}
def sp_is_piece : Sp := fun vs H Q _ => ∃ (m : Nat) (v : V) (b : Bool), vs = [.int m, v] ∧ m ≤ 3 ∧ PV H m v b ∧ ∀ H', Same H H' → Q (.bl b) H'
theorem c_is_piece (T : Txt K mg C) : C8.Cal P w K mg base 4 "is_piece" sp_is_piece [] := by
  refine calF T.d_is_piece sc_is_piece (fun vs H Q E h => ?_) (fun f cdv A outer s H vs Q E hr h => ?_)
  · obtain ⟨_, _, _, rfl, _⟩ := h; rfl
  · obtain ⟨m, v, b, rfl, m3, hv, q⟩ := h
    refine ⟨_, (pss_cons (ps_if (PW.pt (pw_or (pt_not (pt_val (pe_callB call_isK (by rfl) T.m_isinstance (by decide +kernel) (pa_cons (pv 1) (pa_cons (pe_bltn (v := .ty "tuple") (by rfl) T.m_tuple (by decide +kernel) rfl) pa_nil))))) (pw_or1 (pt_cmpR op_ne (pe_callB call_len_seq (by rfl) T.m_len (by decide +kernel) (pa_cons (pv 1) pa_nil)) pe_int (nomark _)))))
    (pss_one (ps_ret pe_bl))
    pss_nil)
    (pss_one (ps_ret (pe_and (C8.pe_c (c_is_lettered T) hr (by decide) (by rfl) (pa_cons (pe_ix ix_tup (pv 1) pe_int (fun _ _ => rfl)) (pa_cons (C8.pe_gc (by rfl) T.k_MOST_PIECE_LETTERS) pa_nil))) (pe_one (C8.pe_c (c_is_form_for T) hr (by decide) (by rfl) (pa_cons (pv 0) (pa_cons (pe_ix ix_tup (pv 1) pe_int (fun _ _ => rfl)) pa_nil)))))))), ?_⟩
    cases hv with
    | non => exact ⟨_, rfl, .non, "tuple", _, rfl, .non, kit_tuple .non, _, rfl, iteT (q H (Same.refl _))⟩
    | lst h =>
      rename_i a xs
      have kn : Kn H (.ref a) := .lst h
      refine ⟨_, rfl, .ref a, "tuple", _, rfl, kn, kit_tuple kn, _, rfl, ?_⟩
      rw [show isTu H (.ref a) = false by simp only [isTu, h]]
      exact iteT (q H (Same.refl _))
    | long h1 h2 h3 h4 =>
      rename_i a fa z
      have kn : Kn H (.ref a) := .tup h1
      refine ⟨_, rfl, .ref a, "tuple", _, rfl, kn, kit_tuple kn, _, rfl, ?_⟩
      rw [isTu_tup h1]
      refine iteF ⟨_, rfl, a, _, rfl, .inr (.inl (.inl h1)), rfl, _, rfl, iteF ?_⟩
      refine ⟨_, rfl, a, _, 0, _, rfl, rfl, .inl (.inl h1), atI_nat (j := 0) rfl, z, 2000, rfl, h3, h4, _, rfl, ?_⟩
      rw [decide_eq_false (by omega)]
      exact iteF (q H (Same.refl _))
    | good h1 h2 h3 h4 =>
      rename_i a p
      obtain ⟨fa, e1, e2⟩ := h1
      have kn : Kn H (.ref a) := .tup e1
      refine ⟨_, rfl, .ref a, "tuple", _, rfl, kn, kit_tuple kn, _, rfl, ?_⟩
      rw [isTu_tup e1]
      refine iteF ⟨_, rfl, a, _, rfl, .inr (.inl (.inl e1)), rfl, _, rfl, iteF ?_⟩
      refine ⟨_, rfl, a, _, 0, _, rfl, rfl, .inl (.inl e1), atI_nat (j := 0) rfl, p.1, 2000, rfl, by omega, h4, _, rfl, ?_⟩
      rw [decide_eq_true (show p.1.length ≤ 2000 from h3)]
      refine iteT ⟨_, rfl, _, rfl, a, _, 1, _, rfl, rfl, .inl (.inl e1), atI_nat (j := 1) rfl, (m : Int), .ref fa, rfl, .tup e2, fun b xs eb hb => ?_, fun H1 s1 => ?_⟩
      · cases eb
        have := hb.symm.trans e2
        cases this
        exact ⟨small1000 (by rw [List.length_map, h2]; omega), kn_nats⟩
      · rw [formB_FT e2 h2]
        exact q H1 s1
def sp_measure : Sp := fun vs H Q _ => ∃ (l : Addr) (ps : List Pn) (m : Nat), vs = [.ref l] ∧ PL H l ps ∧ LenF m ps ∧ Ws 1000000 ps ∧ (∀ p ∈ ps, Bf p.2) ∧ ps.length ≤ 1000000 ∧ ∀ H', Same H H' → Q (.int (meas ps : Nat)) H'
theorem c_measure (T : Txt K mg C) : C8.Cal P w K mg base 2 "measure" sp_measure [] := by
  refine calF T.d_measure sc_measure (fun vs H Q E h => ?_) (fun f cdv A outer s H vs Q E hr h => ?_)
  · obtain ⟨_, _, _, rfl, _⟩ := h; rfl
  · obtain ⟨l, ps, m, rfl, ⟨vs, hl, hp⟩, lF, ws, bf, hlen, q⟩ := h
    have len := hp.len
    refine ⟨_, (pss_one (ps_ret (pe_callB (cr_sum rfl) (by rfl) T.m_sum (by decide +kernel) (pa_cons (pe_lc (own := [("word", 1), ("form", 2)]) (by rfl) sc_measure.nd (pi_list (pv 0)) (blkOk_by (N := ["pieces", "word", "form"]) (sc := C8.fnScope (topS 45)) (own := [("word", 1), ("form", 2)]) (by decide +kernel)) (fun _ _ _ _ _ => (pg_two (K := K) (i := 1) (j := 2) rfl rfl sc_measure.nd rfl rfl (Or.inl rfl) (Or.inl rfl))) (fun _ _ _ _ _ => pts_nil) (fun _ _ _ _ _ => (pe_op op_mulZ (pe_callB call_len_str (by rfl) T.m_len (by decide +kernel) (pa_cons (pv 1) pa_nil)) (pe_op op_addB (pe_ix ix_tupH (pv 2) pe_int (fun _ _ => rfl)) (C8.pe_c (c_is_open_form T) hr (by decide) (by rfl) (pa_cons (pv 2) pa_nil)))))) pa_nil)))), ?_⟩
    refine ⟨_, rfl, l, rfl, ⟨_, .inl (.inl hl)⟩, fun D hD => ?_⟩
    refine lc_list (K := K) (a := l) (xs := vs) (fun i H1 => Same H H1 ∧ H1 D = some (.lst ((ps.take i).map fun p => V.int ((measP p : Nat) : Int)))) ⟨sameNew hD, by rw [upd_same]; rfl⟩ (fun i H1 _ p => .inl (.inl (p.1 _ _ hl))) (fun i y H1 hi p => ?_) fun H1 p => ?_
    · obtain ⟨s1, hD1⟩ := p
      obtain ⟨a, p, rfl, hpi, pc⟩ := hp.get hi
      have mem := List.mem_of_getElem? hpi
      have hii := (List.getElem?_eq_some_iff.mp hpi).1
      have lp := lF p mem
      have wp := ws p mem
      obtain ⟨fa, e1, e2⟩ := pc.mono (tup_same s1)
      have bh : p.2.headD 0 < 2 ^ 900 := by
        cases e : p.2 with
        | nil => rw [e] at lp; simp at lp
        | cons x f => exact bf p mem x (by rw [e]; exact List.mem_cons_self)
      refine ⟨a, _, rfl, .inl (.inl e1), rfl, _, _, rfl, _, _, rfl, rfl, rfl, ?_⟩
      refine ⟨_, rfl, S p.1, rfl, len_line (by omega), _, rfl, fa, _, 0, _, rfl, rfl, e2, atI_nat (j := 0) (head_get lp), _, rfl, fa, p.2, rfl, e2, fun H2 s2 => ?_⟩
      refine ⟨_, _, rfl, rfl, p.1.length, p.2.headD 0 + (if isOpen p.2 then 1 else 0), congrArg (fun n : Nat => V.int n) (S_len _), congrArg V.int (by split <;> simp), by omega, by split <;> omega, _, s2 _ _ hD1, ?_, same_upd2 hD (s1.trans s2), ?_⟩
      · rw [List.length_map, List.length_take, sizeLine_eq]
        omega
      · rw [upd_same, List.take_succ, hpi]
        simp [measP]
    · obtain ⟨s1, hD1⟩ := p
      rw [len, List.take_length] at hD1
      refine ⟨D, ps.map fun p => ((measP p : Nat) : Int), rfl, .inl (.inl (by rw [hD1, List.map_map]; rfl)), ?_⟩
      rw [sum_meas]
      exact q _ s1
end
end K23

set_option Elab.async false
set_option linter.all false
set_option maxRecDepth 100000
set_option maxHeartbeats 4000000
namespace K23
open PySem PySem.Spec PyProof.Rows L2 CK SX NM
/-- a list of pieces, as the program lets it -/
structure GL (H : Hp) (m : Nat) (l : Addr) (ps : List Pn) : Prop where
  at_ : PL H l ps
  len : LenF m ps
  ws : Ws 2000 ps
  low : LowP ps
  bf : ∀ p ∈ ps, Bf p.2
  few : ps.length ≤ 5000
theorem GL.same {H H' : Hp} {m : Nat} {l : Addr} {ps : List Pn} (h : GL H m l ps) (s : Same H H') : GL H' m l ps := ⟨h.at_.same s, h.len, h.ws, h.low, h.bf, h.few⟩
inductive PLV (H : Hp) (m : Nat) : V → Bool → Prop
  | tup {a : Addr} {xs : List V} : H a = some (.tup xs) → PLV H m (.ref a) false
  | bad {l : Addr} {vs : List V} {bs : List Bool} : H l = some (.lst vs) → vs.length ≤ 5000 → bs.length = vs.length → (∀ (i : Nat) (v : V) (b : Bool), vs[i]? = some v → bs[i]? = some b → PV H m v b) → bs.all id = false → PLV H m (.ref l) false
  | good {l : Addr} {ps : List Pn} : GL H m l ps → PLV H m (.ref l) (decide (meas ps ≤ 2000))
theorem small1000000 {n : Nat} (h : n ≤ 1000000) : n < sizeLine := by rw [sizeLine_eq]; omega
theorem range_bools (bs : List Bool) : (List.range bs.length).map (fun i => V.bl (bs.getD i false)) = bs.map V.bl := by
  refine List.ext_getElem? fun i => ?_
  by_cases h : i < bs.length
  · rw [List.getElem?_map, List.getElem?_range h, List.getElem?_map, List.getElem?_eq_getElem h]
    show some (V.bl (bs.getD i false)) = some (V.bl bs[i])
    rw [List.getD_eq_getElem?_getD, List.getElem?_eq_getElem h]
    rfl
  · rw [List.getElem?_eq_none (by simp; omega), List.getElem?_eq_none (by simp; omega)]
section
variable {P : Program} {w : World} {K : PySem.W.Frag} {mg : Str → Option Value} {base : Heap} {C : Addr}
def sp_need_measure : Sp := fun vs H Q _ => ∃ (n : Nat), vs = [.int n] ∧ n ≤ 2000 ∧ Q .non H
theorem c_need_measure (T : Txt K mg C) : C8.Cal P w K mg base 1 "need_measure" sp_need_measure [] := by
  refine calF T.d_need_measure sc_need_measure (fun vs H Q E h => ?_) (fun f cdv A outer s H vs Q E hr h => ?_)
  · obtain ⟨_, rfl, _⟩ := h; rfl
  · obtain ⟨n, rfl, hn, q⟩ := h
    refine ⟨_, (pss_one (ps_if (pt_cmpR op_gt (pv 0) (C8.pe_gc (by rfl) T.k_MOST_MEASURE) (nomark _))
    (pss_one ps_never)
    pss_nil)), ?_⟩
    refine ⟨_, rfl, _, 2000, rfl, rfl, _, rfl, ?_⟩
    rw [decide_eq_false (by omega)]
    exact iteF q
def sp_need_pieces : Sp := fun vs H Q _ => ∃ (m : Nat) (l : Addr) (ps : List Pn), vs = [.int m, .ref l] ∧ m ≤ 3 ∧ GL H m l ps ∧ meas ps ≤ 2000 ∧ ∀ H', Same H H' → Q .non H'
theorem c_need_pieces (T : Txt K mg C) : C8.Cal P w K mg base 5 "need_pieces" sp_need_pieces [] := by
  refine calF T.d_need_pieces sc_need_pieces (fun vs H Q E h => ?_) (fun f cdv A outer s H vs Q E hr h => ?_)
  · obtain ⟨_, _, _, rfl, _⟩ := h; rfl
  · obtain ⟨m, l, ps, rfl, m3, g, hme, q⟩ := h
    obtain ⟨vs, h1, hp⟩ := id g.at_
    have lv := hp.len
    have hf := g.few
    have kn : Kn H (.ref l) := .lst h1
    refine ⟨_, (pss_cons (ps_expr (C8.pe_c (c_need_many T) hr (by decide) (by rfl) (pa_cons (pv 0) pa_nil)))
    (pss_cons (ps_if (PW.pt (pw_or (pt_not (pt_val (pe_callB call_isK (by rfl) T.m_isinstance (by decide +kernel) (pa_cons (pv 1) (pa_cons (pe_bltn (v := .ty "list") (by rfl) T.m_list (by decide +kernel) rfl) pa_nil))))) (pw_or1 (pt_cmpR op_gt (pe_callB call_len_seq (by rfl) T.m_len (by decide +kernel) (pa_cons (pv 1) pa_nil)) (C8.pe_gc (by rfl) T.k_MOST_PIECES) (nomark _)))))
    (pss_one ps_never)
    pss_nil)
    (pss_cons (ps_for PassesOwn.never rfl (pi_list (pv 1)) (pg_name (i := 2) sc_need_pieces.nd rfl (Or.inl rfl))
    (pss_one (ps_if (pt_not (pt_val (C8.pe_c (c_is_piece T) hr (by decide) (by rfl) (pa_cons (pv 0) (pa_cons (pv 2) pa_nil)))))
    (pss_one ps_never)
    pss_nil)))
    (pss_one (ps_expr (C8.pe_c (c_need_measure T) hr (by decide) (by rfl) (pa_cons (C8.pe_c (c_measure T) hr (by decide) (by rfl) (pa_cons (pv 1) pa_nil)) pa_nil))))))), ?_⟩
    refine ⟨_, rfl, m, rfl, by omega, by omega, ?_⟩
    refine ⟨_, rfl, .ref l, "list", _, rfl, kn, kit_list kn, _, rfl, ?_⟩
    rw [isLi_lst h1]
    refine iteF ⟨_, rfl, l, _, rfl, .inl (.inl (.inl h1)), _, 5000, rfl, rfl, _, rfl, ?_⟩
    rw [decide_eq_false (by omega)]
    refine iteF ?_
    refine ⟨_, rfl, l, rfl, ⟨_, .inl (.inl h1)⟩, for_list (K := K) (a := l) (xs := vs) (fun i σ H' => Same H H' ∧ ∃ y2, σ = [some (.int m), some (.ref l), y2]) ⟨Same.refl _, none, rfl⟩ (fun i σ H' _ p => .inl (.inl (p.1 _ _ h1))) (fun i y σ H' hi p => ?_) (fun σ H' p => ?_)⟩
    · obtain ⟨s1, y2, rfl⟩ := p
      obtain ⟨a, p, rfl, hpi, pc⟩ := hp.get hi
      have mem := List.mem_of_getElem? hpi
      exact ⟨_, rfl, _, rfl, m, _, true, rfl, m3, .good (pc.mono (tup_same s1)) (g.len p mem) (g.ws p mem) (g.low p mem), fun H2 s2 => ⟨_, rfl, iteF ⟨s1.trans s2, _, rfl⟩⟩⟩
    · obtain ⟨s1, y2, rfl⟩ := p
      exact ⟨_, rfl, l, ps, m, rfl, g.at_.same s1, g.len, fun p hp => by have := g.ws p hp; omega, g.bf, by omega, fun H2 s2 => ⟨meas ps, rfl, hme, q H2 (s1.trans s2)⟩⟩
def sp_normal : Sp := fun vs H Q _ => ∃ (m : Nat) (l : Addr) (ps : List Pn), vs = [.int m, .ref l] ∧ m ≤ 3 ∧ GL H m l ps ∧ meas ps ≤ 2000 ∧ ∀ r H', Same H H' → H r = none → PL H' r (normL ps) → Q (.ref r) H'
theorem c_normal (T : Txt K mg C) : C8.Cal P w K mg base 6 "normal" sp_normal [] := by
  refine calF T.d_normal sc_normal (fun vs H Q E h => ?_) (fun f cdv A outer s H vs Q E hr h => ?_)
  · obtain ⟨_, _, _, rfl, _⟩ := h; rfl
  · obtain ⟨m, l, ps, rfl, m3, g, hme, q⟩ := h
    have hf := g.few
    refine ⟨_, (pss_cons (ps_expr (C8.pe_c (c_need_pieces T) hr (by decide) (by rfl) (pa_cons (pv 0) (pa_cons (pv 1) pa_nil))))
    (pss_one (ps_ret (C8.pe_c (c_normal_pieces T) hr (by decide) (by rfl) (pa_cons (pv 1) pa_nil))))), ?_⟩
    exact ⟨_, rfl, _, rfl, m, l, ps, rfl, m3, g, hme, fun H1 s1 => ⟨_, rfl, l, ps, m, rfl, g.at_.same s1, g.len, m3, by omega, fun p hp => by have := g.ws p hp; omega, g.bf, by omega, fun r H2 s2 n2 p2 => q r H2 (s1.trans s2) (s1.free n2) p2⟩⟩
end
end K23

set_option Elab.async false
set_option linter.all false
set_option maxRecDepth 100000
set_option maxHeartbeats 4000000
namespace K23
open PySem PySem.Spec PyProof.Rows L2 CK SX NM
section
variable {P : Program} {w : World} {K : PySem.W.Frag} {mg : Str → Option Value} {base : Heap} {C : Addr}
/-! ### the law's own defs -/
theorem fm0 {i j : Int} (h : 0 < j) : 0 ≤ i.fmod j := Int.fmod_nonneg_of_pos i h
theorem fm1 {i j : Int} (h : 0 < j) : i.fmod j < j := Int.fmod_lt_of_pos i h
theorem ab {i : Int} {k : Nat} (h0 : 0 ≤ i) (h : i < 2 ^ k) : i.natAbs < 2 ^ k := by
  have e : ((2 ^ k : Nat) : Int) = 2 ^ k := by simp
  omega
def sp_hash : Sp := fun vs H Q _ => ∃ s i : Int, vs = [.int s, .int i] ∧ 0 ≤ s ∧ s < 2 ^ 31 ∧ 0 ≤ i ∧ i < 2 ^ 41 ∧ ∀ r : Int, 0 ≤ r → r < 2 ^ 31 → Q (.int r) H
theorem c_law_hash (T : Txt K mg C) : C8.Cal P w K mg base 1 "_law_hash" sp_hash [] := by
  refine calF T.d_law_hash sc_law_hash (fun vs H Q E h => ?_) (fun f cdv A outer s H vs Q E hr h => ?_)
  · obtain ⟨_, _, rfl, _⟩ := h; rfl
  · obtain ⟨z, i, rfl, h0, h1, h2, h3, q⟩ := h
    refine ⟨_, (pss_cons (ps_set (i := 2) sc_law_hash.nd rfl (Or.inl rfl) (pe_op op_modN (pe_callTy call_int1 (by rfl) T.m_int (by decide +kernel) (pa_cons (pe_op op_add (pe_op op_add (pe_op op_add (pe_op op_mulW (pv 0) pe_int) (pe_op op_mulW (pe_op op_mulW pe_int (pv 1)) (pv 1))) (pe_op op_mulW pe_int (pv 1))) pe_int) pa_nil)) pe_int))
    (pss_cons (ps_set (i := 2) sc_law_hash.nd rfl (Or.inl rfl) (pe_op op_modN (pe_callTy call_int1 (by rfl) T.m_int (by decide +kernel) (pa_cons (pe_op op_add (pe_op op_add (pe_op op_mulW (pv 2) (pv 2)) (pe_op op_mulW pe_int (pv 1))) pe_int) pa_nil)) pe_int))
    (pss_one (ps_ret (pe_op op_modN (pe_callTy call_int1 (by rfl) T.m_int (by decide +kernel) (pa_cons (pe_op op_mulW (pv 2) pe_int) pa_nil)) pe_int))))), ?_⟩
    have a1 : z.natAbs < 2 ^ 100 := ab h0 (by omega)
    have a2 : i.natAbs < 2 ^ 100 := ab h2 (by omega)
    have a3 : ((27644437 : Int)).natAbs < 2 ^ 100 := by decide
    have a4 := wide_lt a3 a2
    refine ⟨_, rfl, z, _, rfl, rfl, wide_mul a1 (show ((1140671 : Int)).natAbs < 2 ^ 100 by decide) (by decide) (by decide) (by decide), ?_⟩
    refine ⟨_, rfl, _, i, rfl, rfl, wide_mul a3 a2 (by decide) (by decide) (by decide), _, rfl, _, i, rfl, rfl, wide_mul a4 a2 (by decide) (by decide) (by decide), _, _, rfl, rfl, ?_⟩
    refine ⟨_, rfl, _, i, rfl, rfl, wide_mul (show ((131 : Int)).natAbs < 2 ^ 100 by decide) a2 (by decide) (by decide) (by decide), _, _, rfl, rfl, _, _, rfl, rfl, .inl ⟨_, rfl, _, _, rfl, rfl, (by decide : (2147483629 : Int) ≠ 0), ?_⟩⟩
    obtain ⟨m, hm⟩ : ∃ m, (z * 1140671 + 27644437 * i * i + 131 * i + 19).fmod 2147483629 = m := ⟨_, rfl⟩
    have m0 : 0 ≤ m := by rw [← hm]; exact fm0 (by decide)
    have m1 : m < 2147483629 := by rw [← hm]; exact fm1 (by decide)
    have a5 : m.natAbs < 2 ^ 100 := ab m0 (by omega)
    refine ⟨_, rfl, _, rfl, m, m, congrArg V.int hm, congrArg V.int hm, wide_mul a5 a5 (by decide) (by decide) (by decide), ?_⟩
    refine ⟨_, rfl, _, i, rfl, rfl, wide_mul (show ((62089 : Int)).natAbs < 2 ^ 100 by decide) a2 (by decide) (by decide) (by decide), _, _, rfl, rfl, _, _, rfl, rfl, .inl ⟨_, rfl, _, _, rfl, rfl, (by decide : (2147483587 : Int) ≠ 0), ?_⟩⟩
    obtain ⟨k, hk⟩ : ∃ k, (m * m + 62089 * i + 32416187).fmod 2147483587 = k := ⟨_, rfl⟩
    have k0 : 0 ≤ k := by rw [← hk]; exact fm0 (by decide)
    have k1 : k < 2147483587 := by rw [← hk]; exact fm1 (by decide)
    have a6 : k.natAbs < 2 ^ 100 := ab k0 (by omega)
    refine ⟨_, rfl, k, _, congrArg V.int hk, rfl, wide_mul a6 (show ((48271 : Int)).natAbs < 2 ^ 100 by decide) (by decide) (by decide) (by decide), .inl ⟨_, rfl, _, _, rfl, rfl, (by decide : (2147483647 : Int) ≠ 0), ?_⟩⟩
    exact q _ (fm0 (by decide)) (Int.lt_trans (fm1 (by decide)) (by decide))
def sp_random : Sp := fun vs H Q _ => ∃ (g : Addr) (b : Int) (n : Nat), vs = [.ref g, .int b] ∧ Gn (n + 1) H g ∧ 1 ≤ b ∧ b < 2 ^ 200 ∧ ∀ (r : Int) H', SameX g H H' → Gn n H' g → 0 ≤ r → r < b → Q (.int r) H'
theorem pow32 (i : Nat) : (2 : Int) ^ (32 * (i + 1)) = 2 ^ (32 * i) * 4294967296 := by
  rw [Nat.mul_add, Int.pow_add]
  rfl
theorem pow_ge1 (i : Nat) : (1 : Int) ≤ 2 ^ i := by
  have := Int.pow_pos (n := 2) (m := i) (by decide)
  omega
theorem c_law_random (T : Txt K mg C) : C8.Cal P w K mg base 2 "_law_random" sp_random [] := by
  refine calF T.d_law_random sc_law_random (fun vs H Q E h => ?_) (fun f cdv A outer s H vs Q E hr h => ?_)
  · obtain ⟨_, _, _, rfl, _⟩ := h; rfl
  · obtain ⟨g, b, n, rfl, G, hb, hb2, q⟩ := h
    refine ⟨_, (pss_cons (ps_if (pt_cmpR op_gt (pe_ix ix_list (pv 0) pe_int (fun _ _ => rfl)) pe_int (nomark _))
    (pss_cons (ps_set (i := 2) sc_law_random.nd rfl (Or.inl rfl) (pe_op op_modN (pe_callTy call_int1 (by rfl) T.m_int (by decide +kernel) (pa_cons (pe_ix ix_list (pv 0) pe_int (fun _ _ => rfl)) pa_nil)) (pv 1)))
    (pss_cons (ps_asg (pe_op op_fdivW (pe_ix ix_list (pv 0) pe_int (fun _ _ => rfl)) (pv 1)) (pg_sub (pv 0) pe_int set_list))
    (pss_one (ps_ret (pv 2)))))
    pss_nil)
    (pss_cons (ps_set (i := 2) sc_law_random.nd rfl (Or.inl rfl) pe_int)
    (pss_cons (ps_for PassesOwn.never rfl (pi_range1 (by rfl) T.m_range (pa_cons (pe_op op_add pe_int (pe_op op_fdivW (pe_bits (pv 1)) pe_int)) pa_nil)) (pg_name (i := 3) sc_law_random.nd rfl (Or.inl rfl))
    (pss_cons (ps_asg (pe_op op_add (pe_ix ix_list (pv 0) pe_int (fun _ _ => rfl)) pe_int) (pg_sub (pv 0) pe_int set_list))
    (pss_one (ps_set (i := 2) sc_law_random.nd rfl (Or.inl rfl) (pe_op op_add (pe_op op_mulW (pv 2) pe_int) (C8.pe_c (c_law_hash T) hr (by decide) (by rfl) (pa_cons (pe_ix ix_list (pv 0) pe_int (fun _ _ => rfl)) (pa_cons (pe_ix ix_list (pv 0) pe_int (fun _ _ => rfl)) pa_nil))))))))
    (pss_one (ps_ret (pe_op op_modN (pe_callTy call_int1 (by rfl) T.m_int (by decide +kernel) (pa_cons (pv 2) pa_nil)) (pv 1))))))), ?_⟩
    obtain ⟨x, y, c, hg, x0, y0, y1, c0, c1⟩ := G
    refine ⟨_, rfl, g, _, 0, .int x, rfl, rfl, .inl (.inl hg), atI_nat (j := 0) rfl, x, 0, rfl, rfl, _, rfl, ite2 (fun e => ?_) (fun e => ?_)⟩
    · -- a digit
      refine ⟨_, rfl, g, _, 0, .int x, rfl, rfl, .inl (.inl hg), atI_nat (j := 0) rfl, .inl ⟨x, rfl, _, rfl, x, b, rfl, rfl, by omega, ?_⟩⟩
      refine ⟨_, rfl, g, _, 0, .int x, rfl, rfl, .inl (.inl hg), atI_nat (j := 0) rfl, _, rfl, x, b, rfl, rfl, wide_div (b := 200) (by omega) (ab (by omega) hb2) (by decide) (by decide), _, rfl, g, _, 0, 0, rfl, rfl, hg, rfl, ?_⟩
      exact ⟨_, rfl, q _ _ sameX_upd ⟨x / b, y, c, upd_same, Int.ediv_nonneg x0 (by omega), y0, y1, c0, by omega⟩ (fm0 (by omega)) (fm1 (by omega))⟩
    · -- by the hash
      have ib : Builtin.Int.intBits b ≤ 200 := intBits_le (ab (by omega) hb2)
      have tn : (1 + ((Builtin.Int.intBits b : Nat) : Int) / 30).toNat ≤ 7 := by omega
      refine ⟨_, rfl, b, rfl, _, _, rfl, rfl, wide_div (b := 200) (by decide) (by decide) (by decide) (by decide), _, _, rfl, rfl, _, rfl, by omega, by omega, ?_⟩
      refine for_it walk_range (fun i σ H3 => ∃ (d : Int) (y3 : Option V) (c3 : Int), σ = [some (.ref g), some (.int b), some (.int d), y3] ∧ SameX g H H3 ∧ H3 g = some (.lst [.int x, .int y, .int c3]) ∧ c3 = c + i ∧ 0 ≤ d ∧ d < 2 ^ (32 * i) ∧ i ≤ 7)
        ⟨0, none, c, rfl, .refl _ _, hg, by simp, Int.le_refl _, by decide, by decide⟩ (fun _ _ _ _ _ => True.intro) (fun i v σ H3 H4 hi p yy => ?_) fun σ H3 p => ?_
      · obtain ⟨d, y3, c3, rfl, s3, g3, ec, d0, d1, i7⟩ := p
        obtain ⟨rfl, rfl⟩ := yy
        have i6 : i ≤ 6 := by omega
        have u1 : (upd H4 g (.lst [.int x, .int y, .int (c3 + 1)])) g = some (.lst [.int x, .int y, .int (c3 + 1)]) := upd_same
        refine ⟨_, rfl, g, _, 2, .int c3, rfl, rfl, .inl (.inl g3), atI_nat (j := 2) rfl, _, _, rfl, rfl, _, rfl, g, _, 2, 2, rfl, rfl, g3, rfl, ?_⟩
        have ad : d.natAbs < 2 ^ (32 * i + 1) := ab d0 (Int.lt_of_lt_of_le d1 (by rw [Int.pow_succ]; have := pow_ge1 (32 * i); omega))
        refine ⟨_, rfl, d, _, rfl, rfl, wide_mul ad (show ((2147483587 : Int)).natAbs < 2 ^ 100 by decide) (by omega) (by decide) (by omega), ?_⟩
        refine ⟨_, rfl, g, _, 1, .int y, rfl, rfl, .inl (.inl u1), atI_nat (j := 1) rfl, _, rfl, g, _, 2, .int (c3 + 1), rfl, rfl, .inl (.inl u1), atI_nat (j := 2) rfl, y, c3 + 1, rfl, y0, y1, by omega, by omega, fun r r0 r1 => ⟨_, _, rfl, rfl, ?_⟩⟩
        refine ⟨_, _, c3 + 1, rfl, fun z o nz e => by rw [upd_ne nz]; exact s3 z o nz e, u1, by omega, by have : 0 ≤ d * 2147483587 := Int.mul_nonneg d0 (by decide); omega, ?_, by omega⟩
        rw [pow32]
        have := pow_ge1 (32 * i)
        omega
      · obtain ⟨d, y3, c3, rfl, s3, g3, ec, d0, d1, i7⟩ := p
        refine ⟨_, rfl, .inl ⟨d, rfl, _, rfl, d, b, rfl, rfl, by omega, ?_⟩⟩
        exact q _ _ s3 ⟨x, y, c3, g3, x0, y0, y1, by omega, by omega⟩ (fm0 (by omega)) (fm1 (by omega))
def sp_cell (K : PySem.W.Frag) : Sp := fun vs H Q _ => ∃ (a : Addr) (ns : List Int) (i : Nat), vs = [.ref a, .int i] ∧ SqL K H a (ns.map V.int) ∧ ∀ (r : Int) H', Same H H' → Q (.int r) H'
theorem c_law_cell (T : Txt K mg C) : C8.Cal P w K mg base 1 "_law_cell" (sp_cell K) [] := by
  refine calF T.d_law_cell sc_law_cell (fun vs H Q E h => ?_) (fun f cdv A outer s H vs Q E hr h => ?_)
  · obtain ⟨_, _, _, rfl, _⟩ := h; rfl
  · obtain ⟨a, ns, i, rfl, ha, q⟩ := h
    refine ⟨_, (pss_cons (ps_if (pt_cmpR op_lt (pv 1) (pe_callB call_len_seq (by rfl) T.m_len (by decide +kernel) (pa_cons (pv 0) pa_nil)) (nomark _))
    (pss_one (ps_ret (pe_ix ix_list (pv 0) (pv 1) (fun _ _ => rfl))))
    pss_nil)
    (pss_one (ps_ret (pe_op op_modN (pe_callB (cr_sum rfl) (by rfl) T.m_sum (by decide +kernel) (pa_cons (pe_slice sl_list (pv 0) po_none (po_some pe_int)) pa_nil)) pe_int)))), ?_⟩
    refine ⟨_, rfl, _, rfl, a, _, rfl, .inl ha, _, _, rfl, rfl, _, rfl, ite2 (fun e => ?_) (fun e => ?_)⟩
    · have e' := of_decide_eq_true e
      rw [List.length_map] at e'
      have hi : i < ns.length := by omega
      refine ⟨_, rfl, _, rfl, a, _, i, .int ns[i], rfl, rfl, ha, atI_nat ?_, q _ H (Same.refl _)⟩
      rw [List.getElem?_map, List.getElem?_eq_getElem hi]
      rfl
    · refine ⟨_, rfl, 1, rfl, a, _, rfl, ha, fun p hp => ?_⟩
      refine ⟨p, ns.take 1, rfl, .inl (.inl ?_), _, _, rfl, rfl, (by decide : (1000003 : Int) ≠ 0), q _ _ (sameNew hp)⟩
      rw [upd_same, show ((1 : Int)) = ((1 : Nat) : Int) from rfl, cutV_take, List.map_take]
def sp_generator (K : PySem.W.Frag) : Sp := fun vs H Q _ => ∃ (a : Addr) (ns : List Int) (i : Nat), vs = [.ref a, .int i] ∧ SqL K H a (ns.map V.int) ∧ i ≤ 10 ∧ ∀ g H1 H', Same H H1 → H1 g = none → Same H1 H' → Gn 100000 H' g → Q (.ref g) H'
theorem c_law_generator (T : Txt K mg C) : C8.Cal P w K mg base 2 "_law_generator" (sp_generator K) [] := by
  refine calF T.d_law_generator sc_law_generator (fun vs H Q E h => ?_) (fun f cdv A outer s H vs Q E hr h => ?_)
  · obtain ⟨_, _, _, rfl, _⟩ := h; rfl
  · obtain ⟨a, ns, i, rfl, ha, hi, q⟩ := h
    refine ⟨_, (pss_cons (ps_set (i := 2) sc_law_generator.nd rfl (Or.inl rfl) (C8.pe_c (c_law_cell T) hr (by decide) (by rfl) (pa_cons (pv 0) (pa_cons (pv 1) pa_nil))))
    (pss_one (ps_ret (pe_lst (pa_cons (pe_op op_modN (pe_callTy call_int1 (by rfl) T.m_int (by decide +kernel) (pa_cons (pe_callB (call_max2 rfl) (by rfl) T.m_max (by decide +kernel) (pa_cons (pe_op op_sub (pv 2) (pe_op op_powB pe_int pe_int)) (pa_cons pe_int pa_nil))) pa_nil)) (pe_op op_powB (pe_op op_powB pe_int pe_int) pe_int)) (pa_cons (pe_op op_modN (pe_callTy call_int1 (by rfl) T.m_int (by decide +kernel) (pa_cons (pv 2) pa_nil)) pe_int) (pa_cons (pe_op op_mulW pe_int (pv 1)) pa_nil))))))), ?_⟩
    refine ⟨_, rfl, _, rfl, a, ns, i, rfl, ha, fun r H1 s1 => ?_⟩
    refine ⟨_, rfl, _, _, rfl, rfl, ⟨by decide, by decide⟩, _, _, rfl, rfl, _, _, rfl, .inl ⟨_, rfl, _, _, rfl, rfl, ⟨by decide, by decide⟩, _, _, rfl, rfl, ⟨by decide, by decide⟩, _, _, rfl, rfl, (by decide : ((10 : Int) ^ Int.toNat 60) ^ Int.toNat 10 ≠ 0), ?_⟩⟩
    refine ⟨_, rfl, .inl ⟨_, rfl, _, _, rfl, rfl, (by decide : (2147483647 : Int) ≠ 0), ?_⟩⟩
    refine ⟨_, rfl, _, _, rfl, rfl, wide_mul (show ((1000 : Int)).natAbs < 2 ^ 100 by decide) (show ((i : Int)).natAbs < 2 ^ 100 by omega) (by decide) (by decide) (by decide), by show 3 ≤ sizeLine; decide, fun g hg => ?_⟩
    refine q g H1 _ s1 hg (sameNew hg) ⟨_, _, _, upd_same, fm0 (by decide), fm0 (by decide), Int.lt_trans (fm1 (by decide)) (by decide), by omega, by omega⟩
end
end K23

set_option Elab.async false
set_option linter.all false
set_option maxRecDepth 100000
set_option maxHeartbeats 4000000
namespace K23
open PySem PySem.Spec PyProof.Rows L2 CK SX NM
/-- a comprehension over a range that draws: what its items are is told by Pz -/
theorem lcP_draw {lo : Int} {g : Addr} {n cnt j : Nat} (Pz : V → Prop) {te : TE} {vs : List Nat} {σ : L2.St} {H1 : Hp} {D : Addr} {Qd : Hp → Prop} (hc : cnt < sizeLine) (hD : H1 D = none) (hg : Gn (n + cnt) H1 g)
    (hs : ∀ (i : Nat) (H : Hp) (R : VK), i < cnt → SameX g H1 H → Gn (n + (cnt - (i + 1)) + 1) H g → (∀ (r : V) H', SameX g H H' → Gn (n + (cnt - (i + 1))) H' g → Pz r → R r H') →
      wipe ((wipe σ vs).set j (some (.int (lo + i)))) vs = wipe σ vs ∧ te ((wipe σ vs).set j (some (.int (lo + i)))) H R)
    (hd : ∀ (H : Hp) (ns : List V), SameX g H1 H → Gn n H g → H D = some (.lst ns) → ns.length = cnt → (∀ x ∈ ns, Pz x) → Qd H) :
    ∃ W : Nat → Nat → Hp → Prop, (∃ m, W 0 m (L2.upd H1 D (.lst []))) ∧ ∀ i m H, W i m H →
      ((Itr lo cnt).stop i H ∧ Qd H) ∨ ((Itr lo cnt).go i H ∧ ∃ Nx : Hp → Prop, (∀ H', Nx H' → ∃ m', m' < m ∧ W (i + 1) m' H') ∧ ∀ x H', (Itr lo cnt).yld i H x H' → gName j x (wipe σ vs) H' fun σ2 H2 => wipe σ2 vs = wipe σ vs ∧ tYes σ2 H2 fun b H3 =>
        if b = true then te σ2 H3 fun y H4 => ∃ acc, H4 D = some (.lst acc) ∧ acc.length < sizeLine ∧ Nx (L2.upd H4 D (.lst (acc ++ [y]))) else Nx H3) := by
  have hDg := hg.ne hD
  refine lc_range (fun i H => SameX g H1 H ∧ Gn (n + (cnt - i)) H g ∧ i ≤ cnt ∧ ∃ ns : List V, H D = some (.lst ns) ∧ ns.length = i ∧ ∀ x ∈ ns, Pz x)
    ⟨sameX_new hD, hg.upd hDg, Nat.zero_le _, [], upd_same, rfl, fun x h => absurd h List.not_mem_nil⟩ (fun i H hi p => ?_) fun H p => ?_
  · obtain ⟨s, G, _, ns, hL, hl, hb⟩ := p
    have G1 : Gn (n + (cnt - (i + 1)) + 1) H g := by
      have e : n + (cnt - (i + 1)) + 1 = n + (cnt - i) := by omega
      rw [e]
      exact G
    refine hs i H _ hi s G1 fun r H' s' G' h0 => ⟨_, s' D _ hDg hL, by omega, (s.trans s').upd2 hD, G'.upd hDg, hi, ns ++ [r], upd_same, ?_, fun x hx => ?_⟩
    · rw [List.length_append, hl]
      rfl
    · rcases List.mem_append.mp hx with z | z
      · exact hb x z
      · rw [List.mem_singleton.mp z]
        exact h0
  · obtain ⟨s, G, _, ns, hL, hl, hb⟩ := p
    rw [Nat.sub_self] at G
    exact hd H ns s G hL hl hb
theorem join_one : ∀ cs : List Nat, TL.joinL [] (cs.map fun c => [c]) = cs
  | [] => rfl
  | [c] => rfl
  | c :: d :: r => by
    show [c] ++ ([] ++ TL.joinL [] ((d :: r).map fun c => [c])) = _
    rw [join_one (d :: r)]
    rfl
theorem empty_S : (Str.ofString "" : Str) = S [] := by decide +kernel
theorem join_S1 (cs : List Nat) : Txt.join (Str.ofString "") (cs.map fun c => S [c]) = S cs := by
  rw [empty_S]
  have := join_S [] (cs.map fun c => [c])
  rw [List.map_map] at this
  rw [show (cs.map fun c => S [c]) = cs.map (S ∘ fun c => [c]) from rfl, this, join_one]
theorem ones_S : ∀ {vs : List V}, (∀ v ∈ vs, ∃ c, v = V.str (S [c]) ∧ 97 ≤ c ∧ c ≤ 122) → ∃ cs : List Nat, vs = (cs.map fun c => S [c]).map V.str ∧ Low cs ∧ cs.length = vs.length
  | [], _ => ⟨[], rfl, fun c h => absurd h List.not_mem_nil, rfl⟩
  | v :: vs, h => by
    obtain ⟨c, rfl, hc⟩ := h v List.mem_cons_self
    obtain ⟨cs, rfl, lw, hl⟩ := ones_S fun u hu => h u (List.mem_cons_of_mem _ hu)
    refine ⟨c :: cs, rfl, fun d hd => ?_, by simp⟩
    rcases List.mem_cons.mp hd with z | z
    · rw [z]; exact hc
    · exact lw d z

/-- letters of a kind -/
def Lw (Lt : Nat → Prop) (w : List Nat) : Prop := ∀ c ∈ w, Lt c
theorem lw_app {Lt : Nat → Prop} {a b : List Nat} (h : Lw Lt a) (g : Lw Lt b) : Lw Lt (a ++ b) := fun c hc => (List.mem_append.mp hc).elim (h c) (g c)
theorem lw_take {Lt : Nat → Prop} {a : List Nat} (h : Lw Lt a) (n : Nat) : Lw Lt (a.take n) := fun c hc => h c (List.mem_of_mem_take hc)
theorem lw_drop {Lt : Nat → Prop} {a : List Nat} (h : Lw Lt a) (n : Nat) : Lw Lt (a.drop n) := fun c hc => h c (List.mem_of_mem_drop hc)
theorem lw_pw {Lt : Nat → Prop} {a : List Nat} (h : Lw Lt a) : ∀ n, Lw Lt (WM.pw a n)
  | 0 => fun c hc => absurd hc List.not_mem_nil
  | n + 1 => by rw [WM.pw_succ]; exact lw_app h (lw_pw h n)
theorem ones_L {Lt : Nat → Prop} : ∀ {vs : List V}, (∀ v ∈ vs, ∃ c, v = V.str (S [c]) ∧ Lt c) → ∃ cs : List Nat, vs = (cs.map fun c => S [c]).map V.str ∧ Lw Lt cs ∧ cs.length = vs.length
  | [], _ => ⟨[], rfl, fun c h => absurd h List.not_mem_nil, rfl⟩
  | v :: vs, h => by
    obtain ⟨c, rfl, hc⟩ := h v List.mem_cons_self
    obtain ⟨cs, rfl, lw, hl⟩ := ones_L fun u hu => h u (List.mem_cons_of_mem _ hu)
    refine ⟨c :: cs, rfl, fun d hd => ?_, by simp⟩
    rcases List.mem_cons.mp hd with z | z
    · rw [z]; exact hc
    · exact lw d z
theorem seq_nat {k n : Nat} (h : k < n) : seqIndex? (k : Int) n = some k := by
  unfold seqIndex?
  have h1 : ¬ ((k : Int) < 0) := by omega
  have h2 : (k : Int) < n := by omega
  simp only [h1, if_false]
  rw [if_pos (by simp [h2])]
  rfl
theorem map_erase {α β : Type} (f : α → β) : ∀ (l : List α) (k : Nat), (l.map f).eraseIdx k = (l.eraseIdx k).map f
  | [], _ => by simp
  | a :: l, 0 => by simp
  | a :: l, k + 1 => by
    rw [List.map_cons, List.eraseIdx_cons_succ, List.eraseIdx_cons_succ, List.map_cons, map_erase f l k]
theorem abc_S : (Str.ofString "abcdefghijklmnopqrstuvwxyz" : Str) = S (List.range' 97 26) := by decide +kernel
theorem perm_erase : ∀ {zs : List Nat} {k c : Nat}, zs[k]? = some c → List.Perm (c :: zs.eraseIdx k) zs
  | [], _, _, h => by simp at h
  | a :: l, 0, c, h => by
    cases h
    exact List.Perm.refl _
  | a :: l, k + 1, c, h => by
    rw [List.eraseIdx_cons_succ]
    exact (List.Perm.swap a c _).trans ((perm_erase (zs := l) (k := k) h).cons a)
theorem nodup_move {zs cs : List Nat} {k c : Nat} (hk : zs[k]? = some c) (h : (zs ++ cs).Nodup) : (zs.eraseIdx k ++ (cs ++ [c])).Nodup := by
  have p1 := perm_erase hk
  have p2 : List.Perm (zs.eraseIdx k ++ (cs ++ [c])) (zs ++ cs) := by
    refine List.Perm.trans ?_ (p1.append_right cs)
    rw [← List.append_assoc]
    refine List.Perm.trans (List.perm_append_comm) ?_
    exact List.Perm.refl _
  exact p2.nodup_iff.mpr h
theorem low_abc : Low (List.range' 97 26) := fun c hc => by
  rw [List.mem_range'] at hc
  obtain ⟨i, h1, h2⟩ := hc
  omega
theorem low_erase {zs : List Nat} (h : Low zs) (k : Nat) : Low (zs.eraseIdx k) := fun c hc => h c (List.mem_of_mem_eraseIdx hc)
theorem get_one {cs : List Nat} {i : Nat} {v : V} (h : (cs.map fun c => V.str (S [c]))[i]? = some v) : ∃ c, cs[i]? = some c ∧ v = V.str (S [c]) := by
  rw [List.getElem?_map] at h
  cases e : cs[i]? with
  | none => rw [e] at h; cases h
  | some c =>
    rw [e] at h
    exact ⟨c, rfl, (Option.some.inj h).symm⟩
theorem sum_ones (l : List Nat) : ((l.map fun c => S [c]).map fun x => x.length).sum = l.length := by
  induction l with
  | nil => rfl
  | cons c r ih => rw [List.map_cons, List.map_cons, List.sum_cons, ih, S_len]; simp; omega
theorem len_empty : (Str.ofString "").length = 0 := by decide +kernel
theorem nats_of : ∀ {ns : List Int}, (∀ z ∈ ns, 0 ≤ z) → ns.map V.int = (ns.map Int.toNat).map fun k : Nat => V.int (k : Nat)
  | [], _ => rfl
  | z :: r, h => by
    have h0 := h z List.mem_cons_self
    rw [List.map_cons, List.map_cons, List.map_cons, nats_of fun y hy => h y (List.mem_cons_of_mem _ hy)]
    congr 2
    omega
section
variable {P : Program} {w : World} {K : PySem.W.Frag} {mg : Str → Option Value} {base : Heap} {C : Addr}
def sp_letters : Sp := fun vs H Q _ => ∃ (g : Addr) (n : Nat), vs = [.ref g] ∧ Gn (n + 3) H g ∧ ∀ cs H', SameX g H H' → Gn n H' g → cs.length = 3 → Low cs → cs.Nodup → Q (.str (S cs)) H'
theorem c_law_letters (T : Txt K mg C) : C8.Cal P w K mg base 3 "_law_letters" sp_letters [] := by
  refine calF T.d_law_letters sc_law_letters (fun vs H Q E h => ?_) (fun f cdv A outer s H vs Q E hr h => ?_)
  · obtain ⟨_, _, rfl, _⟩ := h; rfl
  · obtain ⟨g, n, rfl, G, q⟩ := h
    refine ⟨_, (pss_cons (ps_set (i := 1) sc_law_letters.nd rfl (Or.inr rfl) (pe_callTy (call_listS rfl) (by rfl) T.m_list (by decide +kernel) (pa_cons pe_str pa_nil)))
    (pss_one (ps_ret (pe_join pe_str (pe_lc (own := [("_law_turn", 2)]) (by rfl) sc_law_letters.nd (pi_range1 (by rfl) T.m_range (pa_cons pe_int pa_nil)) (blkOk_by (N := ["_law_generator_here", "_law_left", "_law_turn"]) (sc := C8.fnScope (topS 77)) (own := [("_law_turn", 2)]) (by decide +kernel)) (fun _ _ _ _ _ => (pg_name (i := 2) sc_law_letters.nd rfl (Or.inl rfl))) (fun _ _ _ _ _ => pts_nil) (fun _ _ _ _ _ => (pe_bmB (K := K) rfl PySem.F.plainAttrs_list PySem.F.slot_list_pop PySem.F.type_list_pop mt_popAt (pv 1) (pa_cons (C8.pe_c (c_law_random T) hr (by decide) (by rfl) (pa_cons (pv 0) (pa_cons (pe_callB call_lenH (by rfl) T.m_len (by decide +kernel) (pa_cons (pv 1) pa_nil)) pa_nil))) pa_nil)))))))), ?_⟩
    refine ⟨List.range' 97 26, congrArg (fun z => [V.str z]) abc_S, by decide, fun L hL => ?_⟩
    have Lg := G.ne hL
    have s0 := sameNew (o := .lst ((List.range' 97 26).map fun c => V.str (S [c]))) hL
    refine ⟨⟨_, rfl⟩, 3, rfl, by decide, by decide, fun D hD => ?_⟩
    have G1 : Gn (n + 3) (upd H L (.lst ((List.range' 97 26).map fun c => V.str (S [c])))) g := G.upd Lg
    have Dg := G1.ne hD
    have DL : D ≠ L := fun z => by rw [z, upd_same] at hD; cases hD
    refine lc_range (fun i H2 => (∀ b o, b ≠ g → b ≠ L → (upd H L (.lst ((List.range' 97 26).map fun c => V.str (S [c])))) b = some o → H2 b = some o) ∧ Gn (n + (3 - i)) H2 g ∧ i ≤ 3 ∧ ∃ zs cs : List Nat, (H2 L = some (.lst (zs.map fun c => V.str (S [c]))) ∧ zs.length = 26 - i ∧ Low zs) ∧ H2 D = some (.lst (cs.map fun c => V.str (S [c]))) ∧ cs.length = i ∧ Low cs ∧ (zs ++ cs).Nodup)
      ⟨fun b o _ _ e => sameNew hD _ _ e, G1.upd Dg, by decide, List.range' 97 26, [], ⟨sameNew hD _ _ upd_same, by simp, low_abc⟩, upd_same, rfl, low_nil, by rw [List.append_nil]; exact List.nodup_range'⟩ (fun i H2 hi p => ?_) fun H2 p => ?_
    · obtain ⟨s2, G2, _, zs, cs, ⟨hL2, lz, lowz⟩, hD2, lc, lowc, nd⟩ := p
      have e3 : n + (3 - i) = n + (3 - (i + 1)) + 1 := by omega
      rw [e3] at G2
      have lk : (zs.map fun c => V.str (S [c])).length = 26 - i := by rw [List.length_map, lz]
      refine ⟨rfl, _, rfl, .inl ⟨rfl, _, .inl (.inl hL2)⟩, _, rfl, _, rfl, L, _, rfl, hL2, g, _, _, rfl, G2, by rw [lk]; omega, by rw [lk]; omega, fun r H3 s3 G3 r0 r1 => ?_⟩
      rw [lk] at r1
      have hL3 := s3 _ _ Lg hL2
      obtain ⟨k, rfl⟩ : ∃ k : Nat, r = k := ⟨r.toNat, by omega⟩
      have hk : k < zs.length := by omega
      have hz := List.getElem?_eq_getElem hk
      have hc := lowz _ (List.getElem_mem hk)
      generalize zs[k] = c at hz hc
      refine ⟨L, _, k, k, .str (S [c]), rfl, rfl, hL3, by omega, by omega, ?_, by rw [List.getElem?_map, hz]; rfl, ?_⟩
      · rw [lk]
        exact seq_nat (by omega)
      · refine ⟨_, by rw [upd_ne DL]; exact s3 _ _ Dg hD2, by rw [List.length_map, lc, sizeLine_eq]; omega, fun b o hb hbL eb => ?_, (G3.upd Lg).upd Dg, by omega, zs.eraseIdx k, cs ++ [c], ⟨?_, ?_, low_erase lowz k⟩, ?_, by rw [List.length_append, lc]; rfl, (low_app lowc fun d hd => by rw [List.mem_singleton.mp hd]; exact hc), nodup_move hz nd⟩
        · have hbD : b ≠ D := fun z => by rw [z, hD] at eb; cases eb
          rw [upd_ne hbD, upd_ne hbL]
          exact s3 _ _ hb (s2 _ _ hb hbL eb)
        · rw [upd_ne (Ne.symm DL), upd_same, map_erase]
        · rw [List.length_eraseIdx, if_pos hk, lz]
          omega
        · rw [upd_same, List.map_append]
          rfl
    · obtain ⟨s2, G2, _, zs, cs, ⟨hL2, lz, lowz⟩, hD2, lc, lowc, nd⟩ := p
      refine ⟨Str.ofString "", D, cs.map fun c => S [c], rfl, rfl, .inl (.inl (.inl (by rw [hD2, List.map_map]; rfl))), by rw [sum_ones, List.length_map, len_empty, lc]; decide, ?_⟩
      rw [join_S1]
      refine q cs H2 (fun b o hb eb => s2 _ _ hb (fun z => by rw [z, hL] at eb; cases eb) (s0 _ _ eb)) G2 lc lowc (List.nodup_append.mp nd).2.1
def sp_word : Sp := fun vs H Q _ => ∃ (Lt : Nat → Prop) (g : Addr) (cs : List Nat) (n lo hi : Nat), vs = [.ref g, .str (S cs), .int lo, .int hi] ∧ cs ≠ [] ∧ cs.length ≤ 26 ∧ Lw Lt cs ∧ Gn (n + 10) H g ∧ lo ≤ hi ∧ hi ≤ 4 ∧
  ∀ (w : List Nat) H', SameX g H H' → Gn n H' g → lo ≤ w.length → w.length ≤ hi → Lw Lt w → Q (.str (S w)) H'
theorem c_law_word (T : Txt K mg C) : C8.Cal P w K mg base 3 "_law_word" sp_word [] := by
  refine calF T.d_law_word sc_law_word (fun vs H Q E h => ?_) (fun f cdv A outer s H vs Q E hr h => ?_)
  · obtain ⟨_, _, _, _, _, _, rfl, _⟩ := h; rfl
  · obtain ⟨Lt, g, cs, n, lo, hi, rfl, ne, l26, lowc, G, h1, h2, q⟩ := h
    have n0 := List.length_pos_iff.mpr ne
    refine ⟨_, (pss_cons (ps_set (i := 4) sc_law_word.nd rfl (Or.inl rfl) (pe_op op_add (pv 2) (C8.pe_c (c_law_random T) hr (by decide) (by rfl) (pa_cons (pv 0) (pa_cons (pe_op op_add (pe_op op_sub (pv 3) (pv 2)) pe_int) pa_nil)))))
    (pss_one (ps_ret (pe_join pe_str (pe_lc (own := [("_law_turn", 5)]) (by rfl) sc_law_word.nd (pi_range1 (by rfl) T.m_range (pa_cons (pv 4) pa_nil)) (blkOk_by (N := ["_law_generator_here", "_law_signs", "_law_least", "_law_most", "_law_many", "_law_turn"]) (sc := C8.fnScope (topS 78)) (own := [("_law_turn", 5)]) (by decide +kernel)) (fun _ _ _ _ _ => (pg_name (i := 5) sc_law_word.nd rfl (Or.inl rfl))) (fun _ _ _ _ _ => pts_nil) (fun _ _ _ _ _ => (pe_ix ix_str (pv 1) (C8.pe_c (c_law_random T) hr (by decide) (by rfl) (pa_cons (pv 0) (pa_cons (pe_callB call_len_str (by rfl) T.m_len (by decide +kernel) (pa_cons (pv 1) pa_nil)) pa_nil))) (fun _ _ => rfl)))))))), ?_⟩
    refine ⟨_, rfl, _, rfl, _, rfl, _, rfl, _, _, rfl, rfl, _, _, rfl, rfl, g, _, n + 9, rfl, G, by omega, by omega, fun r H1 s1 G1 r0 r1 => ?_⟩
    refine ⟨_, _, rfl, rfl, ?_⟩
    refine ⟨⟨_, rfl⟩, _, rfl, (lo : Int) + r, rfl, by omega, by omega, fun D hD => ?_⟩
    refine lcP_draw (lo := 0) (g := g) (n := n) (cnt := ((lo : Int) + r).toNat) (fun v => ∃ c, v = V.str (S [c]) ∧ Lt c) (small1000 (by omega)) hD (G1.le (by omega)) (fun i H2 R hi2 s2 G2 q' => ?_) fun H3 ns s3 G3 hL hl hP => ?_
    · refine ⟨rfl, _, rfl, _, rfl, _, rfl, S cs, rfl, len_line (by omega), g, _, _, rfl, G2, by rw [S_len]; omega, by rw [S_len]; omega, fun r3 H3 s3 G3 r30 r31 => ?_⟩
      rw [S_len] at r31
      obtain ⟨k, rfl⟩ : ∃ k : Nat, r3 = k := ⟨r3.toNat, by omega⟩
      have hk : k < cs.length := by omega
      have hz := List.getElem?_eq_getElem hk
      have hc := lowc _ (List.getElem_mem hk)
      generalize cs[k] = c at hz hc
      exact ⟨S cs, _, c, rfl, rfl, len_line (by omega), atI_nat (xs := cs) hz, q' _ H3 s3 G3 ⟨c, rfl, hc⟩⟩
    · obtain ⟨ws, rfl, lw, lw2⟩ := ones_L hP
      refine ⟨Str.ofString "", D, ws.map fun c => S [c], rfl, rfl, .inl (.inl (.inl hL)), by rw [sum_ones, List.length_map, len_empty]; omega, ?_⟩
      rw [join_S1]
      exact q ws H3 (s1.trans s3) G3 (by omega) (by omega) lw
/-- numbers up to most -/
def Up (most : Nat) (f : List Nat) : Prop := ∀ n ∈ f, n ≤ most
def sp_law_form : Sp := fun vs H Q _ => ∃ (g : Addr) (m most n : Nat), vs = [.ref g, .int m, .int most] ∧ Gn (n + (m + 1)) H g ∧ m ≤ 3 ∧ most < 2 ^ 100 ∧
  ∀ p f H', SameX g H H' → Gn n H' g → FT H' p f → f.length = m + 1 → Up most f → Q (.ref p) H'
theorem c_law_form (T : Txt K mg C) : C8.Cal P w K mg base 3 "_law_form" sp_law_form [] := by
  refine calF T.d_law_form sc_law_form (fun vs H Q E h => ?_) (fun f cdv A outer s H vs Q E hr h => ?_)
  · obtain ⟨_, _, _, _, rfl, _⟩ := h; rfl
  · obtain ⟨g, m, most, n, rfl, G, hm, h1, q⟩ := h
    refine ⟨_, (pss_one (ps_ret (pe_callTy call_tupL (by rfl) T.m_tuple (by decide +kernel) (pa_cons (pe_lc (own := [("_law_turn", 3)]) (by rfl) sc_law_form.nd (pi_range1 (by rfl) T.m_range (pa_cons (pe_op op_add (pv 1) pe_int) pa_nil)) (blkOk_by (N := ["_law_generator_here", "_law_many", "_law_most", "_law_turn"]) (sc := C8.fnScope (topS 79)) (own := [("_law_turn", 3)]) (by decide +kernel)) (fun _ _ _ _ _ => (pg_name (i := 3) sc_law_form.nd rfl (Or.inl rfl))) (fun _ _ _ _ _ => pts_nil) (fun _ _ _ _ _ => (C8.pe_c (c_law_random T) hr (by decide) (by rfl) (pa_cons (pv 0) (pa_cons (pe_op op_add (pv 2) pe_int) pa_nil))))) pa_nil)))), ?_⟩
    refine ⟨_, rfl, _, _, rfl, rfl, _, rfl, by omega, by omega, ?_⟩
    refine fun D hD => lcD_draw (cnt := m + 1) (n := n) (g := g) (most := (most : Int)) (small5 (by omega)) hD G (fun i H3 R hi s3 G3 q' => ?_) fun H3 ns s3 G3 hL hl hb => ?_
    · exact ⟨rfl, _, rfl, _, rfl, most, 1, rfl, rfl, g, most + 1, _, rfl, G3, by omega, by omega, fun r H4 s4 G4 r0 r1 => q' r H4 s4 G4 r0 (by omega)⟩
    · refine ⟨D, _, rfl, hL, fun l H4 s4 h4 => q l (ns.map Int.toNat) H4 (s3.trans (.of s4)) (G3.same s4) ?_ (by rw [List.length_map, hl]) fun x hx => ?_⟩
      · unfold FT
        rw [h4, nats_of fun z hz => (hb z hz).1]
      · obtain ⟨z, hz, rfl⟩ := List.mem_map.mp hx
        have := hb z hz
        omega
def sp_law_plain : Sp := fun vs H Q _ => ∃ (m k : Nat), vs = [.int m, .int k] ∧ m ≤ 3 ∧ ∀ p H', Same H H' → FT H' p (k :: List.replicate m 0) → Q (.ref p) H'
theorem c_law_plain (T : Txt K mg C) : C8.Cal P w K mg base 1 "_law_plain" sp_law_plain [] := by
  refine calF T.d_law_plain sc_law_plain (fun vs H Q E h => ?_) (fun f cdv A outer s H vs Q E hr h => ?_)
  · obtain ⟨_, _, rfl, _⟩ := h; rfl
  · obtain ⟨m, k, rfl, hm, q⟩ := h
    refine ⟨_, (pss_one (ps_ret (pe_op op_catS (pe_tup (pa_cons (pv 1) pa_nil)) (pe_op op_repOne (pe_tup (pa_cons pe_int pa_nil)) (pv 0))))), ?_⟩
    refine ⟨_, rfl, by show 1 ≤ sizeLine; decide, fun t1 n1 => ⟨by decide, fun t2 n2 => ⟨_, rfl, t2, _, _, rfl, rfl, upd_same, by omega, by omega, fun p H' s hp => ?_⟩⟩⟩
    have e1 : H' t1 = some (.tup [.int k]) := s _ _ (by rw [upd_ne (ne_of_none upd_same n2)]; exact upd_same)
    refine ⟨t1, p, _, _, rfl, rfl, e1, hp, by simp; omega, fun p2 H2 s2 h2 => q p2 H2 (((sameNew n1).trans (sameNew n2)).trans (s.trans s2)) ?_⟩
    unfold FT
    rw [h2]
    simp
def sp_law_point : Sp := fun vs H Q _ => ∃ (g : Addr) (m most n : Nat), vs = [.ref g, .int m, .int most] ∧ Gn (n + m) H g ∧ m ≤ 3 ∧ most < 2 ^ 100 ∧
  ∀ p (f : List Nat) H', SameX g H H' → Gn n H' g → H p = none → H' p = some (.lst (natsV f)) → f.length = m → Up most f → Q (.ref p) H'
theorem c_law_point (T : Txt K mg C) : C8.Cal P w K mg base 3 "_law_point" sp_law_point [] := by
  refine calF T.d_law_point sc_law_point (fun vs H Q E h => ?_) (fun f cdv A outer s H vs Q E hr h => ?_)
  · obtain ⟨_, _, _, _, rfl, _⟩ := h; rfl
  · obtain ⟨g, m, most, n, rfl, G, hm, h1, q⟩ := h
    refine ⟨_, (pss_one (ps_ret (pe_lc (own := [("_law_turn", 3)]) (by rfl) sc_law_point.nd (pi_range1 (by rfl) T.m_range (pa_cons (pv 1) pa_nil)) (blkOk_by (N := ["_law_generator_here", "_law_many", "_law_most", "_law_turn"]) (sc := C8.fnScope (topS 83)) (own := [("_law_turn", 3)]) (by decide +kernel)) (fun _ _ _ _ _ => (pg_name (i := 3) sc_law_point.nd rfl (Or.inl rfl))) (fun _ _ _ _ _ => pts_nil) (fun _ _ _ _ _ => (C8.pe_c (c_law_random T) hr (by decide) (by rfl) (pa_cons (pv 0) (pa_cons (pe_op op_add (pv 2) pe_int) pa_nil))))))), ?_⟩
    refine ⟨_, rfl, _, rfl, by omega, by omega, ?_⟩
    refine fun D hD => lcD_draw (cnt := m) (n := n) (g := g) (most := (most : Int)) (small5 (by omega)) hD G (fun i H3 R hi s3 G3 q' => ?_) fun H3 ns s3 G3 hL hl hb => ?_
    · exact ⟨rfl, _, rfl, _, rfl, most, 1, rfl, rfl, g, most + 1, _, rfl, G3, by omega, by omega, fun r H4 s4 G4 r0 r1 => q' r H4 s4 G4 r0 (by omega)⟩
    · refine q D (ns.map Int.toNat) H3 s3 G3 hD ?_ (by rw [List.length_map, hl]) fun x hx => ?_
      · rw [hL, nats_of fun z hz => (hb z hz).1]
        rfl
      · obtain ⟨z, hz, rfl⟩ := List.mem_map.mp hx
        have := hb z hz
        omega
end
end K23

set_option Elab.async false
set_option linter.all false
set_option maxRecDepth 100000
set_option maxHeartbeats 4000000
namespace K23
open PySem PySem.Spec PyProof.Rows L2 CK SX NM
theorem lw_rotpart {Lt : Nat → Prop} {b : List Nat} (h : Lw Lt b) (i j : Nat) : Lw Lt (((b ++ b).drop i).take j) := lw_take (lw_drop (lw_app h h) _) _
theorem up_plain {m k B : Nat} (h : k ≤ B) : Up B (k :: List.replicate m 0) := fun x hx => by
  rcases List.mem_cons.mp hx with z | z
  · omega
  · rw [List.eq_of_mem_replicate z]
    exact Nat.zero_le _
theorem PC.sameX {g : Addr} {H H' : Hp} {a : Addr} {p : Pn} {n : Nat} (h : PC H a p) (G : Gn n H g) (s : SameX g H H') : PC H' a p := h.mono fun b xs e => s.tup G e
theorem FT.sameX {g : Addr} {H H' : Hp} {a : Addr} {f : F} {n : Nat} (h : FT H a f) (G : Gn n H g) (s : SameX g H H') : FT H' a f := s.tup G h
/-- a piece as it is drawn: a short word and small numbers, or no unknown -/
def Sm (m most : Nat) (p : Pn) : Prop := (p.1.length ≤ 6 ∧ Up most p.2) ∨ ∃ c, p.2 = c :: List.replicate m 0 ∧ p.1.length * c ≤ 8
section
variable {P : Program} {w : World} {K : PySem.W.Frag} {mg : Str → Option Value} {base : Heap} {C : Addr}
def sp_law_piece : Sp := fun vs H Q _ => ∃ (Lt : Nat → Prop) (g : Addr) (cs b : List Nat) (m most n B : Nat), vs = [.ref g, .int m, .str (S cs), .str (S b), .int most] ∧ cs.length = 3 ∧ Lw Lt cs ∧ b ≠ [] ∧ b.length ≤ 3 ∧ Lw Lt b ∧ m ≤ 3 ∧ most ≤ B ∧ 2 ≤ B ∧ B < 2 ^ 99 ∧ Gn (n + 50) H g ∧
  ∀ a p H', SameX g H H' → Gn n H' g → PC H' a p → p.2.length = m + 1 → p.1.length ≤ 7 → Lw Lt p.1 → Up B p.2 → Sm m most p → Q (.ref a) H'
theorem c_law_piece (T : Txt K mg C) : C8.Cal P w K mg base 4 "_law_piece" sp_law_piece [] := by
  refine calF T.d_law_piece sc_law_piece (fun vs H Q E h => ?_) (fun f0 cdv A outer s H vs Q E hr h => ?_)
  · obtain ⟨_, _, _, _, _, _, _, _, rfl, _⟩ := h; rfl
  · obtain ⟨Lt, g, cs, b, m, most, n, B, rfl, lcs, lowc, bne, lb, lowb, hm, hmost, hB, hB2, G, q⟩ := h
    have b0 := List.length_pos_iff.mpr bne
    refine ⟨_, (pss_cons (ps_par (i := 5) (j := 6) (by rfl) sc_law_piece.nd rfl rfl (by decide) rfl rfl (pa_cons (C8.pe_c (c_law_random T) hr (by decide) (by rfl) (pa_cons (pv 0) (pa_cons pe_int pa_nil))) (pa_cons (C8.pe_c (c_law_random T) hr (by decide) (by rfl) (pa_cons (pv 0) (pa_cons pe_int pa_nil))) pa_nil)) (by rfl))
    (pss_cons (ps_set (i := 7) sc_law_piece.nd rfl (Or.inl rfl) (pe_slice C8.sl_txt (pe_op op_add_str (pv 3) (pv 3)) (po_some (pe_op op_modN (pe_callTy call_int1 (by rfl) T.m_int (by decide +kernel) (pa_cons (pv 6) pa_nil)) (pe_callB call_len_str (by rfl) T.m_len (by decide +kernel) (pa_cons (pv 3) pa_nil)))) (po_some (pe_op op_add (pe_op op_modN (pe_callTy call_int1 (by rfl) T.m_int (by decide +kernel) (pa_cons (pv 6) pa_nil)) (pe_callB call_len_str (by rfl) T.m_len (by decide +kernel) (pa_cons (pv 3) pa_nil))) (pe_callB call_len_str (by rfl) T.m_len (by decide +kernel) (pa_cons (pv 3) pa_nil))))))
    (pss_cons (ps_if (pt_cmpR op_eq (pv 5) pe_int (nomark _))
    (pss_one (ps_ret (pe_tup (pa_cons (C8.pe_c (c_law_word T) hr (by decide) (by rfl) (pa_cons (pv 0) (pa_cons (pv 2) (pa_cons pe_int (pa_cons pe_int pa_nil))))) (pa_cons (C8.pe_c (c_law_plain T) hr (by decide) (by rfl) (pa_cons (pv 1) (pa_cons (C8.pe_c (c_law_random T) hr (by decide) (by rfl) (pa_cons (pv 0) (pa_cons pe_int pa_nil))) pa_nil))) pa_nil)))))
    pss_nil)
    (pss_cons (ps_if (pt_cmpR op_eq (pv 5) pe_int (nomark _))
    (pss_one (ps_ret (pe_tup (pa_cons (pe_op op_repS (pv 7) (pe_op op_add pe_int (pe_callTy call_int1 (by rfl) T.m_int (by decide +kernel) (pa_cons (pe_cmpR op_eq (pv 6) pe_int (nomark _)) pa_nil)))) (pa_cons (C8.pe_c (c_law_form T) hr (by decide) (by rfl) (pa_cons (pv 0) (pa_cons (pv 1) (pa_cons (pv 4) pa_nil)))) pa_nil)))))
    pss_nil)
    (pss_cons (ps_if (pt_cmpR op_eq (pv 5) pe_int (nomark _))
    (pss_one (ps_ret (pe_tup (pa_cons (pe_slice C8.sl_txt (pe_op op_repS (pv 7) pe_int) po_none (po_some (C8.pe_c (c_law_random T) hr (by decide) (by rfl) (pa_cons (pv 0) (pa_cons (pe_op op_add (pe_op op_mulW pe_int (pe_callB call_len_str (by rfl) T.m_len (by decide +kernel) (pa_cons (pv 3) pa_nil))) pe_int) pa_nil))))) (pa_cons (C8.pe_c (c_law_plain T) hr (by decide) (by rfl) (pa_cons (pv 1) (pa_cons pe_int pa_nil))) pa_nil)))))
    pss_nil)
    (pss_cons (ps_if (pt_cmpR op_eq (pv 5) pe_int (nomark _))
    (pss_one (ps_ret (pe_tup (pa_cons (pe_slice C8.sl_txt (pv 3) (po_some (pe_op op_sub (pe_callB call_len_str (by rfl) T.m_len (by decide +kernel) (pa_cons (pv 3) pa_nil)) pe_int)) po_none) (pa_cons (C8.pe_c (c_law_plain T) hr (by decide) (by rfl) (pa_cons (pv 1) (pa_cons pe_int pa_nil))) pa_nil)))))
    pss_nil)
    (pss_cons (ps_if (pt_cmpR op_eq (pv 5) pe_int (nomark _))
    (pss_one (ps_ret (pe_tup (pa_cons (pv 3) (pa_cons (pe_op op_catS (pe_tup (pa_cons pe_int pa_nil)) (pe_slice sl_drop (C8.pe_c (c_law_form T) hr (by decide) (by rfl) (pa_cons (pv 0) (pa_cons (pv 1) (pa_cons (pv 4) pa_nil)))) (po_some pe_int) po_none)) pa_nil)))))
    pss_nil)
    (pss_cons (ps_if (pt_cmpR op_eq (pv 5) pe_int (nomark _))
    (pss_one (ps_ret (pe_tup (pa_cons (pe_ix ix_str (pv 2) (C8.pe_c (c_law_random T) hr (by decide) (by rfl) (pa_cons (pv 0) (pa_cons pe_int pa_nil))) (fun _ _ => rfl)) (pa_cons (C8.pe_c (c_law_form T) hr (by decide) (by rfl) (pa_cons (pv 0) (pa_cons (pv 1) (pa_cons (pv 4) pa_nil)))) pa_nil)))))
    pss_nil)
    (pss_one (ps_ret (pe_tup (pa_cons (C8.pe_c (c_law_word T) hr (by decide) (by rfl) (pa_cons (pv 0) (pa_cons (pe_slice C8.sl_txt (pv 2) po_none (po_some pe_int)) (pa_cons pe_int (pa_cons pe_int pa_nil))))) (pa_cons (C8.pe_c (c_law_form T) hr (by decide) (by rfl) (pa_cons (pv 0) (pa_cons (pv 1) (pa_cons (pv 4) pa_nil)))) pa_nil))))))))))))), ?_⟩
    refine ⟨_, rfl, g, 8, n + 49, rfl, G, by decide, by decide, fun way H1 s1 G1 w0 w1 => ?_⟩
    refine ⟨_, rfl, g, 4, n + 48, rfl, G1, by decide, by decide, fun turn H2 s2 G2 t0 t1 => ⟨_, _, rfl, ?_⟩⟩
    obtain ⟨tn, rfl⟩ : ∃ tn : Nat, turn = tn := ⟨turn.toNat, by omega⟩
    obtain ⟨k, hk, hkl⟩ := fmodZ (tn : Int) (show b.length ≠ 0 by omega)
    have s12 := s1.trans s2
    have fin : ∀ {H' : Hp} {t fa : Addr} {z : List Nat} {f : F}, H' t = none → SameX g H H' → Gn n H' g → FT H' fa f → f.length = m + 1 → z.length ≤ 7 → Lw Lt z → Up B f → Sm m most (z, f) → Q (.ref t) (upd H' t (.tup [.str (S z), .ref fa])) := fun {H' t fa z f} ht sx G' hf lf lz lw uf sm =>
      q t (z, f) _ (sx.trans (.of (sameNew ht))) (G'.same (sameNew ht)) ⟨fa, upd_same, sameNew ht _ _ hf⟩ lf lz lw uf sm
    -- the turned base
    refine ⟨_, rfl, _, rfl, _, _, rfl, rfl, by rw [S_len, sizeLine_eq]; omega, ?_⟩
    rw [S_cat]
    refine ⟨_, rfl, .inl ⟨_, rfl, _, rfl, S b, rfl, len_line (by omega), (tn : Int), b.length, rfl, congrArg (fun n : Nat => V.int n) (S_len b), by omega, k, congrArg V.int hk, ?_⟩⟩
    refine ⟨_, rfl, .inl ⟨_, rfl, _, rfl, S b, rfl, len_line (by omega), (tn : Int), b.length, rfl, congrArg (fun n : Nat => V.int n) (S_len b), by omega, ?_⟩⟩
    refine ⟨_, rfl, S b, rfl, len_line (by omega), k, b.length, congrArg V.int hk, congrArg (fun n : Nat => V.int n) (S_len b), ((k + b.length : Nat) : Int), congrArg V.int (by omega), S (b ++ b), rfl, len_line (by rw [List.length_append]; omega), ?_⟩
    rw [slice_mid (by omega) (by rw [List.length_append]; omega), show k + b.length - k = b.length by omega]
    have ltw : (((b ++ b).drop k).take b.length).length = b.length := by rw [List.length_take, List.length_drop, List.length_append]; omega
    have lowt := lw_rotpart lowb k b.length
    generalize ((b ++ b).drop k).take b.length = tw at ltw lowt
    have upM : ∀ {f : F}, Up most f → Up B f := fun {f} uf x hx => by
      have := uf x hx
      omega
    have c2ne : cs.take 2 ≠ [] := fun z => by
      have := congrArg List.length z
      rw [List.length_take, List.length_nil] at this
      omega
    have csne : cs ≠ [] := fun z => by rw [z] at lcs; cases lcs
    refine ⟨_, rfl, rfl, _, rfl, ite2 (fun e => ?_) (fun e => ?_)⟩
    · refine ⟨_, rfl, _, rfl, Lt, g, cs, n + 38, 0, 4, rfl, csne, by omega, lowc, G2.le (by omega), by decide, by decide, fun w H3 s3 G3 _ w4 lw => ?_⟩
      refine ⟨_, rfl, _, rfl, g, 3, n + 37, rfl, G3.le (by omega), by decide, by decide, fun r H4 s4 G4 r0 r1 => ?_⟩
      obtain ⟨rn, rfl⟩ : ∃ rn : Nat, r = rn := ⟨r.toNat, by omega⟩
      exact ⟨m, rn, rfl, hm, fun p H5 s5 h5 => ⟨by show 2 ≤ sizeLine; decide, fun t ht => fin ht (s12.trans (s3.trans (s4.trans (.of s5)))) ((G4.same s5).le (by omega)) h5 (by simp) (by omega) lw (up_plain (by omega)) (.inr ⟨_, rfl, by show w.length * rn ≤ 8; have := Nat.mul_le_mul (show w.length ≤ 4 by omega) (show rn ≤ 2 by omega); omega⟩)⟩⟩
    · refine ⟨_, rfl, rfl, _, rfl, ite2 (fun e => ?_) (fun e => ?_)⟩
      · refine ⟨_, rfl, _, rfl, rfl, .inr ⟨_, rfl, _, _, rfl, rfl, tw, if tn = 3 then 2 else 1, rfl, congrArg V.int ?_, by split <;> omega, by omega, ?_⟩⟩
        · by_cases h3 : tn = 3
          · subst h3
            rfl
          · rw [if_neg h3, decide_eq_false (fun y => h3 (by have := V.int.inj y; omega))]
            rfl
        · have ll : (List.replicate (if tn = 3 then 2 else 1) tw).flatten.length ≤ 6 := by
            have := WM.pw_len tw (if tn = 3 then 2 else 1)
            unfold WM.pw at this
            rw [this]
            split <;> omega
          refine ⟨_, rfl, _, rfl, _, rfl, g, m, most, n, rfl, G2.le (by omega), hm, by omega, fun p f H' s' G' hf lf uf => ⟨by show 2 ≤ sizeLine; decide, fun t ht => fin ht (s12.trans s') G' hf lf (by omega) (lw_pw lowt _) (upM uf) (.inl ⟨by show (List.replicate _ tw).flatten.length ≤ 6; exact ll, uf⟩)⟩⟩
      · refine ⟨_, rfl, rfl, _, rfl, ite2 (fun e => ?_) (fun e => ?_)⟩
        · have l4 : (List.replicate 4 tw).flatten.length = tw.length * 4 := WM.pw_len tw 4
          refine ⟨_, rfl, tw, 4, rfl, rfl, by decide, by omega, ?_⟩
          refine ⟨_, rfl, _, rfl, S b, rfl, len_line (by omega), _, _, rfl, rfl, wide_mul (a := 10) (b := 10) (by decide) (by rw [S_len]; omega) (by decide) (by decide) (by decide), _, _, rfl, rfl, g, _, n + 47, rfl, G2, by rw [S_len]; omega, by rw [S_len]; omega, fun r H3 s3 G3 r0 r1 => ?_⟩
          obtain ⟨rn, rfl⟩ : ∃ rn : Nat, r = rn := ⟨r.toNat, by omega⟩
          refine ⟨(rn : Int), rfl, S (List.replicate 4 tw).flatten, rfl, len_line (by omega), ?_⟩
          rw [SX.slice_to (by omega), Int.toNat_natCast]
          exact ⟨_, rfl, m, 1, rfl, hm, fun p H5 s5 h5 => ⟨by show 2 ≤ sizeLine; decide, fun t ht => fin ht (s12.trans (s3.trans (.of s5))) ((G3.same s5).le (by omega)) h5 (by simp) (by rw [List.length_take]; rw [S_len] at r1; omega) (lw_take (lw_pw lowt 4) _) (up_plain (by omega)) (.inr ⟨_, rfl, by show (List.take _ _).length * 1 ≤ 8; rw [List.length_take]; rw [S_len] at r1; omega⟩)⟩⟩
        · refine ⟨_, rfl, rfl, _, rfl, ite2 (fun e => ?_) (fun e => ?_)⟩
          · refine ⟨_, rfl, _, rfl, S b, rfl, len_line (by omega), _, _, rfl, rfl, ((b.length - 1 : Nat) : Int), congrArg V.int (by rw [S_len]; omega), S b, rfl, len_line (by omega), ?_⟩
            rw [SX.slice_from (by omega), Int.toNat_natCast]
            exact ⟨_, rfl, m, 1, rfl, hm, fun p H5 s5 h5 => ⟨by show 2 ≤ sizeLine; decide, fun t ht => fin ht (s12.trans (.of s5)) ((G2.same s5).le (by omega)) h5 (by simp) (by rw [List.length_drop]; omega) (lw_drop lowb _) (up_plain (by omega)) (.inr ⟨_, rfl, by show (List.drop _ _).length * 1 ≤ 8; rw [List.length_drop]; omega⟩)⟩⟩
          · refine ⟨_, rfl, rfl, _, rfl, ite2 (fun e => ?_) (fun e => ?_)⟩
            · refine ⟨_, rfl, by show 1 ≤ sizeLine; decide, fun t1 n1 => ?_⟩
              have st1 := sameNew (o := .tup [V.int 0]) n1
              refine ⟨_, rfl, _, rfl, _, rfl, g, m, most, n, rfl, (G2.same st1).le (by omega), hm, by omega, fun p f H' s' G' hf lf uf => ?_⟩
              have sA := (SameX.of st1).trans s'
              refine ⟨1, rfl, p, _, 1, rfl, rfl, rfl, hf, fun p2 H4 s4 h4 => ?_⟩
              have lf4 : ((f.map fun n : Nat => V.int (n : Nat)).drop 1).length ≤ 4 := by rw [List.length_drop, List.length_map]; omega
              have e1 : H4 t1 = some (.tup [.int 0]) := s4 _ _ (s'.tup (G2.same st1) upd_same)
              refine ⟨t1, p2, _, _, rfl, rfl, e1, h4, Nat.le_trans (Nat.add_le_add_left lf4 1) (by decide), fun p5 H5 s5 h5 => ⟨by show 2 ≤ sizeLine; decide, fun t ht => ?_⟩⟩
              obtain ⟨x, f', rfl⟩ : ∃ x f', f = x :: f' := by
                cases f with
                | nil => simp at lf
                | cons x f' => exact ⟨x, f', rfl⟩
              refine fin (f := 0 :: f') ht (s12.trans (sA.trans (.of (s4.trans s5)))) ((G'.same s4).same s5) (by unfold FT; rw [h5]; rfl) (by simpa using lf) (by omega) lowb (fun y hy => ?_) (.inl ⟨by show b.length ≤ 6; omega, fun y hy => (List.mem_cons.mp hy).elim (fun z => by omega) fun z => uf y (List.mem_cons_of_mem _ z)⟩)
              rcases List.mem_cons.mp hy with z | z
              · omega
              · exact upM uf y (List.mem_cons_of_mem _ z)
            · refine ⟨_, rfl, rfl, _, rfl, ite2 (fun e => ?_) (fun e => ?_)⟩
              · refine ⟨_, rfl, _, rfl, g, 2, n + 47, rfl, G2, by decide, by decide, fun r H3 s3 G3 r0 r1 => ?_⟩
                obtain ⟨rn, rfl⟩ : ∃ rn : Nat, r = rn := ⟨r.toNat, by omega⟩
                have hk2 : rn < cs.length := by omega
                have hz := List.getElem?_eq_getElem hk2
                have hc := lowc _ (List.getElem_mem hk2)
                generalize cs[rn] = c at hz hc
                refine ⟨S cs, _, c, rfl, rfl, len_line (by omega), atI_nat (xs := cs) hz, ?_⟩
                exact ⟨_, rfl, _, rfl, _, rfl, g, m, most, n, rfl, G3.le (by omega), hm, by omega, fun p f H' s' G' hf lf uf => ⟨by show 2 ≤ sizeLine; decide, fun t ht => fin (z := [c]) ht (s12.trans (s3.trans s')) G' hf lf (by simp) (fun d hd => by rw [List.mem_singleton.mp hd]; exact hc) (upM uf) (.inl ⟨by simp, uf⟩)⟩⟩
              · refine ⟨_, rfl, _, rfl, 2, rfl, S cs, rfl, len_line (by omega), ?_⟩
                rw [SX.slice_to (by decide)]
                refine ⟨Lt, g, cs.take 2, n + 38, 1, 3, rfl, c2ne, by rw [List.length_take]; omega, lw_take lowc _, G2.le (by omega), by decide, by decide, fun w H3 s3 G3 _ w4 lw => ?_⟩
                exact ⟨_, rfl, _, rfl, _, rfl, g, m, most, n, rfl, G3.le (by omega), hm, by omega, fun p f H' s' G' hf lf uf => ⟨by show 2 ≤ sizeLine; decide, fun t ht => fin ht (s12.trans (s3.trans s')) G' hf lf (by omega) lw (upM uf) (.inl ⟨by show w.length ≤ 6; omega, uf⟩)⟩⟩
/-- a new list of pieces that grows while the generator runs -/
structure Grow (g : Addr) (H : Hp) (L : Addr) (H' : Hp) (ps : List Pn) : Prop where
  sx : SameX g H H'
  pl : PL H' L ps
  ne : L ≠ g
  new : H L = none
theorem Grow.go {g L : Addr} {H H' H2 : Hp} {ps : List Pn} {n : Nat} (h : Grow g H L H' ps) (G : Gn n H' g) (s : SameX g H' H2) : Grow g H L H2 ps := by
  obtain ⟨s1, ⟨vs, hl, hp⟩, lg, h0⟩ := h
  exact ⟨s1.trans s, ⟨vs, s _ _ lg hl, hp.mono fun a xs e => s.tup G e⟩, lg, h0⟩
/-- as they are drawn -/
def Dr (Lt : Nat → Prop) (m B : Nat) (ps : List Pn) : Prop := ∀ p ∈ ps, p.2.length = m + 1 ∧ p.1.length ≤ 7 ∧ Lw Lt p.1 ∧ Up B p.2
def Sms (m most : Nat) (ps : List Pn) : Prop := ∀ p ∈ ps, Sm m most p
def sp_law_raw : Sp := fun vs H Q _ => ∃ (Lt : Nat → Prop) (g : Addr) (cs : List Nat) (m cnt most n B : Nat), vs = [.ref g, .int m, .str (S cs), .int cnt, .int most] ∧ cs.length = 3 ∧ Lw Lt cs ∧ m ≤ 3 ∧ most ≤ B ∧ 2 ≤ B ∧ B < 2 ^ 99 ∧ cnt ≤ 7 ∧ Gn (n + 1000) H g ∧
  ∀ L ps H', Grow g H L H' ps → Gn n H' g → ps.length ≤ cnt → Dr Lt m B ps → Sms m most ps → Q (.ref L) H'
theorem c_law_raw (T : Txt K mg C) : C8.Cal P w K mg base 5 "_law_raw" sp_law_raw [] := by
  refine calF T.d_law_raw sc_law_raw (fun vs H Q E h => ?_) (fun f0 cdv A outer s H vs Q E hr h => ?_)
  · obtain ⟨_, _, _, _, _, _, _, _, rfl, _⟩ := h; rfl
  · obtain ⟨Lt, g, cs, m, cnt, most, n, B, rfl, lcs, lowc, hm, hmost, hB, hB2, hcnt, G, q⟩ := h
    have csne : cs ≠ [] := fun z => by rw [z] at lcs; cases lcs
    refine ⟨_, (pss_cons (ps_par (i := 5) (j := 6) (by rfl) sc_law_raw.nd rfl rfl (by decide) rfl rfl (pa_cons (pe_lst pa_nil) (pa_cons (C8.pe_c (c_law_word T) hr (by decide) (by rfl) (pa_cons (pv 0) (pa_cons (pe_slice C8.sl_txt (pv 2) po_none (po_some (pe_op op_add pe_int (C8.pe_c (c_law_random T) hr (by decide) (by rfl) (pa_cons (pv 0) (pa_cons pe_int pa_nil)))))) (pa_cons pe_int (pa_cons pe_int pa_nil))))) pa_nil)) (by rfl))
    (pss_cons (ps_for PassesOwn.never rfl (pi_range1 (by rfl) T.m_range (pa_cons (pv 3) pa_nil)) (pg_name (i := 7) sc_law_raw.nd rfl (Or.inl rfl))
    (pss_cons (ps_expr (pe_bm PySem.F.plainAttrs_list PySem.F.slot_list_append PySem.F.type_list_append mt_append (pv 5) (pa_cons (C8.pe_c (c_law_piece T) hr (by decide) (by rfl) (pa_cons (pv 0) (pa_cons (pv 1) (pa_cons (pv 2) (pa_cons (pv 6) (pa_cons (pv 4) pa_nil)))))) pa_nil)))
    (pss_one (ps_if (pt_cmpR op_eq (C8.pe_c (c_law_random T) hr (by decide) (by rfl) (pa_cons (pv 0) (pa_cons pe_int pa_nil))) pe_int (nomark _))
    (pss_one (ps_set (i := 6) sc_law_raw.nd rfl (Or.inl rfl) (C8.pe_c (c_law_word T) hr (by decide) (by rfl) (pa_cons (pv 0) (pa_cons (pv 2) (pa_cons pe_int (pa_cons pe_int pa_nil)))))))
    pss_nil))))
    (pss_one (ps_ret (pv 5))))), ?_⟩
    refine ⟨by show 0 ≤ sizeLine; omega, fun L hL => ?_⟩
    have s0 := sameNew (o := .lst []) hL
    have Lg := G.ne hL
    have G0 := G.same s0
    refine ⟨_, rfl, _, rfl, _, rfl, g, 2, n + 999, rfl, G0, by decide, by decide, fun r H1 s1 G1 r0 r1 => ?_⟩
    obtain ⟨rn, rfl⟩ : ∃ rn : Nat, r = rn := ⟨r.toNat, by omega⟩
    refine ⟨_, _, rfl, rfl, ((2 + rn : Nat) : Int), congrArg V.int (by omega), S cs, rfl, len_line (by omega), ?_⟩
    rw [SX.slice_to (by omega), Int.toNat_natCast]
    have c2ne : cs.take (2 + rn) ≠ [] := fun z => by
      have := congrArg List.length z
      rw [List.length_take, List.length_nil] at this
      omega
    have bne' : ∀ {b : List Nat}, 1 ≤ b.length → b ≠ [] := fun {b} h z => by
      rw [z] at h
      simp at h
    refine ⟨Lt, g, cs.take (2 + rn), n + 900, 1, 3, rfl, c2ne, by rw [List.length_take]; omega, lw_take lowc _, G1.le (by omega), by decide, by decide, fun b H2 s2 G2 b1 b3 lowb => ⟨_, _, rfl, ?_⟩⟩
    have sx := s1.trans s2
    refine ⟨_, rfl, (cnt : Int), rfl, by omega, by omega, ?_⟩
    refine for_it walk_range (fun i σ H' => i ≤ cnt ∧ ∃ (b : List Nat) (y7 : Option V) (ps : List Pn), σ = [some (.ref g), some (.int m), some (.str (S cs)), some (.int cnt), some (.int most), some (.ref L), some (.str (S b)), y7] ∧ Grow g H L H' ps ∧ Gn (n + 100 * (7 - i)) H' g ∧ ps.length ≤ i ∧ Dr Lt m B ps ∧ Sms m most ps ∧ b ≠ [] ∧ b.length ≤ 3 ∧ Lw Lt b)
      ⟨Nat.zero_le _, b, none, [], rfl, ⟨(SameX.of s0).trans sx, ⟨[], sx _ _ Lg upd_same, .nil⟩, Lg, hL⟩, G2.le (by omega), Nat.zero_le _, fun p hp => absurd hp List.not_mem_nil, fun p hp => absurd hp List.not_mem_nil, bne' b1, b3, lowb⟩ (fun _ _ _ _ _ => True.intro) (fun i x σ H' H'' hi pI yy => ?_) fun σ H' pI => ?_
    · obtain ⟨_, b, y7, ps, rfl, gr, G3, lps, dr, sms, bne, b3, lowb⟩ := pI
      obtain ⟨rfl, rfl⟩ := yy
      have i7 : i < 7 := by
        have : i < ((cnt : Int)).toNat := hi
        omega
      have eG : n + 100 * (7 - i) = n + 100 * (7 - (i + 1)) + 100 := by omega
      rw [eG] at G3
      obtain ⟨vs, hvs, _⟩ := id gr.pl
      refine ⟨_, rfl, .inl ⟨rfl, _, .inl (.inl hvs)⟩, _, rfl, _, rfl, _, rfl, _, rfl, _, rfl, Lt, g, cs, b, m, most, n + 100 * (7 - (i + 1)) + 50, B, rfl, lcs, lowc, bne, b3, lowb, hm, hmost, hB, hB2, G3.le (by omega), fun a p H4 s4 G4 pc lp wp low up sm => ?_⟩
      have gr4 := gr.go G3 s4
      obtain ⟨us, hus, pus⟩ := id gr4.pl
      have lu := pus.len
      refine ⟨L, _, _, rfl, rfl, hus, by rw [sizeLine_eq]; omega, ?_⟩
      have gr5 : Grow g H L (upd H4 L (.lst (us ++ [.ref a]))) (ps ++ [p]) := by
        refine ⟨fun c o hc hO => ?_, ⟨_, upd_same, (pus.upd hus).app (.one (pc.mono (tup_upd hus)))⟩, gr4.ne, gr4.new⟩
        have hcL : c ≠ L := fun z => by rw [z, gr4.new] at hO; cases hO
        rw [upd_ne hcL]
        exact gr4.sx c o hc hO
      have G5 := G4.upd (o := .lst (us ++ [.ref a])) gr4.ne
      have dr5 : Dr Lt m B (ps ++ [p]) := fun x hx => by
        rcases List.mem_append.mp hx with z | z
        · exact dr x z
        · rw [List.mem_singleton.mp z]
          exact ⟨lp, wp, low, up⟩
      have sm5 : Sms m most (ps ++ [p]) := fun x hx => by
        rcases List.mem_append.mp hx with z | z
        · exact sms x z
        · rw [List.mem_singleton.mp z]
          exact sm
      have l5 : (ps ++ [p]).length ≤ i + 1 := by rw [List.length_append, List.length_singleton]; omega
      refine ⟨_, rfl, g, 5, n + 100 * (7 - (i + 1)) + 49, rfl, G5, by decide, by decide, fun r H6 s6 G6 r0 r1 => ?_⟩
      have gr6 := gr5.go G5 s6
      have hic : i + 1 ≤ cnt := by
        have : i < ((cnt : Int)).toNat := hi
        omega
      refine ⟨rfl, _, rfl, ite2 (fun e => ?_) (fun e => ?_)⟩
      · refine ⟨_, rfl, _, rfl, Lt, g, cs, n + 100 * (7 - (i + 1)) + 39, 1, 3, rfl, csne, by omega, lowc, G6, by decide, by decide, fun b' H7 s7 G7 b1' b3' lowb' => ?_⟩
        exact ⟨hic, b', _, _, rfl, gr6.go G6 s7, G7.le (by omega), l5, dr5, sm5, bne' b1', b3', lowb'⟩
      · exact ⟨hic, b, _, _, rfl, gr6, G6.le (by omega), l5, dr5, sm5, bne, b3, lowb⟩
    · obtain ⟨_, b, y7, ps, rfl, gr, G3, lps, dr, sms, _⟩ := pI
      refine ⟨_, rfl, q L ps H' gr (G3.le (by omega)) ?_ dr sms⟩
      have : ((cnt : Int)).toNat = cnt := Int.toNat_natCast cnt
      omega
end
end K23

set_option linter.all false
set_option maxRecDepth 100000
namespace NM
open WM
/-! ### a word is no power exactly if it stands in itself doubled, without the first letter, at the end first -/
/-- w stands at the place k + 1 of w w -/
def Occ (w : W) (k : Nat) : Prop := ((w ++ w).drop (k + 1)).take w.length = w
theorem dbl_get {w : W} (h : w ≠ []) {i : Nat} (hi : i < 2 * w.length) : (w ++ w)[i]? = w[i % w.length]? := by
  have n0 := List.length_pos_iff.mpr h
  by_cases z : i < w.length
  · rw [List.getElem?_append_left z, Nat.mod_eq_of_lt z]
  · rw [List.getElem?_append_right (by omega), Nat.mod_eq_sub_mod (show i ≥ w.length by omega), Nat.mod_eq_of_lt (by omega)]
theorem occ_get {w : W} (h : w ≠ []) {k : Nat} (hk : k + 1 ≤ w.length) : Occ w k ↔ ∀ i, i < w.length → w[(k + 1 + i) % w.length]? = w[i]? := by
  unfold Occ
  constructor
  · intro e i hi
    have : (((w ++ w).drop (k + 1)).take w.length)[i]? = w[i]? := by rw [e]
    rw [List.getElem?_take_of_lt hi, List.getElem?_drop, dbl_get h (by omega)] at this
    exact this
  · intro e
    refine List.ext_getElem? fun i => ?_
    by_cases hi : i < w.length
    · rw [List.getElem?_take_of_lt hi, List.getElem?_drop, dbl_get h (by omega)]
      exact e i hi
    · rw [List.getElem?_eq_none (by rw [List.length_take]; omega), List.getElem?_eq_none (by omega)]
theorem occ_last {w : W} (h : w ≠ []) : Occ w (w.length - 1) := by
  have n0 := List.length_pos_iff.mpr h
  refine (occ_get h (by omega)).mpr fun i hi => ?_
  rw [show w.length - 1 + 1 + i = i + w.length by omega, Nat.add_mod_right, Nat.mod_eq_of_lt hi]
/-- an earlier place makes a shorter period -/
theorem occ_not_prim {w : W} (h : w ≠ []) {k : Nat} (hk : k + 1 < w.length) (o : Occ w k) : ¬ Prim w := by
  intro pr
  have n0 := List.length_pos_iff.mpr h
  have e := (occ_get h (by omega)).mp o
  -- the word doubled has the periods k + 1 and its half
  have dl : (w ++ w).length = 2 * w.length := by rw [List.length_append]; omega
  have p1 : Per (k + 1) (w ++ w) := fun i hi => by
    rw [dl] at hi
    rw [dbl_get h (by omega), dbl_get h hi]
    have := e (i % w.length) (Nat.mod_lt _ n0)
    rw [← this]
    congr 1
    rw [Nat.add_mod_mod, Nat.add_comm]
  have p2 : Per w.length (w ++ w) := fun i hi => by
    rw [dl] at hi
    rw [dbl_get h (by omega), dbl_get h hi, Nat.add_mod_right]
  have g := per_gcd p1 p2 (by rw [dl]; omega)
  have gp : 0 < Nat.gcd (k + 1) w.length := Nat.gcd_pos_of_pos_left _ (by omega)
  have gd : Nat.gcd (k + 1) w.length ∣ w.length := Nat.gcd_dvd_right _ _
  have gl : Nat.gcd (k + 1) w.length ≤ k + 1 := Nat.le_of_dvd (by omega) (Nat.gcd_dvd_left _ _)
  have pw' : Per (Nat.gcd (k + 1) w.length) w := by
    have := per_take (k := w.length) g
    rw [List.take_left] at this
    exact this
  have := pr.2 _ gp gd pw'
  omega
theorem not_prim_occ {w : W} (h : w ≠ []) (np : ¬ Prim w) : ∃ k, k + 1 < w.length ∧ Occ w k := by
  have n0 := List.length_pos_iff.mpr h
  have : ∃ d, 0 < d ∧ d ∣ w.length ∧ Per d w ∧ d ≠ w.length := Classical.byContradiction fun z => np ⟨h, fun d h1 h2 h3 => Classical.byContradiction fun y => z ⟨d, h1, h2, h3, y⟩⟩
  obtain ⟨d, h1, h2, h3, h4⟩ := this
  have dl := Nat.le_of_dvd n0 h2
  refine ⟨d - 1, by omega, (occ_get h (by omega)).mpr fun i hi => ?_⟩
  rw [show d - 1 + 1 + i = i + d by omega, per_at h1 h3 (Nat.mod_lt _ n0), per_at h1 h3 hi, Nat.mod_mod_of_dvd _ h2, Nat.add_mod_right]
/-! ### the law's rules -/
theorem isPow_one {p : Pn} {m : Nat} (h : p.2 = one1 m) : isPow p = false := by
  unfold isPow
  rw [h]
  rfl
theorem sum_zero : ∀ {l : List Nat}, l.sum = 0 ↔ ∀ x ∈ l, x = 0
  | [] => by simp
  | a :: l => by
    rw [List.sum_cons]
    constructor
    · intro h x hx
      rcases List.mem_cons.mp hx with z | z
      · omega
      · exact sum_zero.mp (show l.sum = 0 by omega) x z
    · intro h
      have a0 := h a List.mem_cons_self
      have := sum_zero.mpr fun x hx => h x (List.mem_cons_of_mem _ hx)
      omega
/-- what the law asks of a piece -/
def okP (m : Nat) (p : Pn) : Prop := (Prim p.1 ∨ p.2 = one1 m) ∧ p.1 ≠ [] ∧ (p.2 = one1 m ∨ (p.2.headD 0 = 0 ∧ p.2.sum ≠ 0))
theorem okP_iff {m : Nat} {p : Pn} (hl : p.2.length = m + 1) : okP m p ↔ NormP m p := by
  constructor
  · rintro ⟨h1, h2, h3⟩
    refine ⟨h2, hl, fun z => ?_, fun z => ?_⟩
    · rcases h3 with y | y
      · exact y
      · have : isPow p = true := decide_eq_true y.1
        rw [this] at z
        cases z
    · rcases h3 with y | y
      · rw [isPow_one y] at z
        cases z
      · have ne1 : p.2 ≠ one1 m := fun x => by rw [isPow_one x] at z; cases z
        refine ⟨h1.resolve_right ne1, ?_⟩
        cases e : isOpen p.2 with
        | true => rfl
        | false =>
          exfalso
          apply y.2
          refine sum_zero.mpr fun x hx => ?_
          cases ep : p.2 with
          | nil => rw [ep] at hx; cases hx
          | cons a f =>
            rw [ep] at hx
            rcases List.mem_cons.mp hx with w | w
            · have := y.1
              rw [ep] at this
              rw [w]
              exact this
            · refine Classical.byContradiction fun x0 => ?_
              have : isOpen p.2 = true := isOpen_iff.mpr ⟨x, by rw [ep]; exact w, x0⟩
              rw [e] at this
              cases this
  · intro h
    cases e : isPow p with
    | false => exact ⟨.inr (h.fix e), h.ne, .inl (h.fix e)⟩
    | true =>
      obtain ⟨a, b⟩ := h.pow e
      refine ⟨.inl a, h.ne, .inr ⟨of_decide_eq_true e, fun z => ?_⟩⟩
      obtain ⟨x, hx, x0⟩ := isOpen_iff.mp b
      exact x0 (sum_zero.mp z x (List.mem_of_mem_tail hx))
/-- what the law asks of two neighbours -/
def okA (m : Nat) (p q : Pn) : Prop := ¬ (p.2 = one1 m ∧ q.2 = one1 m) ∧ ¬ (p.2 ≠ one1 m ∧ q.2 ≠ one1 m ∧ p.1 = q.1) ∧ ¬ (p.2 = one1 m ∧ p.1.getLast? = q.1.getLast?)
theorem fix_iff {m : Nat} {p : Pn} (h : NormP m p) : isPow p = false ↔ p.2 = one1 m := ⟨h.fix, isPow_one⟩
theorem okA_iff {m : Nat} {p q : Pn} (hp : NormP m p) (hq : NormP m q) : okA m p q ↔ Adj p q := by
  have fp := fix_iff hp
  have fq := fix_iff hq
  constructor
  · rintro ⟨h1, h2, h3⟩
    refine ⟨fun z => ⟨?_, fun y => h3 ⟨fp.mp z, y⟩⟩, fun z y x => ?_⟩
    · cases e : isPow q with
      | true => rfl
      | false => exact absurd ⟨fp.mp z, fq.mp e⟩ h1
    · refine h2 ⟨fun w => ?_, fun w => ?_, x⟩
      · rw [fp.mpr w] at z
        cases z
      · rw [fq.mpr w] at y
        cases y
  · intro h
    refine ⟨fun z => ?_, fun z => ?_, fun z => (h.fix (fp.mpr z.1)).2 z.2⟩
    · have := (h.fix (fp.mpr z.1)).1
      rw [fq.mpr z.2] at this
      cases this
    · have e1 : isPow p = true := by
        cases e : isPow p with
        | true => rfl
        | false => exact absurd (fp.mp e) z.1
      have e2 : isPow q = true := by
        cases e : isPow q with
        | true => rfl
        | false => exact absurd (fq.mp e) z.2.1
      exact h.pow e1 e2 z.2.2
theorem nm_iff {m : Nat} {ps : List Pn} (hl : LenF m ps) : Nm m ps ↔ (∀ p ∈ ps, okP m p) ∧ ∀ (i : Nat) (p q : Pn), ps[i]? = some p → ps[i + 1]? = some q → okA m p q := by
  constructor
  · intro h
    exact ⟨fun p hp => (okP_iff (hl p hp)).mpr (h.all p hp), fun i p q hi hj => (okA_iff (h.all p (List.mem_of_getElem? hi)) (h.all q (List.mem_of_getElem? hj))).mpr (h.adj i p q hi hj)⟩
  · rintro ⟨h1, h2⟩
    have all : ∀ p ∈ ps, NormP m p := fun p hp => (okP_iff (hl p hp)).mp (h1 p hp)
    exact ⟨all, fun i p q hi hj => (okA_iff (all p (List.mem_of_getElem? hi)) (all q (List.mem_of_getElem? hj))).mp (h2 i p q hi hj)⟩
theorem normL_iff {m : Nat} {ps : List Pn} (hl : LenF m ps) : normL ps = ps ↔ Nm m ps := ⟨fun e => by rw [← e]; exact nm_normL hl, normL_id⟩
theorem wr_flat (pt : List Nat) : ∀ ps : List Pn, ((ps.filter fun p => decide (p.1 ≠ [])).map (wrt pt)).flatten = wr pt ps
  | [] => rfl
  | p :: r => by
    by_cases h : p.1 = []
    · rw [List.filter_cons_of_neg (by simp [h]), wr_flat pt r, wr]
      unfold wrt
      rw [h, pw_nil, List.nil_append]
    · rw [List.filter_cons_of_pos (by simp [h]), List.map_cons, List.flatten_cons, wr_flat pt r, wr]
theorem wrt_le {pt : List Nat} : ∀ {ps : List Pn} {p : Pn}, p ∈ ps → (wrt pt p).length ≤ (wr pt ps).length
  | q :: r, p, h => by
    rw [wr, List.length_append]
    rcases List.mem_cons.mp h with z | z
    · rw [z]
      omega
    · have := wrt_le (pt := pt) z
      omega
end NM

set_option linter.all false
set_option maxRecDepth 100000
namespace NM
open WM
/-! ### how long what is written can be -/
theorem le_sumN : ∀ {f : List Nat} {x : Nat}, x ∈ f → x ≤ f.sum
  | a :: l, x, h => by
    rw [List.sum_cons]
    rcases List.mem_cons.mp h with z | z
    · omega
    · have := le_sumN z
      omega
theorem dot_ones : ∀ (f : List Nat), dot f (List.replicate f.length 1) = f.sum
  | [] => rfl
  | a :: l => by
    rw [List.length_cons, List.replicate_succ, dot, dot_ones l, List.sum_cons]
    omega
theorem mem_val {f : F} {m x : Nat} (hl : f.length = m + 1) (hx : x ∈ f) : x ≤ valF f (List.replicate m 1) := by
  cases f with
  | nil => cases hx
  | cons a l =>
    have e : l.length = m := by simpa using hl
    unfold valF
    rw [List.tail_cons, ← e, dot_ones]
    show x ≤ a + l.sum
    rcases List.mem_cons.mp hx with z | z
    · omega
    · have := le_sumN z
      omega
theorem dot_le {B c : Nat} : ∀ (f pt : List Nat), (∀ x ∈ f, x ≤ B) → (∀ x ∈ pt, x ≤ c) → dot f pt ≤ f.length * (B * c)
  | [], _, _, _ => by simp [dot]
  | _ :: _, [], _, _ => by simp [dot]
  | x :: xs, y :: ys, h, g => by
    have a := dot_le xs ys (fun z hz => h z (List.mem_cons_of_mem _ hz)) (fun z hz => g z (List.mem_cons_of_mem _ hz))
    have b : x * y ≤ B * c := Nat.mul_le_mul (h x List.mem_cons_self) (g y List.mem_cons_self)
    rw [dot, List.length_cons, Nat.succ_mul]
    omega
theorem wr_le {pt : List Nat} {k : Nat} : ∀ ps : List Pn, (∀ p ∈ ps, (wrt pt p).length ≤ k) → (wr pt ps).length ≤ ps.length * k
  | [], _ => by simp [wr]
  | p :: r, h => by
    have a := wr_le r fun q hq => h q (List.mem_cons_of_mem _ hq)
    have b := h p List.mem_cons_self
    rw [wr, List.length_append, List.length_cons, Nat.succ_mul]
    omega
theorem val_le3 {f : F} {pt : List Nat} {m : Nat} (hl : f.length = m + 1) (hm : m ≤ 3) (hf : ∀ x ∈ f, x ≤ 3) (hp : ∀ x ∈ pt, x ≤ 3) : valF f pt ≤ 30 := by
  cases f with
  | nil => simp at hl
  | cons a l =>
    have e : l.length = m := by simpa using hl
    have d := dot_le (B := 3) (c := 3) l pt (fun x hx => hf x (List.mem_cons_of_mem _ hx)) hp
    have h0 := hf a List.mem_cons_self
    have : l.length * (3 * 3) ≤ 3 * 9 := Nat.mul_le_mul (by omega) (by decide)
    unfold valF
    show a + dot l pt ≤ 30
    omega
theorem wrt_le3 {p : Pn} {pt : List Nat} {m : Nat} (hl : p.2.length = m + 1) (hm : m ≤ 3) (hw : p.1.length ≤ 12) (hf : ∀ x ∈ p.2, x ≤ 3) (hp : ∀ x ∈ pt, x ≤ 3) : (wrt pt p).length ≤ 360 := by
  have v := val_le3 hl hm hf hp
  have e : (wrt pt p).length = p.1.length * valF p.2 pt := pw_len _ _
  rw [e]
  exact Nat.mul_le_mul hw v
theorem meas_le {k : Nat} : ∀ ps : List Pn, (∀ p ∈ ps, measP p ≤ k) → meas ps ≤ ps.length * k
  | [], _ => by simp [meas]
  | p :: r, h => by
    have a := meas_le r fun q hq => h q (List.mem_cons_of_mem _ hq)
    have b := h p List.mem_cons_self
    have e : meas (p :: r) = measP p + meas r := by simp [meas]
    rw [e, List.length_cons, Nat.succ_mul]
    omega
theorem measP_le48 {p : Pn} {m : Nat} (hl : p.2.length = m + 1) (hw : p.1.length ≤ 12) (hf : ∀ x ∈ p.2, x ≤ 3) : measP p ≤ 48 := by
  have h0 : p.2.headD 0 ≤ 3 := by
    cases e : p.2 with
    | nil => rw [e] at hl; simp at hl
    | cons a l => exact hf a (by rw [e]; exact List.mem_cons_self)
  unfold measP
  have : p.2.headD 0 + (if isOpen p.2 = true then 1 else 0) ≤ 4 := by split <;> omega
  exact Nat.mul_le_mul hw this
/-- the numbers of a normal list are no greater than what it writes at ones -/
theorem num_le {m k : Nat} {ps : List Pn} (h : LenF m ps) (hk : (wr (List.replicate m 1) ps).length ≤ k) {p : Pn} (hp : p ∈ normL ps) {x : Nat} (hx : x ∈ p.2) : x ≤ k := by
  have nm := nm_normL h
  have np := nm.all p hp
  have n0 := List.length_pos_iff.mpr np.ne
  have a := mem_val np.len hx
  have b := wrt_le (pt := List.replicate m 1) hp
  rw [wr_normL h] at b
  have e : (wrt (List.replicate m 1) p).length = p.1.length * valF p.2 (List.replicate m 1) := pw_len _ _
  have c : valF p.2 (List.replicate m 1) ≤ p.1.length * valF p.2 (List.replicate m 1) := Nat.le_mul_of_pos_left _ n0
  omega
/-! ### lists that are spoilt -/
theorem nm_mem {m : Nat} {ps : List Pn} {p : Pn} (hp : p ∈ ps) (h : ¬ NormP m p) : ¬ Nm m ps := fun z => h (z.all p hp)
theorem norm_empty {m : Nat} {f : F} : ¬ NormP m ([], f) := fun z => z.ne rfl
theorem norm_zeros {m : Nat} {w : W} : ¬ NormP m (w, 0 :: List.replicate m 0) := fun z => by
  have a := (z.pow rfl).2
  obtain ⟨x, hx, h⟩ := isOpen_iff.mp a
  exact h (List.eq_of_mem_replicate hx)
/-! ### a fixed piece, a letter's power, a fixed piece -/
theorem prim_one (c : Nat) : Prim [c] := ⟨by simp, fun d h1 h2 _ => by
  have := Nat.le_of_dvd (by simp) h2
  simp at this ⊢
  omega⟩
def longP (m a b c i j : Nat) : List Pn := [(List.replicate i a, one1 m), ([b], 0 :: 1 :: List.replicate (m - 1) 0), (List.replicate j c, one1 m)]
theorem nm_long {m a b c i j : Nat} (hm : 1 ≤ m) (hab : a ≠ b) (hi : 0 < i) (hj : 0 < j) : Nm m (longP m a b c i j) := by
  have l2 : (0 :: 1 :: List.replicate (m - 1) 0).length = m + 1 := by simp; omega
  refine ⟨fun p hp => ?_, fun k p q hk hk' => ?_⟩
  · rcases List.mem_cons.mp hp with z | z
    · rw [z]
      exact fixP_norm (fun y => by have := congrArg List.length y; simp at this; omega)
    rcases List.mem_cons.mp z with z | z
    · rw [z]
      exact (pow_norm (prim_one b) l2 rfl rfl).1
    · rw [List.mem_singleton.mp z]
      exact fixP_norm (fun y => by have := congrArg List.length y; simp at this; omega)
  · match k, hk, hk' with
    | 0, hk, hk' =>
      cases hk
      cases hk'
      refine ⟨fun _ => ⟨rfl, fun y => hab ?_⟩, fun z => by cases z⟩
      have e1 : (List.replicate i a).getLast? = some a := by
        rw [List.getLast?_eq_getElem?, List.length_replicate, List.getElem?_replicate, if_pos (by omega)]
      have y' : (List.replicate i a).getLast? = [b].getLast? := y
      rw [e1] at y'
      simpa using y'
    | 1, hk, hk' =>
      cases hk
      cases hk'
      exact ⟨fun z => (by cases z), fun _ z => (by cases z)⟩
    | 2, hk, hk' => simp [longP] at hk'
    | (k + 3), hk, hk' => simp [longP] at hk
theorem meas_long {m a b c i j : Nat} (hm : 1 ≤ m) : meas (longP m a b c i j) = i + 1 + j := by
  have h1 : ∀ (w : W), measP (w, one1 m) = w.length := fun w => measP_fix w m
  have h2 : measP ([b], 0 :: 1 :: List.replicate (m - 1) 0) = 1 := rfl
  unfold longP meas
  simp [h1, h2]
  omega
end NM

set_option linter.all false
set_option maxRecDepth 100000
/-! two normal lists that write the same word at enough points are the same -/
namespace NM
open WM
theorem gcd_last {a b : Nat} (ha : 0 < a) (hb : 0 < b) : (a - 1) % Nat.gcd a b = (b - 1) % Nat.gcd a b := by
  have g0 : 0 < Nat.gcd a b := Nat.gcd_pos_of_pos_left _ ha
  have key : ∀ c, 0 < c → Nat.gcd a b ∣ c → (c - 1) % Nat.gcd a b = Nat.gcd a b - 1 := fun c hc hd => by
    obtain ⟨k, rfl⟩ := hd
    cases k with
    | zero => simp at hc
    | succ k =>
      rw [Nat.mul_succ, show Nat.gcd a b * k + Nat.gcd a b - 1 = Nat.gcd a b * k + (Nat.gcd a b - 1) by omega, Nat.mul_add_mod, Nat.mod_eq_of_lt (by omega)]
  rw [key a ha (Nat.gcd_dvd_left _ _), key b hb (Nat.gcd_dvd_right _ _)]
theorem app_get {α : Type} {A B : List α} {i : Nat} (h : i < A.length) : (A ++ B)[i]? = A[i]? := List.getElem?_append_left h
/-- letters ahead of a power that go on with another power could have been moved -/
theorem turn_last {u v x A B : W} {i j : Nat} (hu : u ≠ []) (hv : v ≠ []) (hx : x ≠ []) (h : pw u i ++ A = x ++ (pw v j ++ B)) (hi : x.length + u.length + v.length ≤ u.length * i) (hj : u.length + v.length ≤ v.length * j) : x.getLast? = v.getLast? := by
  have u0 := List.length_pos_iff.mpr hu
  have v0 := List.length_pos_iff.mpr hv
  have x0 := List.length_pos_iff.mpr hx
  have lu : (pw u i).length = u.length * i := pw_len _ _
  have lv : (pw v j).length = v.length * j := pw_len _ _
  have left : ∀ k, k < x.length + u.length + v.length → (x ++ (pw v j ++ B))[k]? = u[k % u.length]? := fun k hk => by
    rw [← h, app_get (by omega), pw_get hu i k (by omega)]
  have right : ∀ k, k < u.length + v.length → (x ++ (pw v j ++ B))[x.length + k]? = (pw v j)[k]? := fun k hk => by
    rw [List.getElem?_append_right (by omega), show x.length + k - x.length = k by omega, app_get (by omega)]
  have lz : ((pw v j).take (u.length + v.length)).length = u.length + v.length := by rw [List.length_take]; omega
  have zget : ∀ k, k < u.length + v.length → ((pw v j).take (u.length + v.length))[k]? = (pw v j)[k]? := fun k hk => List.getElem?_take_of_lt hk
  have p1 : Per v.length ((pw v j).take (u.length + v.length)) := per_take (pw_per hv j)
  have p2 : Per u.length ((pw v j).take (u.length + v.length)) := fun k hk => by
    rw [lz] at hk
    rw [zget k (by omega), zget (k + u.length) hk, ← right k (by omega), ← right (k + u.length) hk, left _ (by omega), left _ (by omega)]
    congr 1
    rw [← Nat.add_assoc, Nat.add_mod_right]
  have pd := per_gcd p2 p1 (by rw [lz]; exact Nat.le_refl _)
  have d0 : 0 < Nat.gcd u.length v.length := Nat.gcd_pos_of_pos_left _ u0
  have a1 := per_at d0 pd (i := u.length - 1) (by rw [lz]; omega)
  have a2 := per_at d0 pd (i := v.length - 1) (by rw [lz]; omega)
  rw [gcd_last u0 v0, ← a2] at a1
  have e1 : x.getLast? = (x ++ (pw v j ++ B))[x.length - 1]? := by
    rw [List.getLast?_eq_getElem?, app_get (by omega)]
  have e2 : (x ++ (pw v j ++ B))[x.length - 1]? = (x ++ (pw v j ++ B))[x.length + (u.length - 1)]? := by
    rw [left _ (by omega), left _ (by omega)]
    congr 1
    rw [show x.length + (u.length - 1) = x.length - 1 + u.length by omega, Nat.add_mod_right]
  have e3 : (pw v j)[v.length - 1]? = v.getLast? := by
    rw [pw_get hv j _ (by omega), Nat.mod_eq_of_lt (by omega), List.getLast?_eq_getElem?]
  rw [e1, e2, right _ (by omega), ← zget _ (by omega), a1, zget _ (by omega), e3]
/-- two powers of primitive words that begin alike are of one word -/
theorem pow_same {u v A B : W} {i j : Nat} (hu : Prim u) (hv : Prim v) (h : pw u i ++ A = pw v j ++ B) (hi : u.length + v.length ≤ u.length * i) (hj : u.length + v.length ≤ v.length * j) : u = v := by
  have u0 := List.length_pos_iff.mpr hu.1
  have v0 := List.length_pos_iff.mpr hv.1
  have lu : (pw u i).length = u.length * i := pw_len _ _
  have lv : (pw v j).length = v.length * j := pw_len _ _
  have ez : (pw u i).take (u.length + v.length) = (pw v j).take (u.length + v.length) := by
    have : (pw u i ++ A).take (u.length + v.length) = (pw v j ++ B).take (u.length + v.length) := by rw [h]
    rw [List.take_append_of_le_length (by omega), List.take_append_of_le_length (by omega)] at this
    exact this
  have lz : ((pw u i).take (u.length + v.length)).length = u.length + v.length := by rw [List.length_take]; omega
  have p1 : Per u.length ((pw u i).take (u.length + v.length)) := per_take (pw_per hu.1 i)
  have p2 : Per v.length ((pw u i).take (u.length + v.length)) := by rw [ez]; exact per_take (pw_per hv.1 j)
  have pd := per_gcd p1 p2 (by rw [lz]; exact Nat.le_refl _)
  have tu : ((pw u i).take (u.length + v.length)).take u.length = u := by
    rw [List.take_take, Nat.min_eq_left (by omega)]
    refine List.ext_getElem? fun k => ?_
    by_cases hk : k < u.length
    · rw [List.getElem?_take_of_lt hk, pw_get hu.1 i k (by omega), Nat.mod_eq_of_lt hk]
    · rw [List.getElem?_eq_none (by rw [List.length_take]; omega), List.getElem?_eq_none (by omega)]
  have tv : ((pw u i).take (u.length + v.length)).take v.length = v := by
    rw [ez, List.take_take, Nat.min_eq_left (by omega)]
    refine List.ext_getElem? fun k => ?_
    by_cases hk : k < v.length
    · rw [List.getElem?_take_of_lt hk, pw_get hv.1 j k (by omega), Nat.mod_eq_of_lt hk]
    · rw [List.getElem?_eq_none (by rw [List.length_take]; omega), List.getElem?_eq_none (by omega)]
  have d0 : 0 < Nat.gcd u.length v.length := Nat.gcd_pos_of_pos_left _ u0
  have pu : Per (Nat.gcd u.length v.length) u := by
    have := per_take (k := u.length) pd
    rw [tu] at this
    exact this
  have pv : Per (Nat.gcd u.length v.length) v := by
    have := per_take (k := v.length) pd
    rw [tv] at this
    exact this
  have du := hu.2 _ d0 (Nat.gcd_dvd_left _ _) pu
  have dv := hv.2 _ d0 (Nat.gcd_dvd_right _ _) pv
  have el : u.length = v.length := du.symm.trans dv
  exact (tu.symm.trans (congrArg (fun n => ((pw u i).take (u.length + v.length)).take n) el)).trans tv
/-- a point of numbers of at least N -/
def Far (m N : Nat) (pt : List Nat) : Prop := pt.length = m ∧ ∀ x ∈ pt, N ≤ x
theorem dot_far {N : Nat} : ∀ (f pt : List Nat), f.length = pt.length → (∃ x ∈ f, x ≠ 0) → (∀ x ∈ pt, N ≤ x) → N ≤ dot f pt
  | [], _, _, h, _ => by obtain ⟨x, hx, _⟩ := h; cases hx
  | _ :: _, [], hl, _, _ => by simp at hl
  | a :: f, b :: pt, hl, h, hp => by
    rw [dot]
    by_cases z : a = 0
    · have : ∃ x ∈ f, x ≠ 0 := by
        obtain ⟨x, hx, x0⟩ := h
        rcases List.mem_cons.mp hx with y | y
        · exact absurd (y.trans z) x0
        · exact ⟨x, y, x0⟩
      have := dot_far f pt (by simpa using hl) this fun x hx => hp x (List.mem_cons_of_mem _ hx)
      omega
    · have := hp b List.mem_cons_self
      have : b ≤ a * b := Nat.le_mul_of_pos_left _ (by omega)
      omega
theorem val_far {m N : Nat} {f : F} {pt : List Nat} (hl : f.length = m + 1) (ho : isOpen f = true) (hp : Far m N pt) : N ≤ valF f pt := by
  have := dot_far f.tail pt (by rw [List.length_tail, hl, hp.1]; rfl) (isOpen_iff.mp ho) hp.2
  unfold valF
  omega
def tot (ps : List Pn) : Nat := (ps.map fun p => p.1.length).sum
theorem tot_cons (p : Pn) (r : List Pn) : tot (p :: r) = p.1.length + tot r := by simp [tot]
theorem Nm.tail {m : Nat} {p : Pn} {r : List Pn} (h : Nm m (p :: r)) : Nm m r := ⟨fun q hq => h.all q (List.mem_cons_of_mem _ hq), fun i a b ha hb => h.adj (i + 1) a b ha hb⟩
theorem Nm.head {m : Nat} {p : Pn} {r : List Pn} (h : Nm m (p :: r)) : NormP m p := h.all p List.mem_cons_self
theorem Nm.adj0 {m : Nat} {p q : Pn} {r : List Pn} (h : Nm m (p :: q :: r)) : Adj p q := h.adj 0 p q rfl rfl
/-- what does not begin with u does not begin with a great power of u -/
theorem no_begin {m N k : Nat} {u R : W} {pt : List Nat} (hu : Prim u) : ∀ {r : List Pn}, Nm m r → (∀ q, r.head? = some q → isPow q = true → q.1 ≠ u) → Far m N pt → u.length + tot r + 1 ≤ N → N ≤ k → wr pt r = pw u k ++ R → False
  | [], _, _, _, _, hk, e => by
    have u0 := List.length_pos_iff.mpr hu.1
    have := congrArg List.length e
    rw [List.length_append, pw_len, wr] at this
    have : k ≤ u.length * k := Nat.le_mul_of_pos_left _ u0
    simp at *
    omega
  | q :: t, nm, hq, far, hN, hk, e => by
    have u0 := List.length_pos_iff.mpr hu.1
    have uk : k ≤ u.length * k := Nat.le_mul_of_pos_left _ u0
    have nq := nm.head
    have q0 := List.length_pos_iff.mpr nq.ne
    rw [tot_cons] at hN
    rw [wr] at e
    cases ep : isPow q with
    | true =>
      obtain ⟨pr, op⟩ := nq.pow ep
      have v := val_far nq.len op far
      have qv : valF q.2 pt ≤ q.1.length * valF q.2 pt := Nat.le_mul_of_pos_left _ q0
      exact hq q rfl ep (pow_same pr hu e (by omega) (by omega))
    | false =>
      have ef : wrt pt q = q.1 := by
        have := nq.fix ep
        unfold wrt
        rw [this, val_one, pw_one]
      rw [ef] at e
      match t, nm, e, hN with
      | [], nm, e, hN =>
        have := congrArg List.length e
        rw [wr, List.append_nil, List.length_append, pw_len] at this
        omega
      | q2 :: t2, nm, e, hN =>
        have ad := nm.adj0.fix ep
        have n2 := nm.tail.head
        obtain ⟨_, op⟩ := n2.pow ad.1
        have v := val_far n2.len op far
        have q20 := List.length_pos_iff.mpr n2.ne
        have qv : valF q2.2 pt ≤ q2.1.length * valF q2.2 pt := Nat.le_mul_of_pos_left _ q20
        rw [tot_cons] at hN
        rw [wr] at e
        have e' : pw u k ++ R = q.1 ++ (pw q2.1 (valF q2.2 pt) ++ wr pt t2) := e.symm
        exact ad.2 (turn_last hu.1 n2.ne nq.ne e' (by omega) (by omega))
/-- points that tell forms apart, with great numbers -/
structure Rich (m : Nat) (Sp : List Nat → Prop) : Prop where
  far : ∀ N, ∃ pt, Sp pt ∧ Far m N pt
  part : ∀ (N : Nat) (f g : F), f.length = m + 1 → g.length = m + 1 → f.headD 0 = 0 → g.headD 0 = 0 → f ≠ g → ∃ pt, Sp pt ∧ Far m N pt ∧ (valF f pt + N ≤ valF g pt ∨ valF g pt + N ≤ valF f pt)
theorem uni {m : Nat} {Sp : List Nat → Prop} (hS : Rich m Sp) : ∀ {a b : List Pn}, Nm m a → Nm m b → (∀ pt, Sp pt → wr pt a = wr pt b) → a = b
  | [], [], _, _, _ => rfl
  | [], q :: t, _, nb, e => by
    exfalso
    obtain ⟨pt, sp, far⟩ := hS.far 1
    have := congrArg List.length (e pt sp)
    have nq := nb.head
    have q0 := List.length_pos_iff.mpr nq.ne
    have v : 1 ≤ valF q.2 pt := by
      cases ep : isPow q with
      | true => exact val_far nq.len (nq.pow ep).2 far
      | false => rw [nq.fix ep, val_one]; exact Nat.le_refl _
    have lw : (wrt pt q).length = q.1.length * valF q.2 pt := pw_len _ _
    have : 0 < q.1.length * valF q.2 pt := Nat.mul_pos q0 v
    have h := e pt sp
    rw [wr, wr] at h
    have h2 := congrArg List.length h
    rw [List.length_append] at h2
    simp only [List.length_nil] at h2
    omega
  | p :: r, [], na, _, e => by
    exfalso
    obtain ⟨pt, sp, far⟩ := hS.far 1
    have := congrArg List.length (e pt sp)
    have nq := na.head
    have q0 := List.length_pos_iff.mpr nq.ne
    have v : 1 ≤ valF p.2 pt := by
      cases ep : isPow p with
      | true => exact val_far nq.len (nq.pow ep).2 far
      | false => rw [nq.fix ep, val_one]; exact Nat.le_refl _
    have lw : (wrt pt p).length = p.1.length * valF p.2 pt := pw_len _ _
    have : 0 < p.1.length * valF p.2 pt := Nat.mul_pos q0 v
    have h := e pt sp
    rw [wr, wr] at h
    have h2 := congrArg List.length h
    rw [List.length_append] at h2
    simp only [List.length_nil] at h2
    omega
  | p :: r, q :: t, na, nb, e => by
    have np := na.head
    have nq := nb.head
    have p0 := List.length_pos_iff.mpr np.ne
    have q0 := List.length_pos_iff.mpr nq.ne
    have one : ∀ {c : Pn}, NormP m c → isPow c = false → ∀ pt, wrt pt c = c.1 := fun {c} nc ec pt => by
      unfold wrt
      rw [nc.fix ec, val_one, pw_one]
    -- a power against a fixed piece
    have mixed : ∀ {c d : Pn} {l k : List Pn}, Nm m (c :: l) → Nm m (d :: k) → isPow c = true → isPow d = false → (∀ pt, Sp pt → wr pt (c :: l) = wr pt (d :: k)) → False := fun {c d l k} nc nd ec ed he => by
      obtain ⟨pt, sp, far⟩ := hS.far (c.1.length + tot (d :: k) + 1)
      obtain ⟨prc, opc⟩ := nc.head.pow ec
      refine no_begin (R := wr pt l) (k := valF c.2 pt) prc nd (fun z hz hp => ?_) far (Nat.le_refl _) (val_far nc.head.len opc far) (he pt sp).symm
      cases hz
      rw [ed] at hp
      cases hp
    -- two fixed pieces, the one shorter
    have shorter : ∀ {c d : Pn} {l k : List Pn}, Nm m (c :: l) → Nm m (d :: k) → isPow c = false → isPow d = false → c.1.length < d.1.length → (∀ pt, Sp pt → wr pt (c :: l) = wr pt (d :: k)) → False := fun {c d l k} nc nd ec ed hl he => by
      have ex : ∀ pt, Sp pt → d.1 = c.1 ++ d.1.drop c.1.length ∧ wr pt l = d.1.drop c.1.length ++ wr pt k := fun pt sp => by
        have := he pt sp
        rw [wr, wr, one nc.head ec, one nd.head ed] at this
        have h1 : (c.1 ++ wr pt l).take c.1.length = (d.1 ++ wr pt k).take c.1.length := by rw [this]
        rw [List.take_left, List.take_append_of_le_length (by omega)] at h1
        have sp' : d.1 = c.1 ++ d.1.drop c.1.length := by
          conv => lhs; rw [← List.take_append_drop c.1.length d.1, ← h1]
        refine ⟨sp', ?_⟩
        rw [sp', List.append_assoc] at this
        exact List.append_cancel_left this
      have xne : d.1.drop c.1.length ≠ [] := fun z => by
        have := congrArg List.length z
        rw [List.length_drop, List.length_nil] at this
        omega
      match l, nc, ex with
      | [], _, ex =>
        obtain ⟨pt, sp, _⟩ := hS.far 0
        have := (ex pt sp).2
        rw [wr] at this
        exact xne (List.append_eq_nil_iff.mp this.symm).1
      | y :: l', nc, ex =>
        have ad := nc.adj0.fix ec
        have ny := nc.tail.head
        obtain ⟨pry, opy⟩ := ny.pow ad.1
        obtain ⟨pt, sp, far⟩ := hS.far (y.1.length + tot ((d.1.drop c.1.length, one1 m) :: k) + 1)
        have nx : Nm m ((d.1.drop c.1.length, one1 m) :: k) := by
          refine ⟨fun z hz => ?_, fun i a b ha hb => ?_⟩
          · rcases List.mem_cons.mp hz with w | w
            · rw [w]; exact fixP_norm xne
            · exact nd.all z (List.mem_cons_of_mem _ w)
          · cases i with
            | succ i => exact nd.adj (i + 1) a b ha hb
            | zero =>
              cases ha
              have hb' : (d :: k)[0 + 1]? = some b := hb
              have := (nd.adj 0 d b rfl hb').fix ed
              refine ⟨fun _ => ⟨this.1, fun w => this.2 ?_⟩, fun z => by cases z⟩
              have e1 := (ex pt sp).1
              have w' : (d.1.drop c.1.length).getLast? = b.1.getLast? := w
              rw [← w']
              conv => lhs; rw [e1]
              rw [List.getLast?_append]
              cases hz : (d.1.drop c.1.length).getLast? with
              | none => exact absurd (List.getLast?_eq_none_iff.mp hz) xne
              | some c => rfl
        refine no_begin (R := wr pt l') (k := valF y.2 pt) pry nx (fun z hz hp => ?_) far (Nat.le_refl _) (val_far ny.len opy far) ?_
        · cases hz
          cases hp
        · have := (ex pt sp).2
          rw [wr] at this
          rw [wr, one (c := (d.1.drop c.1.length, one1 m)) (fixP_norm xne) rfl]
          exact this.symm
    have same : p = q → p :: r = q :: t := fun e1 => by
      subst e1
      have : r = t := uni hS na.tail nb.tail fun pt sp => by
        have := e pt sp
        rw [wr, wr] at this
        exact List.append_cancel_left this
      rw [this]
    cases ep : isPow p with
    | true =>
      cases eq' : isPow q with
      | false => exact (mixed na nb ep eq' e).elim
      | true =>
        obtain ⟨prp, opp⟩ := np.pow ep
        obtain ⟨prq, opq⟩ := nq.pow eq'
        have ew : p.1 = q.1 := by
          obtain ⟨pt, sp, far⟩ := hS.far (p.1.length + q.1.length)
          have v1 := val_far np.len opp far
          have v2 := val_far nq.len opq far
          have m1 : valF p.2 pt ≤ p.1.length * valF p.2 pt := Nat.le_mul_of_pos_left _ p0
          have m2 : valF q.2 pt ≤ q.1.length * valF q.2 pt := Nat.le_mul_of_pos_left _ q0
          have h := e pt sp
          rw [wr, wr] at h
          exact pow_same prp prq h (by omega) (by omega)
        by_cases ef : p.2 = q.2
        · exact same (Prod.ext ew ef)
        · exfalso
          have h0 : p.2.headD 0 = 0 := of_decide_eq_true ep
          have h1 : q.2.headD 0 = 0 := of_decide_eq_true eq'
          obtain ⟨pt, sp, far, hd⟩ := hS.part (p.1.length + tot r + tot t + 1) p.2 q.2 np.len nq.len h0 h1 ef
          have h := e pt sp
          rw [wr, wr] at h
          unfold wrt at h
          rcases hd with hd | hd
          · have s : pw q.1 (valF q.2 pt) = pw p.1 (valF p.2 pt) ++ pw p.1 (valF q.2 pt - valF p.2 pt) := by rw [← pw_add, ew]; congr 1; omega
            rw [s, List.append_assoc] at h
            refine no_begin (r := r) prp na.tail (fun z hz hp => ?_) far (by omega) (show _ ≤ valF q.2 pt - valF p.2 pt by omega) (List.append_cancel_left h)
            match r, na, hz with
            | z' :: r', na, hz =>
              cases hz
              exact fun y => na.adj0.pow ep hp y.symm
          · have s : pw p.1 (valF p.2 pt) = pw q.1 (valF q.2 pt) ++ pw q.1 (valF p.2 pt - valF q.2 pt) := by rw [← pw_add, ew]; congr 1; omega
            rw [s, List.append_assoc] at h
            refine no_begin (r := t) prq nb.tail (fun z hz hp => ?_) far (by rw [← ew]; omega) (show _ ≤ valF p.2 pt - valF q.2 pt by omega) (List.append_cancel_left h).symm
            match t, nb, hz with
            | z' :: r', nb, hz =>
              cases hz
              exact fun y => nb.adj0.pow eq' hp y.symm
    | false =>
      cases eq' : isPow q with
      | true => exact (mixed nb na eq' ep fun pt sp => (e pt sp).symm).elim
      | false =>
        have h1 := np.fix ep
        have h2 := nq.fix eq'
        by_cases hl : p.1.length < q.1.length
        · exact (shorter na nb ep eq' hl e).elim
        · by_cases hl2 : q.1.length < p.1.length
          · exact (shorter nb na eq' ep hl2 fun pt sp => (e pt sp).symm).elim
          · obtain ⟨pt, sp, _⟩ := hS.far 0
            have h := e pt sp
            rw [wr, wr, one np ep, one nq eq'] at h
            have := (List.append_inj h (by omega)).1
            exact same (Prod.ext this (h1.trans h2.symm))
/-! ### enough points -/
theorem dot_split : ∀ (f pt : List Nat) (j x y : Nat), f[j]? = some x → pt[j]? = some y → x * y ≤ dot f pt
  | a :: f, b :: pt, 0, x, y, hf, hp => by
    cases hf
    cases hp
    rw [dot]
    omega
  | a :: f, b :: pt, j + 1, x, y, hf, hp => by
    have := dot_split f pt j x y hf hp
    rw [dot]
    omega
  | [], _, _, _, _, hf, _ => by simp at hf
  | _ :: _, [], _, _, _, _, hp => by simp at hp
theorem dot_rest {M : Nat} : ∀ (f pt : List Nat) (j x y : Nat), f[j]? = some x → pt[j]? = some y → (∀ i z, i ≠ j → pt[i]? = some z → z ≤ M) → dot f pt ≤ x * y + f.sum * M
  | a :: f, b :: pt, 0, x, y, hf, hp, h => by
    cases hf
    cases hp
    have : dot f pt ≤ f.sum * M := by
      have key : ∀ (f pt : List Nat), (∀ z ∈ pt, z ≤ M) → dot f pt ≤ f.sum * M := fun f => by
        induction f with
        | nil => intro pt _; simp [dot]
        | cons a f ih =>
          intro pt hp
          cases pt with
          | nil => simp [dot]
          | cons b pt =>
            have h1 := ih pt fun z hz => hp z (List.mem_cons_of_mem _ hz)
            have h2 : a * b ≤ a * M := Nat.mul_le_mul_left _ (hp b List.mem_cons_self)
            rw [dot, List.sum_cons, Nat.add_mul]
            omega
      refine key f pt fun z hz => ?_
      obtain ⟨i, hi⟩ := List.getElem?_of_mem hz
      exact h (i + 1) z (by omega) hi
    rw [dot, List.sum_cons, Nat.add_mul]
    omega
  | a :: f, b :: pt, j + 1, x, y, hf, hp, h => by
    have h1 := dot_rest f pt j x y hf hp fun i z hi hz => h (i + 1) z (by omega) hz
    have h2 : a * b ≤ a * M := Nat.mul_le_mul_left _ (h 0 b (by omega) rfl)
    rw [dot, List.sum_cons, Nat.add_mul]
    omega
  | [], _, _, _, _, hf, _, _ => by simp at hf
  | _ :: _, [], _, _, _, _, hp, _ => by simp at hp
theorem head0 {f : F} {m : Nat} (hl : f.length = m + 1) (h : f.headD 0 = 0) : f = 0 :: f.tail := by
  cases f with
  | nil => simp at hl
  | cons a f =>
    have : a = 0 := h
    rw [this]
    rfl
theorem rich_of {m : Nat} {Sp : List Nat → Prop} (h0 : ∀ N, ∃ pt, Sp pt ∧ Far m N pt) (h : ∀ N, ∃ M, ∀ j K, j < m → ∃ pt, Sp pt ∧ Far m N pt ∧ (∀ i z, i ≠ j → pt[i]? = some z → z ≤ M) ∧ ∃ y, pt[j]? = some y ∧ K ≤ y) : Rich m Sp := by
  refine ⟨h0, fun N f g lf lg hf hg ne => ?_⟩
  have ef := head0 lf hf
  have eg := head0 lg hg
  have tne : f.tail ≠ g.tail := fun z => ne (by rw [ef, eg, z])
  have lt1 : f.tail.length = m := by rw [List.length_tail, lf]; rfl
  have lt2 : g.tail.length = m := by rw [List.length_tail, lg]; rfl
  have hv : ∀ (f : F) (pt : List Nat), f.headD 0 = 0 → valF f pt = dot f.tail pt := fun f pt z => by unfold valF; rw [z, Nat.zero_add]
  obtain ⟨j, hj⟩ : ∃ j, f.tail[j]? ≠ g.tail[j]? := Classical.byContradiction fun z => tne (List.ext_getElem? fun i => Classical.byContradiction fun y => z ⟨i, y⟩)
  have jm : j < m := Classical.byContradiction fun z => hj (by rw [List.getElem?_eq_none (by omega), List.getElem?_eq_none (by omega)])
  obtain ⟨x1, e1⟩ : ∃ x, f.tail[j]? = some x := ⟨_, List.getElem?_eq_getElem (by omega)⟩
  obtain ⟨x2, e2⟩ : ∃ x, g.tail[j]? = some x := ⟨_, List.getElem?_eq_getElem (by omega)⟩
  have xne : x1 ≠ x2 := fun z => hj (by rw [e1, e2, z])
  obtain ⟨M, hM⟩ := h N
  obtain ⟨pt, sp, far, small, y, hy, ky⟩ := hM j (f.tail.sum * M + g.tail.sum * M + N) jm
  refine ⟨pt, sp, far, ?_⟩
  rw [hv f pt hf, hv g pt hg]
  have a1 := dot_split f.tail pt j x1 y e1 hy
  have a2 := dot_split g.tail pt j x2 y e2 hy
  have b1 := dot_rest f.tail pt j x1 y e1 hy small
  have b2 := dot_rest g.tail pt j x2 y e2 hy small
  rcases Nat.lt_or_gt_of_ne xne with z | z
  · refine .inl ?_
    have : (x1 + 1) * y ≤ x2 * y := Nat.mul_le_mul_right _ z
    rw [Nat.add_mul, Nat.one_mul] at this
    omega
  · refine .inr ?_
    have : (x2 + 1) * y ≤ x1 * y := Nat.mul_le_mul_right _ z
    rw [Nat.add_mul, Nat.one_mul] at this
    omega
/-- all points -/
def AllPt (m : Nat) (pt : List Nat) : Prop := pt.length = m
theorem rich_all (m : Nat) : Rich m (AllPt m) := by
  refine rich_of (fun N => ⟨List.replicate m N, by simp [AllPt], by simp [Far]⟩) fun N => ⟨N, fun j K hj => ⟨(List.replicate m N).set j (N + K), by simp [AllPt], ⟨by simp, fun x hx => ?_⟩, fun i z hi hz => ?_, N + K, ?_, by omega⟩⟩
  · rcases List.mem_or_eq_of_mem_set hx with w | w
    · rw [List.eq_of_mem_replicate w]; exact Nat.le_refl _
    · rw [w]; omega
  · rw [List.getElem?_set_ne (Ne.symm hi)] at hz
    have := List.mem_of_getElem? hz
    rw [List.eq_of_mem_replicate this]
    exact Nat.le_refl _
  · rw [List.getElem?_set_self (by simpa using hj)]
/-- lists that write the same words have one normal list -/
theorem norm_same {m : Nat} {a b : List Pn} (ha : LenF m a) (hb : LenF m b) (h : ∀ pt, pt.length = m → wr pt a = wr pt b) : normL a = normL b :=
  uni (rich_all m) (nm_normL ha) (nm_normL hb) fun pt sp => by rw [wr_normL ha, wr_normL hb]; exact h pt sp
end NM

set_option Elab.async false
set_option linter.all false
set_option maxRecDepth 100000
set_option maxHeartbeats 4000000
namespace K23
open PySem PySem.Spec PyProof.Rows L2 CK SX NM
/-! ### open texts -/
/-- the attributes, as they are set -/
def OF (l : Addr) (m : Nat) : List (Str × V) := putF "_many" (V.int (m : Nat)) (putF "_pieces" (V.ref l) [])
theorem ne_pm : ¬ (("_pieces" : Str) = "_many") := by decide +kernel
theorem of_p (l : Addr) (m : Nat) : (OF l m).lookup ("_pieces" : Str) = some (V.ref l) := by
  unfold OF
  rw [lookup_putF, if_neg ne_pm, lookup_putF, if_pos rfl]
theorem of_m (l : Addr) (m : Nat) : (OF l m).lookup ("_many" : Str) = some (V.int (m : Nat)) := by
  unfold OF
  rw [lookup_putF, if_pos rfl]
theorem of_no (l : Addr) (m : Nat) {x : Str} (h1 : ¬ x = "_pieces") (h2 : ¬ x = "_many") : (OF l m).lookup x = none := by
  unfold OF
  rw [lookup_putF, if_neg h2, lookup_putF, if_neg h1]
  rfl
/-- an open text at p, its list of pieces at l -/
structure OTl (C : Addr) (H : Hp) (p l : Addr) (m : Nat) (ps : List Pn) : Prop where
  at_ : ∃ dx, H p = some (.ins C dx (OF l m))
  gl : GL H m l ps
def OT (C : Addr) (H : Hp) (p : Addr) (m : Nat) (ps : List Pn) : Prop := ∃ l, OTl C H p l m ps
theorem OTl.same {C : Addr} {H H' : Hp} {p l : Addr} {m : Nat} {ps : List Pn} (h : OTl C H p l m ps) (s : Same H H') : OTl C H' p l m ps := by
  obtain ⟨⟨dx, e⟩, g⟩ := h
  exact ⟨⟨dx, s _ _ e⟩, g.same s⟩
theorem OT.same {C : Addr} {H H' : Hp} {p : Addr} {m : Nat} {ps : List Pn} (h : OT C H p m ps) (s : Same H H') : OT C H' p m ps := by
  obtain ⟨l, h⟩ := h
  exact ⟨l, h.same s⟩
theorem GL.ins {H : Hp} {m : Nat} {l p C dx : Addr} {ps : List Pn} {fs gs : List (Str × V)} (h : GL H m l ps) (hp : H p = some (.ins C dx fs)) : GL (upd H p (.ins C dx gs)) m l ps := by
  obtain ⟨⟨vs, hl, hv⟩, a, b, c, d, e⟩ := h
  refine ⟨⟨vs, ?_, hv.mono fun a xs e => ?_⟩, a, b, c, d, e⟩
  · rw [upd_ne (fun z => by rw [z, hp] at hl; cases hl)]
    exact hl
  · rw [upd_ne (fun z => by rw [z, hp] at e; cases e)]
    exact e
/-- what is written at ones is not too long -/
def Wl (m : Nat) (ps : List Pn) : Prop := (wr (List.replicate m 1) ps).length < 2 ^ 900
theorem bf_normL {m : Nat} {ps : List Pn} (h : LenF m ps) (hw : Wl m ps) : ∀ p ∈ normL ps, Bf p.2 := fun p hp n hn => Nat.lt_of_le_of_lt (num_le h (Nat.le_refl _) hp hn) hw
theorem wl_normL {m : Nat} {ps : List Pn} (h : LenF m ps) (hw : Wl m ps) : Wl m (normL ps) := by
  unfold Wl
  rw [wr_normL h]
  exact hw
section
variable {P : Program} {w : World} {K : PySem.W.Frag} {mg : Str → Option Value} {base : Heap} {C : Addr}
def sp_init (C : Addr) : Sp := fun vs H Q _ => ∃ (p dx l : Addr) (m : Nat) (ps : List Pn), vs = [.ref p, .int m, .ref l] ∧ H p = some (.ins C dx []) ∧ m ≤ 3 ∧ GL H m l ps ∧ meas ps ≤ 2000 ∧ Wl m ps ∧
  ∀ r H', SameX p H H' → H r = none → OTl C H' p r m (normL ps) → Q .non H'
theorem n_OpenText (T : Txt K mg C) : C8.Mak P w K mg base 7 "OpenText" C (sp_init C) [] := by
  refine makF T.k_OpenText T.d_OpenText___init__ sc_OpenText___init__ (fun vs H Q E h => ?_) (fun f cdv A outer s H vs Q E hr h => ?_)
  · obtain ⟨_, _, _, _, _, rfl, _⟩ := h; rfl
  · obtain ⟨p, dx, l, m, ps, rfl, hp, m3, g, hme, hw, q⟩ := h
    have cl := T.k_OpenText.ins.cl
    refine ⟨_, (pss_cons (ps_fld (pv 0) (C8.pe_c (c_normal T) hr (by decide) (by rfl) (pa_cons (pv 1) (pa_cons (pv 2) pa_nil))) rfl)
    (pss_one (ps_fld (pv 0) (pv 1) rfl))), ?_⟩
    refine ⟨_, rfl, _, rfl, m, l, ps, rfl, m3, g, hme, fun r H1 s1 n1 pl => ?_⟩
    have hp1 := s1 _ _ hp
    have hp2 : (upd H1 p (.ins C dx (putF "_pieces" (V.ref r) []))) p = some (.ins C dx (putF "_pieces" (V.ref r) [])) := upd_same
    refine ⟨_, rfl, p, C, dx, _, rfl, hp1, cl, T.f_pieces, by show 0 < 1000; decide, ?_⟩
    refine ⟨_, rfl, _, rfl, p, C, dx, _, rfl, hp2, cl, T.f_many, by show 1 < 1000; decide, ?_⟩
    rw [upd_upd]
    have nm := nm_normL g.len
    have mle := meas_normL g.len
    have sm := nm.small (B := 2000) (by omega)
    have gr : GL H1 m r (normL ps) := ⟨pl, nm.lenF, sm.2, lowP_normL g.low, bf_normL g.len hw, by have := sm.1; omega⟩
    refine q r _ (fun b o hb e => ?_) n1 ⟨⟨dx, upd_same⟩, gr.ins hp1⟩
    rw [upd_ne hb]
    exact s1 _ _ e
def sp_eq (C : Addr) : Sp := fun vs H Q _ => ∃ (a b : Addr) (m m' : Nat) (ps qs : List Pn), vs = [.ref a, .ref b] ∧ OT C H a m ps ∧ OT C H b m' qs ∧ Q (.bl (decide (m = m') && decide (ps = qs))) H
theorem m_OpenText___eq__ (T : Txt K mg C) : C8.Met P w K mg base 1 C "__eq__" (sp_eq C) [] := by
  refine metF T.k_OpenText T.d_OpenText___eq__ sc_OpenText___eq__ (fun vs H Q E h => ?_) (fun f cdv A outer s H vs Q E hr h => ?_)
  · obtain ⟨_, _, _, _, _, _, rfl, _⟩ := h; rfl
  · obtain ⟨a, b, m, m', ps, qs, rfl, ⟨l, ⟨dx, ha⟩, ga⟩, ⟨l', ⟨dy, hb⟩, gb⟩, q⟩ := h
    have cl := T.k_OpenText.ins.cl
    refine ⟨_, (pss_one (ps_ret (pe_and (pe_callB (call_isCL T.k_OpenText.ins T.t_OpenText) (by rfl) T.m_isinstance (by decide +kernel) (pa_cons (pv 1) (pa_cons (C8.pe_gc (v := .ref C) (by rfl) ⟨_, T.k_OpenText.mgC, rfl⟩) pa_nil))) (pe_and (pe_cmpR op_eq (pe_fld (pv 0) rfl) (pe_fld (pv 1) rfl) (nomark _)) (pe_one (pe_cmpR (op_eqD hr.units) (pe_fld (pv 0) rfl) (pe_fld (pv 1) rfl) (nomark _))))))), ?_⟩
    refine ⟨_, rfl, .inl ⟨b, dy, _, rfl, hb, _, rfl, iteT ?_⟩⟩
    refine ⟨_, rfl, a, C, dx, _, _, rfl, ha, cl, T.f_many, of_m l m, _, rfl, b, C, dy, _, _, rfl, hb, cl, T.f_many, of_m l' m', rfl, _, rfl, ?_⟩
    by_cases e : m = m'
    · subst e
      rw [decide_eq_true (rfl : m = m), Bool.true_and] at q
      rw [decide_eq_true (rfl : V.int (m : Nat) = V.int (m : Nat))]
      refine iteT ⟨_, rfl, a, C, dx, _, _, rfl, ha, cl, T.f_pieces, of_p l m, _, rfl, b, C, dy, _, _, rfl, hb, cl, T.f_pieces, of_p l' m, .list (ps.map dP), .list (qs.map dP), dp_PL ga.at_, dp_PL gb.at_, shaped_dPs ga.low, shaped_dPs gb.low, ?_⟩
      rw [eqv_dPs]
      exact q
    · rw [decide_eq_false e, Bool.false_and] at q
      rw [decide_eq_false (fun z => e (by have := V.int.inj z; omega))]
      exact iteF q
def sp_many (C : Addr) : Sp := fun vs H Q _ => ∃ (a : Addr) (m : Nat) (ps : List Pn), vs = [.ref a] ∧ OT C H a m ps ∧ Q (.int (m : Nat)) H
theorem m_OpenText_many (T : Txt K mg C) : C8.Met P w K mg base 1 C "many" (sp_many C) [] := by
  refine metF T.k_OpenText T.d_OpenText_many sc_OpenText_many (fun vs H Q E h => ?_) (fun f cdv A outer s H vs Q E hr h => ?_)
  · obtain ⟨_, _, _, rfl, _⟩ := h; rfl
  · obtain ⟨a, m, ps, rfl, ⟨l, ⟨dx, ha⟩, ga⟩, q⟩ := h
    refine ⟨_, (pss_one (ps_ret (pe_fld (pv 0) rfl))), ?_⟩
    exact ⟨_, rfl, a, C, dx, _, _, rfl, ha, T.k_OpenText.ins.cl, T.f_many, of_m l m, q⟩
def sp_pieces (C : Addr) : Sp := fun vs H Q _ => ∃ (a : Addr) (m : Nat) (ps : List Pn), vs = [.ref a] ∧ OT C H a m ps ∧ ∀ L H', Same H H' → H L = none → GL H' m L ps → Q (.ref L) H'
theorem m_OpenText_pieces (T : Txt K mg C) : C8.Met P w K mg base 1 C "pieces" (sp_pieces C) [] := by
  refine metF T.k_OpenText T.d_OpenText_pieces sc_OpenText_pieces (fun vs H Q E h => ?_) (fun f cdv A outer s H vs Q E hr h => ?_)
  · obtain ⟨_, _, _, rfl, _⟩ := h; rfl
  · obtain ⟨a, m, ps, rfl, ⟨l, ⟨dx, ha⟩, ga⟩, q⟩ := h
    obtain ⟨us, hus, pus⟩ := id ga.at_
    refine ⟨_, (pss_one (ps_ret (pe_callTy call_list_of (by rfl) T.m_list (by decide +kernel) (pa_cons (pe_fld (pv 0) rfl) pa_nil)))), ?_⟩
    refine ⟨_, rfl, a, C, dx, _, _, rfl, ha, T.k_OpenText.ins.cl, T.f_pieces, of_p l m, l, us, rfl, .inl (.inl (.inl hus)), fun L nL => q L _ (sameNew nL) nL ?_⟩
    exact ⟨⟨us, upd_same, pus.same (sameNew nL)⟩, ga.len, ga.ws, ga.low, ga.bf, ga.few⟩
end
end K23

set_option linter.all false
set_option maxRecDepth 100000
namespace NM
open WM
/-! ### what keeps two texts apart -/
theorem norm_iff {m : Nat} {a b : List Pn} (ha : LenF m a) (hb : LenF m b) : normL a = normL b ↔ ∀ pt, pt.length = m → wr pt a = wr pt b := by
  refine ⟨fun e pt _ => ?_, norm_same ha hb⟩
  rw [← wr_normL ha, e, wr_normL hb]
/-- two lists made of two texts: they write the same exactly where the texts do -/
theorem made_iff {m m' : Nat} {a b a' b' : List Pn} {Sp : List Nat → Prop} (hS : Rich m Sp) (ha : LenF m a) (hb : LenF m b) (ha' : LenF m' a') (hb' : LenF m' b')
    (h1 : (∀ pt, pt.length = m → wr pt a = wr pt b) → ∀ pt, pt.length = m' → wr pt a' = wr pt b') (h2 : (∀ pt, pt.length = m' → wr pt a' = wr pt b') → ∀ pt, Sp pt → wr pt a = wr pt b) : normL a' = normL b' ↔ normL a = normL b := by
  constructor
  · intro e
    refine uni hS (nm_normL ha) (nm_normL hb) fun pt sp => ?_
    rw [wr_normL ha, wr_normL hb]
    exact h2 ((norm_iff ha' hb').mp e) pt sp
  · intro e
    exact (norm_iff ha' hb').mpr (h1 ((norm_iff ha hb).mp e))
theorem lenF_app {m : Nat} {a b : List Pn} (ha : LenF m a) (hb : LenF m b) : LenF m (a ++ b) := fun p hp => (List.mem_append.mp hp).elim (ha p) (hb p)
theorem join_iff {m : Nat} {a b c : List Pn} (ha : LenF m a) (hb : LenF m b) (hc : LenF m c) : normL (a ++ c) = normL (b ++ c) ↔ normL a = normL b := by
  refine made_iff (rich_all m) ha hb (lenF_app ha hc) (lenF_app hb hc) (fun h pt hp => ?_) fun h pt hp => ?_
  · rw [wr_app, wr_app, h pt hp]
  · have := h pt hp
    rw [wr_app, wr_app] at this
    exact List.append_cancel_right this
theorem join_iff2 {m : Nat} {a b c : List Pn} (ha : LenF m a) (hb : LenF m b) (hc : LenF m c) : normL (c ++ a) = normL (c ++ b) ↔ normL a = normL b := by
  refine made_iff (rich_all m) ha hb (lenF_app hc ha) (lenF_app hc hb) (fun h pt hp => ?_) fun h pt hp => ?_
  · rw [wr_app, wr_app, h pt hp]
  · have := h pt hp
    rw [wr_app, wr_app] at this
    exact List.append_cancel_left this
def repP (t : Nat) (ps : List Pn) : List Pn := (List.replicate t ps).flatten
theorem mem_repP {ps : List Pn} : ∀ {t : Nat} {p : Pn}, p ∈ repP t ps → p ∈ ps
  | 0, _, h => by simp [repP] at h
  | t + 1, p, h => by
    unfold repP at h
    rw [List.replicate_succ, List.flatten_cons] at h
    exact (List.mem_append.mp h).elim id mem_repP
theorem wr_repP (pt : List Nat) (ps : List Pn) : ∀ t, wr pt (repP t ps) = pw (wr pt ps) t
  | 0 => rfl
  | t + 1 => by
    have := wr_repP pt ps t
    unfold repP at this ⊢
    rw [List.replicate_succ, List.flatten_cons, wr_app, this, pw_succ]
theorem pw_inj {a b : W} {t : Nat} (ht : 1 ≤ t) (h : pw a t = pw b t) : a = b := by
  obtain ⟨k, rfl⟩ : ∃ k, t = k + 1 := ⟨t - 1, by omega⟩
  have hl : a.length = b.length := by
    have := congrArg List.length h
    rw [pw_len, pw_len] at this
    exact Nat.eq_of_mul_eq_mul_right (by omega) this
  rw [pw_succ, pw_succ] at h
  exact (List.append_inj h hl).1
theorem rep_iff {m t : Nat} {a b : List Pn} (ht : 1 ≤ t) (ha : LenF m a) (hb : LenF m b) : normL (repP t a) = normL (repP t b) ↔ normL a = normL b := by
  refine made_iff (rich_all m) ha hb (fun p hp => ha p (mem_repP hp)) (fun p hp => hb p (mem_repP hp)) (fun h pt hp => ?_) fun h pt hp => ?_
  · rw [wr_repP, wr_repP, h pt hp]
  · have := h pt hp
    rw [wr_repP, wr_repP] at this
    exact pw_inj ht this
def mirP (ps : List Pn) : List Pn := ps.reverse.map fun p => (p.1.reverse, p.2)
theorem pw_rev (w : W) : ∀ k, pw w.reverse k = (pw w k).reverse
  | 0 => rfl
  | k + 1 => by
    have e : pw w (k + 1) = pw w k ++ w := by
      rw [pw_add w k 1, pw_one]
    rw [pw_succ, e, List.reverse_append, pw_rev w k]
theorem wr_mirP (pt : List Nat) : ∀ ps : List Pn, wr pt (mirP ps) = (wr pt ps).reverse
  | [] => rfl
  | p :: r => by
    have := wr_mirP pt r
    unfold mirP at this ⊢
    rw [List.reverse_cons, List.map_append, wr_app, this, wr, List.reverse_append, List.map_cons, List.map_nil, wr_one]
    congr 1
    unfold wrt
    rw [pw_rev]
theorem lenF_mir {m : Nat} {a : List Pn} (ha : LenF m a) : LenF m (mirP a) := fun p hp => by
  obtain ⟨q, hq, rfl⟩ := List.mem_map.mp hp
  exact ha q (List.mem_reverse.mp hq)
theorem mir_iff {m : Nat} {a b : List Pn} (ha : LenF m a) (hb : LenF m b) : normL (mirP a) = normL (mirP b) ↔ normL a = normL b := by
  refine made_iff (rich_all m) ha hb (lenF_mir ha) (lenF_mir hb) (fun h pt hp => ?_) fun h pt hp => ?_
  · rw [wr_mirP, wr_mirP, h pt hp]
  · have := h pt hp
    rw [wr_mirP, wr_mirP] at this
    exact List.reverse_inj.mp this
/-! ### letters replaced -/
def mapW (img : Nat → List Nat) (w : List Nat) : List Nat := (w.map img).flatten
def mapP (img : Nat → List Nat) (ps : List Pn) : List Pn := ps.map fun p => (mapW img p.1, p.2)
theorem mapW_app (img : Nat → List Nat) (a b : List Nat) : mapW img (a ++ b) = mapW img a ++ mapW img b := by
  unfold mapW
  rw [List.map_append, List.flatten_append]
theorem mapW_pw (img : Nat → List Nat) (w : List Nat) : ∀ k, mapW img (pw w k) = pw (mapW img w) k
  | 0 => rfl
  | k + 1 => by rw [pw_succ, pw_succ, mapW_app, mapW_pw img w k]
theorem wr_mapP (img : Nat → List Nat) (pt : List Nat) : ∀ ps : List Pn, wr pt (mapP img ps) = mapW img (wr pt ps)
  | [] => rfl
  | p :: r => by
    have := wr_mapP img pt r
    unfold mapP at this ⊢
    rw [List.map_cons, wr, wr, this, mapW_app]
    congr 1
    unfold wrt
    rw [mapW_pw]
theorem lenF_map {m : Nat} {a : List Pn} {img : Nat → List Nat} (ha : LenF m a) : LenF m (mapP img a) := fun p hp => by
  obtain ⟨q, hq, rfl⟩ := List.mem_map.mp hp
  exact ha q hq
/-- no word begins another one -/
structure Code (Lt : Nat → Prop) (img : Nat → List Nat) : Prop where
  ne : ∀ c, Lt c → img c ≠ []
  pre : ∀ c d, Lt c → Lt d → img c <+: img d → c = d
theorem Code.inj {Lt : Nat → Prop} {img : Nat → List Nat} (h : Code Lt img) : ∀ {a b : List Nat}, (∀ c ∈ a, Lt c) → (∀ c ∈ b, Lt c) → mapW img a = mapW img b → a = b
  | [], [], _, _, _ => rfl
  | [], d :: b, _, hb, e => by
    have e' : [] = img d ++ mapW img b := e
    exact absurd (List.append_eq_nil_iff.mp e'.symm).1 (h.ne d (hb d List.mem_cons_self))
  | c :: a, [], ha, _, e => by
    have e' : img c ++ mapW img a = [] := e
    exact absurd (List.append_eq_nil_iff.mp e').1 (h.ne c (ha c List.mem_cons_self))
  | c :: a, d :: b, ha, hb, e => by
    have e' : img c ++ mapW img a = img d ++ mapW img b := e
    have hc := ha c List.mem_cons_self
    have hd := hb d List.mem_cons_self
    have cd : c = d := by
      rcases List.append_eq_append_iff.mp e' with ⟨x, hx, _⟩ | ⟨x, hx, _⟩
      · exact h.pre c d hc hd ⟨x, hx.symm⟩
      · exact (h.pre d c hd hc ⟨x, hx.symm⟩).symm
    subst cd
    rw [h.inj (fun x hx => ha x (List.mem_cons_of_mem _ hx)) (fun x hx => hb x (List.mem_cons_of_mem _ hx)) (List.append_cancel_left e')]
theorem mem_pw {w : W} {c : Nat} : ∀ {k : Nat}, c ∈ pw w k → c ∈ w
  | 0, h => by simp [pw_zero] at h
  | k + 1, h => by
    rw [pw_succ] at h
    exact (List.mem_append.mp h).elim id mem_pw
theorem mem_wr {pt : List Nat} {c : Nat} : ∀ {ps : List Pn}, c ∈ wr pt ps → ∃ p ∈ ps, c ∈ p.1
  | [], h => by simp [wr] at h
  | p :: r, h => by
    rw [wr] at h
    rcases List.mem_append.mp h with z | z
    · exact ⟨p, List.mem_cons_self, mem_pw z⟩
    · obtain ⟨q, hq, hc⟩ := mem_wr z
      exact ⟨q, List.mem_cons_of_mem _ hq, hc⟩
theorem map_iff {m : Nat} {a b : List Pn} {Lt : Nat → Prop} {img : Nat → List Nat} (hc : Code Lt img) (la : ∀ p ∈ a, ∀ c ∈ p.1, Lt c) (lb : ∀ p ∈ b, ∀ c ∈ p.1, Lt c) (ha : LenF m a) (hb : LenF m b) :
    normL (mapP img (normL a)) = normL (mapP img (normL b)) ↔ normL a = normL b := by
  have na := (nm_normL ha).lenF
  have nb := (nm_normL hb).lenF
  refine made_iff (rich_all m) ha hb (lenF_map na) (lenF_map nb) (fun h pt hp => ?_) fun h pt hp => ?_
  · rw [wr_mapP, wr_mapP, wr_normL ha, wr_normL hb, h pt hp]
  · have e := h pt hp
    rw [wr_mapP, wr_mapP, wr_normL ha, wr_normL hb] at e
    refine hc.inj (fun c hm => ?_) (fun c hm => ?_) e
    · obtain ⟨p, hp, hcp⟩ := mem_wr hm
      exact la p hp c hcp
    · obtain ⟨p, hp, hcp⟩ := mem_wr hm
      exact lb p hp c hcp
/-! ### unknowns replaced -/
theorem rich_mul {m t b : Nat} {Sp : List Nat → Prop} (ht : 1 ≤ t) (h : ∀ pt : List Nat, pt.length = m → (∀ x ∈ pt, b ≤ x ∧ t ∣ x) → Sp pt) : Rich m Sp := by
  have ge : ∀ N, N + b ≤ t * (N + b) := fun N => Nat.le_mul_of_pos_left _ ht
  refine rich_of (fun N => ⟨List.replicate m (t * (N + b)), h _ (by simp) fun x hx => ?_, by simp, fun x hx => ?_⟩) fun N => ⟨t * (N + b), fun j K hj => ⟨(List.replicate m (t * (N + b))).set j (t * (N + b + K)), h _ (by simp) fun x hx => ?_, ⟨by simp, fun x hx => ?_⟩, fun i z hi hz => ?_, t * (N + b + K), ?_, ?_⟩⟩
  · rw [List.eq_of_mem_replicate hx]
    have := ge N
    exact ⟨by omega, Nat.dvd_mul_right _ _⟩
  · rw [List.eq_of_mem_replicate hx]
    have := ge N
    omega
  · rcases List.mem_or_eq_of_mem_set hx with w | w
    · rw [List.eq_of_mem_replicate w]
      have := ge N
      exact ⟨by omega, Nat.dvd_mul_right _ _⟩
    · rw [w]
      have := ge (N + K)
      rw [Nat.add_right_comm] at this
      exact ⟨by omega, Nat.dvd_mul_right _ _⟩
  · have g1 := ge N
    have g2 := ge (N + K)
    rw [Nat.add_right_comm] at g2
    rcases List.mem_or_eq_of_mem_set hx with w | w
    · rw [List.eq_of_mem_replicate w]; omega
    · rw [w]; omega
  · rw [List.getElem?_set_ne (Ne.symm hi)] at hz
    have := List.mem_of_getElem? hz
    rw [List.eq_of_mem_replicate this]
    exact Nat.le_refl _
  · rw [List.getElem?_set_self (by simpa using hj)]
  · have g2 := ge (N + K)
    rw [Nat.add_right_comm] at g2
    omega
end NM

set_option Elab.async false
set_option linter.all false
set_option maxRecDepth 100000
set_option maxHeartbeats 2000000
namespace K23
open PySem PySem.Spec PyProof.Rows L2 CK SX NM
/-! ### lists of pieces and of forms in the heap -/
theorem mk_text {C : Addr} {Hc : Hp} {x dx l : Addr} {m : Nat} {ps : List Pn} {R : V → Hp → Prop} {E : XK} (nx : Hc x = none) (ndx : Hc dx = none) (nex : dx ≠ x) (gl : GL Hc m l ps) (m3 : m ≤ 3) (hme : meas ps ≤ 2000) (hw : Wl m ps)
    (q : ∀ r H', Same Hc H' → Hc r = none → OTl C H' x r m (normL ps) → R .non H') : sp_init C [.ref x, .int (m : Nat), .ref l] (upd (upd Hc dx (.own x)) x (.ins C dx [])) R E := by
  have s0 : Same Hc (upd (upd Hc dx (.own x)) x (.ins C dx [])) := fun b o e => by
    rw [upd_ne (ne_of_none e nx), upd_ne (ne_of_none e ndx)]
    exact e
  refine ⟨x, dx, l, m, ps, rfl, upd_same, m3, gl.same s0, hme, hw, fun r H1 s1 n1 ot => q r H1 (fun b o e => ?_) (s0.free n1) ot⟩
  exact s1 _ _ (fun z => by rw [z, nx] at e; cases e) (s0 _ _ e)
theorem OF_no (l : Addr) (m : Nat) : ((OF l m).lookup ("pieces" : Str) = none) ∧ ((OF l m).lookup ("many" : Str) = none) :=
  ⟨of_no l m (by decide +kernel) (by decide +kernel), of_no l m (by decide +kernel) (by decide +kernel)⟩
theorem GL.dpP {K : PySem.W.Frag} {H : Hp} {m : Nat} {l : Addr} {ps : List Pn} (h : GL H m l ps) : Dp K H (.ref l) (.list (ps.map dP)) := dp_PL h.at_
theorem Pcs.rev {H : Hp} {vs : List V} {ps : List Pn} (h : Pcs H vs ps) : Pcs H vs.reverse ps.reverse := by
  induction h with
  | nil => exact .nil
  | cons e _ ih =>
    rw [List.reverse_cons, List.reverse_cons]
    exact ih.app (.one e)
theorem Pcs.rep {H : Hp} {vs : List V} {ps : List Pn} (h : Pcs H vs ps) : ∀ t, Pcs H (List.replicate t vs).flatten (List.replicate t ps).flatten
  | 0 => .nil
  | t + 1 => by
    rw [List.replicate_succ, List.replicate_succ, List.flatten_cons, List.flatten_cons]
    exact h.app (h.rep t)
theorem rep_mem {α : Type} {ps : List α} : ∀ {t : Nat} {p : α}, p ∈ (List.replicate t ps).flatten → p ∈ ps
  | 0, _, h => by simp at h
  | t + 1, p, h => by
    rw [List.replicate_succ, List.flatten_cons] at h
    exact (List.mem_append.mp h).elim id rep_mem
theorem len_repP (t : Nat) (ps : List Pn) : (repP t ps).length = t * ps.length := by simp [repP]
theorem meas_repP (ps : List Pn) : ∀ t, meas (repP t ps) = meas ps * t
  | 0 => rfl
  | t + 1 => by
    have := meas_repP ps t
    unfold repP at this ⊢
    rw [List.replicate_succ, List.flatten_cons, meas_app, this, Nat.mul_succ, Nat.add_comm]
theorem meas_mirP (ps : List Pn) : meas (mirP ps) = meas ps := by
  unfold mirP meas
  rw [List.map_map, ← List.sum_reverse (ps.map measP), ← List.map_reverse]
  congr 1
  refine List.map_congr_left fun p _ => ?_
  show measP (p.1.reverse, p.2) = measP p
  unfold measP
  rw [List.length_reverse]
/-- forms in the heap -/
inductive Fs (H : Hp) : List V → List F → Prop
  | nil : Fs H [] []
  | cons {a : Addr} {vs : List V} {f : F} {fs : List F} : FT H a f → Fs H vs fs → Fs H (.ref a :: vs) (f :: fs)
theorem Fs.mono {H H' : Hp} {vs : List V} {fs : List F} (h : Fs H vs fs) (s : ∀ a xs, H a = some (.tup xs) → H' a = some (.tup xs)) : Fs H' vs fs := by
  induction h with
  | nil => exact .nil
  | cons e _ ih => exact .cons (s _ _ e) ih
theorem Fs.same {H H' : Hp} {vs : List V} {fs : List F} (h : Fs H vs fs) (s : Same H H') : Fs H' vs fs := h.mono (tup_same s)
theorem Fs.len {H : Hp} {vs : List V} {fs : List F} (h : Fs H vs fs) : vs.length = fs.length := by
  induction h with
  | nil => rfl
  | cons _ _ ih => simp [ih]
theorem Fs.get {H : Hp} {vs : List V} {fs : List F} (h : Fs H vs fs) {i : Nat} {v : V} (hi : vs[i]? = some v) : ∃ a f, v = .ref a ∧ fs[i]? = some f ∧ FT H a f := by
  induction h generalizing i with
  | nil => simp at hi
  | cons e _ ih =>
    cases i with
    | zero =>
      cases hi
      exact ⟨_, _, rfl, rfl, e⟩
    | succ i => exact ih hi
theorem Fs.app {H : Hp} {vs us : List V} {fs gs : List F} (h : Fs H vs fs) (g : Fs H us gs) : Fs H (vs ++ us) (fs ++ gs) := by
  induction h with
  | nil => exact g
  | cons e _ ih => exact .cons e ih
theorem Fs.set {H : Hp} {vs : List V} {fs : List F} (h : Fs H vs fs) {i : Nat} {a : Addr} {f : F} (e : FT H a f) : Fs H (vs.set i (.ref a)) (fs.set i f) := by
  induction h generalizing i with
  | nil => exact .nil
  | cons e' h ih =>
    cases i with
    | zero => exact .cons e h
    | succ i => exact .cons e' ih
def FL (H : Hp) (l : Addr) (fs : List F) : Prop := ∃ vs, H l = some (.lst vs) ∧ Fs H vs fs
theorem FL.same {H H' : Hp} {l : Addr} {fs : List F} (h : FL H l fs) (s : Same H H') : FL H' l fs := by
  obtain ⟨vs, e, p⟩ := h
  exact ⟨vs, s _ _ e, p.same s⟩
/-! ### forms put into a form -/
def insF (m : Nat) (f : F) (gs : List F) : F := (f.tail.zip gs).foldl (fun acc p => addF acc (timesF p.1 p.2)) (f.headD 0 :: List.replicate m 0)
theorem len_timesF (k : Nat) (f : F) : (timesF k f).length = f.length := by simp [timesF]
theorem len_ins {m : Nat} : ∀ (zs : List (Nat × F)) (acc : F), acc.length = m + 1 → (∀ z ∈ zs, z.2.length = m + 1) → (zs.foldl (fun acc p => addF acc (timesF p.1 p.2)) acc).length = m + 1
  | [], acc, h, _ => h
  | z :: zs, acc, h, hz => by
    have hz0 := hz z List.mem_cons_self
    refine len_ins zs _ ?_ fun y hy => hz y (List.mem_cons_of_mem _ hy)
    have e : acc.length = (timesF z.1 z.2).length := by rw [len_timesF, h, hz0]
    rw [len_add e, len_timesF, hz0]
theorem val_ins {m : Nat} (pt : List Nat) : ∀ (zs : List (Nat × F)) (acc : F), acc.length = m + 1 → (∀ z ∈ zs, z.2.length = m + 1) →
    valF (zs.foldl (fun acc p => addF acc (timesF p.1 p.2)) acc) pt = valF acc pt + (zs.map fun z => z.1 * valF z.2 pt).sum
  | [], acc, _, _ => by simp
  | z :: zs, acc, h, hz => by
    have hz0 := hz z List.mem_cons_self
    have e : acc.length = (timesF z.1 z.2).length := by rw [len_timesF, h, hz0]
    rw [List.foldl_cons, val_ins pt zs _ (by rw [len_add e, len_timesF, hz0]) fun y hy => hz y (List.mem_cons_of_mem _ hy), val_add pt e, val_times, List.map_cons, List.sum_cons]
    omega
theorem dot_zip (pt : List Nat) : ∀ (f : List Nat) (gs : List F), dot f (gs.map fun g => valF g pt) = ((f.zip gs).map fun z => z.1 * valF z.2 pt).sum
  | [], _ => by simp [dot]
  | _ :: _, [] => by simp [dot]
  | a :: f, g :: gs => by
    rw [List.map_cons, dot, dot_zip pt f gs, List.zip_cons_cons, List.map_cons, List.sum_cons]
theorem zip_mem {m : Nat} {f : List Nat} {gs : List F} (h : ∀ g ∈ gs, g.length = m + 1) : ∀ z ∈ f.zip gs, z.2.length = m + 1 := fun z hz => h _ (List.of_mem_zip hz).2
/-- at a point: the form at the values of the forms -/
theorem val_insF {m : Nat} {f : F} {gs : List F} (h : ∀ g ∈ gs, g.length = m + 1) (pt : List Nat) : valF (insF m f gs) pt = valF f (gs.map fun g => valF g pt) := by
  unfold insF
  rw [val_ins pt _ _ (by simp) (zip_mem h)]
  have e : valF (f.headD 0 :: List.replicate m 0) pt = f.headD 0 := by
    unfold valF
    show f.headD 0 + dot (List.replicate m 0) pt = _
    rw [dot_zero, Nat.add_zero]
  rw [e, ← dot_zip]
  rfl
theorem len_insF {m : Nat} {f : F} {gs : List F} (h : ∀ g ∈ gs, g.length = m + 1) : (insF m f gs).length = m + 1 := len_ins _ _ (by simp) (zip_mem h)
def repl (m : Nat) (gs : List F) (ps : List Pn) : List Pn := ps.map fun p => (p.1, insF m p.2 gs)
theorem wr_repl {m : Nat} {gs : List F} (h : ∀ g ∈ gs, g.length = m + 1) (pt : List Nat) : ∀ ps : List Pn, wr pt (repl m gs ps) = wr (gs.map fun g => valF g pt) ps
  | [] => rfl
  | p :: r => by
    have := wr_repl h pt r
    unfold repl at this ⊢
    rw [List.map_cons, wr, wr, this]
    congr 1
    unfold wrt
    rw [val_insF h]
end K23

set_option Elab.async false
set_option linter.all false
set_option maxRecDepth 100000
set_option maxHeartbeats 4000000
namespace K23
open PySem PySem.Spec PyProof.Rows L2 CK SX NM
theorem ws_mega {qs : List Pn} (h : Ws 2000 qs) : Ws 1000000 qs := fun p hp => by have := h p hp; omega
theorem GL.app {H : Hp} {m : Nat} {l l' L : Addr} {ps qs : List Pn} {us vs : List V} (g : GL H m l ps) (g' : GL H m l' qs) (hp : Pcs H us ps) (hq : Pcs H vs qs) (e : H L = some (.lst (us ++ vs))) (few : ps.length + qs.length ≤ 5000) : GL H m L (ps ++ qs) := by
  refine ⟨⟨_, e, hp.app hq⟩, fun p h => ?_, fun p h => ?_, fun p h => ?_, fun p h => ?_, by rw [List.length_append]; exact few⟩
  · exact (List.mem_append.mp h).elim (g.len p) (g'.len p)
  · exact (List.mem_append.mp h).elim (g.ws p) (g'.ws p)
  · exact (List.mem_append.mp h).elim (g.low p) (g'.low p)
  · exact (List.mem_append.mp h).elim (g.bf p) (g'.bf p)
section
variable {P : Program} {w : World} {K : PySem.W.Frag} {mg : Str → Option Value} {base : Heap} {C : Addr}
def sp_need_text (C : Addr) : Sp := fun vs H Q _ => ∃ (a : Addr) (m : Nat) (ps : List Pn), vs = [.ref a] ∧ OT C H a m ps ∧ Q .non H
theorem c_need_text (T : Txt K mg C) : C8.Cal P w K mg base 1 "need_text" (sp_need_text C) [] := by
  refine calF T.d_need_text sc_need_text (fun vs H Q E h => ?_) (fun f cdv A outer s H vs Q E hr h => ?_)
  · obtain ⟨_, _, _, rfl, _⟩ := h; rfl
  · obtain ⟨a, m, ps, rfl, ⟨l, ⟨dx, ha⟩, ga⟩, q⟩ := h
    refine ⟨_, (pss_one (ps_if (pt_not (pt_val (pe_callB (C8.call_isC T.k_OpenText.ins) (by rfl) T.m_isinstance (by decide +kernel) (pa_cons (pv 0) (pa_cons (C8.pe_gc (v := .ref C) (by rfl) ⟨_, T.k_OpenText.mgC, rfl⟩) pa_nil)))))
    (pss_one ps_never)
    pss_nil)), ?_⟩
    exact ⟨_, rfl, a, dx, _, rfl, ha, _, rfl, iteF q⟩
def sp_need_count : Sp := fun vs H Q _ => ∃ (n : Nat), vs = [.int n] ∧ Q .non H
theorem c_need_count (T : Txt K mg C) : C8.Cal P w K mg base 3 "need_count" sp_need_count [] := by
  refine calF T.d_need_count sc_need_count (fun vs H Q E h => ?_) (fun f cdv A outer s H vs Q E hr h => ?_)
  · obtain ⟨_, rfl, _⟩ := h; rfl
  · obtain ⟨n, rfl, q⟩ := h
    refine ⟨_, (pss_one (ps_if (pt_not (pt_val (C8.pe_c (c_is_count T) hr (by decide) (by rfl) (pa_cons (pv 0) pa_nil))))
    (pss_one ps_never)
    pss_nil)), ?_⟩
    refine ⟨_, rfl, .int n, rfl, .int _, _, rfl, ?_⟩
    rw [show isC (.int (n : Nat)) = true from (decide_eq_true (by omega) : decide ((0 : Int) ≤ (n : Nat)) = true)]
    exact iteF q
def sp_text_of (C : Addr) : Sp := fun vs H Q _ => ∃ (l : Addr) (m : Nat) (ps : List Pn), vs = [.int m, .ref l] ∧ m ≤ 3 ∧ GL H m l ps ∧ meas ps ≤ 2000 ∧ Wl m ps ∧ ∀ x H', Same H H' → OT C H' x m (normL ps) → Q (.ref x) H'
theorem c_text_of (T : Txt K mg C) : C8.Cal P w K mg base 9 "text_of" (sp_text_of C) [] := by
  refine calF T.d_text_of sc_text_of (fun vs H Q E h => ?_) (fun f cdv A outer s H vs Q E hr h => ?_)
  · obtain ⟨_, _, _, rfl, _⟩ := h; rfl
  · obtain ⟨l, m, ps, rfl, m3, g, hme, hw, q⟩ := h
    have few := g.few
    refine ⟨_, (pss_cons (ps_expr (C8.pe_c (c_need_measure T) hr (by decide) (by rfl) (pa_cons (C8.pe_c (c_measure T) hr (by decide) (by rfl) (pa_cons (pv 1) pa_nil)) pa_nil)))
    (pss_one (ps_ret (C8.pe_mk (n_OpenText T) hr (by decide) (by rfl) (pa_cons (pv 0) (pa_cons (pv 1) pa_nil)))))), ?_⟩
    refine ⟨_, rfl, l, ps, m, rfl, g.at_, g.len, ws_mega g.ws, g.bf, by omega, fun H1 s1 => ⟨meas ps, rfl, hme, ?_⟩⟩
    refine ⟨_, rfl, _, rfl, fun x dx nx ndx nex => mk_text nx ndx nex (g.same s1) m3 hme hw fun r H2 s2 nr ot => ⟨rfl, q x H2 (s1.trans s2) ⟨r, ot⟩⟩⟩
end
end K23

set_option Elab.async false
set_option linter.all false
set_option maxRecDepth 100000
set_option maxHeartbeats 4000000
namespace K23
open PySem PySem.Spec PyProof.Rows L2 CK SX NM
theorem mem_mirP {ps : List Pn} {p : Pn} (h : p ∈ mirP ps) : ∃ q ∈ ps, p = (q.1.reverse, q.2) := by
  obtain ⟨q, hq, e⟩ := List.mem_map.mp h
  exact ⟨q, List.mem_reverse.mp hq, e.symm⟩
theorem GL.mir {H : Hp} {m : Nat} {l L : Addr} {ps : List Pn} (g : GL H m l ps) {H' : Hp} (h : PL H' L (mirP ps)) : GL H' m L (mirP ps) := by
  refine ⟨h, fun p hp => ?_, fun p hp => ?_, fun p hp => ?_, fun p hp => ?_, by unfold mirP; rw [List.length_map, List.length_reverse]; exact g.few⟩
  · obtain ⟨q, hq, rfl⟩ := mem_mirP hp
    exact g.len q hq
  · obtain ⟨q, hq, rfl⟩ := mem_mirP hp
    show q.1.reverse.length ≤ 2000
    rw [List.length_reverse]
    exact g.ws q hq
  · obtain ⟨q, hq, rfl⟩ := mem_mirP hp
    exact fun c hc => g.low q hq c (List.mem_reverse.mp hc)
  · obtain ⟨q, hq, rfl⟩ := mem_mirP hp
    exact g.bf q hq
def unitF (n m : Nat) : F := 0 :: (List.replicate n 0 ++ 1 :: List.replicate (m - n - 1) 0)
theorem len_unitF {n m : Nat} (h : n < m) : (unitF n m).length = m + 1 := by
  unfold unitF
  simp
  omega
theorem dot_app : ∀ (a b pt qt : List Nat), a.length = pt.length → dot (a ++ b) (pt ++ qt) = dot a pt + dot b qt
  | [], b, [], qt, _ => by simp [dot]
  | x :: a, b, y :: pt, qt, h => by
    rw [List.cons_append, List.cons_append, dot, dot, dot_app a b pt qt (by simpa using h)]
    omega
  | [], _, _ :: _, _, h => by simp at h
  | _ :: _, _, [], _, h => by simp at h
theorem val_unit {n m y : Nat} {pt : List Nat} (c : Nat) (hp : pt.length = m) (hy : pt[n]? = some y) : valF (c :: (unitF n m).tail) pt = c + y := by
  obtain ⟨hn, e⟩ := List.getElem?_eq_some_iff.mp hy
  have sp : pt = pt.take n ++ y :: pt.drop (n + 1) := by
    conv => lhs; rw [← List.take_append_drop n pt, ← List.getElem_cons_drop hn, e]
  unfold valF unitF
  show c + dot (List.replicate n 0 ++ 1 :: List.replicate (m - n - 1) 0) pt = c + y
  conv => lhs; rw [sp]
  rw [dot_app _ _ _ _ (by rw [List.length_replicate, List.length_take]; omega), dot_zero, dot, dot_zero]
  omega
def unitsF (m : Nat) : List F := (List.range m).map fun n => unitF n m
def laterG (at_ by_ m : Nat) : List F := (unitsF m).set at_ (by_ :: (unitF at_ m).tail)
theorem len_laterG {at_ by_ m : Nat} : ∀ g ∈ laterG at_ by_ m, g.length = m + 1 := fun g hg => by
  rcases List.mem_or_eq_of_mem_set hg with z | z
  · obtain ⟨n, hn, rfl⟩ := List.mem_map.mp z
    exact len_unitF (List.mem_range.mp hn)
  · rw [z]
    by_cases h : at_ < m
    · have := len_unitF h
      rw [List.length_cons, List.length_tail, this]
      rfl
    · have e : (unitsF m).set at_ (by_ :: (unitF at_ m).tail) = unitsF m := List.set_eq_of_length_le (by simp [unitsF]; omega)
      unfold laterG at hg
      rw [e, z] at hg
      obtain ⟨n, hn, e2⟩ := List.mem_map.mp hg
      rw [← e2]
      exact len_unitF (List.mem_range.mp hn)
/-- what the forms of `later` are at a point -/
theorem val_laterG {at_ by_ m : Nat} {pt : List Nat} (hp : pt.length = m) (ha : at_ < m) : (laterG at_ by_ m).map (fun g => valF g pt) = pt.set at_ (pt.getD at_ 0 + by_) := by
  refine List.ext_getElem? fun i => ?_
  unfold laterG unitsF
  by_cases hi : i < m
  · have hy : pt[i]? = some pt[i] := List.getElem?_eq_getElem (by omega)
    rw [List.getElem?_map]
    by_cases e : at_ = i
    · subst e
      rw [List.getElem?_set_self (by simp; omega), List.getElem?_set_self (by omega)]
      show some (valF (by_ :: (unitF at_ m).tail) pt) = _
      rw [val_unit by_ hp hy, List.getD_eq_getElem?_getD, hy]
      show some (by_ + pt[at_]) = some (pt[at_] + by_)
      rw [Nat.add_comm]
    · rw [List.getElem?_set_ne e, List.getElem?_set_ne e, List.getElem?_map, List.getElem?_range hi, hy]
      show some (valF (unitF i m) pt) = _
      have : unitF i m = 0 :: (unitF i m).tail := rfl
      rw [this, val_unit 0 hp hy, Nat.zero_add]
  · rw [List.getElem?_eq_none (by simp; omega), List.getElem?_eq_none (by simp; omega)]
section
variable {P : Program} {w : World} {K : PySem.W.Frag} {mg : Str → Option Value} {base : Heap} {C : Addr}
def sp_plain_form : Sp := fun vs H Q _ => ∃ (m k : Nat), vs = [.int k, .int m] ∧ m ≤ 3 ∧ ∀ p H', Same H H' → FT H' p (k :: List.replicate m 0) → Q (.ref p) H'
theorem c_plain_form (T : Txt K mg C) : C8.Cal P w K mg base 1 "plain_form" sp_plain_form [] := by
  refine calF T.d_plain_form sc_plain_form (fun vs H Q E h => ?_) (fun f cdv A outer s H vs Q E hr h => ?_)
  · obtain ⟨_, _, rfl, _⟩ := h; rfl
  · obtain ⟨m, k, rfl, hm, q⟩ := h
    refine ⟨_, (pss_one (ps_ret (pe_op op_catS (pe_tup (pa_cons (pv 0) pa_nil)) (pe_op op_repOne (pe_tup (pa_cons pe_int pa_nil)) (pv 1))))), ?_⟩
    refine ⟨_, rfl, by show 1 ≤ sizeLine; decide, fun t1 n1 => ⟨by decide, fun t2 n2 => ⟨_, rfl, t2, _, _, rfl, rfl, upd_same, by omega, by omega, fun p H' s hp => ?_⟩⟩⟩
    have e1 : H' t1 = some (.tup [.int k]) := s _ _ (by rw [upd_ne (ne_of_none upd_same n2)]; exact upd_same)
    refine ⟨t1, p, _, _, rfl, rfl, e1, hp, by simp; omega, fun p2 H2 s2 h2 => q p2 H2 (((sameNew n1).trans (sameNew n2)).trans (s.trans s2)) ?_⟩
    unfold FT
    rw [h2]
    simp
def sp_inserted : Sp := fun vs H Q _ => ∃ (fa l : Addr) (m : Nat) (f : F) (gs : List F), vs = [.ref fa, .int m, .ref l] ∧ FT H fa f ∧ FL H l gs ∧ m ≤ 3 ∧ f.length = gs.length + 1 ∧ gs.length ≤ 3 ∧ (∀ g ∈ gs, g.length = m + 1) ∧ Bf f ∧ (∀ g ∈ gs, Bf g) ∧ ∀ p H', Same H H' → FT H' p (insF m f gs) → Q (.ref p) H'
theorem c_form_inserted (T : Txt K mg C) : C8.Cal P w K mg base 2 "form_inserted" sp_inserted [] := by
  refine calF T.d_form_inserted sc_form_inserted (fun vs H Q E h => ?_) (fun f cdv A outer s H vs Q E hr h => ?_)
  · obtain ⟨_, _, _, _, _, rfl, _⟩ := h; rfl
  · obtain ⟨fa, l, m, f, gs, rfl, hf, ⟨us, hl, hg⟩, m3, lf, lg3, lg, bf, bg, q⟩ := h
    have lu := hg.len
    refine ⟨_, (pss_cons (ps_set (i := 3) sc_form_inserted.nd rfl (Or.inl rfl) (C8.pe_c (c_plain_form T) hr (by decide) (by rfl) (pa_cons (pe_ix ix_tup (pv 0) pe_int (fun _ _ => rfl)) (pa_cons (pv 1) pa_nil))))
    (pss_cons (ps_for PassesOwn.never rfl (pi_zipB (K := K) rfl (by rfl) T.m_zip (pa_cons (pe_slice sl_drop (pv 0) (po_some pe_int) po_none) (pa_cons (pv 2) pa_nil))) (pg_two (K := K) (i := 4) (j := 5) rfl rfl sc_form_inserted.nd rfl rfl (Or.inl rfl) (Or.inl rfl))
    (pss_one (ps_set (i := 3) sc_form_inserted.nd rfl (Or.inl rfl) (C8.pe_c (c_form_sum T) hr (by decide) (by rfl) (pa_cons (pv 3) (pa_cons (C8.pe_c (c_form_times T) hr (by decide) (by rfl) (pa_cons (pv 4) (pa_cons (pv 5) pa_nil))) pa_nil))))))
    (pss_one (ps_ret (pv 3))))), ?_⟩
    obtain ⟨c, t, rfl⟩ : ∃ c t, f = c :: t := by
      cases f with
      | nil => simp at lf
      | cons c t => exact ⟨c, t, rfl⟩
    have lt : t.length = gs.length := by simpa using lf
    refine ⟨_, rfl, fa, _, 0, _, rfl, rfl, .inl (.inl hf), atI_nat (j := 0) rfl, _, rfl, m, c, rfl, m3, fun p1 H1 s1 h1 => ?_⟩
    refine ⟨_, rfl, 1, rfl, fa, _, 1, rfl, rfl, rfl, s1 _ _ hf, fun p2 H2 s2 h2 => ?_⟩
    have h2' : H2 p2 = some (.tup (natsV t)) := h2
    have s12 := s1.trans s2
    refine ⟨_, rfl, .T, .L, p2, l, natsV t, us, rfl, .inl (.inl h2'), .inl (.inl (s12 _ _ hl)), ?_⟩
    refine for_it (walkB (K := K) (k := .T) (k' := .L) (a := p2) (b := l) (xs := natsV t) (ys := us) (by rw [natsV_len]; omega)) (fun i σ H' => Same H2 H' ∧ ∃ (p : Addr) (y4 y5 : Option V), σ = [some (.ref fa), some (.int (m : Nat)), some (.ref l), some (.ref p), y4, y5] ∧ FT H' p (((t.zip gs).take i).foldl (fun acc p => addF acc (timesF p.1 p.2)) (c :: List.replicate m 0)))
      ⟨Same.refl _, p1, none, none, rfl, h1.same s2⟩ (fun i σ H' _ p => ⟨.inl (.inl (p.1 _ _ h2')), .inl (.inl (p.1 _ _ (s12 _ _ hl)))⟩) (fun i x σ H3 H4 hi pI yy => ?_) (fun σ H3 pI => ?_)
    · obtain ⟨s3, p, y4, y5, rfl, hp⟩ := pI
      obtain ⟨tt, x, y, rfl, ht, rfl, hx, hy⟩ := yy
      have hx : (natsV t)[i]? = some x := hx
      have hy : us[i]? = some y := hy
      obtain ⟨k, mk, hk, rfl⟩ := get_nat hx
      obtain ⟨b, g, rfl, hgi, hgb⟩ := hg.get hy
      have memg := List.mem_of_getElem? hgi
      have st := sameNew (o := .tup [.int (k : Nat), .ref b]) ht
      have s3t := s3.trans st
      refine ⟨tt, [.int (k : Nat), .ref b], rfl, .inl (.inl upd_same), rfl, .int (k : Nat), [.ref b], rfl, .ref b, [], rfl, rfl, ?_⟩
      have hz : (t.zip gs)[i]? = some (k, g) := by
        rw [List.getElem?_zip_eq_some]
        exact ⟨hk, hgi⟩
      have e : ((t.zip gs).take (i + 1)).foldl (fun acc p => addF acc (timesF p.1 p.2)) (c :: List.replicate m 0) = addF (((t.zip gs).take i).foldl (fun acc p => addF acc (timesF p.1 p.2)) (c :: List.replicate m 0)) (timesF k g) := by
        rw [List.take_succ, hz, List.foldl_append]
        rfl
      have la : (((t.zip gs).take i).foldl (fun acc p => addF acc (timesF p.1 p.2)) (c :: List.replicate m 0)).length = m + 1 := len_ins _ _ (by simp) fun z hz => zip_mem lg z (List.mem_of_mem_take hz)
      rw [e]
      generalize ((t.zip gs).take i).foldl (fun acc p => addF acc (timesF p.1 p.2)) (c :: List.replicate m 0) = acc at hp la
      have lgm := lg g memg
      refine ⟨_, rfl, _, rfl, _, rfl, k, b, g, rfl, ((hgb.same s12).same s3t), by omega, bf k (List.mem_cons_of_mem _ mk), bg g memg, fun p4 H4 s4 h4 => ?_⟩
      exact ⟨p, p4, acc, timesF k g, rfl, (hp.same st).same s4, h4, by omega, by rw [len_timesF]; omega, fun p5 H5 s5 h5 => ⟨(s3t.trans s4).trans s5, p5, _, _, rfl, h5⟩⟩
    · obtain ⟨s3, p, y4, y5, rfl, hp⟩ := pI
      refine ⟨_, rfl, q p _ (s12.trans s3) ?_⟩
      rw [natsV_len, lt] at hp
      have : (t.zip gs).take gs.length = t.zip gs := List.take_of_length_le (by rw [List.length_zip]; omega)
      rw [this] at hp
      exact hp
def sp_is_forms : Sp := fun vs H Q _ => ∃ (l : Addr) (k m : Nat) (gs : List F), vs = [.ref l, .int k, .int m] ∧ FL H l gs ∧ gs.length = k ∧ k ≤ 3 ∧ m ≤ 3 ∧ (∀ g ∈ gs, g.length = m + 1) ∧ ∀ H', Same H H' → Q (.bl true) H'
theorem c_is_forms (T : Txt K mg C) : C8.Cal P w K mg base 4 "is_forms" sp_is_forms [] := by
  refine calF T.d_is_forms sc_is_forms (fun vs H Q E h => ?_) (fun f cdv A outer s H vs Q E hr h => ?_)
  · obtain ⟨_, _, _, _, rfl, _⟩ := h; rfl
  · obtain ⟨l, k, m, gs, rfl, ⟨us, hl, hg⟩, lk, k3, m3, lg, q⟩ := h
    have lu := hg.len
    have kn : Kn H (.ref l) := .lst hl
    refine ⟨_, (pss_cons (ps_if (PW.pt (pw_or (pt_not (pt_val (pe_callB call_isK (by rfl) T.m_isinstance (by decide +kernel) (pa_cons (pv 0) (pa_cons (pe_bltn (v := .ty "list") (by rfl) T.m_list (by decide +kernel) rfl) pa_nil))))) (pw_or1 (pt_cmpR op_ne (pe_callB call_len_seq (by rfl) T.m_len (by decide +kernel) (pa_cons (pv 0) pa_nil)) (pv 1) (nomark _)))))
    (pss_one (ps_ret pe_bl))
    pss_nil)
    (pss_one (ps_ret (pe_callB (cr_all rfl) (by rfl) T.m_all (by decide +kernel) (pa_cons (pe_lc (own := [("form", 3)]) (by rfl) sc_is_forms.nd (pi_list (pv 0)) (blkOk_by (N := ["value", "size", "many", "form"]) (sc := C8.fnScope (topS 23)) (own := [("form", 3)]) (by decide +kernel)) (fun _ _ _ _ _ => (pg_name (i := 3) sc_is_forms.nd rfl (Or.inl rfl))) (fun _ _ _ _ _ => pts_nil) (fun _ _ _ _ _ => (C8.pe_c (c_is_form_for T) hr (by decide) (by rfl) (pa_cons (pv 2) (pa_cons (pv 3) pa_nil))))) pa_nil))))), ?_⟩
    refine ⟨_, rfl, .ref l, "list", _, rfl, kn, kit_list kn, _, rfl, ?_⟩
    rw [isLi_lst hl]
    refine iteF ⟨_, rfl, l, _, rfl, .inl (.inl (.inl hl)), _, rfl, rfl, _, rfl, iteNS (by rw [lu, lk]) ?_⟩
    refine ⟨_, rfl, l, rfl, ⟨_, .inl (.inl hl)⟩, fun D hD => ?_⟩
    refine lcL_mapI (K := K) (a := l) (xs := us) (fun _ => V.bl true) hl (small1000000 (by omega)) (fun i x H' R hx s' q' => ?_) hD fun H' s' hL => ?_
    · obtain ⟨b, g, rfl, hgi, hgb⟩ := hg.get hx
      have memg := List.mem_of_getElem? hgi
      have hgb' := hgb.same s'
      refine ⟨rfl, _, rfl, _, rfl, (m : Int), .ref b, rfl, .tup hgb', fun b' xs eb hb => ?_, fun H1 s1 => ?_⟩
      · cases eb
        have := hb.symm.trans hgb'
        cases this
        exact ⟨small1000 (by rw [List.length_map, lg g memg]; omega), kn_nats⟩
      · rw [formB_FT hgb' (lg g memg)]
        exact q' H1 s1
    · refine ⟨D, (List.range us.length).map fun _ => true, rfl, .inl (.inl (by rw [hL, List.map_map]; rfl)), ?_⟩
      rw [show ((List.range us.length).map fun _ => true).all id = true by simp]
      exact q H' s'
end
end K23

set_option Elab.async false
set_option linter.all false
set_option maxRecDepth 100000
set_option maxHeartbeats 4000000
namespace K23
open PySem PySem.Spec PyProof.Rows L2 CK SX NM
theorem mem_repl {m : Nat} {gs : List F} {ps : List Pn} {p : Pn} (h : p ∈ K23.repl m gs ps) : ∃ q ∈ ps, p = (q.1, insF m q.2 gs) := by
  obtain ⟨q, hq, e⟩ := List.mem_map.mp h
  exact ⟨q, hq, e.symm⟩
theorem GL.repl {H H' : Hp} {k m : Nat} {l L : Addr} {ps : List Pn} {gs : List F} (g : GL H k l ps) (h : PL H' L (K23.repl m gs ps)) (lg : ∀ g ∈ gs, g.length = m + 1) (bf : ∀ p ∈ ps, Bf (insF m p.2 gs)) : GL H' m L (K23.repl m gs ps) := by
  refine ⟨h, fun p hp => ?_, fun p hp => ?_, fun p hp => ?_, fun p hp => ?_, by unfold K23.repl; rw [List.length_map]; exact g.few⟩
  · obtain ⟨q, hq, rfl⟩ := mem_repl hp
    exact len_insF lg
  · obtain ⟨q, hq, rfl⟩ := mem_repl hp
    exact g.ws q hq
  · obtain ⟨q, hq, rfl⟩ := mem_repl hp
    exact g.low q hq
  · obtain ⟨q, hq, rfl⟩ := mem_repl hp
    exact bf q hq
section
variable {P : Program} {w : World} {K : PySem.W.Frag} {mg : Str → Option Value} {base : Heap} {C : Addr}
def sp_replaced (C : Addr) : Sp := fun vs H Q _ => ∃ (a l : Addr) (k m : Nat) (ps : List Pn) (gs : List F), vs = [.ref a, .int m, .ref l] ∧ OT C H a k ps ∧ k ≤ 3 ∧ m ≤ 3 ∧ FL H l gs ∧ gs.length = k ∧ (∀ g ∈ gs, g.length = m + 1) ∧ (∀ g ∈ gs, Bf g) ∧
  (∀ p ∈ ps, Bf (insF m p.2 gs)) ∧ meas (K23.repl m gs ps) ≤ 2000 ∧ Wl m (K23.repl m gs ps) ∧ ∀ x H', Same H H' → OT C H' x m (normL (K23.repl m gs ps)) → Q (.ref x) H'
theorem c_replaced (T : Txt K mg C) : C8.Cal P w K mg base 10 "replaced" (sp_replaced C) [] := by
  refine calF T.d_replaced sc_replaced (fun vs H Q E h => ?_) (fun f cdv A outer s H vs Q E hr h => ?_)
  · obtain ⟨_, _, _, _, _, _, rfl, _⟩ := h; rfl
  · obtain ⟨a, l, k, m, ps, gs, rfl, oa, k3, m3, hl, lk, lg, bg, bi, hme, hw, q⟩ := h
    obtain ⟨l0, ⟨dx, ha⟩, ga⟩ := id oa
    refine ⟨_, (pss_cons (ps_expr (C8.pe_c (c_need_text T) hr (by decide) (by rfl) (pa_cons (pv 0) pa_nil)))
    (pss_cons (ps_expr (C8.pe_c (c_need_many T) hr (by decide) (by rfl) (pa_cons (pv 1) pa_nil)))
    (pss_cons (ps_if (pt_not (pt_val (C8.pe_c (c_is_forms T) hr (by decide) (by rfl) (pa_cons (pv 2) (pa_cons (C8.pe_mt0 (m_OpenText_many T) hr (by decide) (pv 0)) (pa_cons (pv 1) pa_nil))))))
    (pss_one ps_never)
    pss_nil)
    (pss_one (ps_ret (C8.pe_c (c_text_of T) hr (by decide) (by rfl) (pa_cons (pv 1) (pa_cons (pe_lc (own := [("word", 3), ("form", 4)]) (by rfl) sc_replaced.nd (pi_list (C8.pe_mt0 (m_OpenText_pieces T) hr (by decide) (pv 0))) (blkOk_by (N := ["text", "many", "forms", "word", "form"]) (sc := C8.fnScope (topS 62)) (own := [("word", 3), ("form", 4)]) (by decide +kernel)) (fun _ _ _ _ _ => (pg_two (K := K) (i := 3) (j := 4) rfl rfl sc_replaced.nd rfl rfl (Or.inl rfl) (Or.inl rfl))) (fun _ _ _ _ _ => pts_nil) (fun _ _ _ _ _ => (pe_tup (pa_cons (pv 3) (pa_cons (C8.pe_c (c_form_inserted T) hr (by decide) (by rfl) (pa_cons (pv 4) (pa_cons (pv 1) (pa_cons (pv 2) pa_nil)))) pa_nil))))) pa_nil)))))))), ?_⟩
    refine ⟨_, rfl, a, k, ps, rfl, oa, _, rfl, m, rfl, by omega, by omega, ?_⟩
    refine ⟨_, rfl, _, rfl, a, dx, _, rfl, ha, (OF_no l0 k).2, a, k, ps, rfl, oa, _, rfl, l, k, m, gs, rfl, hl, lk, k3, m3, lg, fun H1 s1 => ⟨_, rfl, iteF ?_⟩⟩
    refine ⟨_, rfl, _, rfl, a, dx, _, rfl, s1 _ _ ha, (OF_no l0 k).1, a, k, ps, rfl, oa.same s1, fun L1 H2 s2 n2 g2 => ?_⟩
    obtain ⟨us, hus, pus⟩ := id g2.at_
    have lu := pus.len
    have few := g2.few
    have s12 := s1.trans s2
    refine ⟨L1, rfl, ⟨_, .inl (.inl hus)⟩, fun D hD => ?_⟩
    refine lc_list (K := K) (a := L1) (xs := us) (fun i H' => Same H2 H' ∧ PL H' D (K23.repl m gs (ps.take i)) ∧ i ≤ ps.length) ⟨sameNew hD, ⟨[], upd_same, .nil⟩, Nat.zero_le _⟩ (fun i H' _ p => .inl (.inl (p.1 _ _ hus))) (fun i x H' hi p => ?_) fun H' p => ?_
    · obtain ⟨s3, ⟨zs, hz, pz⟩, _⟩ := p
      obtain ⟨b, p, rfl, hpi, pc⟩ := pus.get hi
      have hii := (List.getElem?_eq_some_iff.mp hpi).1
      have mem := List.mem_of_getElem? hpi
      obtain ⟨fa, e1, e2⟩ := pc.mono (tup_same s3)
      refine ⟨b, _, rfl, .inl (.inl e1), rfl, _, _, rfl, _, _, rfl, rfl, rfl, ?_⟩
      refine ⟨_, rfl, _, rfl, _, rfl, _, rfl, fa, l, m, p.2, gs, rfl, e2, hl.same (s12.trans s3), m3, by have := g2.len p mem; omega, by omega, lg, g2.bf p mem, bg, fun p4 H4 s4 h4 => ⟨by show 2 ≤ sizeLine; decide, fun t ht => ?_⟩⟩
      have st := sameNew (o := .tup [.str (S p.1), .ref p4]) ht
      have hz4 := st _ _ (s4 _ _ hz)
      have lz := pz.len
      refine ⟨zs, hz4, by rw [lz]; unfold K23.repl; rw [List.length_map, List.length_take, sizeLine_eq]; omega, same_upd2 hD ((s3.trans s4).trans st), ⟨_, upd_same, ?_⟩, by omega⟩
      have eT : K23.repl m gs (ps.take (i + 1)) = K23.repl m gs (ps.take i) ++ [(p.1, insF m p.2 gs)] := by
        unfold K23.repl
        rw [List.take_succ, hpi, List.map_append]
        rfl
      rw [eT]
      exact ((pz.same (s4.trans st)).upd hz4).app (.one ⟨p4, tup_upd hz4 _ _ upd_same, tup_upd hz4 _ _ (st _ _ h4)⟩)
    · obtain ⟨s3, PD, _⟩ := p
      rw [lu, List.take_length] at PD
      exact ⟨D, m, K23.repl m gs ps, rfl, m3, ga.repl PD lg bi, hme, hw, fun x H5 s5 ot => q x H5 ((s12.trans s3).trans s5) ot⟩
def sp_need_unknown (C : Addr) : Sp := fun vs H Q _ => ∃ (a : Addr) (m i : Nat) (ps : List Pn), vs = [.ref a, .int i] ∧ OT C H a m ps ∧ i < m ∧ Q .non H
theorem c_need_unknown (T : Txt K mg C) : C8.Cal P w K mg base 4 "need_unknown" (sp_need_unknown C) [] := by
  refine calF T.d_need_unknown sc_need_unknown (fun vs H Q E h => ?_) (fun f cdv A outer s H vs Q E hr h => ?_)
  · obtain ⟨_, _, _, _, rfl, _⟩ := h; rfl
  · obtain ⟨a, m, i, ps, rfl, oa, hi, q⟩ := h
    obtain ⟨l0, ⟨dx, ha⟩, ga⟩ := id oa
    refine ⟨_, (pss_cons (ps_expr (C8.pe_c (c_need_text T) hr (by decide) (by rfl) (pa_cons (pv 0) pa_nil)))
    (pss_one (ps_expr (C8.pe_c (c_need_within T) hr (by decide) (by rfl) (pa_cons (pv 1) (pa_cons pe_int (pa_cons (pe_op op_sub (C8.pe_mt0 (m_OpenText_many T) hr (by decide) (pv 0)) pe_int) pa_nil))))))), ?_⟩
    exact ⟨_, rfl, a, m, ps, rfl, oa, _, rfl, _, rfl, a, dx, _, rfl, ha, (OF_no l0 m).2, a, m, ps, rfl, oa, _, _, rfl, rfl, (i : Int), 0, (m : Int) - 1, rfl, by omega, by omega, q⟩
def sp_unit_form : Sp := fun vs H Q _ => ∃ (n m : Nat), vs = [.int n, .int m] ∧ n < m ∧ m ≤ 3 ∧ ∀ p H', Same H H' → FT H' p (unitF n m) → Q (.ref p) H'
theorem c_unit_form (T : Txt K mg C) : C8.Cal P w K mg base 2 "unit_form" sp_unit_form [] := by
  refine calF T.d_unit_form sc_unit_form (fun vs H Q E h => ?_) (fun f cdv A outer s H vs Q E hr h => ?_)
  · obtain ⟨_, _, rfl, _⟩ := h; rfl
  · obtain ⟨n, m, rfl, hn, m3, q⟩ := h
    refine ⟨_, (pss_one (ps_ret (pe_op op_catS (pe_op op_catS (C8.pe_c (c_plain_form T) hr (by decide) (by rfl) (pa_cons pe_int (pa_cons (pv 0) pa_nil))) (pe_tup (pa_cons pe_int pa_nil))) (pe_op op_repOne (pe_tup (pa_cons pe_int pa_nil)) (pe_op op_sub (pe_op op_sub (pv 1) (pv 0)) pe_int))))), ?_⟩
    refine ⟨_, rfl, n, 0, rfl, by omega, fun p1 H1 s1 h1 => ⟨by show 1 ≤ sizeLine; decide, fun t1 n1 => ?_⟩⟩
    have st1 := sameNew (o := .tup [V.int 1]) n1
    refine ⟨p1, t1, _, _, rfl, rfl, st1 _ _ h1, upd_same, by simp; omega, fun p2 H2 s2 h2 => ⟨by show 1 ≤ sizeLine; decide, fun t2 n2 => ?_⟩⟩
    have st2 := sameNew (o := .tup [V.int 0]) n2
    refine ⟨_, rfl, _, rfl, _, _, rfl, rfl, _, _, rfl, rfl, t2, _, _, rfl, rfl, upd_same, by omega, by omega, fun p3 H3 s3 h3 => ?_⟩
    refine ⟨p2, p3, _, _, rfl, rfl, s3 _ _ (st2 _ _ h2), h3, by simp; omega, fun p4 H4 s4 h4 => q p4 H4 (((s1.trans st1).trans s2).trans ((st2.trans s3).trans s4)) ?_⟩
    unfold FT unitF
    rw [h4, show ((m : Int) - (n : Int) - 1).toNat = m - n - 1 by omega]
    simp
def sp_later (C : Addr) : Sp := fun vs H Q _ => ∃ (a : Addr) (m i b : Nat) (ps : List Pn), vs = [.ref a, .int i, .int b] ∧ OT C H a m ps ∧ i < m ∧ m ≤ 3 ∧ b < 2 ^ 100 ∧
  (∀ p ∈ ps, Bf (insF m p.2 (laterG i b m))) ∧ meas (K23.repl m (laterG i b m) ps) ≤ 2000 ∧ Wl m (K23.repl m (laterG i b m) ps) ∧ ∀ x H', Same H H' → OT C H' x m (normL (K23.repl m (laterG i b m) ps)) → Q (.ref x) H'
theorem bf_unit {n m : Nat} : Bf (unitF n m) := fun x hx => by
  unfold unitF at hx
  have : x ≤ 1 := by
    rcases List.mem_cons.mp hx with z | z
    · omega
    rcases List.mem_append.mp z with z | z
    · rw [List.eq_of_mem_replicate z]; omega
    rcases List.mem_cons.mp z with z | z
    · omega
    · rw [List.eq_of_mem_replicate z]; omega
  exact Nat.lt_of_le_of_lt this (Nat.one_lt_two_pow (by decide))
theorem bf_laterG {i b m : Nat} (hb : b < 2 ^ 100) : ∀ g ∈ laterG i b m, Bf g := fun g hg => by
  rcases List.mem_or_eq_of_mem_set hg with z | z
  · obtain ⟨n, hn, rfl⟩ := List.mem_map.mp z
    exact bf_unit
  · rw [z]
    intro x hx
    rcases List.mem_cons.mp hx with y | y
    · rw [y]; exact Nat.lt_of_lt_of_le hb (Nat.pow_le_pow_right (by decide) (by decide))
    · exact bf_unit x (List.mem_of_mem_tail y)
theorem c_later (T : Txt K mg C) : C8.Cal P w K mg base 11 "later" (sp_later C) [] := by
  refine calF T.d_later sc_later (fun vs H Q E h => ?_) (fun f cdv A outer s H vs Q E hr h => ?_)
  · obtain ⟨_, _, _, _, _, rfl, _⟩ := h; rfl
  · obtain ⟨a, m, i, b, ps, rfl, oa, hi, m3, hb, bi, hme, hw, q⟩ := h
    obtain ⟨l0, ⟨dx, ha⟩, ga⟩ := id oa
    refine ⟨_, (pss_cons (ps_expr (C8.pe_c (c_need_unknown T) hr (by decide) (by rfl) (pa_cons (pv 0) (pa_cons (pv 1) pa_nil))))
    (pss_cons (ps_expr (C8.pe_c (c_need_count T) hr (by decide) (by rfl) (pa_cons (pv 2) pa_nil)))
    (pss_cons (ps_set (i := 3) sc_later.nd rfl (Or.inr rfl) (C8.pe_mt0 (m_OpenText_many T) hr (by decide) (pv 0)))
    (pss_cons (ps_setLc (i := 4) (own := [("number", 5)]) rfl sc_later.nd rfl rfl (sw_true rfl rfl rfl (by decide +kernel)) (pi_range1 (by rfl) T.m_range (pa_cons (pv 3) pa_nil)) (blkOk_by (N := ["text", "at", "by", "many", "forms", "number"]) (sc := C8.fnScope (topS 66)) (own := [("number", 5)]) (by decide +kernel)) (fun _ _ _ _ _ => (pg_name (i := 5) sc_later.nd rfl (Or.inl rfl))) (fun _ _ _ _ _ => pts_nil) (fun _ _ _ _ _ => (C8.pe_c (c_unit_form T) hr (by decide) (by rfl) (pa_cons (pv 5) (pa_cons (pv 3) pa_nil)))))
    (pss_cons (ps_asg (pe_op op_catS (pe_tup (pa_cons (pv 2) pa_nil)) (pe_slice sl_drop (pe_ix ix_list (pv 4) (pv 1) (fun _ _ => rfl)) (po_some pe_int) po_none)) (pg_sub (pv 4) (pv 1) set_list))
    (pss_one (ps_ret (C8.pe_c (c_replaced T) hr (by decide) (by rfl) (pa_cons (pv 0) (pa_cons (pv 3) (pa_cons (pv 4) pa_nil))))))))))), ?_⟩
    refine ⟨_, rfl, _, rfl, a, m, i, ps, rfl, oa, hi, ?_⟩
    refine ⟨_, rfl, b, rfl, ?_⟩
    refine ⟨_, rfl, a, dx, _, rfl, ha, (OF_no l0 m).2, a, m, ps, rfl, oa, ?_⟩
    refine ⟨_, rfl, (m : Int), rfl, by omega, by omega, fun D hD => ?_⟩
    refine lc_range (fun j H2 => Same H H2 ∧ j ≤ m ∧ FL H2 D ((List.range j).map fun n => unitF n m)) ⟨sameNew hD, by omega, [], upd_same, .nil⟩ (fun j H2 hj p => ?_) fun H2 p => ?_
    · obtain ⟨s2, _, us, hus, pus⟩ := p
      have jm : j < m := by
        have : j < ((m : Int)).toNat := hj
        omega
      have lu := pus.len
      refine ⟨rfl, _, rfl, _, rfl, j, m, by show [V.int (0 + (j : Int)), V.int (m : Nat)] = _; rw [Int.zero_add], jm, m3, fun p H3 s3 h3 => ?_⟩
      have hu3 := s3 _ _ hus
      refine ⟨us, hu3, by rw [lu, List.length_map, List.length_range, sizeLine_eq]; omega, same_upd2 hD (s2.trans s3), by omega, _, upd_same, ?_⟩
      rw [List.range_succ, List.map_append]
      exact ((pus.same s3).mono (tup_upd hu3)).app (.cons (tup_upd hu3 _ _ h3) .nil)
    · obtain ⟨s2, _, us, hus, pus⟩ := p
      have em : ((m : Int)).toNat = m := by omega
      rw [em] at pus
      have lu := pus.len
      have lum : us.length = m := by rw [lu]; simp
      have hui : us[i]? = some (us[i]'(by omega)) := List.getElem?_eq_getElem (by omega)
      obtain ⟨bb, g, eb, hgi, hgb⟩ := pus.get hui
      rw [eb] at hui
      have eg : g = unitF i m := by
        rw [List.getElem?_map, List.getElem?_range hi] at hgi
        exact (Option.some.inj hgi).symm
      subst eg
      refine ⟨_, rfl, by show 1 ≤ sizeLine; decide, fun t1 n1 => ?_⟩
      have st1 := sameNew (o := .tup [V.int (b : Nat)]) n1
      refine ⟨_, rfl, _, rfl, D, _, (i : Int), _, rfl, rfl, .inl (.inl (st1 _ _ hus)), atI_nat hui, 1, rfl, bb, _, 1, rfl, rfl, rfl, st1 _ _ hgb, fun p2 H3 s3 h3 => ?_⟩
      refine ⟨t1, p2, _, _, rfl, rfl, s3 _ _ upd_same, h3, by rw [List.length_drop, List.length_map, len_unitF hi]; simp; omega, fun p3 H4 s4 h4 => ?_⟩
      have s24 := (st1.trans s3).trans s4
      have hus4 := s24 _ _ hus
      refine ⟨_, rfl, _, rfl, D, us, (i : Int), i, rfl, rfl, hus4, ix_at (by omega), ?_⟩
      have f4 : FT H4 p3 (b :: (unitF i m).tail) := by
        unfold FT
        rw [h4, ← List.map_drop]
        rfl
      have fl : FL (upd H4 D (.lst (us.set i (.ref p3)))) D (laterG i b m) := by
        refine ⟨_, upd_same, ?_⟩
        have e : (unitsF m).set i (b :: (unitF i m).tail) = laterG i b m := rfl
        rw [← e]
        exact ((pus.same s24).mono (tup_upd hus4)).set (tup_upd hus4 _ _ f4)
      have sD : Same H (upd H4 D (.lst (us.set i (.ref p3)))) := same_upd2 hD (s2.trans s24)
      refine ⟨_, rfl, _, rfl, _, rfl, a, D, m, m, ps, laterG i b m, rfl, oa.same sD, m3, m3, fl, by unfold laterG unitsF; simp, len_laterG, bf_laterG hb, bi, hme, hw, fun x H5 s5 ot => q x H5 (sD.trans s5) ot⟩
end
end K23

set_option Elab.async false
set_option linter.all false
set_option maxRecDepth 100000
set_option maxHeartbeats 2000000
/-! dicts whose keys are letters: isinstance, walks locked, comprehensions over keys and over signs -/
namespace CK
open PySem PySem.Spec PyProof.Rows L2 SX
section
variable {X : Cx}
/-- isinstance(d, dict) -/
theorem call_isD : CallR X (.builtin "isinstance") (fun xs H Q => ∃ (a : Addr) (kvs : List (Key × V)), xs = [.ref a, .ty "dict"] ∧ H a = some (.dK kvs) ∧ Q (.bl true) H) := by
  intro pins s σ H xs us Q I r h
  obtain ⟨a, kvs, rfl, e, q⟩ := h
  exact call_isi pins s σ H _ us Q I r ⟨.ref a, .ty "dict", _, _, true, rfl, .ty "dict", .base (.dK e), kit_ty (by decide +kernel), q⟩
theorem room1 {k : Nat} {A : Around} (hr : Room k A) : A.units + 1 < cLine := by
  have := hr.units
  omega
end
theorem same_lock {H H' : Hp} {d : Addr} {od : Obj} {u : HO} (h : H d = some u) (s : Same (upd H d (.frz od u)) H') : H' d = some (.frz od u) ∧ Same H (upd H' d u) := by
  refine ⟨s _ _ upd_same, fun b o e => ?_⟩
  by_cases z : b = d
  · rw [z] at e ⊢
    rw [upd_same, ← h]
    exact e.symm ▸ rfl
  · rw [upd_ne z]
    exact s _ _ (by rw [upd_ne z]; exact e)
theorem lock_same {H H' : Hp} {d : Addr} {od : Obj} {u : HO} (s : Same (upd H d (.frz od u)) H') {b : Addr} {o : HO} (ne : b ≠ d) (e : H b = some o) : H' b = some o := s _ _ (by rw [upd_ne ne]; exact e)
/-- over the signs of a text -/
theorem lcS_map {z : List Nat} {j : Nat} {te : TE} {vs : List Nat} {σ : L2.St} {H1 : Hp} {D : Addr} {Qd : Hp → Prop} (f : Nat → V) (hn : z.length < sizeLine)
    (hs : ∀ (i c : Nat) (H : Hp) (R : VK), z[i]? = some c → Same H1 H → (∀ H', Same H H' → R (f c) H') → wipe ((wipe σ vs).set j (some (.str (S [c])))) vs = wipe σ vs ∧ te ((wipe σ vs).set j (some (.str (S [c])))) H R)
    (hD : H1 D = none) (hd : ∀ H : Hp, Same H1 H → H D = some (.lst (z.map f)) → Qd H) :
    ∃ W : Nat → Nat → Hp → Prop, (∃ m, W 0 m (upd H1 D (.lst []))) ∧ ∀ i m H, W i m H →
      ((Its (S z)).stop i H ∧ Qd H) ∨ ((Its (S z)).go i H ∧ ∃ Nx : Hp → Prop, (∀ H', Nx H' → ∃ m', m' < m ∧ W (i + 1) m' H') ∧ ∀ x H', (Its (S z)).yld i H x H' → gName j x (wipe σ vs) H' fun σ2 H2 => wipe σ2 vs = wipe σ vs ∧ tYes σ2 H2 fun b H3 =>
        if b = true then te σ2 H3 fun y H4 => ∃ acc, H4 D = some (.lst acc) ∧ acc.length < sizeLine ∧ Nx (upd H4 D (.lst (acc ++ [y]))) else Nx H3) := by
  have e : (List.range z.length).map (fun i => f (z.getD i 0)) = z.map f := range_map_get z f _ fun i x h => by rw [List.getD_eq_getElem?_getD, h]; rfl
  refine lc_mapW (n := z.length) (walk_str (z := S z)) (fun i => f (z.getD i 0)) hn (fun H s => True.intro) (fun i x H H' R hi s y q => ?_) hD fun H s q => hd H s (by rw [q, e])
  obtain ⟨rfl, c, hc, rfl⟩ := y
  have hc' : z[i]? = some c := by
    have : (z.toArray)[i]? = some c := hc
    simpa using this
  refine hs i c H' R hc' s fun H'' s' => ?_
  have := q H'' s'
  rw [show z.getD i 0 = c by rw [List.getD_eq_getElem?_getD, hc']; rfl] at this
  exact this
/-- over the keys of a dict, locked -/
theorem lcK_map {d : Addr} {od : Obj} {kvs : List (Key × V)} {j : Nat} {te : TE} {vs : List Nat} {σ : L2.St} {H1 : Hp} {D : Addr} {Qd : Hp → Prop} (f : Nat → V) (hn : kvs.length < sizeLine) (hk : H1 d = some (.frz od (.dK kvs)))
    (hs : ∀ (i : Nat) (k : Key) (v : V) (H : Hp) (R : VK), kvs[i]? = some (k, v) → Same H1 H → (∀ H', Same H H' → R (f i) H') → wipe ((wipe σ vs).set j (some (kV k))) vs = wipe σ vs ∧ te ((wipe σ vs).set j (some (kV k))) H R)
    (hD : H1 D = none) (hd : ∀ H : Hp, Same H1 H → H D = some (.lst ((List.range kvs.length).map f)) → Qd H) :
    ∃ W : Nat → Nat → Hp → Prop, (∃ m, W 0 m (upd H1 D (.lst []))) ∧ ∀ i m H, W i m H →
      ((Itk d od kvs).stop i H ∧ Qd H) ∨ ((Itk d od kvs).go i H ∧ ∃ Nx : Hp → Prop, (∀ H', Nx H' → ∃ m', m' < m ∧ W (i + 1) m' H') ∧ ∀ x H', (Itk d od kvs).yld i H x H' → gName j x (wipe σ vs) H' fun σ2 H2 => wipe σ2 vs = wipe σ vs ∧ tYes σ2 H2 fun b H3 =>
        if b = true then te σ2 H3 fun y H4 => ∃ acc, H4 D = some (.lst acc) ∧ acc.length < sizeLine ∧ Nx (upd H4 D (.lst (acc ++ [y]))) else Nx H3) := by
  refine lc_mapW (walk_keys (d := d) (o := od) (kvs := kvs)) f hn (fun H s => s _ _ hk) (fun i x H H' R hi s y q => ?_) hD hd
  obtain ⟨rfl, k, v, hkv, rfl⟩ := y
  exact hs i k v H' R hkv s q
theorem valV_mem {κ : Type} [DecidableEq κ] : ∀ {kvs : List (κ × V)} {k : κ} {v : V}, valV kvs k = some v → (k, v) ∈ kvs
  | p :: r, k, v, h => by
    by_cases e : p.1 = k
    · rw [valV_pos e] at h
      cases h
      rw [← e]
      exact List.mem_cons_self
    · rw [valV_neg e] at h
      exact List.mem_cons_of_mem _ (valV_mem h)
theorem valV_some {κ : Type} [DecidableEq κ] : ∀ {kvs : List (κ × V)} {k : κ} {v : V}, (k, v) ∈ kvs → ∃ u, valV kvs k = some u
  | p :: r, k, v, h => by
    by_cases e : p.1 = k
    · exact ⟨_, valV_pos e⟩
    · rcases List.mem_cons.mp h with z | z
      · exact absurd (by rw [← z]) e
      · obtain ⟨u, hu⟩ := valV_some z
        exact ⟨u, by rw [valV_neg e]; exact hu⟩
end CK

set_option Elab.async false
set_option linter.all false
set_option maxRecDepth 100000
set_option maxHeartbeats 2000000
/-! t[::-1] of a tuple -/
namespace HT
open PySem PySem.Spec PyProof.Rows
section
variable {prog : Program} {w : World} {A : Around} {E : Value → Shared → Prop} {s : Shared}
theorem adjust_rev (n : Nat) : Builtin.Slice.sliceAdjust none none (-1) (n : Int) = ((n : Int) - 1, -1) := rfl
theorem places_rev (n : Nat) : Builtin.Slice.slicePlaces ((n : Int) - 1) (-1) (-1) = n := by
  unfold Builtin.Slice.slicePlaces
  have h1 : ¬ (-1 : Int) > 0 := by omega
  rw [if_neg h1, show ((n : Int) - 1 - -1 - 1) / - -1 = (n : Int) - 1 by rw [show (- -1 : Int) = 1 from rfl, Int.ediv_one]; omega]
  split <;> omega
theorem pick_rev (xs : Array Value) : ((List.range xs.size).filterMap fun (m : Nat) => xs[((xs.size : Int) - 1 + (m : Int) * (-1)).toNat]?).toArray = xs.toList.reverse.toArray := by
  congr 1
  obtain ⟨l⟩ := xs
  show (List.range l.length).filterMap (fun (m : Nat) => (l.toArray)[((l.length : Int) - 1 + (m : Int) * (-1)).toNat]?) = l.reverse
  have e : ∀ k, k ≤ l.length → (List.range k).filterMap (fun (m : Nat) => (l.toArray)[((l.length : Int) - 1 + (m : Int) * (-1)).toNat]?) = l.reverse.take k := by
    intro k
    induction k with
    | zero => intro _; rfl
    | succ k ih =>
      intro h
      rw [List.range_succ, List.filterMap_append, ih (by omega), List.take_succ]
      congr 1
      have e1 : ((l.length : Int) - 1 + (k : Int) * (-1)).toNat = l.length - 1 - k := by omega
      have hk : l.length - 1 - k < l.length := by omega
      rw [List.getElem?_reverse (by omega)]
      simp only [List.filterMap_cons, List.filterMap_nil, e1]
      rw [List.getElem?_toArray, List.getElem?_eq_getElem hk]
      rfl
  rw [e l.length (Nat.le_refl _), List.take_of_length_le (by rw [List.length_reverse]; omega)]
theorem sliceApplied_rev {sl : Addr} {vl vu vs : Value} {n : Nat} {Q : Int × Int × Nat → Shared → Prop} (hs : s.heap.IsSliceOf sl vl vu vs) (pl : IsPart vl none) (pu : IsPart vu none) (ps : IsPart vs (some (-1)))
    (h : Q (((n : Nat) : Int) - 1, -1, n) s) : wpAny (model prog w) A (Builtin.Slice.sliceApplied (.ref sl) (pure (n : Int))) Q E s := by
  obtain ⟨os, hos, hcs, hds⟩ := id hs
  unfold Builtin.Slice.sliceApplied Builtin.Slice.sliceFields
  refine wpAny_bind (wpAny_bind (wpAny_field hos hds (x := vl) rfl (wpAny_bind (wpAny_field hos hds (x := vu) rfl (wpAny_bind (wpAny_field hos hds (x := vs) rfl (wpAny_pure ?_)))))))
  refine wpAny_bind (slicePart_ ps ?_)
  show wpAny _ _ (if ((-1 : Int) == 0) = true then _ else _) _ _ s
  rw [if_neg (by decide)]
  refine wpAny_bind (slicePart_ pl (wpAny_bind (slicePart_ pu (wpAny_bind (wpAny_pure ?_)))))
  show wpAny _ _ (match Builtin.Slice.sliceAdjust none none (-1) (n : Int) with | (lo, hi) => pure (lo, (-1 : Int), Builtin.Slice.slicePlaces lo hi (-1))) _ _ s
  rw [adjust_rev n]
  show wpAny _ _ (pure (((n : Int) - 1), (-1 : Int), Builtin.Slice.slicePlaces ((n : Int) - 1) (-1) (-1))) _ _ s
  rw [places_rev]
  exact wpAny_pure h
theorem getItem_tuple_rev {t sl : Addr} {items : Array Value} {vl vu vs : Value} {Q : Value → Shared → Prop} (ht : IsTup s.heap t items) (hs : s.heap.IsSliceOf sl vl vu vs) (pl : IsPart vl none) (pu : IsPart vu none) (ps : IsPart vs (some (-1)))
    (h : Q (.ref s.heap.objs.size) { s with heap := s.heap.push { cls := .type "tuple", data := .seq items.toList.reverse.toArray } })
    (hsz : items.size ≤ sizeLine) : wpAny (model prog w) A (getItem (.ref t) (.ref sl)) Q E s := by
  have htake : sizeOk (.seq items.toList.reverse.toArray) := by
    show items.toList.reverse.toArray.size ≤ sizeLine
    rw [List.size_toArray, List.length_reverse, Array.length_toList]
    omega
  obtain ⟨os, hos, hcs, hds⟩ := id hs
  have hTs : s.TypeIs (.ref sl) "slice" := ⟨os, hos, hcs⟩
  unfold getItem
  try with_reducible refine wpAny_holding ?_
  first | refine wpAny_bind (wpAny_pure ?_) | skip
  refine wpAny_bind (wpAny_sequenceKey ht.typeIs (by decide) ?_)
  refine wpAny_bind (wpAny_callSpecial?_slot (name := Str.ofString "__getitem__") ht.typeIs PyProof.Rows.slot_tuple_getitem
    (wpAny_call_entry PyProof.Rows.slot_tuple_getitem ht.typeIs entry_tuple_getitem ?_ (args_tuple_getitem _ _)))
  show wpAny _ _ (Builtin.Tuple.tupleItemsOf (.ref t) >>= _) _ _ s
  refine wpAny_bind (tupleItemsOf_ ht ?_)
  refine wpAny_bind (wpAny_typeOf hTs ?_)
  rw [if_pos (by decide)]
  refine wpAny_bind (sliceApplied_rev hs pl pu ps ?_)
  have hno : ¬ ((((items.size : Nat) : Int) - 1 == 0 && (-1 : Int) == 1 && items.size == items.size) = true) := by simp
  show wpAny _ _ (if (((items.size : Nat) : Int) - 1 == 0 && (-1 : Int) == 1 && items.size == items.size) = true then _ else _) _ _ s
  rw [if_neg hno, pick_rev]
  first
    | exact wpAny_bind (m := Builtin.Tuple.tupleExact _) (wpAny_newObj_type (wpAny_pure ⟨_, rfl, wpAny_pure h⟩) htake)
    | exact wpAny_bind (m := Builtin.Tuple.tupleExact _) (wpAny_newObj_type (wpAny_bind (wpAny_pure (wpAny_pure ⟨_, rfl, wpAny_pure h⟩))) htake)
    | exact wpAny_bind (wpAny_bind (m := Builtin.Tuple.tupleExact _) (wpAny_newObj_type (wpAny_pure (wpAny_pure ⟨_, rfl, wpAny_pure h⟩)) htake))
    | exact wpAny_bind (wpAny_bind (m := Builtin.Tuple.tupleExact _) (wpAny_newObj_type (wpAny_pure ⟨_, rfl, wpAny_pure h⟩) htake))
end
end HT
namespace CK
open PySem PySem.Spec PyProof.Rows L2 SX
section
variable {X : Cx}
/-- t[::-1], a tuple -/
def tRevT (te : TE) : TE := fun σ H Q => te σ H fun x H1 => ∃ a xs, x = .ref a ∧ H1 a = some (.tup xs) ∧ ∀ p H', Same H1 H' → H' p = some (.tup xs.reverse) → Q (.ref p) H'
theorem pe_revT {e : Expr} {te : TE} {k : Nat} {p1 p2 p3 pos : Pos} (he : PE X e te) : PE X (.Subscript e (.Slice none none (some (.UnaryOp .USub (.Constant (.int 1) k p1) p2)) p3) pos) (tRevT te) := by
  refine ⟨fun pins s σ H Q I h => ?_⟩
  refine Subscript_ (thn (he.run pins s σ H _ I h) fun v s1 ⟨x, H1, I1, r1, q1⟩ => ?_)
  obtain ⟨a, xs, ex, hx, q⟩ := q1
  subst ex
  cases r1
  have hst : PO X (some (.UnaryOp .USub (.Constant (.int 1) k p1) p2)) (tPart (tUn (rU fun i => .int (-i)) (tC (.int 1)))) := po_some (pe_un un_neg pe_int)
  refine wpAny_Slice (thn (po_none.run pins s1 σ H1 (fun o H2 => o = none ∧ H2 = H1) I1 ⟨rfl, rfl⟩) fun vl s2 ⟨l, H2, I2, pl, el, e2⟩ => ?_)
  subst el e2
  refine thn (po_none.run pins s2 σ H2 (fun o H3 => o = none ∧ H3 = H2) I2 ⟨rfl, rfl⟩) fun vu s3 ⟨u, H3, I3, pu, eu, e3⟩ => ?_
  subst eu e3
  refine thn (hst.run pins s3 σ H3 (fun o H4 => o = some (-1) ∧ H4 = H3) I3 ⟨1, rfl, -1, rfl, rfl, rfl⟩) fun vs s4 ⟨o, H4, I4, ps, eo, e4⟩ => ?_
  subst eo e4
  have I5 : Inv X pins σ H4 { s4 with heap := s4.heap.push { cls := .type "slice", data := .fields #[vl, vu, vs] } } := I4.kept (t' := s4.toks) fun b ob q => Heap.get?_push_of_some _ q
  obtain ⟨its, r, ht, hz⟩ := I5.tuple (.inl (.inl hx))
  have hlen := r.length
  show wpAny (model X.prog X.w) X.A (subscriptTail e (.Slice none none (some (.UnaryOp .USub (.Constant (.int 1) k p1) p2)) p3) (.ref a) (.ref s4.heap.objs.size)) (EP X pins σ Q) X.xe { s4 with heap := s4.heap.push { cls := .type "slice", data := .fields #[vl, vu, vs] } }
  refine tail_any (ops := [.ref a, .ref s4.heap.objs.size]) ht.typeIs (PyProof.Rows.slot_tuple_getitem.lookup) ?_ (by with_unfolding_all rfl)
  refine HT.getItem_tuple_rev ht (Heap.IsSliceOf.new _ vl vu vs) pl pu ps ?_ (by rw [List.size_toArray]; omega)
  refine ⟨.ref _, _, I5.laid (t' := s4.toks) (o := .tup xs.reverse) (fun b ob q => Heap.get?_push_of_some _ q) (Nat.le_refl _) ?_, rfl, q _ _ (sameNew (I5.hok.fresh (Nat.le_refl _))) upd_same⟩
  exact ⟨by rw [List.length_reverse]; exact hz, its.reverse, r.reverse, IsTup.new _ _⟩
end
end CK

set_option Elab.async false
set_option linter.all false
set_option maxRecDepth 100000
set_option maxHeartbeats 4000000
namespace K23
open PySem PySem.Spec PyProof.Rows L2 CK SX NM
/-- a dict of images -/
structure Im (H : Hp) (d : Addr) (kvs : List (Key × V)) (img : Nat → List Nat) : Prop where
  at_ : H d = some (.dK kvs)
  few : kvs.length ≤ 26
  ok : ∀ k v, (k, v) ∈ kvs → ∃ c z, k = .inr (S [c]) ∧ v = .str (S z) ∧ Low [c] ∧ Low z ∧ z.length ≤ 40
  val : ∀ c, Low [c] → (valV kvs (.inr (S [c]))).getD (.str (S [c])) = .str (S (img c))
  len : ∀ c, (img c).length ≤ 40
  low : ∀ c, Low [c] → Low (img c)
theorem Im.same {H H' : Hp} {d : Addr} {kvs : List (Key × V)} {img : Nat → List Nat} (i : Im H d kvs img) (s : Same H H') : Im H' d kvs img := ⟨s _ _ i.at_, i.few, i.ok, i.val, i.len, i.low⟩
section
variable {P : Program} {w : World} {K : PySem.W.Frag} {mg : Str → Option Value} {base : Heap} {C : Addr}
end
end K23

set_option Elab.async false
set_option linter.all false
set_option maxRecDepth 100000
set_option maxHeartbeats 4000000
namespace K23
open PySem PySem.Spec PyProof.Rows L2 CK SX NM
def LP (H : Hp) (a : Addr) (pt : List Nat) : Prop := H a = some (.lst (natsV pt))
def vMulN : V → V → V
  | .int i, .int j => .int (i * j)
  | _, _ => .non
theorem zip_mulN : ∀ (f pt : List Nat), List.zipWith vMulN (natsV f) (natsV pt) = (List.zipWith (fun x y : Nat => ((x * y : Nat) : Int)) f pt).map V.int
  | [], _ => by simp [natsV]
  | _ :: _, [] => by simp [natsV]
  | x :: xs, y :: ys => by
    show V.int ((x : Int) * (y : Int)) :: List.zipWith vMulN (natsV xs) (natsV ys) = V.int ((x * y : Nat) : Int) :: _
    rw [zip_mulN xs ys, Int.natCast_mul]
theorem sum_zipN : ∀ (f pt : List Nat), (List.zipWith (fun x y : Nat => ((x * y : Nat) : Int)) f pt).sum = ((dot f pt : Nat) : Int)
  | [], _ => by simp [dot]
  | _ :: _, [] => by simp [dot]
  | x :: xs, y :: ys => by
    rw [List.zipWith_cons_cons, List.sum_cons, sum_zipN xs ys, dot, Int.natCast_add]
theorem joinL_nil : ∀ xs : List (List Nat), TL.joinL [] xs = xs.flatten
  | [] => rfl
  | [x] => by
    show x = _
    simp
  | x :: y :: r => by
    show x ++ ([] ++ TL.joinL [] (y :: r)) = _
    rw [joinL_nil (y :: r), List.nil_append]
    rfl
theorem join_flat (xs : List (List Nat)) : Txt.join (Str.ofString "") (xs.map S) = S xs.flatten := by
  rw [empty_S, join_S [] xs, joinL_nil]
theorem len_flatS : ∀ xs : List (List Nat), ((xs.map S).map fun x => x.length).sum = xs.flatten.length
  | [] => rfl
  | x :: r => by
    rw [List.map_cons, List.map_cons, List.sum_cons, len_flatS r, S_len, List.flatten_cons, List.length_append]
/-- where a word stands first in itself doubled -/
theorem at_occ {z : List Nat} (h : z ≠ []) (i : Nat) : StrLaws.At (S ((z ++ z).drop 1)) (S z) (S ((z ++ z).drop 1)).length i ↔ i + 1 ≤ z.length ∧ Occ z i := by
  have n0 := List.length_pos_iff.mpr h
  unfold StrLaws.At
  rw [StrLaws.subAt_eq, S_len, S_len]
  show (i + z.length ≤ ((z ++ z).drop 1).length ∧ ((((z ++ z).drop 1).drop i).take z.length == z) = true) ↔ _
  rw [List.length_drop, List.length_append, List.drop_drop, beq_iff_eq]
  unfold Occ
  rw [Nat.add_comm 1 i]
  constructor
  · rintro ⟨a, b⟩
    exact ⟨by omega, b⟩
  · rintro ⟨a, b⟩
    exact ⟨by omega, b⟩
theorem find_prim {z : List Nat} (h : z ≠ []) : (Txt.find (S ((z ++ z).drop 1)) (S z) = (z.length : Int) - 1) ↔ WM.Prim z := by
  have n0 := List.length_pos_iff.mpr h
  have last := (at_occ h (z.length - 1)).mpr ⟨by omega, occ_last h⟩
  rcases PyProof.Rows.find_whole (S ((z ++ z).drop 1)) (S z) with ⟨_, no⟩ | ⟨i, e, hi, lo⟩
  · exact absurd last (no _)
  · have o := (at_occ h i).mp hi
    rw [e]
    constructor
    · intro ei
      refine Classical.byContradiction fun np => ?_
      obtain ⟨k, hk, ok⟩ := not_prim_occ h np
      exact lo k (by omega) ((at_occ h k).mpr ⟨by omega, ok⟩)
    · intro pr
      refine Classical.byContradiction fun ne => ?_
      exact occ_not_prim h (by omega) o.2 pr
section
variable {P : Program} {w : World} {K : PySem.W.Frag} {mg : Str → Option Value} {base : Heap} {C : Addr}
def sp_value : Sp := fun vs H Q _ => ∃ (fa pa : Addr) (f : F) (pt : List Nat) (m : Nat), vs = [.ref fa, .ref pa] ∧ FT H fa f ∧ LP H pa pt ∧ f.length = m + 1 ∧ pt.length = m ∧ m ≤ 3 ∧ Bf f ∧ Bf pt ∧ ∀ H', Same H H' → Q (.int (valF f pt : Nat)) H'
theorem c_law_value (T : Txt K mg C) : C8.Cal P w K mg base 1 "_law_value" sp_value [] := by
  refine calF T.d_law_value sc_law_value (fun vs H Q E h => ?_) (fun f cdv A outer s H vs Q E hr h => ?_)
  · obtain ⟨_, _, _, _, _, rfl, _⟩ := h; rfl
  · obtain ⟨a, b, f, p, m, rfl, ha, hb, lf, lp, m3, bf, bp, q⟩ := h
    refine ⟨_, (pss_one (ps_ret (pe_op op_add (pe_ix ix_tup (pv 0) pe_int (fun _ _ => rfl)) (pe_callB (cr_sum rfl) (by rfl) T.m_sum (by decide +kernel) (pa_cons (pe_lc (own := [("_law_number", 2), ("_law_count", 3)]) (by rfl) sc_law_value.nd (pi_zipB (K := K) rfl (by rfl) T.m_zip (pa_cons (pe_slice sl_drop (pv 0) (po_some pe_int) po_none) (pa_cons (pv 1) pa_nil))) (blkOk_by (N := ["_law_form_here", "_law_point_here", "_law_number", "_law_count"]) (sc := C8.fnScope (topS 81)) (own := [("_law_number", 2), ("_law_count", 3)]) (by decide +kernel)) (fun _ _ _ _ _ => (pg_two (K := K) (i := 2) (j := 3) rfl rfl sc_law_value.nd rfl rfl (Or.inl rfl) (Or.inl rfl))) (fun _ _ _ _ _ => pts_nil) (fun _ _ _ _ _ => (pe_op op_mulW (pv 2) (pv 3)))) pa_nil))))), ?_⟩
    obtain ⟨c, r, rfl⟩ : ∃ c r, f = c :: r := by cases f with | nil => simp at lf | cons c r => exact ⟨c, r, rfl⟩
    refine ⟨_, rfl, a, _, 0, .int (c : Nat), rfl, rfl, .inl (.inl ha), atI_nat (j := 0) rfl, ?_⟩
    refine ⟨_, rfl, 1, rfl, a, _, 1, rfl, rfl, rfl, ha, fun p1 H1 s1 h1 => ?_⟩
    have hb1 : LP H1 b p := s1 _ _ hb
    have h1' : H1 p1 = some (.tup (natsV r)) := h1
    refine ⟨_, rfl, .T, .L, p1, b, natsV r, natsV p, rfl, .inl (.inl h1'), .inl (.inl hb1), ?_⟩
    refine fun D hD => lcZ_map vMulN (by rw [natsV_len, natsV_len]; simp at lf; omega) (by rw [natsV_len]; exact small5 (by simp at lf; omega)) (fun H' s => ⟨.inl (.inl (s _ _ h1')), .inl (.inl (s _ _ hb1))⟩) (fun i x y H' R hx hy s q' => ?_) hD fun H' s hL => ?_
    · obtain ⟨x', mx, _, rfl⟩ := get_nat hx
      obtain ⟨y', my, _, rfl⟩ := get_nat hy
      have b1 := bf x' (List.mem_cons_of_mem _ mx)
      have b2 := bp y' my
      exact ⟨rfl, _, rfl, _, rfl, _, _, rfl, rfl, wide_mul (a := 900) (b := 900) (by omega) (by omega) (by decide) (by decide) (by decide), q' _ (Same.refl _)⟩
    · rw [zip_mulN] at hL
      refine ⟨D, _, rfl, .inl (.inl hL), _, _, rfl, rfl, ?_⟩
      rw [sum_zipN]
      have := q H' (s1.trans s)
      unfold valF at this
      rw [Int.natCast_add] at this
      exact this
def neW (p : Pn) : Bool := decide (p.1 ≠ [])
def sp_write : Sp := fun vs H Q _ => ∃ (l pa : Addr) (ps : List Pn) (pt : List Nat) (m : Nat), vs = [.ref l, .ref pa] ∧ PL H l ps ∧ LP H pa pt ∧ LenF m ps ∧ pt.length = m ∧ m ≤ 3 ∧ (∀ p ∈ ps, Bf p.2) ∧ Bf pt ∧ Ws 100000 ps ∧ ps.length ≤ 100000 ∧ (wr pt ps).length ≤ 1000000 ∧ ∀ H', Same H H' → Q (.str (S (wr pt ps))) H'
theorem c_law_write (T : Txt K mg C) : C8.Cal P w K mg base 2 "_law_write" sp_write [] := by
  refine calF T.d_law_write sc_law_write (fun vs H Q E h => ?_) (fun f cdv A outer s H vs Q E hr h => ?_)
  · obtain ⟨_, _, _, _, _, rfl, _⟩ := h; rfl
  · obtain ⟨l, pa, ps, pt, m, rfl, ⟨vs, hl, hp⟩, hpa, lF, lpt, m3, bf, bp, ws, lps, lw, q⟩ := h
    have len := hp.len
    refine ⟨_, (pss_one (ps_ret (pe_join pe_str (pe_lc (own := [("_law_word_here", 2), ("_law_form_here", 3)]) (by rfl) sc_law_write.nd (pi_list (pv 0)) (blkOk_by (N := ["_law_pieces", "_law_point_here", "_law_word_here", "_law_form_here"]) (sc := C8.fnScope (topS 82)) (own := [("_law_word_here", 2), ("_law_form_here", 3)]) (by decide +kernel)) (fun _ _ _ _ _ => (pg_two (K := K) (i := 2) (j := 3) rfl rfl sc_law_write.nd rfl rfl (Or.inl rfl) (Or.inl rfl))) (fun _ _ _ _ _ => (pts_one (pt_cmpR op_ne (pv 2) pe_str (nomark _)))) (fun _ _ _ _ _ => (pe_op op_repM (pv 2) (C8.pe_c (c_law_value T) hr (by decide) (by rfl) (pa_cons (pv 3) (pa_cons (pv 1) pa_nil))))))))), ?_⟩
    refine ⟨⟨_, rfl⟩, _, rfl, l, rfl, ⟨_, .inl (.inl hl)⟩, fun D hD => ?_⟩
    refine lc_list (K := K) (a := l) (xs := vs) (fun i H1 => Same H H1 ∧ H1 D = some (.lst ((((ps.take i).filter neW).map (wrt pt)).map fun z => V.str (S z)))) ⟨sameNew hD, by rw [upd_same]; rfl⟩ (fun i H1 _ p => .inl (.inl (p.1 _ _ hl))) (fun i y H1 hi p => ?_) fun H1 p => ?_
    · obtain ⟨s1, hD1⟩ := p
      obtain ⟨a, p, rfl, hpi, pc⟩ := hp.get hi
      have mem := List.mem_of_getElem? hpi
      have wp := ws p mem
      obtain ⟨fa, e1, e2⟩ := pc.mono (tup_same s1)
      refine ⟨a, _, rfl, .inl (.inl e1), rfl, _, _, rfl, _, _, rfl, rfl, rfl, ?_⟩
      have eT : ps.take (i + 1) = ps.take i ++ [p] := by rw [List.take_succ, hpi]; rfl
      refine ⟨_, rfl, rfl, _, rfl, ?_⟩
      rw [eT, List.filter_append]
      by_cases h0 : p.1 = []
      · refine iteNS (by rw [h0]; decide +kernel) ⟨s1, ?_⟩
        have : neW p = false := by unfold neW; simp [h0]
        rw [List.filter_cons_of_neg (by rw [this]; exact Bool.false_ne_true), List.filter_nil, List.append_nil]
        exact hD1
      · have hne : neW p = true := decide_eq_true h0
        have n0 := List.length_pos_iff.mpr h0
        have lw1 := wrt_le (pt := pt) mem
        have lw2 : (wrt pt p).length = p.1.length * valF p.2 pt := WM.pw_len _ _
        have lv : valF p.2 pt ≤ p.1.length * valF p.2 pt := Nat.le_mul_of_pos_left _ n0
        refine ite2 (fun _ => ?_) (fun e => absurd (by rw [decide_eq_false (fun y => h0 (S_nil (V.str.inj y)))]; rfl) e)
        refine ⟨_, rfl, _, rfl, _, rfl, fa, pa, p.2, pt, m, rfl, e2, s1 _ _ hpa, lF p mem, lpt, m3, bf p mem, bp, fun H2 s2 => ?_⟩
        refine ⟨p.1, valF p.2 pt, rfl, rfl, by omega, by omega, by rw [Nat.mul_comm]; omega, _, s2 _ _ hD1, ?_, same_upd2 hD (s1.trans s2), ?_⟩
        · rw [List.length_map, List.length_map]
          have := List.length_filter_le neW (ps.take i)
          rw [List.length_take] at this
          rw [sizeLine_eq]
          omega
        · rw [upd_same, List.filter_cons_of_pos hne, List.filter_nil, List.map_append, List.map_append]
          rfl
    · obtain ⟨s1, hD1⟩ := p
      rw [len, List.take_length] at hD1
      have ef := wr_flat pt ps
      have ll : ((((ps.filter neW).map (wrt pt)).map S).map fun x => x.length).sum = (wr pt ps).length := by rw [len_flatS, ← ef]; rfl
      refine ⟨Str.ofString "", D, ((ps.filter neW).map (wrt pt)).map S, rfl, rfl, .inl (.inl (.inl (by rw [hD1]; simp only [List.map_map]; rfl))), ?_, ?_⟩
      · rw [ll, len_empty]
        omega
      · rw [join_flat]
        have : ((ps.filter neW).map (wrt pt)).flatten = wr pt ps := ef
        rw [this]
        exact q H1 s1
end
end K23

set_option Elab.async false
set_option linter.all false
set_option maxRecDepth 100000
set_option maxHeartbeats 4000000
namespace K23
open PySem PySem.Spec PyProof.Rows L2 CK SX NM
/-! ### the form of a text's length -/
def lenP (m : Nat) (ps : List Pn) : F := ps.foldl (fun acc p => addF acc (timesF p.1.length p.2)) (0 :: List.replicate m 0)
theorem len_lenQ {m : Nat} : ∀ (ps : List Pn) (acc : F), acc.length = m + 1 → LenF m ps → (ps.foldl (fun acc p => addF acc (timesF p.1.length p.2)) acc).length = m + 1
  | [], acc, h, _ => h
  | p :: r, acc, h, l => by
    have l0 := l p List.mem_cons_self
    have e : acc.length = (timesF p.1.length p.2).length := by rw [len_timesF, h, l0]
    exact len_lenQ r _ (by rw [len_add e, len_timesF, l0]) fun q hq => l q (List.mem_cons_of_mem _ hq)
theorem len_lenP {m : Nat} {ps : List Pn} (l : LenF m ps) : (lenP m ps).length = m + 1 := len_lenQ ps _ (by simp) l
theorem val_lenQ {m : Nat} (pt : List Nat) : ∀ (ps : List Pn) (acc : F), acc.length = m + 1 → LenF m ps → valF (ps.foldl (fun acc p => addF acc (timesF p.1.length p.2)) acc) pt = valF acc pt + (wr pt ps).length
  | [], acc, _, _ => by simp [wr]
  | p :: r, acc, h, l => by
    have l0 := l p List.mem_cons_self
    have e : acc.length = (timesF p.1.length p.2).length := by rw [len_timesF, h, l0]
    have e2 : (wrt pt p).length = p.1.length * valF p.2 pt := WM.pw_len _ _
    rw [List.foldl_cons, val_lenQ pt r _ (by rw [len_add e, len_timesF, l0]) fun q hq => l q (List.mem_cons_of_mem _ hq), val_add pt e, val_times, wr, List.length_append, e2]
    omega
theorem val_lenP {m : Nat} {ps : List Pn} (l : LenF m ps) (pt : List Nat) : valF (lenP m ps) pt = (wr pt ps).length := by
  unfold lenP
  rw [val_lenQ pt ps _ (by simp) l]
  have : valF (0 :: List.replicate m 0) pt = 0 := by
    unfold valF
    show 0 + dot (List.replicate m 0) pt = 0
    rw [dot_zero]
  rw [this, Nat.zero_add]
theorem bf_lenP {m : Nat} {ps : List Pn} (l : LenF m ps) (hw : Wl m ps) : Bf (lenP m ps) := fun x hx => by
  have a := mem_val (len_lenP l) hx
  rw [val_lenP l] at a
  exact Nat.lt_of_le_of_lt a hw
/-- words and numbers of times -/
inductive Ns (H : Hp) : List V → List (List Nat × Nat) → Prop
  | nil : Ns H [] []
  | cons {a : Addr} {vs : List V} {z : List Nat} {n : Nat} {xs : List (List Nat × Nat)} : H a = some (.tup [.str (S z), .int (n : Nat)]) → Ns H vs xs → Ns H (.ref a :: vs) ((z, n) :: xs)
theorem Ns.mono {H H' : Hp} {vs : List V} {xs : List (List Nat × Nat)} (h : Ns H vs xs) (s : ∀ b ys, H b = some (.tup ys) → H' b = some (.tup ys)) : Ns H' vs xs := by
  induction h with
  | nil => exact .nil
  | cons e _ ih => exact .cons (s _ _ e) ih
theorem Ns.len {H : Hp} {vs : List V} {xs : List (List Nat × Nat)} (h : Ns H vs xs) : vs.length = xs.length := by
  induction h with
  | nil => rfl
  | cons _ _ ih => simp [ih]
theorem Ns.get {H : Hp} {vs : List V} {xs : List (List Nat × Nat)} (h : Ns H vs xs) {i : Nat} {v : V} (hi : vs[i]? = some v) : ∃ a z n, v = .ref a ∧ xs[i]? = some (z, n) ∧ H a = some (.tup [.str (S z), .int (n : Nat)]) := by
  induction h generalizing i with
  | nil => simp at hi
  | cons e _ ih =>
    cases i with
    | zero =>
      cases hi
      exact ⟨_, _, _, rfl, rfl, e⟩
    | succ i => exact ih hi
theorem Ns.app {H : Hp} {vs us : List V} {xs ys : List (List Nat × Nat)} (h : Ns H vs xs) (g : Ns H us ys) : Ns H (vs ++ us) (xs ++ ys) := by
  induction h with
  | nil => exact g
  | cons e _ ih => exact .cons e ih
section
variable {P : Program} {w : World} {K : PySem.W.Frag} {mg : Str → Option Value} {base : Heap} {C : Addr}
theorem c_form_value (T : Txt K mg C) : C8.Cal P w K mg base 1 "form_value" sp_value [] := by
  refine calF T.d_form_value sc_form_value (fun vs H Q E h => ?_) (fun f cdv A outer s H vs Q E hr h => ?_)
  · obtain ⟨_, _, _, _, _, rfl, _⟩ := h; rfl
  · obtain ⟨a, b, f, p, m, rfl, ha, hb, lf, lp, m3, bf, bp, q⟩ := h
    refine ⟨_, (pss_one (ps_ret (pe_op op_add (pe_ix ix_tup (pv 0) pe_int (fun _ _ => rfl)) (pe_callB (cr_sum rfl) (by rfl) T.m_sum (by decide +kernel) (pa_cons (pe_lc (own := [("number", 2), ("count", 3)]) (by rfl) sc_form_value.nd (pi_zipB (K := K) rfl (by rfl) T.m_zip (pa_cons (pe_slice sl_drop (pv 0) (po_some pe_int) po_none) (pa_cons (pv 1) pa_nil))) (blkOk_by (N := ["form", "point", "number", "count"]) (sc := C8.fnScope (topS 25)) (own := [("number", 2), ("count", 3)]) (by decide +kernel)) (fun _ _ _ _ _ => (pg_two (K := K) (i := 2) (j := 3) rfl rfl sc_form_value.nd rfl rfl (Or.inl rfl) (Or.inl rfl))) (fun _ _ _ _ _ => pts_nil) (fun _ _ _ _ _ => (pe_op op_mulW (pv 2) (pv 3)))) pa_nil))))), ?_⟩
    obtain ⟨c, r, rfl⟩ : ∃ c r, f = c :: r := by cases f with | nil => simp at lf | cons c r => exact ⟨c, r, rfl⟩
    refine ⟨_, rfl, a, _, 0, .int (c : Nat), rfl, rfl, .inl (.inl ha), atI_nat (j := 0) rfl, ?_⟩
    refine ⟨_, rfl, 1, rfl, a, _, 1, rfl, rfl, rfl, ha, fun p1 H1 s1 h1 => ?_⟩
    have hb1 : LP H1 b p := s1 _ _ hb
    have h1' : H1 p1 = some (.tup (natsV r)) := h1
    refine ⟨_, rfl, .T, .L, p1, b, natsV r, natsV p, rfl, .inl (.inl h1'), .inl (.inl hb1), ?_⟩
    refine fun D hD => lcZ_map vMulN (by rw [natsV_len, natsV_len]; simp at lf; omega) (by rw [natsV_len]; exact small5 (by simp at lf; omega)) (fun H' s => ⟨.inl (.inl (s _ _ h1')), .inl (.inl (s _ _ hb1))⟩) (fun i x y H' R hx hy s q' => ?_) hD fun H' s hL => ?_
    · obtain ⟨x', mx, _, rfl⟩ := get_nat hx
      obtain ⟨y', my, _, rfl⟩ := get_nat hy
      have b1 := bf x' (List.mem_cons_of_mem _ mx)
      have b2 := bp y' my
      exact ⟨rfl, _, rfl, _, rfl, _, _, rfl, rfl, wide_mul (a := 900) (b := 900) (by omega) (by omega) (by decide) (by decide) (by decide), q' _ (Same.refl _)⟩
    · rw [zip_mulN] at hL
      refine ⟨D, _, rfl, .inl (.inl hL), _, _, rfl, rfl, ?_⟩
      rw [sum_zipN]
      have := q H' (s1.trans s)
      unfold valF at this
      rw [Int.natCast_add] at this
      exact this
def sp_counted (C : Addr) : Sp := fun vs H Q _ => ∃ (a pa : Addr) (m : Nat) (ps : List Pn) (pt : List Nat), vs = [.ref a, .ref pa] ∧ OT C H a m ps ∧ LP H pa pt ∧ pt.length = m ∧ m ≤ 3 ∧ Bf pt ∧ ∀ D us H', Same H H' → H' D = some (.lst us) → Ns H' us (ps.map fun p => (p.1, valF p.2 pt)) → Q (.ref D) H'
theorem c_counted (T : Txt K mg C) : C8.Cal P w K mg base 3 "counted" (sp_counted C) [] := by
  refine calF T.d_counted sc_counted (fun vs H Q E h => ?_) (fun f0 cdv A outer s H vs Q E hr h => ?_)
  · obtain ⟨_, _, _, _, _, rfl, _⟩ := h; rfl
  · obtain ⟨a, pa, m, ps, pt, rfl, oa, hpa, lpt, m3, bp, q⟩ := h
    obtain ⟨l, ⟨dx, ha⟩, ga⟩ := id oa
    refine ⟨_, (pss_one (ps_ret (pe_lc (own := [("word", 2), ("form", 3)]) (by rfl) sc_counted.nd (pi_list (C8.pe_mt0 (m_OpenText_pieces T) hr (by decide) (pv 0))) (blkOk_by (N := ["text", "point", "word", "form"]) (sc := C8.fnScope (topS 58)) (own := [("word", 2), ("form", 3)]) (by decide +kernel)) (fun _ _ _ _ _ => (pg_two (K := K) (i := 2) (j := 3) rfl rfl sc_counted.nd rfl rfl (Or.inl rfl) (Or.inl rfl))) (fun _ _ _ _ _ => pts_nil) (fun _ _ _ _ _ => (pe_tup (pa_cons (pv 2) (pa_cons (C8.pe_c (c_form_value T) hr (by decide) (by rfl) (pa_cons (pv 3) (pa_cons (pv 1) pa_nil))) pa_nil))))))), ?_⟩
    refine ⟨_, rfl, a, dx, _, rfl, ha, (OF_no l m).1, a, m, ps, rfl, oa, fun L1 H1 s1 n1 g1 => ?_⟩
    obtain ⟨vs, hvs, pvs⟩ := id g1.at_
    have lv := pvs.len
    have few := g1.few
    refine ⟨L1, rfl, ⟨_, .inl (.inl hvs)⟩, fun D hD => ?_⟩
    refine lc_list (K := K) (a := L1) (xs := vs) (fun i H2 => Same H1 H2 ∧ ∃ us, H2 D = some (.lst us) ∧ Ns H2 us ((ps.take i).map fun p => (p.1, valF p.2 pt))) ⟨sameNew hD, [], upd_same, .nil⟩ (fun i H2 _ p => .inl (.inl (p.1 _ _ hvs))) (fun i y H2 hi p => ?_) fun H2 p => ?_
    · obtain ⟨s2, us, hus, pus⟩ := p
      obtain ⟨b, p, rfl, hpi, pc⟩ := pvs.get hi
      have mem := List.mem_of_getElem? hpi
      obtain ⟨fa, e1, e2⟩ := pc.mono (tup_same s2)
      have lu := pus.len
      rw [List.length_map, List.length_take] at lu
      refine ⟨b, _, rfl, .inl (.inl e1), rfl, _, _, rfl, _, _, rfl, rfl, rfl, ?_⟩
      refine yes_if ⟨_, rfl, _, rfl, _, rfl, fa, pa, p.2, pt, m, rfl, e2, (s1.trans s2) _ _ hpa, g1.len p mem, lpt, m3, g1.bf p mem, bp, fun H3 s3 => ⟨by show 2 ≤ sizeLine; decide, fun t nt => ?_⟩⟩
      have st := sameNew (o := .tup [.str (S p.1), .int (valF p.2 pt : Nat)]) nt
      have sC := s3.trans st
      have hu := sC _ _ hus
      refine ⟨us, hu, by rw [sizeLine_eq]; omega, same_upd2 hD (s2.trans sC), _, upd_same, ?_⟩
      have eT : (ps.take (i + 1)).map (fun p => (p.1, valF p.2 pt)) = (ps.take i).map (fun p => (p.1, valF p.2 pt)) ++ [(p.1, valF p.2 pt)] := by
        rw [List.take_succ, hpi, List.map_append]
        rfl
      rw [eT]
      exact ((pus.mono (tup_same sC)).mono (tup_upd hu)).app (.cons (tup_upd hu _ _ upd_same) .nil)
    · obtain ⟨s2, us, hus, pus⟩ := p
      rw [lv, List.take_length] at pus
      exact q D us H2 (s1.trans s2) hus pus
def sp_word_at (C : Addr) : Sp := fun vs H Q _ => ∃ (a pa : Addr) (m : Nat) (ps : List Pn) (pt : List Nat), vs = [.ref a, .ref pa] ∧ OT C H a m ps ∧ LP H pa pt ∧ pt.length = m ∧ m ≤ 3 ∧ Bf pt ∧ (∀ p ∈ ps, p.1 ≠ []) ∧ (wr pt ps).length ≤ 1000000 ∧ ∀ H', Same H H' → Q (.str (S (wr pt ps))) H'
theorem c_word_at (T : Txt K mg C) : C8.Cal P w K mg base 4 "word_at" (sp_word_at C) [] := by
  refine calF T.d_word_at sc_word_at (fun vs H Q E h => ?_) (fun f0 cdv A outer s H vs Q E hr h => ?_)
  · obtain ⟨_, _, _, _, _, rfl, _⟩ := h; rfl
  · obtain ⟨a, pa, m, ps, pt, rfl, oa, hpa, lpt, m3, bp, ne, lw, q⟩ := h
    refine ⟨_, (pss_one (ps_ret (pe_join pe_str (pe_lc (own := [("word", 2), ("times", 3)]) (by rfl) sc_word_at.nd (pi_list (C8.pe_c (c_counted T) hr (by decide) (by rfl) (pa_cons (pv 0) (pa_cons (pv 1) pa_nil)))) (blkOk_by (N := ["text", "point", "word", "times"]) (sc := C8.fnScope (topS 60)) (own := [("word", 2), ("times", 3)]) (by decide +kernel)) (fun _ _ _ _ _ => (pg_two (K := K) (i := 2) (j := 3) rfl rfl sc_word_at.nd rfl rfl (Or.inl rfl) (Or.inl rfl))) (fun _ _ _ _ _ => pts_nil) (fun _ _ _ _ _ => (pe_op op_repM (pv 2) (pv 3))))))), ?_⟩
    refine ⟨⟨_, rfl⟩, _, rfl, _, rfl, a, pa, m, ps, pt, rfl, oa, hpa, lpt, m3, bp, fun L us H1 s1 hus pus => ?_⟩
    have lu := pus.len
    rw [List.length_map] at lu
    obtain ⟨_, _, ga⟩ := id oa
    have few := ga.few
    refine ⟨L, rfl, ⟨_, .inl (.inl hus)⟩, fun D hD => ?_⟩
    refine lc_list (K := K) (a := L) (xs := us) (fun i H2 => Same H1 H2 ∧ H2 D = some (.lst (((ps.take i).map (wrt pt)).map fun z => V.str (S z)))) ⟨sameNew hD, upd_same⟩ (fun i H2 _ p => .inl (.inl (p.1 _ _ hus))) (fun i y H2 hi p => ?_) fun H2 p => ?_
    · obtain ⟨s2, hws⟩ := p
      obtain ⟨b, z, n, rfl, hx, e1⟩ := (pus.mono (tup_same s2)).get hi
      obtain ⟨p, hpi, e⟩ : ∃ p, ps[i]? = some p ∧ (p.1, valF p.2 pt) = (z, n) := by
        rw [List.getElem?_map] at hx
        cases e : ps[i]? with
        | none => rw [e] at hx; cases hx
        | some p => rw [e] at hx; exact ⟨p, rfl, Option.some.inj hx⟩
      cases e
      have mem := List.mem_of_getElem? hpi
      have wp := ga.ws p mem
      have lw1 := wrt_le (pt := pt) mem
      have lw2 : (wrt pt p).length = p.1.length * valF p.2 pt := WM.pw_len _ _
      have n0 := List.length_pos_iff.mpr (ne p mem)
      have lv : valF p.2 pt ≤ p.1.length * valF p.2 pt := Nat.le_mul_of_pos_left _ n0
      refine ⟨b, _, rfl, .inl (.inl e1), rfl, _, _, rfl, _, _, rfl, rfl, rfl, yes_if ⟨_, rfl, _, rfl, p.1, valF p.2 pt, rfl, rfl, by omega, by omega, by rw [Nat.mul_comm]; omega, _, hws, ?_, same_upd2 hD s2, ?_⟩⟩
      · rw [List.length_map, List.length_map, List.length_take, sizeLine_eq]
        omega
      · rw [upd_same, List.take_succ, hpi, List.map_append, List.map_append]
        rfl
    · obtain ⟨s2, hws⟩ := p
      rw [lu, List.take_length] at hws
      have ef : (ps.map (wrt pt)).flatten = wr pt ps := by
        clear hws lw lu few ga pus hus oa ne q
        induction ps with
        | nil => rfl
        | cons p r ih => rw [List.map_cons, List.flatten_cons, ih]; rfl
      refine ⟨Str.ofString "", D, (ps.map (wrt pt)).map S, rfl, rfl, .inl (.inl (.inl (by rw [hws]; simp only [List.map_map]; rfl))), ?_, ?_⟩
      · rw [len_flatS, ef, len_empty]
        omega
      · rw [K23.join_flat, ef]
        exact q H2 (s1.trans s2)
def sp_length (C : Addr) : Sp := fun vs H Q _ => ∃ (a : Addr) (m : Nat) (ps : List Pn), vs = [.ref a] ∧ OT C H a m ps ∧ m ≤ 3 ∧ ∀ p H', Same H H' → FT H' p (lenP m ps) → Q (.ref p) H'
theorem c_length (T : Txt K mg C) : C8.Cal P w K mg base 3 "length" (sp_length C) [] := by
  refine calF T.d_length sc_length (fun vs H Q E h => ?_) (fun f0 cdv A outer s H vs Q E hr h => ?_)
  · obtain ⟨_, _, _, rfl, _⟩ := h; rfl
  · obtain ⟨a, m, ps, rfl, oa, m3, q⟩ := h
    obtain ⟨l, ⟨dx, ha⟩, ga⟩ := id oa
    refine ⟨_, (pss_cons (ps_expr (C8.pe_c (c_need_text T) hr (by decide) (by rfl) (pa_cons (pv 0) pa_nil)))
    (pss_cons (ps_set (i := 1) sc_length.nd rfl (Or.inl rfl) (C8.pe_c (c_plain_form T) hr (by decide) (by rfl) (pa_cons pe_int (pa_cons (C8.pe_mt0 (m_OpenText_many T) hr (by decide) (pv 0)) pa_nil))))
    (pss_cons (ps_for PassesOwn.never rfl (pi_list (C8.pe_mt0 (m_OpenText_pieces T) hr (by decide) (pv 0))) (pg_two (K := K) (i := 2) (j := 3) rfl rfl sc_length.nd rfl rfl (Or.inl rfl) (Or.inl rfl))
    (pss_one (ps_set (i := 1) sc_length.nd rfl (Or.inl rfl) (C8.pe_c (c_form_sum T) hr (by decide) (by rfl) (pa_cons (pv 1) (pa_cons (C8.pe_c (c_form_times T) hr (by decide) (by rfl) (pa_cons (pe_callB call_len_str (by rfl) T.m_len (by decide +kernel) (pa_cons (pv 2) pa_nil)) (pa_cons (pv 3) pa_nil))) pa_nil))))))
    (pss_one (ps_ret (pv 1)))))), ?_⟩
    refine ⟨_, rfl, a, m, ps, rfl, oa, ?_⟩
    refine ⟨_, rfl, a, dx, _, rfl, ha, (OF_no l m).2, a, m, ps, rfl, oa, m, 0, rfl, m3, fun p0 H1 s1 h1 => ?_⟩
    refine ⟨_, rfl, a, dx, _, rfl, s1 _ _ ha, (OF_no l m).1, a, m, ps, rfl, oa.same s1, fun L H2 s2 n2 g2 => ?_⟩
    obtain ⟨us, hus, pus⟩ := id g2.at_
    have lu := pus.len
    refine ⟨L, rfl, ⟨_, .inl (.inl hus)⟩, for_list (K := K) (a := L) (xs := us) (fun i σ H' => Same H2 H' ∧ ∃ (p : Addr) (y2 y3 : Option V), σ = [some (.ref a), some (.ref p), y2, y3] ∧ FT H' p (lenP m (ps.take i)))
      ⟨.refl _, p0, none, none, rfl, h1.same s2⟩ (fun i σ H' _ p => .inl (.inl (p.1 _ _ hus))) (fun i y σ H' hi pI => ?_) (fun σ H' pI => ?_)⟩
    · obtain ⟨s3, p, y2, y3, rfl, hp⟩ := pI
      obtain ⟨b, q', rfl, hpi, pc⟩ := pus.get hi
      have mem := List.mem_of_getElem? hpi
      have lp := g2.len q' mem
      have wp := g2.ws q' mem
      obtain ⟨fa, e1, e2⟩ := pc.mono (tup_same s3)
      have lF : LenF m (ps.take i) := fun z hz => g2.len z (List.mem_of_mem_take hz)
      have eT : lenP m (ps.take (i + 1)) = addF (lenP m (ps.take i)) (timesF q'.1.length q'.2) := by
        unfold lenP
        rw [List.take_succ, hpi, List.foldl_append]
        rfl
      refine ⟨b, _, rfl, .inl (.inl e1), rfl, _, _, rfl, _, _, rfl, rfl, ?_⟩
      have e2' : H' fa = some (.tup (natsV q'.2)) := e2
      refine ⟨_, rfl, _, rfl, S q'.1, rfl, len_line (by omega), _, rfl, q'.1.length, fa, q'.2, by show [V.int ((S q'.1).length : Nat), V.ref fa] = _; rw [S_len], e2', by omega, Nat.lt_of_le_of_lt (show q'.1.length ≤ 2000 by omega) (Nat.lt_of_lt_of_le (by decide : 2000 < 2 ^ 20) (Nat.pow_le_pow_right (by decide) (by decide))), g2.bf q' mem, fun p1 H3 s4 h3 => ?_⟩
      refine ⟨p, p1, _, _, rfl, hp.same s4, h3, by rw [len_lenP lF]; omega, by rw [len_lenP lF, len_timesF, lp], fun p2 H4 s5 h4 => ?_⟩
      rw [eT]
      exact ⟨(s3.trans s4).trans s5, p2, _, _, rfl, h4⟩
    · obtain ⟨s3, p, y2, y3, rfl, hp⟩ := pI
      rw [lu, List.take_length] at hp
      exact ⟨_, rfl, q p _ ((s1.trans s2).trans s3) hp⟩
def sp_is_counts : Sp := fun vs H Q _ => ∃ (pa : Addr) (m : Nat) (pt : List Nat), vs = [.ref pa, .int m] ∧ LP H pa pt ∧ pt.length = m ∧ m ≤ 3 ∧ ∀ H', Same H H' → Q (.bl true) H'
theorem c_is_counts (T : Txt K mg C) : C8.Cal P w K mg base 3 "is_counts" sp_is_counts [] := by
  refine calF T.d_is_counts sc_is_counts (fun vs H Q E h => ?_) (fun f cdv A outer s H vs Q E hr h => ?_)
  · obtain ⟨_, _, _, rfl, _⟩ := h; rfl
  · obtain ⟨l, m, pt, rfl, hl, lpt, m3, q⟩ := h
    have kn : Kn H (.ref l) := .lst hl
    refine ⟨_, (pss_one (ps_ret (pe_and (pe_callB call_isK (by rfl) T.m_isinstance (by decide +kernel) (pa_cons (pv 0) (pa_cons (pe_bltn (v := .ty "list") (by rfl) T.m_list (by decide +kernel) rfl) pa_nil))) (pe_and (pe_cmpR op_eq (pe_callB call_len_seq (by rfl) T.m_len (by decide +kernel) (pa_cons (pv 0) pa_nil)) (pv 1) (nomark _)) (pe_one (pe_callB (cr_all rfl) (by rfl) T.m_all (by decide +kernel) (pa_cons (pe_lc (own := [("number", 2)]) (by rfl) sc_is_counts.nd (pi_list (pv 0)) (blkOk_by (N := ["value", "many", "number"]) (sc := C8.fnScope (topS 16)) (own := [("number", 2)]) (by decide +kernel)) (fun _ _ _ _ _ => (pg_name (i := 2) sc_is_counts.nd rfl (Or.inl rfl))) (fun _ _ _ _ _ => pts_nil) (fun _ _ _ _ _ => (C8.pe_c (c_is_count T) hr (by decide) (by rfl) (pa_cons (pv 2) pa_nil)))) pa_nil))))))), ?_⟩
    refine ⟨_, rfl, .ref l, "list", _, rfl, kn, kit_list kn, _, rfl, ?_⟩
    rw [isLi_lst hl]
    refine iteT ⟨_, rfl, l, _, rfl, .inl (.inl (.inl hl)), _, rfl, rfl, _, rfl, ?_⟩
    rw [decide_eq_true (by rw [natsV_len, lpt])]
    refine iteT ⟨_, rfl, l, rfl, ⟨_, .inl (.inl hl)⟩, fun D hD => ?_⟩
    refine lcL_mapI (K := K) (a := l) (xs := natsV pt) (fun _ => V.bl true) hl (small1000 (by rw [natsV_len]; omega)) (fun i x H' R hx s' q' => ?_) hD fun H' s' hL => ?_
    · obtain ⟨x', mx, _, rfl⟩ := get_nat hx
      refine ⟨rfl, _, rfl, _, rfl, .int _, ?_⟩
      rw [show isC (.int (x' : Nat)) = true from (decide_eq_true (by omega) : decide ((0 : Int) ≤ (x' : Nat)) = true)]
      exact q' _ (Same.refl _)
    · refine ⟨D, (List.range (natsV pt).length).map fun _ => true, rfl, .inl (.inl (by rw [hL, List.map_map]; rfl)), ?_⟩
      rw [show ((List.range (natsV pt).length).map fun _ => true).all id = true by simp]
      exact q H' s'
def sp_need_point : Sp := fun vs H Q _ => ∃ (pa : Addr) (m : Nat) (pt : List Nat), vs = [.ref pa, .int m] ∧ LP H pa pt ∧ pt.length = m ∧ m ≤ 3 ∧ ∀ H', Same H H' → Q .non H'
theorem c_need_point (T : Txt K mg C) : C8.Cal P w K mg base 4 "need_point" sp_need_point [] := by
  refine calF T.d_need_point sc_need_point (fun vs H Q E h => ?_) (fun f cdv A outer s H vs Q E hr h => ?_)
  · obtain ⟨_, _, _, rfl, _⟩ := h; rfl
  · obtain ⟨l, m, pt, rfl, hl, lpt, m3, q⟩ := h
    refine ⟨_, (pss_one (ps_if (pt_not (pt_val (C8.pe_c (c_is_counts T) hr (by decide) (by rfl) (pa_cons (pv 0) (pa_cons (pv 1) pa_nil)))))
    (pss_one ps_never)
    pss_nil)), ?_⟩
    exact ⟨_, rfl, _, rfl, l, m, pt, rfl, hl, lpt, m3, fun H' s' => ⟨_, rfl, iteF (q H' s')⟩⟩
def sp_written (C : Addr) : Sp := fun vs H Q _ => ∃ (a pa : Addr) (m : Nat) (ps : List Pn) (pt : List Nat), vs = [.ref a, .ref pa] ∧ OT C H a m ps ∧ LP H pa pt ∧ pt.length = m ∧ m ≤ 3 ∧ Bf pt ∧ Wl m ps ∧ (∀ p ∈ ps, p.1 ≠ []) ∧ (wr pt ps).length ≤ 20000 ∧ ∀ H', Same H H' → Q (.str (S (wr pt ps))) H'
theorem c_written (T : Txt K mg C) : C8.Cal P w K mg base 5 "written" (sp_written C) [] := by
  refine calF T.d_written sc_written (fun vs H Q E h => ?_) (fun f cdv A outer s H vs Q E hr h => ?_)
  · obtain ⟨_, _, _, _, _, rfl, _⟩ := h; rfl
  · obtain ⟨a, pa, m, ps, pt, rfl, oa, hpa, lpt, m3, bp, hw, ne, lw, q⟩ := h
    obtain ⟨l, ⟨dx, ha⟩, ga⟩ := id oa
    refine ⟨_, (pss_cons (ps_expr (C8.pe_c (c_need_text T) hr (by decide) (by rfl) (pa_cons (pv 0) pa_nil)))
    (pss_cons (ps_expr (C8.pe_c (c_need_point T) hr (by decide) (by rfl) (pa_cons (pv 1) (pa_cons (C8.pe_mt0 (m_OpenText_many T) hr (by decide) (pv 0)) pa_nil))))
    (pss_cons (ps_set (i := 2) sc_written.nd rfl (Or.inl rfl) (C8.pe_c (c_form_value T) hr (by decide) (by rfl) (pa_cons (C8.pe_c (c_length T) hr (by decide) (by rfl) (pa_cons (pv 0) pa_nil)) (pa_cons (pv 1) pa_nil))))
    (pss_cons (ps_if (pt_cmpR op_gt (pv 2) (C8.pe_gc (by rfl) T.k_MOST_LETTERS) (nomark _))
    (pss_one ps_never)
    pss_nil)
    (pss_one (ps_ret (C8.pe_c (c_word_at T) hr (by decide) (by rfl) (pa_cons (pv 0) (pa_cons (pv 1) pa_nil))))))))), ?_⟩
    refine ⟨_, rfl, a, m, ps, rfl, oa, ?_⟩
    refine ⟨_, rfl, _, rfl, a, dx, _, rfl, ha, (OF_no l m).2, a, m, ps, rfl, oa, pa, m, pt, rfl, hpa, lpt, m3, fun H1 s1 => ?_⟩
    refine ⟨_, rfl, a, m, ps, rfl, oa.same s1, m3, fun p H2 s2 hp => ?_⟩
    have s12 := s1.trans s2
    refine ⟨_, rfl, p, pa, lenP m ps, pt, m, rfl, hp, s12 _ _ hpa, len_lenP ga.len, lpt, m3, bf_lenP ga.len hw, bp, fun H3 s3 => ?_⟩
    have s13 := s12.trans s3
    rw [val_lenP ga.len]
    refine ⟨_, rfl, _, _, rfl, rfl, _, rfl, ?_⟩
    rw [decide_eq_false (show ¬ (((wr pt ps).length : Nat) : Int) > 20000 by omega)]
    refine iteF ⟨_, rfl, _, rfl, a, pa, m, ps, pt, rfl, oa.same s13, s13 _ _ hpa, lpt, m3, bp, ne, by omega, fun H4 s4 => q H4 (s13.trans s4)⟩
end
end K23

set_option Elab.async false
set_option linter.all false
set_option maxRecDepth 100000
set_option maxHeartbeats 8000000
namespace K23
open PySem PySem.Spec PyProof.Rows L2 CK SX NM
theorem Pcs.take {H : Hp} {vs : List V} {ps : List Pn} (h : Pcs H vs ps) (k : Nat) : Pcs H (vs.take k) (ps.take k) := by
  induction h generalizing k with
  | nil => simp; exact .nil
  | cons e _ ih =>
    cases k with
    | zero => exact .nil
    | succ k => exact .cons e (ih k)
theorem Pcs.drop {H : Hp} {vs : List V} {ps : List Pn} (h : Pcs H vs ps) (k : Nat) : Pcs H (vs.drop k) (ps.drop k) := by
  induction h generalizing k with
  | nil => simp; exact .nil
  | cons e h ih =>
    cases k with
    | zero => exact .cons e h
    | succ k => exact ih k
theorem cut_take (vs : List V) (k : Nat) : cutV vs none (some (k : Int)) = vs.take k := cutV_take vs k
theorem cut_drop1 (vs : List V) (k : Nat) : cutV vs (some ((k : Int) + 1)) none = vs.drop (k + 1) := by
  rw [show ((k : Int) + 1) = ((k + 1 : Nat) : Int) by omega, cutV_drop]
theorem three_new {H : Hp} {c1 p2 c2 : Addr} {o1 o2 o3 : HO} (n1 : H c1 = none) (n2 : (upd H c1 o1) p2 = none) (n3 : (upd (upd H c1 o1) p2 o2) c2 = none) : Same H (upd (upd (upd H c1 o1) p2 o2) c2 o3) := ((sameNew n1).trans (sameNew n2)).trans (sameNew n3)
theorem pl_cut {H H' : Hp} {c2 : Addr} {vs us ws : List V} {ps Y : List Pn} {k j : Nat} (hp : Pcs H vs ps) (hY : Pcs H us Y) (s : Same H H') (e : H' c2 = some (.lst (vs.take k ++ us ++ ws))) (ew : ws = vs.drop j) : PL H' c2 (ps.take k ++ Y ++ ps.drop j) := by
  subst ew
  exact ⟨_, e, (((hp.take k).app hY).app (hp.drop j)).same s⟩
/-- pieces within bounds -/
def DvP (Lt : Nat → Prop) (m B W : Nat) (p : Pn) : Prop := p.2.length = m + 1 ∧ p.1.length ≤ W ∧ Lw Lt p.1 ∧ Up B p.2
def Dv (Lt : Nat → Prop) (m B W : Nat) (ps : List Pn) : Prop := ∀ p ∈ ps, DvP Lt m B W p
theorem DvP.up {Lt : Nat → Prop} {m B W B' W' : Nat} {p : Pn} (h : DvP Lt m B W p) (hb : B ≤ B') (hw : W ≤ W') : DvP Lt m B' W' p := ⟨h.1, Nat.le_trans h.2.1 hw, h.2.2.1, fun x hx => Nat.le_trans (h.2.2.2 x hx) hb⟩
theorem Dv.up {Lt : Nat → Prop} {m B W B' W' : Nat} {ps : List Pn} (h : Dv Lt m B W ps) (hb : B ≤ B') (hw : W ≤ W') : Dv Lt m B' W' ps := fun p hp => (h p hp).up hb hw
theorem Dv.app {Lt : Nat → Prop} {m B W : Nat} {ps qs : List Pn} (h : Dv Lt m B W ps) (g : Dv Lt m B W qs) : Dv Lt m B W (ps ++ qs) := fun p hp => (List.mem_append.mp hp).elim (h p) (g p)
theorem dv_one {Lt : Nat → Prop} {m B W : Nat} {p : Pn} (h : DvP Lt m B W p) : Dv Lt m B W [p] := fun q hq => by rw [List.mem_singleton.mp hq]; exact h
theorem dv_cut {Lt : Nat → Prop} {m B W k j : Nat} {ps Y : List Pn} (h : Dv Lt m B W ps) (hY : Dv Lt m (B + 1) (W + 1) Y) : Dv Lt m (B + 1) (W + 1) (ps.take k ++ Y ++ ps.drop j) :=
  (Dv.app (Dv.app (fun p hp => (h p (List.mem_of_mem_take hp)).up (by omega) (by omega)) hY) fun p hp => (h p (List.mem_of_mem_drop hp)).up (by omega) (by omega))
theorem len_cut {k N : Nat} {ps Y : List Pn} (hk : k < ps.length) (hN : ps.length ≤ N) (hY : Y.length ≤ 2) : (ps.take k ++ Y ++ ps.drop (k + 1)).length ≤ N + 1 := by
  rw [List.length_append, List.length_append, List.length_take, List.length_drop]
  omega
theorem shaped_nil : SeqAt.shaped (.list []) = true := by decide +kernel
theorem up_take {B k : Nat} {f : F} (h : Up B f) : Up B (f.take k) := fun x hx => h x (List.mem_of_mem_take hx)
theorem up_drop {B k : Nat} {f : F} (h : Up B f) : Up B (f.drop k) := fun x hx => h x (List.mem_of_mem_drop hx)
theorem up_app {B : Nat} {f g : F} (h : Up B f) (h' : Up B g) : Up B (f ++ g) := fun x hx => (List.mem_append.mp hx).elim (h x) (h' x)
theorem up_rev {B : Nat} {f : F} (h : Up B f) : Up B f.reverse := fun x hx => h x (List.mem_reverse.mp hx)
theorem up_mono {B B' : Nat} {f : F} (h : Up B f) (l : B ≤ B') : Up B' f := fun x hx => Nat.le_trans (h x hx) l
theorem up_zero {B x : Nat} {f : F} (h : Up B (x :: f)) : Up B (0 :: f) := fun y hy => by
  rcases List.mem_cons.mp hy with z | z
  · omega
  · exact h y (List.mem_cons_of_mem _ z)
def vDec : V → V
  | .int i => .int (if i - 1 > 0 then i - 1 else 0)
  | v => v
theorem map_dec (f : F) : (natsV f).map vDec = natsV (f.map fun x => x - 1) := by
  unfold natsV
  rw [List.map_map, List.map_map]
  refine List.map_congr_left fun x _ => ?_
  show V.int (if (x : Int) - 1 > 0 then (x : Int) - 1 else 0) = V.int ((x - 1 : Nat) : Int)
  congr 1
  split <;> omega
theorem get_natV {f : F} {i : Nat} {v : V} (h : (natsV f)[i]? = some v) : ∃ x, x ∈ f ∧ f[i]? = some x ∧ v = .int (x : Nat) := by
  unfold natsV at h
  rw [List.getElem?_map] at h
  cases e : f[i]? with
  | none => rw [e] at h; cases h
  | some x =>
    rw [e] at h
    exact ⟨x, List.mem_of_getElem? e, rfl, (Option.some.inj h).symm⟩
theorem natsV_app' (a b : List Nat) : natsV (a ++ b) = natsV a ++ natsV b := by unfold natsV; rw [List.map_append]
theorem natsV_take (f : F) (k : Nat) : (natsV f).take k = natsV (f.take k) := by unfold natsV; rw [List.map_take]
theorem natsV_drop (f : F) (k : Nat) : (natsV f).drop k = natsV (f.drop k) := by unfold natsV; rw [List.map_drop]
theorem natsV_rev (f : F) : (natsV f).reverse = natsV f.reverse := by unfold natsV; rw [List.map_reverse]
theorem natsV_len' (f : F) : (natsV f).length = f.length := by unfold natsV; rw [List.length_map]
/-- number of pieces, longest word and greatest number, together -/
def Bd (Lt : Nat → Prop) (m s : Nat) (ps : List Pn) : Prop := ∃ N W B, N + W + B ≤ s ∧ ps.length ≤ N ∧ Dv Lt m B W ps
/-! ### what a variation adds -/
theorem val_ones : ∀ {m : Nat} {f : F}, f.length = m + 1 → valF f (List.replicate m 1) = f.sum
  | m, [], h => by simp at h
  | m, a :: f, h => by
    have key : ∀ (f : List Nat), dot f (List.replicate f.length 1) = f.sum := fun f => by
      induction f with
      | nil => rfl
      | cons b f ih => rw [List.length_cons, List.replicate_succ, dot, ih, List.sum_cons, Nat.mul_one]
    have e : f.length = m := by simpa using h
    unfold valF
    show a + dot f (List.replicate m 1) = _
    rw [← e, key, List.sum_cons]
theorem sum_up {B : Nat} : ∀ f : F, Up B f → f.sum ≤ f.length * B
  | [], _ => by simp
  | a :: f, h => by
    have x := sum_up f fun z hz => h z (List.mem_cons_of_mem _ hz)
    have y := h a List.mem_cons_self
    rw [List.sum_cons, List.length_cons, Nat.succ_mul]
    omega
theorem len_wr (pt : List Nat) : ∀ ps : List Pn, (NM.wr pt ps).length = (ps.map fun p => (wrt pt p).length).sum
  | [] => rfl
  | p :: r => by rw [NM.wr, List.length_append, len_wr pt r, List.map_cons, List.sum_cons]
def Vr (m B W : Nat) (ps qs : List Pn) : Prop := meas qs ≤ meas ps + W + B + 3 ∧ (NM.wr (List.replicate m 1) qs).length ≤ (NM.wr (List.replicate m 1) ps).length + W + 4 * B + 4
def VY (m B W : Nat) (p : Pn) (Y : List Pn) : Prop := meas Y ≤ measP p + W + B + 3 ∧ (NM.wr (List.replicate m 1) Y).length ≤ (wrt (List.replicate m 1) p).length + W + 4 * B + 4
theorem split_at {ps : List Pn} {k : Nat} {p : Pn} (h : ps[k]? = some p) : ps = ps.take k ++ (p :: ps.drop (k + 1)) := by
  have hi := (List.getElem?_eq_some_iff.mp h).1
  conv => lhs; rw [← List.take_append_drop k ps]
  rw [← List.getElem_cons_drop hi, (List.getElem?_eq_some_iff.mp h).2]
theorem vr_cut {m B W k : Nat} {ps Y : List Pn} {p : Pn} (h : ps[k]? = some p) (v : VY m B W p Y) : Vr m B W ps (ps.take k ++ Y ++ ps.drop (k + 1)) := by
  obtain ⟨a, b⟩ := v
  have s := split_at h
  have e1 : meas ps = meas (ps.take k) + (measP p + meas (ps.drop (k + 1))) := by
    conv => lhs; rw [s]
    rw [meas_app]
    simp [meas]
  have e2 : (NM.wr (List.replicate m 1) ps).length = (NM.wr (List.replicate m 1) (ps.take k)).length + ((wrt (List.replicate m 1) p).length + (NM.wr (List.replicate m 1) (ps.drop (k + 1))).length) := by
    conv => lhs; rw [s]
    rw [wr_app, NM.wr, List.length_append, List.length_append]
  refine ⟨?_, ?_⟩
  · rw [meas_app, meas_app, e1]
    omega
  · rw [wr_app, wr_app, List.length_append, List.length_append, e2]
    omega
theorem vr_perm {m B W : Nat} {ps qs : List Pn} (h : List.Perm qs ps) : Vr m B W ps qs := by
  have e1 : meas qs = meas ps := (h.map measP).sum_nat
  have e2 : (NM.wr (List.replicate m 1) qs).length = (NM.wr (List.replicate m 1) ps).length := by
    rw [len_wr, len_wr]
    exact (h.map _).sum_nat
  exact ⟨by omega, by omega⟩
theorem vr_nil {m B W : Nat} {z : List Nat} {f : F} (hm : m ≤ 3) (hz : z.length ≤ 1) (lf : f.length = m + 1) (uf : Up 1 f) : Vr m B W [] [(z, f)] := by
  have s4 : f.sum ≤ 4 := Nat.le_trans (sum_up f uf) (by omega)
  have h1 : f.headD 0 ≤ 1 := by
    cases f with
    | nil => simp
    | cons a f => exact uf a List.mem_cons_self
  refine ⟨?_, ?_⟩
  · have : measP (z, f) ≤ 1 * 2 := by
      unfold measP
      refine Nat.mul_le_mul hz ?_
      show f.headD 0 + _ ≤ 2
      split <;> omega
    simp only [meas, List.map_cons, List.map_nil, List.sum_cons, List.sum_nil]
    omega
  · have e : (wrt (List.replicate m 1) (z, f)).length = z.length * valF f (List.replicate m 1) := WM.pw_len _ _
    have : z.length * f.sum ≤ 1 * 4 := Nat.mul_le_mul hz s4
    rw [wr_one, e, val_ones lf]
    simp only [NM.wr, List.length_nil]
    omega
/-- one piece for one piece -/
theorem vy_one {m B W a : Nat} {w w' : List Nat} {f f' : F} (lf : f.length = m + 1) (lf' : f'.length = m + 1) (hw : w.length ≤ W) (hl : w'.length ≤ w.length + a) (h1 : f'.headD 0 + (if isOpen f' then 1 else 0) ≤ f.headD 0 + (if isOpen f then 1 else 0) + (1 - a)) (h2 : f'.sum ≤ f.sum + (1 - a)) (ha : a ≤ 1) (hB : f.headD 0 ≤ B) (hS : f.sum ≤ 4 * B) : VY m B W (w, f) [(w', f')] := by
  refine ⟨?_, ?_⟩
  · simp only [meas, List.map_cons, List.map_nil, List.sum_cons, List.sum_nil]
    unfold measP
    show w'.length * (f'.headD 0 + (if isOpen f' = true then 1 else 0)) + 0 ≤ w.length * (f.headD 0 + (if isOpen f = true then 1 else 0)) + W + B + 3
    have x := Nat.mul_le_mul hl h1
    have ex : ∀ q : Nat, (w.length + a) * (q + (1 - a)) = w.length * q + w.length * (1 - a) + a * q + a * (1 - a) := fun q => by
      rw [Nat.add_mul, Nat.mul_add, Nat.mul_add]
      omega
    rw [ex] at x
    have o1 : (if isOpen f then 1 else 0) ≤ 1 := by split <;> omega
    generalize hq : f.headD 0 + (if isOpen f then 1 else 0) = q at x o1 ⊢
    have hqB : q ≤ B + 1 := by omega
    have y : w.length * (1 - a) ≤ W := Nat.le_trans (Nat.mul_le_mul hw (show 1 - a ≤ 1 by omega)) (by omega)
    have z : a * q ≤ B + 1 := Nat.le_trans (Nat.mul_le_mul ha hqB) (by omega)
    have t : a * (1 - a) ≤ 1 := Nat.le_trans (Nat.mul_le_mul ha (show 1 - a ≤ 1 by omega)) (by omega)
    omega
  · have e : (wrt (List.replicate m 1) (w, f)).length = w.length * valF f (List.replicate m 1) := WM.pw_len _ _
    have e' : (wrt (List.replicate m 1) (w', f')).length = w'.length * valF f' (List.replicate m 1) := WM.pw_len _ _
    rw [wr_one, e, e', val_ones lf, val_ones lf']
    have x := Nat.mul_le_mul hl h2
    rw [Nat.add_mul, Nat.mul_add, Nat.mul_add] at x
    have y : w.length * (1 - a) ≤ W := Nat.le_trans (Nat.mul_le_mul hw (show 1 - a ≤ 1 by omega)) (by omega)
    have z : a * f.sum ≤ 4 * B := Nat.le_trans (Nat.mul_le_mul ha hS) (by omega)
    have t : a * (1 - a) ≤ 1 := Nat.le_trans (Nat.mul_le_mul ha (show 1 - a ≤ 1 by omega)) (by omega)
    omega
theorem open_rev (f : F) : isOpen (f.take 1 ++ (f.drop 1).reverse) = isOpen f := by
  cases f with
  | nil => rfl
  | cons a f =>
    unfold isOpen
    show f.reverse.any _ = f.any _
    rw [List.any_reverse]
theorem vy_rev {m B W : Nat} {w : List Nat} {f : F} (lf : f.length = m + 1) (hw : w.length ≤ W) (hB : f.headD 0 ≤ B) (hS : f.sum ≤ 4 * B) : VY m B W (w, f) [(w, f.take 1 ++ (f.drop 1).reverse)] := by
  have h : (f.take 1 ++ (f.drop 1).reverse).headD 0 = f.headD 0 := by
    cases f with
    | nil => rfl
    | cons a f => rfl
  refine vy_one (a := 0) lf (by rw [List.length_append, List.length_take, List.length_reverse, List.length_drop]; omega) hw (by omega) (by rw [h, open_rev]; omega) ?_ (by decide) hB hS
  cases f with
  | nil => simp
  | cons a f =>
    show (a :: f.reverse).sum ≤ _
    rw [List.sum_cons, List.sum_reverse, List.sum_cons]
    omega
theorem sum_pred : ∀ f : F, (f.map fun x => x - 1).sum ≤ f.sum
  | [] => Nat.le_refl _
  | a :: f => by
    have := sum_pred f
    rw [List.map_cons, List.sum_cons, List.sum_cons]
    omega
theorem vy_less {m B W : Nat} {w : List Nat} {f : F} (lf : f.length = m + 1) (hw : w.length ≤ W) (hB : f.headD 0 ≤ B) (hS : f.sum ≤ 4 * B) : VY m B W (w, f) [(w, f.map fun x => x - 1)] := by
  refine vy_one (a := 0) lf (by rw [List.length_map]; exact lf) hw (by omega) ?_ (by have := sum_pred f; omega) (by decide) hB hS
  have h : (f.map fun x => x - 1).headD 0 ≤ f.headD 0 := by
    cases f with
    | nil => exact Nat.le_refl _
    | cons a f => show a - 1 ≤ a; omega
  have o : (if isOpen (f.map fun x => x - 1) then 1 else 0) ≤ 1 := by split <;> omega
  omega
theorem vy_part {m B W x : Nat} {w : List Nat} {f' : F} (lf : f'.length = m) : VY m B W (w, x :: f') [(w, x :: List.replicate m 0), (w, 0 :: f')] := by
  have h1 : isOpen (x :: List.replicate m 0) = false := by
    unfold isOpen
    rw [List.any_eq_false]
    intro y hy
    rw [List.eq_of_mem_replicate (show y ∈ List.replicate m 0 from hy)]
    simp
  have h2 : isOpen (0 :: f') = isOpen (x :: f') := rfl
  refine ⟨?_, ?_⟩
  · simp only [meas, List.map_cons, List.map_nil, List.sum_cons, List.sum_nil]
    unfold measP
    show w.length * (x + if isOpen (x :: List.replicate m 0) = true then 1 else 0) + (w.length * (0 + if isOpen (0 :: f') = true then 1 else 0) + 0) ≤ w.length * (x + if isOpen (x :: f') = true then 1 else 0) + W + B + 3
    rw [h1, h2, if_neg Bool.false_ne_true, Nat.mul_add, Nat.mul_add, Nat.mul_add]
    omega
  · have e : ∀ f : F, (wrt (List.replicate m 1) (w, f)).length = w.length * valF f (List.replicate m 1) := fun f => WM.pw_len _ _
    rw [NM.wr, wr_one, List.length_append, e, e, e, val_ones (by simp), val_ones (by simp [lf]), val_ones (by simp [lf])]
    simp [Nat.mul_add]
    omega
theorem vy_more {m B W j : Nat} {w : List Nat} {f : F} (lf : f.length = m + 1) (hj : j < f.length) (hw : w.length ≤ W) (hB : f.headD 0 ≤ B) (hS : f.sum ≤ 4 * B) : VY m B W (w, f) [(w, f.take j ++ [f[j] + 1] ++ f.drop (j + 1))] := by
  have sm : (f.take j ++ [f[j] + 1] ++ f.drop (j + 1)).sum = f.sum + 1 := by
    conv => rhs; rw [← List.take_append_drop j f, ← List.getElem_cons_drop hj]
    simp only [List.sum_append, List.sum_cons, List.sum_nil]
    omega
  refine vy_one (a := 0) lf (by rw [List.length_append, List.length_append, List.length_take, List.length_drop]; simp; omega) hw (by omega) ?_ (by omega) (by decide) hB hS
  have o : (if isOpen (f.take j ++ [f[j] + 1] ++ f.drop (j + 1)) then 1 else 0) ≤ 1 := by split <;> omega
  cases j with
  | zero =>
    cases f with
    | nil => simp at hj
    | cons a f =>
      have : isOpen ((a :: f).take 0 ++ [(a :: f)[0] + 1] ++ (a :: f).drop 1) = isOpen (a :: f) := rfl
      rw [this]
      show a + 1 + _ ≤ a + _ + 1
      omega
  | succ j =>
    cases f with
    | nil => simp at hj
    | cons a f =>
      show a + _ ≤ a + _ + 1
      omega
section
variable {P : Program} {w : World} {K : PySem.W.Frag} {mg : Str → Option Value} {base : Heap} {C : Addr}
end
end K23

set_option linter.all false
set_option maxRecDepth 100000
/-! sums of few exponentials: one that is not zero everywhere is not zero at a point near the axes -/
namespace SP
/-- the product of the numbers, each increased by 1 -/
def crs : List Nat → Nat
  | [] => 1
  | x :: r => (x + 1) * crs r
def ev : List Int → List Nat → Int
  | b :: bs, x :: xs => b ^ x * ev bs xs
  | _, _ => 1
abbrev Tm := Int × List Int
def vl : List Tm → List Nat → Int
  | [], _ => 0
  | t :: T, pt => t.1 * ev t.2 pt + vl T pt
def sumI : List Int → (Int → Int) → Int
  | [], _ => 0
  | b :: r, g => g b + sumI r g
theorem sumI_congr {g h : Int → Int} : ∀ l : List Int, (∀ b ∈ l, g b = h b) → sumI l g = sumI l h
  | [], _ => rfl
  | b :: r, e => by rw [sumI, sumI, e b List.mem_cons_self, sumI_congr r fun c hc => e c (List.mem_cons_of_mem _ hc)]
theorem sumI_zero : ∀ (l : List Int) (g : Int → Int), (∀ b ∈ l, g b = 0) → sumI l g = 0
  | [], _, _ => rfl
  | b :: r, g, e => by rw [sumI, e b List.mem_cons_self, sumI_zero r g fun c hc => e c (List.mem_cons_of_mem _ hc)]; rfl
theorem sumI_add (g h : Int → Int) : ∀ l : List Int, sumI l (fun b => g b + h b) = sumI l g + sumI l h
  | [] => rfl
  | b :: r => by rw [sumI, sumI, sumI, sumI_add g h r]; omega
theorem sumI_mul (c : Int) (g : Int → Int) : ∀ l : List Int, sumI l (fun b => c * g b) = c * sumI l g
  | [] => by rw [sumI, sumI, Int.mul_zero]
  | b :: r => by rw [sumI, sumI, sumI_mul c g r, Int.mul_add]
/-- of a list without repeats, one is picked -/
theorem sumI_pick (h : Int) (g : Int → Int) : ∀ l : List Int, l.Nodup → h ∈ l → sumI l (fun b => if h = b then g b else 0) = g h
  | [], _, m => absurd m List.not_mem_nil
  | b :: r, nd, m => by
    rw [sumI]
    have n1 := (List.nodup_cons.mp nd).1
    have n2 := (List.nodup_cons.mp nd).2
    by_cases e : h = b
    · subst e
      rw [if_pos rfl, sumI_zero r (fun b => if h = b then g b else 0) fun c hc => if_neg fun z => n1 (by rw [z]; exact hc)]
      omega
    · rw [if_neg e, sumI_pick h g r n2 ((List.mem_cons.mp m).resolve_left e)]
      omega
theorem sumI_filter (g : Int → Int) (p : Int → Bool) : ∀ l : List Int, (∀ b ∈ l, p b = false → g b = 0) → sumI (l.filter p) g = sumI l g
  | [], _ => rfl
  | b :: r, h => by
    have ih := sumI_filter g p r fun c hc => h c (List.mem_cons_of_mem _ hc)
    by_cases e : p b = true
    · rw [List.filter_cons_of_pos e, sumI, sumI, ih]
    · rw [List.filter_cons_of_neg e, sumI, ih, h b List.mem_cons_self (by simpa using e)]
      omega
/-- powers of different numbers -/
theorem vander : ∀ (l : List Int) (g : Int → Int), l.Nodup → (∀ x, x < l.length → sumI l (fun b => b ^ x * g b) = 0) → ∀ b ∈ l, g b = 0
  | [], _, _, _, b, hb => absurd hb List.not_mem_nil
  | c :: r, g, nd, h, b, hb => by
    have n1 := (List.nodup_cons.mp nd).1
    have n2 := (List.nodup_cons.mp nd).2
    have rest : ∀ d ∈ r, g d = 0 := fun d hd => by
      have ih := vander r (fun b => (b - c) * g b) n2 (fun x hx => ?_) d hd
      · have ne : d - c ≠ 0 := fun z => n1 (by rw [show c = d by omega]; exact hd)
        exact (Int.mul_eq_zero.mp ih).resolve_left ne
      · have h1 := h (x + 1) (by rw [List.length_cons]; omega)
        have h0 := h x (by rw [List.length_cons]; omega)
        rw [sumI] at h1 h0
        have e : sumI r (fun b => b ^ x * ((b - c) * g b)) = sumI r (fun b => b ^ (x + 1) * g b) + sumI r (fun b => (-c) * (b ^ x * g b)) := by
          rw [← sumI_add]
          refine sumI_congr r fun b _ => ?_
          rw [Int.pow_succ, Int.sub_mul, Int.mul_sub, Int.neg_mul, Int.sub_eq_add_neg]
          congr 1
          · rw [Int.mul_assoc]
          · rw [Int.mul_left_comm]
        rw [e, sumI_mul]
        have e1 : sumI r (fun b => b ^ (x + 1) * g b) = -(c ^ (x + 1) * g c) := by omega
        have e0 : sumI r (fun b => b ^ x * g b) = -(c ^ x * g c) := by omega
        rw [e1, e0, Int.pow_succ, Int.mul_neg, Int.neg_mul, Int.neg_neg, ← Int.mul_assoc, Int.mul_comm c (c ^ x)]
        omega
    rcases List.mem_cons.mp hb with e | hb
    · subst e
      have h0 := h 0 (by rw [List.length_cons]; omega)
      rw [sumI, sumI_zero r _ fun d hd => by rw [rest d hd, Int.mul_zero]] at h0
      simpa using h0
    · exact rest b hb
/-- each once -/
def dd : List Int → List Int
  | [] => []
  | a :: l => if a ∈ dd l then dd l else a :: dd l
theorem mem_dd : ∀ {l : List Int} {a : Int}, a ∈ l → a ∈ dd l
  | b :: l, a, h => by
    rw [dd]
    rcases List.mem_cons.mp h with e | h
    · subst e
      split
      · assumption
      · exact List.mem_cons_self
    · split
      · exact mem_dd h
      · exact List.mem_cons_of_mem _ (mem_dd h)
theorem nodup_dd : ∀ l : List Int, (dd l).Nodup
  | [] => List.nodup_nil
  | a :: l => by
    rw [dd]
    split
    · exact nodup_dd l
    · rename_i h
      exact List.nodup_cons.mpr ⟨h, nodup_dd l⟩
def hd (t : Tm) : Int := t.2.headD 0
def grp (b : Int) : List Tm → List Tm
  | [] => []
  | t :: T => if hd t = b then (t.1, t.2.tail) :: grp b T else grp b T
theorem grp_mem {b : Int} : ∀ {T : List Tm} {t : Tm}, t ∈ grp b T → ∃ s ∈ T, t.2 = s.2.tail
  | s :: T, t, h => by
    rw [grp] at h
    split at h
    · rcases List.mem_cons.mp h with e | h
      · exact ⟨s, List.mem_cons_self, by rw [e]⟩
      · obtain ⟨r, hr, e⟩ := grp_mem h
        exact ⟨r, List.mem_cons_of_mem _ hr, e⟩
    · obtain ⟨r, hr, e⟩ := grp_mem h
      exact ⟨r, List.mem_cons_of_mem _ hr, e⟩
theorem vl_groups {B : List Int} (nd : B.Nodup) (x : Nat) (y : List Nat) : ∀ T : List Tm, (∀ t ∈ T, t.2 ≠ []) → (∀ t ∈ T, hd t ∈ B) → vl T (x :: y) = sumI B fun b => b ^ x * vl (grp b T) y
  | [], _, _ => by
    rw [vl, sumI_zero]
    intro b _
    rw [grp, vl, Int.mul_zero]
  | t :: T, hne, hB => by
    have ih := vl_groups nd x y T (fun s hs => hne s (List.mem_cons_of_mem _ hs)) fun s hs => hB s (List.mem_cons_of_mem _ hs)
    have hb := hB t List.mem_cons_self
    have ht := hne t List.mem_cons_self
    have e1 : ∀ b, b ^ x * vl (grp b (t :: T)) y = (if hd t = b then b ^ x * (t.1 * ev t.2.tail y) else 0) + b ^ x * vl (grp b T) y := fun b => by
      rw [grp]
      by_cases e : hd t = b
      · rw [if_pos e, if_pos e, vl, Int.mul_add]
      · rw [if_neg e, if_neg e, Int.zero_add]
    rw [sumI_congr B fun b _ => e1 b, sumI_add, sumI_pick (hd t) (fun b => b ^ x * (t.1 * ev t.2.tail y)) B nd hb, ← ih, vl]
    congr 1
    obtain ⟨c, bs⟩ := t
    cases bs with
    | nil => exact absurd rfl ht
    | cons b r =>
      show c * (b ^ x * ev r y) = b ^ x * (c * ev r y)
      rw [Int.mul_left_comm]
def sumN : List Int → (Int → Nat) → Nat
  | [], _ => 0
  | b :: r, g => g b + sumN r g
theorem sumN_filter (g : Int → Nat) (p : Int → Bool) : ∀ l : List Int, sumN (l.filter p) g ≤ sumN l g
  | [] => Nat.le_refl _
  | b :: r => by
    have := sumN_filter g p r
    by_cases e : p b = true
    · rw [List.filter_cons_of_pos e, sumN, sumN]; omega
    · rw [List.filter_cons_of_neg e, sumN]; omega
theorem sumN_grp_nil (t : Tm) (T : List Tm) : ∀ B : List Int, hd t ∉ B → sumN B (fun b => (grp b (t :: T)).length) = sumN B fun b => (grp b T).length
  | [], _ => rfl
  | b :: r, h => by
    have n1 : hd t ≠ b := fun z => h (by rw [z]; exact List.mem_cons_self)
    have n2 : hd t ∉ r := fun z => h (List.mem_cons_of_mem _ z)
    rw [sumN, sumN, sumN_grp_nil t T r n2]
    show (if hd t = b then _ else grp b T).length + _ = _
    rw [if_neg n1]
theorem sumN_grp (t : Tm) (T : List Tm) : ∀ B : List Int, B.Nodup → sumN B (fun b => (grp b (t :: T)).length) ≤ 1 + sumN B fun b => (grp b T).length
  | [], _ => Nat.zero_le _
  | b :: r, nd => by
    have n1 := (List.nodup_cons.mp nd).1
    have n2 := (List.nodup_cons.mp nd).2
    rw [sumN, sumN]
    by_cases e : hd t = b
    · rw [sumN_grp_nil t T r (by rw [e]; exact n1)]
      show (if hd t = b then (t.1, t.2.tail) :: grp b T else grp b T).length + _ ≤ _
      rw [if_pos e, List.length_cons]
      omega
    · have := sumN_grp t T r n2
      show (if hd t = b then (t.1, t.2.tail) :: grp b T else grp b T).length + _ ≤ _
      rw [if_neg e]
      omega
theorem sumN_all {B : List Int} (nd : B.Nodup) : ∀ T : List Tm, sumN B (fun b => (grp b T).length) ≤ T.length
  | [] => by
    have : ∀ B : List Int, sumN B (fun b => (grp b []).length) = 0 := fun B => by
      induction B with
      | nil => rfl
      | cons b r ih => rw [sumN, ih]; rfl
    rw [this]
    exact Nat.zero_le _
  | t :: T => by
    have h1 := sumN_grp t T B nd
    have h2 := sumN_all nd T
    rw [List.length_cons]
    omega
theorem least_mul (g : Int → Nat) : ∀ l : List Int, l ≠ [] → ∃ b ∈ l, l.length * g b ≤ sumN l g
  | [b], _ => ⟨b, List.mem_cons_self, by rw [sumN, sumN, List.length_singleton]; omega⟩
  | b :: c :: r, _ => by
    obtain ⟨d, hd, h⟩ := least_mul g (c :: r) (List.cons_ne_nil _ _)
    by_cases e : g b ≤ g d
    · refine ⟨b, List.mem_cons_self, ?_⟩
      have : (c :: r).length * g b ≤ (c :: r).length * g d := Nat.mul_le_mul_left _ e
      rw [sumN, List.length_cons, Nat.succ_mul]
      omega
    · refine ⟨d, List.mem_cons_of_mem _ hd, ?_⟩
      rw [sumN, List.length_cons, Nat.succ_mul]
      omega
theorem sparse : ∀ (m : Nat) (T : List Tm), (∀ t ∈ T, t.2.length = m) → ∀ pt : List Nat, pt.length = m → vl T pt ≠ 0 → ∃ qt : List Nat, qt.length = m ∧ crs qt ≤ T.length ∧ vl T qt ≠ 0
  | 0, T, _, pt, hp, h => by
    refine ⟨pt, hp, ?_, h⟩
    cases T with
    | nil => exact absurd rfl h
    | cons t T =>
      rw [List.length_eq_zero_iff.mp hp, crs, List.length_cons]
      omega
  | m + 1, T, hT, [], hp, _ => by simp at hp
  | m + 1, T, hT, x :: y, hp, h => by
    have hy : y.length = m := by simpa using hp
    have hne : ∀ t ∈ T, t.2 ≠ [] := fun t ht z => by
      have := hT t ht
      rw [z] at this
      cases this
    have nd := nodup_dd (T.map hd)
    have hB : ∀ t ∈ T, hd t ∈ dd (T.map hd) := fun t ht => mem_dd (List.mem_map.mpr ⟨t, ht, rfl⟩)
    generalize dd (T.map hd) = B at nd hB
    have tails : ∀ b, ∀ t ∈ grp b T, t.2.length = m := fun b t ht => by
      obtain ⟨s, hs, e⟩ := grp_mem ht
      rw [e, List.length_tail, hT s hs]
      rfl
    -- the groups that are not zero everywhere
    have dec : ∀ b, Decidable (∃ z : List Nat, z.length = m ∧ vl (grp b T) z ≠ 0) := fun b => Classical.propDecidable _
    let p : Int → Bool := fun b => @decide _ (dec b)
    have hp1 : ∀ b, p b = true → ∃ z : List Nat, z.length = m ∧ vl (grp b T) z ≠ 0 := fun b e => @of_decide_eq_true _ (dec b) e
    have hp0 : ∀ b, p b = false → ∀ z : List Nat, z.length = m → vl (grp b T) z = 0 := fun b e z hz => Classical.byContradiction fun n => (@of_decide_eq_false _ (dec b) e) ⟨z, hz, n⟩
    have red : ∀ (x : Nat) (z : List Nat), z.length = m → vl T (x :: z) = sumI (B.filter p) fun b => b ^ x * vl (grp b T) z := fun x z hz => by
      rw [vl_groups nd x z T hne hB, sumI_filter _ p B fun b _ e => by rw [hp0 b e z hz, Int.mul_zero]]
    have ndf : (B.filter p).Nodup := nd.sublist List.filter_sublist
    have fne : B.filter p ≠ [] := fun z => by
      apply h
      rw [red x y hy, z]
      rfl
    have tot : sumN (B.filter p) (fun b => (grp b T).length) ≤ T.length := Nat.le_trans (sumN_filter _ p B) (sumN_all nd T)
    obtain ⟨b, hb, hle⟩ := least_mul (fun b => (grp b T).length) (B.filter p) fne
    obtain ⟨z, hz, nz⟩ := hp1 b (List.mem_filter.mp hb).2
    obtain ⟨w, hw, cw, nw⟩ := sparse m (grp b T) (tails b) z hz nz
    have : ∃ x, x < (B.filter p).length ∧ sumI (B.filter p) (fun b => b ^ x * vl (grp b T) w) ≠ 0 := Classical.byContradiction fun n => by
      refine nw (vander (B.filter p) (fun b => vl (grp b T) w) ndf (fun x hx => Classical.byContradiction fun e => n ⟨x, hx, e⟩) b hb)
    obtain ⟨x', hx', n'⟩ := this
    refine ⟨x' :: w, by rw [List.length_cons, hw], ?_, by rw [red x' w hw]; exact n'⟩
    rw [crs]
    have a1 : (x' + 1) * crs w ≤ (B.filter p).length * (grp b T).length := Nat.mul_le_mul hx' cw
    have hle' : (B.filter p).length * (grp b T).length ≤ sumN (B.filter p) fun b => (grp b T).length := hle
    omega
end SP

set_option linter.all false
set_option maxRecDepth 100000
/-! two texts that write the same at few points write the same everywhere -/
namespace NM
open WM SP
def numW (A : Int) : W → Int
  | [] => 0
  | c :: w => ((c : Int) + 1) + A * numW A w
theorem num_app (A : Int) : ∀ u v : W, numW A (u ++ v) = numW A u + A ^ u.length * numW A v
  | [], v => by simp [numW]
  | c :: u, v => by
    rw [List.cons_append, numW, numW, num_app A u v, List.length_cons, Int.pow_succ, Int.mul_add, Int.mul_comm (A ^ u.length) A, Int.mul_assoc]
    omega
theorem num_nn {A : Int} (hA : 0 ≤ A) : ∀ w : W, 0 ≤ numW A w
  | [] => Int.le_refl _
  | c :: w => by
    have := Int.mul_nonneg hA (num_nn hA w)
    rw [numW]
    omega
theorem num_inj {A : Int} : ∀ u v : W, (∀ c ∈ u, (c : Int) + 1 < A) → (∀ c ∈ v, (c : Int) + 1 < A) → numW A u = numW A v → u = v
  | [], [], _, _, _ => rfl
  | [], d :: v, _, hv, e => by
    have h := hv d List.mem_cons_self
    have := Int.mul_nonneg (show 0 ≤ A by omega) (num_nn (show 0 ≤ A by omega) v)
    rw [numW, numW] at e
    omega
  | c :: u, [], hu, _, e => by
    have h := hu c List.mem_cons_self
    have := Int.mul_nonneg (show 0 ≤ A by omega) (num_nn (show 0 ≤ A by omega) u)
    rw [numW, numW] at e
    omega
  | c :: u, d :: v, hu, hv, e => by
    have h := hu c List.mem_cons_self
    have h' := hv d List.mem_cons_self
    rw [numW, numW] at e
    have e1 : (((c : Int) + 1) + A * numW A u) % A = (((d : Int) + 1) + A * numW A v) % A := by rw [e]
    rw [Int.add_mul_emod_self_left, Int.add_mul_emod_self_left, Int.emod_eq_of_lt (by omega) h, Int.emod_eq_of_lt (by omega) h'] at e1
    have cd : c = d := by omega
    subst cd
    have e2 : A * numW A u = A * numW A v := by omega
    have e3 := Int.eq_of_mul_eq_mul_left (show A ≠ 0 by omega) e2
    rw [num_inj u v (fun x hx => hu x (List.mem_cons_of_mem _ hx)) (fun x hx => hv x (List.mem_cons_of_mem _ hx)) e3]
theorem num_pw (A : Int) (u : W) : ∀ k, (A ^ u.length - 1) * numW A (pw u k) = numW A u * (A ^ (u.length * k) - 1)
  | 0 => by simp [pw_zero, numW]
  | k + 1 => by
    have ih := num_pw A u k
    rw [pw_succ, num_app, Nat.mul_succ, Int.pow_add]
    have e : (A ^ u.length - 1) * (numW A u + A ^ u.length * numW A (pw u k)) = (A ^ u.length - 1) * numW A u + A ^ u.length * ((A ^ u.length - 1) * numW A (pw u k)) := by
      rw [Int.mul_add, Int.mul_left_comm]
    rw [e, ih]
    generalize A ^ u.length = q
    generalize A ^ (u.length * k) = r
    generalize numW A u = n
    rw [Int.sub_mul, Int.mul_sub, Int.mul_sub, Int.mul_sub, Int.one_mul, Int.mul_one, ← Int.mul_assoc, Int.mul_comm q n, Int.mul_assoc, Int.mul_comm q r]
    omega
theorem ev_char (A : Int) (k : Nat) : ∀ (fs pt : List Nat), fs.length = pt.length → A ^ (k * dot fs pt) = ev (fs.map fun a => A ^ (k * a)) pt
  | [], [], _ => by simp [dot, ev]
  | [], _ :: _, h => by simp at h
  | _ :: _, [], h => by simp at h
  | x :: fs, y :: pt, h => by
    have ih := ev_char A k fs pt (by simpa using h)
    rw [dot, List.map_cons, ev, ← ih, Nat.mul_add, Int.pow_add, ← Nat.mul_assoc, Int.pow_mul]
def mulB (B b : List Int) : List Int := List.zipWith (fun x y => x * y) B b
theorem ev_mul : ∀ (B b : List Int) (pt : List Nat), B.length = pt.length → b.length = pt.length → ev (mulB B b) pt = ev B pt * ev b pt
  | [], [], [], _, _ => by simp [mulB, ev]
  | x :: B, y :: b, z :: pt, h, h' => by
    have ih := ev_mul B b pt (by simpa using h) (by simpa using h')
    show (x * y) ^ z * ev (mulB B b) pt = x ^ z * ev B pt * (y ^ z * ev b pt)
    rw [ih, Int.mul_pow]
    generalize x ^ z = p
    generalize y ^ z = r
    generalize ev B pt = s
    generalize ev b pt = t
    rw [Int.mul_assoc, Int.mul_assoc, Int.mul_left_comm r s t]
  | [], _ :: _, [], _, h => by simp at h
  | _ :: _, _, [], h, _ => by simp at h
  | [], _, _ :: _, h, _ => by simp at h
  | _ :: _, [], _ :: _, _, h => by simp at h
theorem ev_one : ∀ (m : Nat) (pt : List Nat), ev (List.replicate m 1) pt = 1
  | 0, _ => by simp [ev]
  | m + 1, [] => by simp [ev, List.replicate_succ]
  | m + 1, x :: pt => by
    rw [List.replicate_succ, ev, ev_one m pt, Int.one_pow]
    rfl
/-- terms times a number and an exponential -/
def mulT (k : Int) (B : List Int) (T : List Tm) : List Tm := T.map fun t => (k * t.1, mulB B t.2)
theorem vl_mulT (k : Int) {B : List Int} {pt : List Nat} (hB : B.length = pt.length) : ∀ T : List Tm, (∀ t ∈ T, t.2.length = pt.length) → vl (mulT k B T) pt = k * ev B pt * vl T pt
  | [], _ => by simp [mulT, vl]
  | t :: T, h => by
    have ih := vl_mulT k hB T fun s hs => h s (List.mem_cons_of_mem _ hs)
    show k * t.1 * ev (mulB B t.2) pt + vl (mulT k B T) pt = _
    rw [ih, ev_mul B t.2 pt hB (h t List.mem_cons_self), vl, Int.mul_add]
    congr 1
    generalize ev B pt = s
    generalize ev t.2 pt = r
    rw [Int.mul_assoc, Int.mul_assoc, Int.mul_left_comm t.1 s r]
def scT (k : Int) (T : List Tm) : List Tm := T.map fun t => (k * t.1, t.2)
theorem vl_scT (k : Int) (pt : List Nat) : ∀ T : List Tm, vl (scT k T) pt = k * vl T pt
  | [] => by simp [scT, vl]
  | t :: T => by
    have ih := vl_scT k pt T
    show k * t.1 * ev t.2 pt + vl (scT k T) pt = _
    rw [ih, vl, Int.mul_add, Int.mul_assoc]
theorem vl_app (pt : List Nat) : ∀ S T : List Tm, vl (S ++ T) pt = vl S pt + vl T pt
  | [], T => by simp [vl]
  | s :: S, T => by
    rw [List.cons_append, vl, vl, vl_app pt S T]
    omega
theorem len_mulB {B b : List Int} (h : B.length = b.length) : (mulB B b).length = b.length := by
  unfold mulB
  rw [List.length_zipWith]
  omega
/-- how many pieces have an unknown -/
def opn (ps : List Pn) : Nat := (ps.filter fun p => isOpen p.2).length
theorem opn_cons (p : Pn) (r : List Pn) : opn (p :: r) = (if isOpen p.2 = true then 1 else 0) + opn r := by
  unfold opn
  rw [List.filter_cons]
  by_cases h : isOpen p.2 = true
  · rw [if_pos h, if_pos h, List.length_cons]
    omega
  · rw [if_neg h, if_neg h]
    omega
structure Rp (A : Int) (m : Nat) (ps : List Pn) (E c : Int) (T : List Tm) : Prop where
  ne : E ≠ 0
  lens : ∀ t ∈ T, t.2.length = m
  few : T.length ≤ opn ps
  val : ∀ pt : List Nat, pt.length = m → E * numW A (wr pt ps) = c + vl T pt
theorem pow_gt {A : Int} (hA : 2 ≤ A) : ∀ k, 0 < k → A ^ k - 1 ≠ 0
  | k + 1, _ => by
    have h1 : 0 < A ^ k := Int.pow_pos (by omega)
    have h2 : A ^ k * 2 ≤ A ^ k * A := Int.mul_le_mul_of_nonneg_left hA (by omega)
    rw [Int.pow_succ]
    omega
theorem val_closed {f : F} (h : isOpen f = false) (pt : List Nat) : valF f pt = f.headD 0 := by
  unfold valF
  rw [dot_closed (fun x hx => by
    have := List.any_eq_false.mp h x hx
    simpa using this)]
  rfl
theorem rp_all {A : Int} (hA : 2 ≤ A) {m : Nat} : ∀ ps : List Pn, LenF m ps → ∃ E c T, Rp A m ps E c T
  | [], _ => ⟨1, 0, [], by decide, fun t h => absurd h List.not_mem_nil, Nat.zero_le _, fun pt _ => by simp [wr, numW, vl]⟩
  | p :: r, h => by
    obtain ⟨E, c, T, ne, lens, few, val⟩ := rp_all hA r fun q hq => h q (List.mem_cons_of_mem _ hq)
    have hl := h p List.mem_cons_self
    obtain ⟨u, f⟩ := p
    have hl : f.length = m + 1 := hl
    cases ho : isOpen f with
    | false =>
      have e0 := val_closed ho
      refine ⟨E, E * numW A (pw u (f.headD 0)) + A ^ (pw u (f.headD 0)).length * c, scT (A ^ (pw u (f.headD 0)).length) T, ne, fun t ht => ?_, ?_, fun pt hp => ?_⟩
      · obtain ⟨s, hs, rfl⟩ := List.mem_map.mp ht
        exact lens s hs
      · unfold scT
        rw [List.length_map, opn_cons]
        omega
      · have v := val pt hp
        rw [wr, num_app, vl_scT]
        have ew : wrt pt (u, f) = pw u (f.headD 0) := by
          unfold wrt
          rw [e0]
        rw [ew, Int.mul_add, Int.mul_left_comm, v, Int.mul_add]
        omega
    | true =>
      by_cases hu : u = []
      · refine ⟨E, c, T, ne, lens, by rw [opn_cons]; omega, fun pt hp => ?_⟩
        have ew : wrt pt (u, f) = [] := by
          unfold wrt
          show pw u _ = []
          rw [hu, pw_nil]
        rw [wr, ew]
        exact val pt hp
      · have u0 := List.length_pos_iff.mpr hu
        have qne := pow_gt hA u.length u0
        refine ⟨(A ^ u.length - 1) * E, -(numW A u * E), (numW A u * E * A ^ (u.length * f.headD 0) + (A ^ u.length - 1) * A ^ (u.length * f.headD 0) * c, f.tail.map fun a => A ^ (u.length * a)) :: mulT ((A ^ u.length - 1) * A ^ (u.length * f.headD 0)) (f.tail.map fun a => A ^ (u.length * a)) T,
          fun z => (Int.mul_eq_zero.mp z).elim qne ne, fun t ht => ?_, ?_, fun pt hp => ?_⟩
        · rcases List.mem_cons.mp ht with rfl | ht
          · show (f.tail.map _).length = m
            rw [List.length_map, List.length_tail, hl]
            rfl
          · obtain ⟨s, hs, rfl⟩ := List.mem_map.mp ht
            show (mulB _ s.2).length = m
            rw [len_mulB (by rw [List.length_map, List.length_tail, hl, lens s hs]; rfl)]
            exact lens s hs
        · rw [List.length_cons, opn_cons]
          have : isOpen ((u, f) : Pn).2 = true := ho
          rw [if_pos this]
          unfold mulT
          rw [List.length_map]
          omega
        · have v := val pt hp
          have lt : f.tail.length = pt.length := by rw [List.length_tail, hl, hp]; rfl
          have n := num_pw A u (valF f pt)
          have ew : wrt pt (u, f) = pw u (valF f pt) := rfl
          have el : (pw u (valF f pt)).length = u.length * valF f pt := pw_len _ _
          have ex : A ^ (u.length * valF f pt) = A ^ (u.length * f.headD 0) * ev (f.tail.map fun a => A ^ (u.length * a)) pt := by
            unfold valF
            rw [Nat.mul_add, Int.pow_add, ev_char A u.length f.tail pt lt]
          rw [wr, ew, num_app, el, vl, vl_mulT _ (by rw [List.length_map]; exact lt) T fun t ht => by rw [lens t ht, hp]]
          show (A ^ u.length - 1) * E * _ = -(numW A u * E) + ((numW A u * E * A ^ (u.length * f.headD 0) + (A ^ u.length - 1) * A ^ (u.length * f.headD 0) * c) * ev (f.tail.map fun a => A ^ (u.length * a)) pt + _)
          have lhs : (A ^ u.length - 1) * E * (numW A (pw u (valF f pt)) + A ^ (u.length * valF f pt) * numW A (wr pt r)) = E * ((A ^ u.length - 1) * numW A (pw u (valF f pt))) + (A ^ u.length - 1) * (A ^ (u.length * valF f pt) * (E * numW A (wr pt r))) := by
            generalize A ^ u.length - 1 = q
            generalize A ^ (u.length * valF f pt) = y
            generalize numW A (pw u (valF f pt)) = n1
            generalize numW A (wr pt r) = n2
            rw [Int.mul_add]
            congr 1
            · rw [Int.mul_comm q E, Int.mul_assoc]
            · rw [Int.mul_assoc, Int.mul_left_comm E y n2]
          rw [lhs, n, v, ex]
          generalize A ^ u.length - 1 = q
          generalize A ^ (u.length * f.headD 0) = y
          generalize ev (f.tail.map fun a => A ^ (u.length * a)) pt = z
          generalize numW A u = n1
          generalize vl T pt = t1
          have r1 : E * (n1 * (y * z - 1)) = n1 * E * y * z - n1 * E := by
            rw [Int.mul_sub, Int.mul_sub, Int.mul_one, Int.mul_comm E n1]
            congr 1
            rw [Int.mul_left_comm E n1, ← Int.mul_assoc n1 E, ← Int.mul_assoc (n1 * E)]
          have r2 : q * (y * z * (c + t1)) = q * y * c * z + q * y * z * t1 := by
            rw [Int.mul_add, Int.mul_add]
            congr 1
            · rw [← Int.mul_assoc q (y * z) c, ← Int.mul_assoc q y z, Int.mul_assoc (q * y) z c, Int.mul_comm z c, ← Int.mul_assoc]
            · rw [← Int.mul_assoc q (y * z) t1, ← Int.mul_assoc q y z]
          rw [r1, r2, Int.add_mul]
          omega
/-- a number above all letters -/
def topL (ps : List Pn) : Nat := (ps.map fun p => p.1.sum).sum
theorem le_top : ∀ {ps : List Pn} {p : Pn} {c : Nat}, p ∈ ps → c ∈ p.1 → c ≤ topL ps
  | q :: r, p, c, h, hc => by
    have e : topL (q :: r) = q.1.sum + topL r := by simp [topL]
    rw [e]
    rcases List.mem_cons.mp h with rfl | h
    · have := le_sumN hc
      omega
    · have := le_top h hc
      omega
/-- the same near the axes, the same everywhere -/
theorem cross_same {m : Nat} {a b : List Pn} (ha : LenF m a) (hb : LenF m b) (h : ∀ pt : List Nat, pt.length = m → crs pt ≤ 1 + opn a + opn b → wr pt a = wr pt b) : ∀ pt : List Nat, pt.length = m → wr pt a = wr pt b := fun pt hp => by
  have hA : (2 : Int) ≤ ((topL a + topL b + 2 : Nat) : Int) := by omega
  obtain ⟨E, c, T, ne, lens, few, val⟩ := rp_all hA a ha
  obtain ⟨E', c', T', ne', lens', few', val'⟩ := rp_all hA b hb
  have la : ∀ qt : List Nat, ∀ x ∈ wr qt a, (x : Int) + 1 < ((topL a + topL b + 2 : Nat) : Int) := fun qt x hx => by
    obtain ⟨p, hp, hc⟩ := mem_wr hx
    have := le_top hp hc
    omega
  have lb : ∀ qt : List Nat, ∀ x ∈ wr qt b, (x : Int) + 1 < ((topL a + topL b + 2 : Nat) : Int) := fun qt x hx => by
    obtain ⟨p, hp, hc⟩ := mem_wr hx
    have := le_top hp hc
    omega
  generalize ((topL a + topL b + 2 : Nat) : Int) = A at *
  refine Classical.byContradiction fun d => ?_
  have key : ∀ qt : List Nat, qt.length = m → vl ((E' * c - E * c', List.replicate m 1) :: (scT E' T ++ scT (-E) T')) qt = E * E' * (numW A (wr qt a) - numW A (wr qt b)) := fun qt hq => by
    have v := val qt hq
    have v' := val' qt hq
    rw [vl, vl_app, vl_scT, vl_scT]
    show (E' * c - E * c') * ev (List.replicate m 1) qt + _ = _
    rw [ev_one, Int.mul_one]
    have t1 : vl T qt = E * numW A (wr qt a) - c := by omega
    have t2 : vl T' qt = E' * numW A (wr qt b) - c' := by omega
    rw [t1, t2, Int.mul_sub, Int.mul_sub, Int.mul_sub, Int.neg_mul, Int.neg_mul]
    have e1 : E' * (E * numW A (wr qt a)) = E * E' * numW A (wr qt a) := by rw [← Int.mul_assoc, Int.mul_comm E' E]
    have e2 : E * (E' * numW A (wr qt b)) = E * E' * numW A (wr qt b) := by rw [Int.mul_assoc]
    omega
  have nz : vl ((E' * c - E * c', List.replicate m 1) :: (scT E' T ++ scT (-E) T')) pt ≠ 0 := fun z => by
    rw [key pt hp] at z
    rcases Int.mul_eq_zero.mp z with z | z
    · exact (Int.mul_eq_zero.mp z).elim ne ne'
    · exact d (num_inj _ _ (la pt) (lb pt) (by omega))
  obtain ⟨qt, hq, cq, nq⟩ := sparse m _ (fun t ht => by
    rcases List.mem_cons.mp ht with rfl | ht
    · simp
    · rcases List.mem_append.mp ht with ht | ht
      · obtain ⟨s, hs, rfl⟩ := List.mem_map.mp ht
        exact lens s hs
      · obtain ⟨s, hs, rfl⟩ := List.mem_map.mp ht
        exact lens' s hs) pt hp nz
  refine nq ?_
  rw [key qt hq, h qt hq ?_, Int.sub_self, Int.mul_zero]
  rw [List.length_cons, List.length_append] at cq
  unfold scT at cq
  rw [List.length_map, List.length_map] at cq
  omega
theorem cross_iff {m : Nat} {a b : List Pn} (ha : LenF m a) (hb : LenF m b) {k : Nat} (hk : 1 + opn a + opn b ≤ k) : normL a = normL b ↔ ∀ pt : List Nat, pt.length = m → crs pt ≤ k → wr pt a = wr pt b := by
  rw [norm_iff ha hb]
  exact ⟨fun h pt hp _ => h pt hp, fun h => cross_same ha hb fun pt hp hc => h pt hp (Nat.le_trans hc hk)⟩
end NM

set_option linter.all false
set_option maxRecDepth 100000
set_option maxHeartbeats 4000000
namespace K23
open PySem PySem.Spec PyProof.Rows L2 CK SX NM
theorem val_bound {m B c : Nat} {f : F} {pt : List Nat} (hl : f.length = m + 1) (hm : m ≤ 3) (hf : Up B f) (hp : ∀ x ∈ pt, x ≤ c) : valF f pt ≤ B + 3 * (B * c) := by
  cases f with
  | nil => simp at hl
  | cons a l =>
    have e : l.length = m := by simpa using hl
    have d := dot_le (B := B) (c := c) l pt (fun x hx => hf x (List.mem_cons_of_mem _ hx)) hp
    have h0 := hf a List.mem_cons_self
    have : l.length * (B * c) ≤ 3 * (B * c) := Nat.mul_le_mul (by omega) (Nat.le_refl _)
    unfold valF
    show a + dot l pt ≤ _
    omega
theorem dv_lenF {Lt : Nat → Prop} {m B W : Nat} {ps : List Pn} (h : Dv Lt m B W ps) : LenF m ps := fun p hp => (h p hp).1
theorem wr_bound {Lt : Nat → Prop} {m B W c N : Nat} {ps : List Pn} {pt : List Nat} (h : Dv Lt m B W ps) (hm : m ≤ 3) (hn : ps.length ≤ N) (hp : ∀ x ∈ pt, x ≤ c) : (wr pt ps).length ≤ N * (W * (B + 3 * (B * c))) := by
  refine Nat.le_trans (wr_le (k := W * (B + 3 * (B * c))) ps fun p hpp => ?_) (Nat.mul_le_mul hn (Nat.le_refl _))
  have d := h p hpp
  have e : (wrt pt p).length = p.1.length * valF p.2 pt := WM.pw_len _ _
  rw [e]
  exact Nat.mul_le_mul d.2.1 (val_bound d.1 hm d.2.2.2 hp)
theorem meas_bound {Lt : Nat → Prop} {m B W N : Nat} {ps : List Pn} (h : Dv Lt m B W ps) (hn : ps.length ≤ N) : meas ps ≤ N * (W * (B + 1)) := by
  refine Nat.le_trans (meas_le (k := W * (B + 1)) ps fun p hpp => ?_) (Nat.mul_le_mul hn (Nat.le_refl _))
  have d := h p hpp
  unfold measP
  refine Nat.mul_le_mul d.2.1 ?_
  have h0 : p.2.headD 0 ≤ B := by
    have dl := d.1
    have du := d.2.2.2
    cases e : p.2 with
    | nil => rw [e] at dl; simp at dl
    | cons a l => rw [e] at du; exact du a List.mem_cons_self
  split <;> omega
/-- the words of a list of pieces, together -/
def totW (ps : List Pn) : Nat := (ps.map fun p => p.1.length).sum
theorem totW_cons (p : Pn) (r : List Pn) : totW (p :: r) = p.1.length + totW r := by simp [totW]
theorem norm_meas {m : Nat} {p : Pn} (h : NormP m p) : measP p = p.1.length := by
  unfold measP
  by_cases z : isPow p = true
  · have := (h.pow z).2
    rw [this, of_decide_eq_true z]
    simp
  · have z : isPow p = false := by simpa using z
    rw [h.fix z, open_one]
    simp [one1]
theorem tot_meas {m : Nat} {ps : List Pn} (h : ∀ p ∈ ps, NormP m p) : meas ps = totW ps := by
  unfold meas totW
  congr 1
  exact List.map_congr_left fun p hp => norm_meas (h p hp)
/-- a list of pieces with other forms: its measure -/
theorem meas_vals {f : F → F} {pt : List Nat} : ∀ ps : List Pn, (∀ p ∈ ps, (f p.2).headD 0 = valF p.2 pt) → meas (ps.map fun p => (p.1, f p.2)) ≤ (wr pt ps).length + totW ps
  | [], _ => by simp [meas]
  | p :: r, h => by
    have ih := meas_vals r fun q hq => h q (List.mem_cons_of_mem _ hq)
    have h0 := h p List.mem_cons_self
    have e : meas ((p :: r).map fun p => (p.1, f p.2)) = measP (p.1, f p.2) + meas (r.map fun p => (p.1, f p.2)) := by simp [meas]
    have e2 : (wrt pt p).length = p.1.length * valF p.2 pt := WM.pw_len _ _
    have e3 : measP (p.1, f p.2) ≤ p.1.length * valF p.2 pt + p.1.length := by
      unfold measP
      show p.1.length * ((f p.2).headD 0 + _) ≤ _
      rw [h0, Nat.mul_add]
      refine Nat.add_le_add_left ?_ _
      split
      · omega
      · simp
    rw [e, totW_cons, wr, List.length_append, e2]
    omega
theorem head_ins {m : Nat} {f : F} {gs : List F} (h : ∀ g ∈ gs, g.length = m + 1) : (insF m f gs).headD 0 = valF f (gs.map fun g => g.headD 0) := by
  have e := val_insF (m := m) (f := f) h (List.replicate m 0)
  have z : ∀ g : F, valF g (List.replicate m 0) = g.headD 0 := fun g => by
    unfold valF
    have : ∀ (l : List Nat) (k : Nat), dot l (List.replicate k 0) = 0 := fun l => by
      induction l with
      | nil => intro k; cases k <;> rfl
      | cons a l ih =>
        intro k
        cases k with
        | zero => rfl
        | succ k => rw [List.replicate_succ, dot, ih]; rfl
    rw [this]
    rfl
  rw [z] at e
  rw [e]
  congr 1
  exact List.map_congr_left fun g _ => z g
/-- a list with numbers put for unknowns -/
theorem meas_repl {m : Nat} {gs : List F} (h : ∀ g ∈ gs, g.length = m + 1) (ps : List Pn) : meas (K23.repl m gs ps) ≤ (wr (gs.map fun g => g.headD 0) ps).length + totW ps :=
  meas_vals (f := fun f => insF m f gs) ps fun p _ => head_ins h
/-- a number of a normal list's form, at a point -/
theorem val_le_wr {m : Nat} {ps : List Pn} (h : LenF m ps) {p : Pn} (hp : p ∈ normL ps) (pt : List Nat) : valF p.2 pt ≤ (wr pt ps).length := by
  have np := (nm_normL h).all p hp
  have n0 := List.length_pos_iff.mpr np.ne
  have b := wrt_le (pt := pt) hp
  rw [wr_normL h] at b
  have e : (wrt pt p).length = p.1.length * valF p.2 pt := WM.pw_len _ _
  have c : valF p.2 pt ≤ p.1.length * valF p.2 pt := Nat.le_mul_of_pos_left _ n0
  omega
theorem small900 {n : Nat} (h : n ≤ 1000000) : n < 2 ^ 900 := Nat.lt_of_le_of_lt h (Nat.lt_of_lt_of_le (by decide : 1000000 < 2 ^ 20) (Nat.pow_le_pow_right (by decide) (by decide)))
/-- numbers that are put for unknowns, in a normal list -/
theorem bf_ins {m k c : Nat} {gs : List F} {ps : List Pn} (h : LenF m ps) (hg : ∀ g ∈ gs, g.length = k + 1) (hb : (wr (gs.map fun g => valF g (List.replicate k 1)) ps).length ≤ 1000000) : ∀ p ∈ normL ps, Bf (insF k p.2 gs) := fun p hp x hx => by
  have a := mem_val (len_insF (m := k) (f := p.2) hg) hx
  rw [val_insF hg] at a
  have b := val_le_wr h hp (gs.map fun g => valF g (List.replicate k 1))
  exact small900 (by omega)
section
variable {Lt : Nat → Prop} {m : Nat} {ps qs : List Pn}
/-- numbers put for unknowns -/
theorem dot_sum {B : Nat} : ∀ (f pt : List Nat), (∀ x ∈ f, x ≤ B) → dot f pt ≤ B * pt.sum
  | [], _, _ => by simp [dot]
  | _ :: _, [], _ => by simp [dot]
  | x :: xs, y :: ys, h => by
    have a := dot_sum xs ys fun z hz => h z (List.mem_cons_of_mem _ hz)
    have b : x * y ≤ B * y := Nat.mul_le_mul (h x List.mem_cons_self) (Nat.le_refl _)
    rw [dot, List.sum_cons, Nat.mul_add]
    omega
theorem wr_sum {B W N : Nat} {pt : List Nat} (h : Dv Lt m B W ps) (hn : ps.length ≤ N) : (NM.wr pt ps).length ≤ N * (W * (B + B * pt.sum)) := by
  refine Nat.le_trans (wr_le (k := W * (B + B * pt.sum)) ps fun p hpp => ?_) (Nat.mul_le_mul hn (Nat.le_refl _))
  have d := h p hpp
  have e : (wrt pt p).length = p.1.length * valF p.2 pt := WM.pw_len _ _
  rw [e]
  refine Nat.mul_le_mul d.2.1 ?_
  have dl := d.1
  have du := d.2.2.2
  cases ef : p.2 with
  | nil => rw [ef] at dl; simp at dl
  | cons a l =>
    rw [ef] at du
    have h0 := du a List.mem_cons_self
    have := dot_sum (B := B) l pt fun x hx => du x (List.mem_cons_of_mem _ hx)
    show a + dot l pt ≤ _
    omega
theorem sum_set0 : ∀ (m i b : Nat), ((List.replicate m 0).set i b).sum ≤ b
  | 0, _, _ => by simp
  | m + 1, 0, b => by simp [List.replicate_succ]
  | m + 1, i + 1, b => by
    rw [List.replicate_succ, List.set_cons_succ, List.sum_cons, Nat.zero_add]
    exact sum_set0 m i b
theorem val_zero (g : F) (m : Nat) : valF g (List.replicate m 0) = g.headD 0 := by
  unfold valF
  have : ∀ (l : List Nat) (k : Nat), dot l (List.replicate k 0) = 0 := fun l => by
    induction l with
    | nil => intro k; cases k <;> rfl
    | cons a l ih =>
      intro k
      cases k with
      | zero => rfl
      | succ k => rw [List.replicate_succ, dot, ih]; rfl
  rw [this]
  rfl
end
theorem dot_pick : ∀ (n : Nat) (g : Nat → Nat) (o c : Nat) (pt : List Nat), (∀ p, g p = if p = o then c else 0) → o < n → n = pt.length → dot ((List.range n).map g) pt = c * pt.getD o 0
  | 0, _, _, _, _, _, h, _ => by omega
  | n + 1, g, o, c, [], _, _, h => by simp at h
  | n + 1, g, o, c, y :: pt, hg, ho, hn => by
    have e : (List.range (n + 1)).map g = g 0 :: (List.range n).map fun i => g (i + 1) := by
      rw [List.range_succ_eq_map, List.map_cons, List.map_map]
      rfl
    rw [e, dot]
    cases o with
    | zero =>
      have z : dot ((List.range n).map fun i => g (i + 1)) pt = 0 := by
        have : (List.range n).map (fun i => g (i + 1)) = List.replicate n 0 := by
          rw [List.eq_replicate_iff]
          refine ⟨by simp, fun x hx => ?_⟩
          obtain ⟨i, _, rfl⟩ := List.mem_map.mp hx
          rw [hg, if_neg (by omega)]
        rw [this, dot_zero]
      rw [z, hg 0, if_pos rfl]
      rfl
    | succ o =>
      rw [dot_pick n (fun i => g (i + 1)) o c pt (fun p => by rw [hg]; by_cases z : p = o <;> simp [z]) (by omega) (by simpa using hn), hg 0, if_neg (by omega)]
      simp
theorem OT.sameX {C g x : Addr} {H H' : Hp} {m n : Nat} {ps : List Pn} (h : OT C H x m ps) (G : Gn n H g) (s : SameX g H H') : OT C H' x m ps := by
  obtain ⟨a, b, c, hg, _⟩ := id G
  obtain ⟨l, ⟨dx, hx⟩, gl⟩ := h
  obtain ⟨vs, hl, pl⟩ := id gl.at_
  have lg : l ≠ g := fun z => by
    rw [z, hg] at hl
    cases hl
    cases pl
  exact ⟨l, ⟨dx, s _ _ (fun z => by rw [z, hg] at hx; cases hx) hx⟩, ⟨⟨vs, s _ _ lg hl, pl.mono fun a xs e => s.tup G e⟩, gl.len, gl.ws, gl.low, gl.bf, gl.few⟩⟩
theorem OT.at' {C x : Addr} {H : Hp} {m : Nat} {ps : List Pn} (h : OT C H x m ps) : ∃ dx fs, H x = some (.ins C dx fs) := by
  obtain ⟨l, ⟨dx, e⟩, _⟩ := h
  exact ⟨dx, _, e⟩
theorem eq_of {m : Nat} {e : Bool} {p q a b : List Pn} (he : e = decide (a = b)) (h : p = q ↔ a = b) : (decide (m = m) && decide (p = q)) = e := by
  rw [decide_eq_true rfl, Bool.true_and, he]
  exact decide_eq_decide.mpr h
end K23

set_option Elab.async false
set_option linter.all false
set_option maxRecDepth 100000
set_option maxHeartbeats 4000000
namespace K23
open PySem PySem.Spec PyProof.Rows L2 CK SX NM
section
variable {P : Program} {w : World} {K : PySem.W.Frag} {mg : Str → Option Value} {base : Heap} {C : Addr}
/-- a text and a list are not equal -/
def sp_eqL (C : Addr) : Sp := fun vs H Q _ => ∃ (a b : Addr) (xs : List V), vs = [.ref a, .ref b] ∧ H b = some (.lst xs) ∧ Q (.bl false) H
theorem m_eqL (T : Txt K mg C) : C8.Met P w K mg base 1 C "__eq__" (sp_eqL C) [] := by
  refine metF T.k_OpenText T.d_OpenText___eq__ sc_OpenText___eq__ (fun vs H Q E h => ?_) (fun f cdv A outer s H vs Q E hr h => ?_)
  · obtain ⟨_, _, _, rfl, _⟩ := h; rfl
  · obtain ⟨a, b, xs, rfl, hb, q⟩ := h
    refine ⟨_, (pss_one (ps_ret (pe_and (pe_callB (call_isCL T.k_OpenText.ins T.t_OpenText) (by rfl) T.m_isinstance (by decide +kernel) (pa_cons (pv 1) (pa_cons (C8.pe_gc (v := .ref C) (by rfl) ⟨_, T.k_OpenText.mgC, rfl⟩) pa_nil))) (pe_and (pe_cmpR op_eq (pe_fld (pv 0) rfl) (pe_fld (pv 1) rfl) (nomark _)) (pe_one (pe_cmpR (op_eqD hr.units) (pe_fld (pv 0) rfl) (pe_fld (pv 1) rfl) (nomark _))))))), ?_⟩
    exact ⟨_, rfl, .inr ⟨b, xs, rfl, hb, _, rfl, iteF q⟩⟩
def vAddK (k : Nat) : V → V → V
  | .int i, .int j => .int (i + ((k * j.toNat : Nat) : Int))
  | _, _ => .non
theorem zip_addK (k : Nat) : ∀ (xs ys : List Nat), List.zipWith (vAddK k) (natsV xs) (natsV ys) = natsV (addF xs (timesF k ys))
  | [], _ => by simp [addF, natsV]
  | _ :: _, [] => by simp [addF, natsV, timesF]
  | x :: xs, y :: ys => by
    show V.int ((x : Int) + ((k * ((y : Int)).toNat : Nat) : Int)) :: List.zipWith (vAddK k) (natsV xs) (natsV ys) = V.int ((x + k * y : Nat) : Int) :: natsV (addF xs (timesF k ys))
    rw [zip_addK k xs ys, Int.toNat_natCast, Int.natCast_add]
end
end K23

set_option Elab.async false
set_option linter.all false
set_option maxRecDepth 100000
set_option maxHeartbeats 4000000
namespace K23
open PySem PySem.Spec PyProof.Rows L2 CK SX NM
/-- points in the heap -/
inductive Ls (H : Hp) : List V → List (List Nat) → Prop
  | nil : Ls H [] []
  | cons {a : Addr} {vs : List V} {f : List Nat} {fs : List (List Nat)} : LP H a f → Ls H vs fs → Ls H (.ref a :: vs) (f :: fs)
theorem Ls.same {H H' : Hp} {vs : List V} {fs : List (List Nat)} (h : Ls H vs fs) (s : Same H H') : Ls H' vs fs := by
  induction h with
  | nil => exact .nil
  | cons e _ ih => exact .cons (s _ _ e) ih
theorem Ls.len {H : Hp} {vs : List V} {fs : List (List Nat)} (h : Ls H vs fs) : vs.length = fs.length := by
  induction h with
  | nil => rfl
  | cons _ _ ih => simp [ih]
theorem Ls.get {H : Hp} {vs : List V} {fs : List (List Nat)} (h : Ls H vs fs) {i : Nat} {v : V} (hi : vs[i]? = some v) : ∃ a f, v = .ref a ∧ fs[i]? = some f ∧ LP H a f := by
  induction h generalizing i with
  | nil => simp at hi
  | cons e _ ih =>
    cases i with
    | zero =>
      cases hi
      exact ⟨_, _, rfl, rfl, e⟩
    | succ i => exact ih hi
theorem Ls.app {H : Hp} {vs us : List V} {fs gs : List (List Nat)} (h : Ls H vs fs) (g : Ls H us gs) : Ls H (vs ++ us) (fs ++ gs) := by
  induction h with
  | nil => exact g
  | cons e _ ih => exact .cons e ih
theorem Ls.one {H : Hp} {a : Addr} {f : List Nat} (h : LP H a f) : Ls H [.ref a] [f] := .cons h .nil
/-- a list that is written does not hold the points themselves -/
theorem Ls.upd {H : Hp} {D : Addr} {o : HO} {xs : List V} {vs : List V} {fs : List (List Nat)} (h : Ls H vs fs) (hD : H D = some (.lst xs)) (ne : ∀ a, V.ref a ∈ vs → a ≠ D) : Ls (L2.upd H D o) vs fs := by
  induction h with
  | nil => exact .nil
  | cons e _ ih =>
    refine .cons ?_ (ih fun a ha => ne a (List.mem_cons_of_mem _ ha))
    show _ = _
    rw [upd_ne (ne _ List.mem_cons_self)]
    exact e
def PT (H : Hp) (L : Addr) (pts : List (List Nat)) : Prop := ∃ vs, H L = some (.lst vs) ∧ Ls H vs pts
theorem nonC (xs : List V) : PySem.PyData.eqv (.list []) (.list []) = true := by simp [PyData.eqv, PyData.eqvAll]
section
variable {P : Program} {w : World} {K : PySem.W.Frag} {mg : Str → Option Value} {base : Heap} {C : Addr}
end
end K23

set_option Elab.async false
set_option linter.all false
set_option maxRecDepth 100000
set_option maxHeartbeats 4000000
namespace K23
open PySem PySem.Spec PyProof.Rows L2 CK SX NM
section
variable {P : Program} {w : World} {K : PySem.W.Frag} {mg : Str → Option Value} {base : Heap} {C : Addr}
end
end K23

set_option Elab.async false
set_option linter.all false
set_option maxRecDepth 100000
set_option maxHeartbeats 4000000
namespace K23
open PySem PySem.Spec PyProof.Rows L2 CK SX NM
theorem FL.sameX {g l : Addr} {H H' : Hp} {fs : List F} {n : Nat} (h : FL H l fs) (lg : l ≠ g) (G : Gn n H g) (s : SameX g H H') : FL H' l fs := by
  obtain ⟨vs, e, p⟩ := h
  exact ⟨vs, s _ _ lg e, p.mono fun a xs e => s.tup G e⟩
section
variable {P : Program} {w : World} {K : PySem.W.Frag} {mg : Str → Option Value} {base : Heap} {C : Addr}
end
end K23

set_option Elab.async false
set_option linter.all false
set_option maxRecDepth 100000
set_option maxHeartbeats 4000000
namespace K23
open PySem PySem.Spec PyProof.Rows L2 CK SX NM
section
variable {P : Program} {w : World} {K : PySem.W.Frag} {mg : Str → Option Value} {base : Heap} {C : Addr}
def sp_need_form : Sp := fun vs H Q _ => ∃ (a : Addr) (f : F) (m : Nat), vs = [.ref a] ∧ FT H a f ∧ f.length = m + 1 ∧ m ≤ 3 ∧ ∀ H', Same H H' → Q .non H'
end
end K23

set_option linter.all false
set_option maxRecDepth 100000
set_option maxHeartbeats 4000000
namespace K23
open PySem PySem.Spec PyProof.Rows L2 CK SX NM
/-! ### what drawn lists write, and lists with forms put in -/
theorem val_sum {B : Nat} {f : F} {pt : List Nat} (h : Up B f) : valF f pt ≤ B + B * pt.sum := by
  cases f with
  | nil => simp [valF, dot]
  | cons a l =>
    have h0 := h a List.mem_cons_self
    have := dot_sum (B := B) l pt fun x hx => h x (List.mem_cons_of_mem _ hx)
    show a + dot l pt ≤ _
    omega
structure Rs (Lt : Nat → Prop) (m most : Nat) (ps : List Pn) : Prop where
  dr : Dr Lt m 2 ps
  sm : Sms m most ps
  few : ps.length ≤ 5
section
variable {Lt : Nat → Prop} {m k : Nat} {ps : List Pn}
theorem Rs.lenF (h : Rs Lt m 1 ps) : LenF m ps := fun p hp => (h.dr p hp).1
theorem Rs.dv (h : Rs Lt m 1 ps) : Dv Lt m 2 7 ps := fun p hp => h.dr p hp
theorem Rs.wr (h : Rs Lt m 1 ps) (pt : List Nat) : (NM.wr pt ps).length ≤ 30 * pt.sum + 40 := by
  have a := wr_le (pt := pt) (k := 6 * pt.sum + 8) ps fun p hp => by
    have e : (wrt pt p).length = p.1.length * valF p.2 pt := WM.pw_len _ _
    rw [e]
    rcases h.sm p hp with ⟨l6, u⟩ | ⟨c, ec, l8⟩
    · have v := val_sum (pt := pt) u
      have := Nat.mul_le_mul l6 v
      omega
    · have : valF p.2 pt = c := by
        rw [ec]
        unfold valF
        show c + dot (List.replicate m 0) pt = c
        rw [dot_zero]
        rfl
      rw [this]
      omega
  have b := Nat.mul_le_mul_right (6 * pt.sum + 8) h.few
  omega
theorem Rs.me (h : Rs Lt m 1 ps) : meas ps ≤ 105 := Nat.le_trans (meas_bound h.dv h.few) (by decide)
theorem Rs.tot (h : Rs Lt m 1 ps) : totW (normL ps) ≤ 105 := by
  rw [← tot_meas (nm_normL h.lenF).all]
  exact Nat.le_trans (meas_normL h.lenF) h.me
theorem Rs.gl {H : Hp} {l : Addr} (h : Rs Lt m 1 ps) (llt : ∀ c, Lt c → 97 ≤ c ∧ c ≤ 122) (pl : PL H l ps) : GL H m l ps :=
  ⟨pl, h.lenF, fun p hp => by have := (h.dr p hp).2.1; omega, fun p hp c hc => llt c ((h.dr p hp).2.2.1 c hc), fun p hp n hn => small900 (Nat.le_trans ((h.dr p hp).2.2.2 n hn) (by decide)), by have := h.few; omega⟩
theorem Rs.wl (h : Rs Lt m 1 ps) (hm : m ≤ 3) : Wl m ps := small900 (Nat.le_trans (h.wr _) (by
  have : (List.replicate m 1).sum = m := by simp
  omega))
/-- forms put in: the numbers at a point -/
theorem sum_vals {gs : List F} {pt : List Nat} {c : Nat} (h : ∀ g ∈ gs, valF g pt ≤ c) (h3 : gs.length ≤ 3) : (gs.map fun g => valF g pt).sum ≤ 3 * c := by
  have : ∀ l : List F, (∀ g ∈ l, valF g pt ≤ c) → (l.map fun g => valF g pt).sum ≤ l.length * c := fun l => by
    induction l with
    | nil => intro _; simp
    | cons g l ih =>
      intro h
      have a := ih fun x hx => h x (List.mem_cons_of_mem _ hx)
      have b := h g List.mem_cons_self
      rw [List.map_cons, List.sum_cons, List.length_cons, Nat.succ_mul]
      omega
  exact Nat.le_trans (this gs h) (Nat.mul_le_mul_right _ h3)
theorem Rs.meR (h : Rs Lt m 1 ps) {gs : List F} (hg : ∀ g ∈ gs, g.length = k + 1) (hs : (gs.map fun g => g.headD 0).sum ≤ 42) : meas (K23.repl k gs (normL ps)) ≤ 30 * (gs.map fun g => g.headD 0).sum + 145 := by
  have a := meas_repl hg (normL ps)
  rw [wr_normL h.lenF] at a
  have b := h.wr (gs.map fun g => g.headD 0)
  have c := h.tot
  omega
theorem Rs.wrR (h : Rs Lt m 1 ps) {gs : List F} (hg : ∀ g ∈ gs, g.length = k + 1) (pt : List Nat) : (NM.wr pt (normL (K23.repl k gs (normL ps)))).length ≤ 30 * (gs.map fun g => valF g pt).sum + 40 := by
  have l : LenF k (K23.repl k gs (normL ps)) := fun p hp => by
    obtain ⟨q, _, rfl⟩ := List.mem_map.mp hp
    exact len_insF hg
  rw [wr_normL l, wr_repl hg, wr_normL h.lenF]
  exact h.wr _
theorem sum_headsF {gs : List F} {c : Nat} (h : ∀ f ∈ gs, f.length = k + 1 ∧ Up c f) (h3 : gs.length ≤ 3) : (gs.map fun f => f.headD 0).sum ≤ 3 * c := by
  have e : (gs.map fun f => f.headD 0) = gs.map fun f => valF f (List.replicate k 0) := List.map_congr_left fun f _ => (val_zero f k).symm
  rw [e]
  exact sum_vals (fun f hf => by
    rw [val_zero]
    have := (h f hf).1
    cases ef : f with
    | nil => rw [ef] at this; simp at this
    | cons a l => exact (h f hf).2 a (by rw [ef]; exact List.mem_cons_self)) h3
theorem sum_onesF {gs : List F} {c : Nat} (h : ∀ f ∈ gs, f.length = k + 1 ∧ Up c f) (h3 : gs.length ≤ 3) (hk : k ≤ 3) : (gs.map fun f => valF f (List.replicate k 1)).sum ≤ 3 * (c + c * 3) :=
  sum_vals (fun f hf => by
    have a := val_sum (pt := List.replicate k 1) (h f hf).2
    have e : (List.replicate k 1).sum = k := by simp
    rw [e] at a
    have := Nat.mul_le_mul_left c hk
    omega) h3
theorem Rs.bfR (h : Rs Lt m 1 ps) {gs : List F} (hg : ∀ g ∈ gs, g.length = k + 1) (hs : (gs.map fun g => valF g (List.replicate k 1)).sum ≤ 1000) : ∀ p ∈ normL ps, Bf (insF k p.2 gs) :=
  bf_ins (c := 0) h.lenF hg (Nat.le_trans (h.wr _) (by omega))
theorem Rs.wlS (h : Rs Lt m 1 ps) {gs : List F} (hg : ∀ g ∈ gs, g.length = k + 1) (hs : (gs.map fun g => valF g (List.replicate k 1)).sum ≤ 1000) : Wl k (K23.repl k gs (normL ps)) := by
  unfold Wl
  rw [wr_repl hg, wr_normL h.lenF]
  exact small900 (Nat.le_trans (h.wr _) (by omega))
/-- put in before or behind the normal list is built -/
theorem repl_norm {gs : List F} (h : LenF m ps) (hg : ∀ g ∈ gs, g.length = k + 1) : normL (K23.repl k gs (normL ps)) = normL (K23.repl k gs ps) := by
  have l : ∀ qs : List Pn, LenF k (K23.repl k gs qs) := fun qs p hp => by
    obtain ⟨q, _, rfl⟩ := List.mem_map.mp hp
    exact len_insF hg
  refine norm_same (l _) (l _) fun pt _ => ?_
  rw [wr_repl hg, wr_repl hg, wr_normL h]
/-- two replacements, one after the other -/
theorem repl_two {j : Nat} {gs os : List F} (h : LenF m ps) (hg : ∀ g ∈ gs, g.length = k + 1) (ho : ∀ o ∈ os, o.length = j + 1) :
    normL (K23.repl j os (normL (K23.repl k gs (normL ps)))) = normL (K23.repl j (gs.map fun g => insF j g os) (normL ps)) := by
  have l : ∀ {k : Nat} {gs : List F}, (∀ g ∈ gs, g.length = k + 1) → ∀ qs : List Pn, LenF k (K23.repl k gs qs) := fun hg qs p hp => by
    obtain ⟨q, _, rfl⟩ := List.mem_map.mp hp
    exact len_insF hg
  have hb : ∀ g ∈ gs.map fun g => insF j g os, g.length = j + 1 := fun g hg' => by
    obtain ⟨x, _, rfl⟩ := List.mem_map.mp hg'
    exact len_insF ho
  refine norm_same (l ho _) (l hb _) fun pt _ => ?_
  rw [wr_repl ho, wr_normL (l hg _), wr_repl hg, wr_repl hb, List.map_map]
  congr 1
  exact List.map_congr_left fun g _ => (val_insF ho pt).symm
end
/-- lists of forms as data -/
theorem fs_dp {K : PySem.W.Frag} {H : Hp} {vs : List V} {fs : List F} (h : Fs H vs fs) : DpAll K H vs (fs.map fun f => dI (f.map fun n : Nat => ((n : Nat) : Int))) := by
  induction h with
  | nil => exact .nil
  | @cons a vs f fs e _ ih =>
    have e' : H a = some (.tup ((f.map fun n : Nat => ((n : Nat) : Int)).map V.int)) := by
      rw [List.map_map]
      exact e
    exact .cons (.tup (.inl (.inl e')) (dpAll_ints _)) ih
theorem dp_FL {K : PySem.W.Frag} {H : Hp} {l : Addr} {fs : List F} (h : FL H l fs) : Dp K H (.ref l) (.list ((fs.map fun f => f.map fun n : Nat => ((n : Nat) : Int)).map dI)) := by
  obtain ⟨vs, e, p⟩ := h
  rw [List.map_map]
  exact .lst (.inl (.inl e)) (fs_dp p)
end K23

set_option linter.all false
set_option maxRecDepth 100000
set_option maxHeartbeats 4000000
namespace K23
open PySem PySem.Spec PyProof.Rows L2 CK SX NM
/-! ### forms put in, within bounds -/
/-- drawn forms -/
structure Gs (k c : Nat) (gs : List F) : Prop where
  ok : ∀ f ∈ gs, f.length = k + 1 ∧ Up c f
  few : gs.length ≤ 3
  k3 : k ≤ 3
section
variable {Lt : Nat → Prop} {m k c : Nat} {ps : List Pn} {gs : List F}
theorem Gs.len (h : Gs k c gs) : ∀ f ∈ gs, f.length = k + 1 := fun f hf => (h.ok f hf).1
theorem Gs.bf (h : Gs k c gs) (hc : c ≤ 1000) : ∀ f ∈ gs, Bf f := fun f hf y hy => small900 (Nat.le_trans ((h.ok f hf).2 y hy) (by omega))
theorem Gs.heads (h : Gs k c gs) : (gs.map fun f => f.headD 0).sum ≤ 3 * c := sum_headsF h.ok h.few
theorem Gs.ones (h : Gs k c gs) : (gs.map fun f => valF f (List.replicate k 1)).sum ≤ 3 * (c + c * 3) := sum_onesF h.ok h.few h.k3
theorem Gs.vals (h : Gs k c gs) {pt : List Nat} {b : Nat} (hp : pt.sum ≤ b) : (gs.map fun f => valF f pt).sum ≤ 3 * (c + c * b) :=
  sum_vals (fun f hf => by
    have a := val_sum (pt := pt) (h.ok f hf).2
    have := Nat.mul_le_mul_left c hp
    omega) h.few
theorem Gs.val1 (h : Gs k c gs) {pt : List Nat} {b : Nat} (hp : pt.sum ≤ b) : ∀ f ∈ gs, valF f pt ≤ c + c * b := fun f hf => by
  have a := val_sum (pt := pt) (h.ok f hf).2
  have := Nat.mul_le_mul_left c hp
  omega
theorem Rs.totP (h : Rs Lt m 1 ps) : totW ps ≤ 35 := by
  have : ∀ l : List Pn, (∀ p ∈ l, p.1.length ≤ 7) → totW l ≤ l.length * 7 := fun l => by
    induction l with
    | nil => intro _; simp [totW]
    | cons p r ih =>
      intro h
      have a := ih fun q hq => h q (List.mem_cons_of_mem _ hq)
      have b := h p List.mem_cons_self
      rw [totW_cons, List.length_cons, Nat.succ_mul]
      omega
  have a := this ps fun p hp => (h.dr p hp).2.1
  have b := h.few
  omega
theorem Rs.lenP (h : Rs Lt m 1 ps) (g : Gs k c gs) : LenF k (K23.repl k gs ps) := fun p hp => by
  obtain ⟨q, _, rfl⟩ := List.mem_map.mp hp
  exact len_insF g.len
theorem Rs.meP (h : Rs Lt m 1 ps) (g : Gs k c gs) (hc : c ≤ 10) : meas (K23.repl k gs ps) ≤ 2000 := by
  have a := meas_repl g.len ps
  have b := h.wr (gs.map fun g => g.headD 0)
  have d := h.totP
  have e := g.heads
  omega
theorem Rs.bfP (h : Rs Lt m 1 ps) (g : Gs k c gs) (hc : c ≤ 10) : ∀ p ∈ ps, Bf (insF k p.2 gs) := fun p hp x hx => by
  have a := mem_val (len_insF (m := k) (f := p.2) g.len) hx
  rw [val_insF g.len] at a
  have b := val_sum (pt := gs.map fun g => valF g (List.replicate k 1)) (h.dr p hp).2.2.2
  have d := g.ones
  exact small900 (by omega)
theorem Rs.wlP (h : Rs Lt m 1 ps) (g : Gs k c gs) (hc : c ≤ 10) : Wl k (K23.repl k gs ps) := by
  unfold Wl
  rw [wr_repl g.len]
  have d := g.ones
  exact small900 (Nat.le_trans (h.wr _) (by omega))
/-- put in a second time -/
theorem Rs.me2 {j : Nat} {os : List F} (h : Rs Lt m 1 ps) (g : Gs k 2 gs) (o : Gs j 2 os) : meas (K23.repl j os (normL (K23.repl k gs (normL ps)))) ≤ 2000 := by
  have l : LenF k (K23.repl k gs (normL ps)) := fun p hp => by
    obtain ⟨q, _, rfl⟩ := List.mem_map.mp hp
    exact len_insF g.len
  have a := meas_repl o.len (normL (K23.repl k gs (normL ps)))
  rw [wr_normL l, wr_repl g.len, wr_normL h.lenF] at a
  have b := h.wr (gs.map fun g => valF g (os.map fun g => g.headD 0))
  have e := g.vals (pt := os.map fun g => g.headD 0) o.heads
  have t : totW (normL (K23.repl k gs (normL ps))) ≤ 325 := by
    rw [← tot_meas (nm_normL l).all]
    have x := h.meR g.len (by have := g.heads; omega)
    have y := g.heads
    exact Nat.le_trans (meas_normL l) (by omega)
  omega
theorem Rs.bf2 {j : Nat} {os : List F} (h : Rs Lt m 1 ps) (g : Gs k 2 gs) (o : Gs j 2 os) : ∀ p ∈ normL (K23.repl k gs (normL ps)), Bf (insF j p.2 os) := by
  have l : LenF k (K23.repl k gs (normL ps)) := fun p hp => by
    obtain ⟨q, _, rfl⟩ := List.mem_map.mp hp
    exact len_insF g.len
  refine bf_ins (c := 0) l o.len ?_
  rw [wr_repl g.len, wr_normL h.lenF]
  have b := h.wr (gs.map fun g => valF g (os.map fun g => valF g (List.replicate j 1)))
  have e := g.vals (pt := os.map fun g => valF g (List.replicate j 1)) o.ones
  omega
theorem Rs.wl2 {j : Nat} {os : List F} (h : Rs Lt m 1 ps) (g : Gs k 2 gs) (o : Gs j 2 os) : Wl j (K23.repl j os (normL (K23.repl k gs (normL ps)))) := by
  have l : LenF k (K23.repl k gs (normL ps)) := fun p hp => by
    obtain ⟨q, _, rfl⟩ := List.mem_map.mp hp
    exact len_insF g.len
  unfold Wl
  rw [wr_repl o.len, wr_normL l, wr_repl g.len, wr_normL h.lenF]
  have b := h.wr (gs.map fun g => valF g (os.map fun g => valF g (List.replicate j 1)))
  have e := g.vals (pt := os.map fun g => valF g (List.replicate j 1)) o.ones
  exact small900 (by omega)
/-- the forms, put into one another -/
theorem Gs.ins {j : Nat} {os : List F} (g : Gs k 2 gs) (o : Gs j 2 os) : (∀ f ∈ gs.map fun g => insF j g os, f.length = j + 1) ∧ (gs.map fun g => insF j g os).length ≤ 3 ∧ (∀ f ∈ gs.map fun g => insF j g os, Bf f) ∧
    ((gs.map fun g => insF j g os).map fun f => f.headD 0).sum ≤ 42 ∧ ((gs.map fun g => insF j g os).map fun f => valF f (List.replicate j 1)).sum ≤ 1000 := by
  have v1 : ∀ f ∈ gs, valF (insF j f os) (List.replicate j 1) ≤ 50 := fun f hf => by
    rw [val_insF o.len]
    exact Nat.le_trans (g.val1 o.ones f hf) (by decide)
  have v0 : ∀ f ∈ gs, (insF j f os).headD 0 ≤ 14 := fun f hf => by
    rw [head_ins o.len]
    exact Nat.le_trans (g.val1 o.heads f hf) (by decide)
  have sum_le : ∀ (l : List F) (u : F → Nat) (c : Nat), (∀ f ∈ l, u f ≤ c) → (l.map u).sum ≤ l.length * c := fun l u c => by
    induction l with
    | nil => intro _; simp
    | cons f r ih =>
      intro h
      have a := ih fun q hq => h q (List.mem_cons_of_mem _ hq)
      have b := h f List.mem_cons_self
      rw [List.map_cons, List.sum_cons, List.length_cons, Nat.succ_mul]
      omega
  have few := g.few
  refine ⟨fun f hf => ?_, by rw [List.length_map]; exact few, fun f hf y hy => ?_, ?_, ?_⟩
  · obtain ⟨x, _, rfl⟩ := List.mem_map.mp hf
    exact len_insF o.len
  · obtain ⟨x, hx, rfl⟩ := List.mem_map.mp hf
    have a := mem_val (len_insF (m := j) (f := x) o.len) hy
    have := v1 x hx
    exact small900 (by omega)
  · rw [List.map_map]
    have := sum_le gs ((fun f : F => f.headD 0) ∘ fun g => insF j g os) 14 v0
    have := Nat.mul_le_mul_right 14 few
    omega
  · rw [List.map_map]
    have := sum_le gs ((fun f : F => valF f (List.replicate j 1)) ∘ fun g => insF j g os) 50 v1
    have := Nat.mul_le_mul_right 50 few
    omega
end
/-- forms, the first of them each greater by one -/
def incF (f : F) : F := f.map (· + 1)
def incs (gs : List F) (i : Nat) : List F := (gs.take i).map incF ++ gs.drop i
theorem incs_set {gs : List F} {i : Nat} {f : F} (h : gs[i]? = some f) : (incs gs i).set i (incF f) = incs gs (i + 1) := by
  have hi := (List.getElem?_eq_some_iff.mp h).1
  unfold incs
  rw [List.set_append_right _ _ (by rw [List.length_map, List.length_take]; omega)]
  rw [List.length_map, List.length_take, Nat.min_eq_left (by omega), Nat.sub_self, ← List.getElem_cons_drop hi, List.set_cons_zero, List.take_succ, h, List.map_append, List.append_assoc]
  rfl
theorem incs_get {gs : List F} {i : Nat} {f : F} (h : gs[i]? = some f) : (incs gs i)[i]? = some f := by
  have hi := (List.getElem?_eq_some_iff.mp h).1
  unfold incs
  rw [List.getElem?_append_right (by rw [List.length_map, List.length_take]; omega), List.length_map, List.length_take, Nat.min_eq_left (by omega), Nat.sub_self, List.getElem?_drop, Nat.add_zero, h]
theorem len_incs (gs : List F) (i : Nat) : (incs gs i).length = gs.length := by
  unfold incs
  rw [List.length_append, List.length_map, List.length_take, List.length_drop]
  omega
theorem incs_zero (gs : List F) : incs gs 0 = gs := by simp [incs]
theorem Gs.inc {k : Nat} {gs : List F} (g : Gs k 2 gs) (i : Nat) : Gs k 3 (incs gs i) := by
  refine ⟨fun f hf => ?_, by rw [len_incs]; exact g.few, g.k3⟩
  rcases List.mem_append.mp hf with z | z
  · obtain ⟨x, hx, rfl⟩ := List.mem_map.mp z
    obtain ⟨a, b⟩ := g.ok x (List.mem_of_mem_take hx)
    refine ⟨by simp [incF, a], fun y hy => ?_⟩
    obtain ⟨u, hu, rfl⟩ := List.mem_map.mp hy
    have := b u hu
    omega
  · obtain ⟨a, b⟩ := g.ok f (List.mem_of_mem_drop z)
    exact ⟨a, fun y hy => by have := b y hy; omega⟩
/-- a list of pieces is no list of forms -/
theorem ne_forms {H : Hp} {l r : Addr} {ps : List Pn} {fs : List F} (hp : PL H r ps) (hf : FL H l fs) (h0 : fs ≠ []) : r ≠ l := fun e => by
  subst e
  obtain ⟨us, h1, p⟩ := hp
  obtain ⟨vs, h2, q⟩ := hf
  rw [h1] at h2
  cases h2
  cases q with
  | nil => exact h0 rfl
  | @cons a _ f _ e _ =>
    cases p with
    | cons pc _ =>
      obtain ⟨fa, h3, _⟩ := pc
      have e : H a = some (HO.tup (natsV f)) := e
      rw [h3] at e
      cases f with
      | nil => cases e
      | cons a b => cases e
/-- what stays when a list is written -/
theorem Fs.sameL {H H' : Hp} {l : Addr} {xs : List V} {vs : List V} {fs : List F} (h : Fs H vs fs) (hl : H l = some (.lst xs)) (s : SameX l H H') : Fs H' vs fs := h.mono fun a ys e => s _ _ (fun z => by rw [z, hl] at e; cases e) e
theorem FL.sameL {H H' : Hp} {l r : Addr} {xs : List V} {fs : List F} (h : FL H r fs) (hl : H l = some (.lst xs)) (ne : r ≠ l) (s : SameX l H H') : FL H' r fs := by
  obtain ⟨vs, e, p⟩ := h
  exact ⟨vs, s _ _ ne e, p.sameL hl s⟩
theorem PL.sameL {H H' : Hp} {l r : Addr} {xs : List V} {ps : List Pn} (h : PL H r ps) (hl : H l = some (.lst xs)) (ne : r ≠ l) (s : SameX l H H') : PL H' r ps := by
  obtain ⟨vs, e, p⟩ := h
  exact ⟨vs, s _ _ ne e, p.mono fun a ys e => s _ _ (fun z => by rw [z, hl] at e; cases e) e⟩
theorem OT.sameL {C : Addr} {H H' : Hp} {l x : Addr} {m : Nat} {fs : List F} {ps : List Pn} (h : OT C H x m ps) (hf : FL H l fs) (h0 : fs ≠ []) (s : SameX l H H') : OT C H' x m ps := by
  obtain ⟨r, ⟨dx, e⟩, g⟩ := h
  have ne := ne_forms g.at_ hf h0
  obtain ⟨xs, hl, _⟩ := id hf
  exact ⟨r, ⟨dx, s _ _ (fun z => by rw [z, hl] at e; cases e) e⟩, ⟨g.at_.sameL hl ne s, g.len, g.ws, g.low, g.bf, g.few⟩⟩
end K23

set_option linter.all false
set_option maxRecDepth 100000
set_option maxHeartbeats 4000000
namespace K23
open PySem PySem.Spec PyProof.Rows L2 CK SX NM
/-! ### lists within bounds -/
/-- measure at most e, written at small points at most w letters, at most k pieces, words of at most v letters -/
structure Sd (m e w k v : Nat) (ls : List Pn) : Prop where
  len : LenF m ls
  me : meas ls ≤ e
  wr : ∀ pt, (∀ x ∈ pt, x ≤ 2) → (NM.wr pt ls).length ≤ w
  few : ls.length ≤ k
  ws : ∀ p ∈ ls, p.1.length ≤ v
  low : ∀ p ∈ ls, Low p.1
  bf : ∀ p ∈ ls, Bf p.2
section
variable {m e w k v e' w' k' v' : Nat} {ls rs : List Pn}
theorem Sd.wl (h : Sd m e w k v ls) (hw : w ≤ 1000000) : Wl m ls := small900 (Nat.le_trans (h.wr _ fun x hx => by rw [List.eq_of_mem_replicate hx]; decide) hw)
theorem Sd.up (h : Sd m e w k v ls) (a : e ≤ e') (b : w ≤ w') (c : k ≤ k') (d : v ≤ v') : Sd m e' w' k' v' ls := ⟨h.len, Nat.le_trans h.me a, fun pt hp => Nat.le_trans (h.wr pt hp) b, Nat.le_trans h.few c, fun p hp => Nat.le_trans (h.ws p hp) d, h.low, h.bf⟩
theorem Sd.norm (h : Sd m e w k v ls) (hw : w ≤ 1000000) : Sd m e w e e (normL ls) := by
  have nm := nm_normL h.len
  have ml := Nat.le_trans (meas_normL h.len) h.me
  have sm := nm.small ml
  exact ⟨nm.lenF, ml, fun pt hp => by rw [wr_normL h.len]; exact h.wr pt hp, sm.1, sm.2, lowP_normL h.low, bf_normL h.len (h.wl hw)⟩
theorem Sd.app (h : Sd m e w k v ls) (g : Sd m e' w' k' v rs) : Sd m (e + e') (w + w') (k + k') v (ls ++ rs) := by
  refine ⟨lenF_app h.len g.len, by rw [meas_app]; exact Nat.add_le_add h.me g.me, fun pt hp => ?_, by rw [List.length_append]; exact Nat.add_le_add h.few g.few, fun p hp => (List.mem_append.mp hp).elim (h.ws p) (g.ws p), fun p hp => (List.mem_append.mp hp).elim (h.low p) (g.low p), fun p hp => (List.mem_append.mp hp).elim (h.bf p) (g.bf p)⟩
  rw [wr_app, List.length_append]
  exact Nat.add_le_add (h.wr pt hp) (g.wr pt hp)
theorem Sd.mir (h : Sd m e w k v ls) : Sd m e w k v (mirP ls) := by
  refine ⟨lenF_mir h.len, by rw [meas_mirP]; exact h.me, fun pt hp => by rw [wr_mirP, List.length_reverse]; exact h.wr pt hp, by unfold mirP; rw [List.length_map, List.length_reverse]; exact h.few, fun p hp => ?_, fun p hp => ?_, fun p hp => ?_⟩
  all_goals obtain ⟨q, hq, rfl⟩ := mem_mirP hp
  · show q.1.reverse.length ≤ v
    rw [List.length_reverse]
    exact h.ws q hq
  · exact fun c hc => h.low q hq c (List.mem_reverse.mp hc)
  · exact h.bf q hq
theorem Sd.rep (h : Sd m e w k v ls) (t : Nat) : Sd m (e * t) (w * t) (k * t) v (repP t ls) := by
  refine ⟨fun p hp => h.len p (mem_repP hp), by rw [meas_repP]; exact Nat.mul_le_mul_right _ h.me, fun pt hp => ?_, by rw [len_repP, Nat.mul_comm]; exact Nat.mul_le_mul_right _ h.few, fun p hp => h.ws p (mem_repP hp), fun p hp => h.low p (mem_repP hp), fun p hp => h.bf p (mem_repP hp)⟩
  rw [wr_repP, WM.pw_len]
  exact Nat.mul_le_mul_right _ (h.wr pt hp)
theorem map_len {img : Nat → List Nat} {b : Nat} (h : ∀ c, (img c).length ≤ b) (z : List Nat) : (mapW img z).length ≤ b * z.length := by
  induction z with
  | nil => simp [mapW]
  | cons c z ih =>
    have e : mapW img (c :: z) = img c ++ mapW img z := rfl
    have := h c
    rw [e, List.length_append, List.length_cons, Nat.mul_succ]
    omega
theorem meas_map {img : Nat → List Nat} {b : Nat} (h : ∀ c, (img c).length ≤ b) : ∀ ps : List Pn, meas (mapP img ps) ≤ b * meas ps
  | [] => by simp [meas, mapP]
  | p :: r => by
    have ih := meas_map h r
    have e : meas (mapP img (p :: r)) = measP (mapW img p.1, p.2) + meas (mapP img r) := by simp [meas, mapP]
    have e2 : meas (p :: r) = measP p + meas r := by simp [meas]
    have e4 : measP (mapW img p.1, p.2) ≤ b * measP p := by
      unfold measP
      rw [← Nat.mul_assoc]
      exact Nat.mul_le_mul (map_len h p.1) (Nat.le_refl _)
    rw [e, e2, Nat.mul_add]
    omega
theorem Sd.map {img : Nat → List Nat} {b : Nat} (h : Sd m e w k v ls) (hi : ∀ c, (img c).length ≤ b) (lo : ∀ c, Low [c] → Low (img c)) : Sd m (b * e) (b * w) k (b * v) (mapP img ls) := by
  refine ⟨lenF_map h.len, Nat.le_trans (meas_map hi ls) (Nat.mul_le_mul_left _ h.me), fun pt hp => ?_, by unfold mapP; rw [List.length_map]; exact h.few, fun p hp => ?_, fun p hp => ?_, fun p hp => ?_⟩
  · rw [wr_mapP]
    exact Nat.le_trans (map_len hi _) (Nat.mul_le_mul_left _ (h.wr pt hp))
  all_goals obtain ⟨q, hq, rfl⟩ := List.mem_map.mp hp
  · exact Nat.le_trans (map_len hi _) (Nat.mul_le_mul_left _ (h.ws q hq))
  · intro c hc
    obtain ⟨z, hz, hcz⟩ := List.mem_flatten.mp hc
    obtain ⟨x, hx, rfl⟩ := List.mem_map.mp hz
    exact lo x (fun y hy => by rw [List.mem_singleton.mp hy]; exact h.low q hq x hx) c hcz
  · exact h.bf q hq
theorem Sd.gl {H : Hp} {l : Addr} (h : Sd m e w k v ls) (pl : PL H l ls) (hk : k ≤ 5000) (hv : v ≤ 2000) : GL H m l ls :=
  ⟨pl, h.len, fun p hp => Nat.le_trans (h.ws p hp) hv, h.low, h.bf, Nat.le_trans h.few hk⟩
end
theorem prod14 {N W B : Nat} (h : N + W + B ≤ 14) : N * (W * (B + 1)) ≤ 125 ∧ N * (W * (B + 3 * (B * 2))) ≤ 700 := by
  have all : ∀ N, N < 15 → ∀ W, W < 15 → ∀ B, B < 15 → N + W + B ≤ 14 → N * (W * (B + 1)) ≤ 125 ∧ N * (W * (B + 3 * (B * 2))) ≤ 700 := by decide +kernel
  exact all N (by omega) W (by omega) B (by omega) h
theorem Sd.of {Lt : Nat → Prop} {m : Nat} {ps : List Pn} (h : Bd Lt m 14 ps) (m3 : m ≤ 3) (hf : ps.length ≤ 5) (llt : ∀ c, Lt c → 97 ≤ c ∧ c ≤ 122) : Sd m 125 700 5 14 ps := by
  obtain ⟨N, W, B, hs, hn, dv⟩ := h
  obtain ⟨a, b⟩ := prod14 hs
  refine ⟨dv_lenF dv, Nat.le_trans (meas_bound dv hn) a, fun pt hp => Nat.le_trans (wr_bound dv m3 hn hp) b, hf, fun p hp => by have := (dv p hp).2.1; omega, fun p hp c hc => llt c ((dv p hp).2.2.1 c hc), fun p hp n hn => small900 (by have := (dv p hp).2.2.2 n hn; omega)⟩
theorem Pcs.cat {H : Hp} {vs us : List V} {ps qs : List Pn} (h : Pcs H vs ps) (g : Pcs H us qs) : Pcs H (vs ++ us) (ps ++ qs) := h.app g
/-! ### a dict of images, as it is drawn -/
def imgF (f : Nat → Option (List Nat)) (c : Nat) : List Nat := (f c).getD [c]
structure Dg (kvs : List (Key × V)) (f : Nat → Option (List Nat)) (n : Nat) : Prop where
  few : kvs.length ≤ n
  ok : ∀ k v, (k, v) ∈ kvs → ∃ c z, k = .inr (S [c]) ∧ v = .str (S z) ∧ f c = some z
  val : ∀ c, valV kvs (.inr (S [c])) = (f c).map fun z => V.str (S z)
  low : ∀ c z, f c = some z → Low [c] ∧ Low z ∧ z.length ≤ 4
theorem Dg.own {kvs : List (Key × V)} {f : Nat → Option (List Nat)} {n : Nat} (h : Dg kvs f n) : ∀ p ∈ kvs, valV kvs p.1 = some p.2 ∧ flatB p.2 = true := fun p hp => by
  obtain ⟨c, z, e1, e2, e3⟩ := h.ok p.1 p.2 hp
  rw [e1, e2, h.val c, e3]
  exact ⟨rfl, rfl⟩
theorem Dg.nil : Dg [] (fun _ => none) 0 := ⟨Nat.le_refl _, fun k v h => absurd h List.not_mem_nil, fun c => rfl, fun c z h => by cases h⟩
theorem mem_putK' {κ : Type} [DecidableEq κ] {kvs : List (κ × V)} {k k' : κ} {v v' : V} (h : (k', v') ∈ putK kvs k v) : (k' = k ∧ v' = v) ∨ ((k', v') ∈ kvs ∧ k' ≠ k) := by
  unfold putK at h
  split at h
  · obtain ⟨p, hp, e⟩ := List.mem_map.mp h
    split at e
    · rename_i e2
      cases e
      exact .inl ⟨e2, rfl⟩
    · rename_i e2
      rw [e] at hp
      refine .inr ⟨hp, ?_⟩
      rw [e] at e2
      exact e2
  · rename_i hn
    rcases List.mem_append.mp h with z | z
    · refine .inr ⟨z, fun e => hn ?_⟩
      rw [List.any_eq_true]
      exact ⟨_, z, decide_eq_true e⟩
    · cases List.mem_singleton.mp z
      exact .inl ⟨rfl, rfl⟩
theorem key_inj {a b : Nat} : (Sum.inr (S [a]) : Key) = Sum.inr (S [b]) ↔ a = b := by
  constructor
  · intro h
    have := S_inj (a := [a]) (b := [b]) (Sum.inr.inj h)
    simpa using this
  · intro h
    rw [h]
theorem Dg.put {kvs : List (Key × V)} {f : Nat → Option (List Nat)} {n c : Nat} {z : List Nat} (h : Dg kvs f n) (lc : Low [c]) (lz : Low z) (hz : z.length ≤ 4) : Dg (putK kvs (.inr (S [c])) (.str (S z))) (fun x => if x = c then some z else f x) (n + 1) := by
  refine ⟨by have := length_putK kvs (.inr (S [c])) (V.str (S z)); have := h.few; omega, fun k v hk => ?_, fun x => ?_, fun x y hx => ?_⟩
  · rcases mem_putK' hk with ⟨rfl, rfl⟩ | ⟨hk, ne⟩
    · exact ⟨c, z, rfl, rfl, if_pos rfl⟩
    · obtain ⟨c', z', rfl, rfl, e⟩ := h.ok k v hk
      exact ⟨c', z', rfl, rfl, by show (if c' = c then _ else _) = _; rw [if_neg (fun y => ne (by rw [y]))]; exact e⟩
  · rw [valV_put]
    show _ = Option.map _ (if x = c then _ else _)
    by_cases e : x = c
    · rw [if_pos (by rw [e]), if_pos e]
      rfl
    · rw [if_neg (fun y => e (key_inj.mp y)), if_neg e, h.val x]
  · have hx : (if x = c then some z else f x) = some y := hx
    by_cases e : x = c
    · rw [if_pos e] at hx
      cases hx
      rw [e]
      exact ⟨lc, lz, hz⟩
    · rw [if_neg e] at hx
      exact h.low x y hx
theorem imgF_len {f : Nat → Option (List Nat)} (h : ∀ c z, f c = some z → Low [c] ∧ Low z ∧ z.length ≤ 4) (c : Nat) : (imgF f c).length ≤ 4 := by
  unfold imgF
  cases e : f c with
  | none => show 1 ≤ 4; decide
  | some z => exact (h c z e).2.2
theorem imgF_low {f : Nat → Option (List Nat)} (h : ∀ c z, f c = some z → Low [c] ∧ Low z ∧ z.length ≤ 4) (c : Nat) (hc : Low [c]) : Low (imgF f c) := by
  unfold imgF
  cases e : f c with
  | none => exact hc
  | some z => exact (h c z e).2.1
theorem Dg.im {H : Hp} {d : Addr} {kvs : List (Key × V)} {f : Nat → Option (List Nat)} {n : Nat} (h : Dg kvs f n) (hd : H d = some (.dK kvs)) (hn : n ≤ 26) : Im H d kvs (imgF f) := by
  refine ⟨hd, Nat.le_trans h.few hn, fun k v hk => ?_, fun c hc => ?_, fun c => Nat.le_trans (imgF_len h.low c) (by decide), imgF_low h.low⟩
  · obtain ⟨c, z, rfl, rfl, e⟩ := h.ok k v hk
    obtain ⟨a, b, d⟩ := h.low c z e
    exact ⟨c, z, rfl, rfl, a, b, by omega⟩
  · rw [h.val c]
    unfold imgF
    cases f c with
    | none => rfl
    | some z => rfl
/-! ### texts that are due -/
def Due (C : Addr) (m : Nat) (H : Hp) (v : V) : Prop := ∃ t a l ls, v = .ref t ∧ H t = some (.tup [.ref a, .ref l]) ∧ OT C H a m (normL ls) ∧ GL H m l ls ∧ meas ls ≤ 2000 ∧ Wl m ls
theorem Due.same {C : Addr} {m : Nat} {H H' : Hp} {v : V} (h : Due C m H v) (s : Same H H') : Due C m H' v := by
  obtain ⟨t, a, l, ls, e, ht, o, g, x, y⟩ := h
  exact ⟨t, a, l, ls, e, s _ _ ht, o.same s, g.same s, x, y⟩
theorem PL.sameD {H H' : Hp} {d l : Addr} {kvs : List (Key × V)} {ps : List Pn} (h : PL H l ps) (hd : H d = some (.dK kvs)) (s : SameX d H H') : PL H' l ps := by
  obtain ⟨vs, e, p⟩ := h
  exact ⟨vs, s _ _ (fun z => by rw [z, hd] at e; cases e) e, p.mono fun a ys e => s _ _ (fun z => by rw [z, hd] at e; cases e) e⟩
theorem GL.sameD {H H' : Hp} {d l : Addr} {m : Nat} {kvs : List (Key × V)} {ps : List Pn} (g : GL H m l ps) (hd : H d = some (.dK kvs)) (s : SameX d H H') : GL H' m l ps := ⟨g.at_.sameD hd s, g.len, g.ws, g.low, g.bf, g.few⟩
theorem OT.sameD {C : Addr} {H H' : Hp} {d x : Addr} {m : Nat} {kvs : List (Key × V)} {ps : List Pn} (h : OT C H x m ps) (hd : H d = some (.dK kvs)) (s : SameX d H H') : OT C H' x m ps := by
  obtain ⟨r, ⟨dx, e⟩, g⟩ := h
  exact ⟨r, ⟨dx, s _ _ (fun z => by rw [z, hd] at e; cases e) e⟩, g.sameD hd s⟩
theorem Due.sameD {C : Addr} {m : Nat} {H H' : Hp} {d : Addr} {kvs : List (Key × V)} {v : V} (h : Due C m H v) (hd : H d = some (.dK kvs)) (s : SameX d H H') : Due C m H' v := by
  obtain ⟨t, a, l, ls, e, ht, o, g, x, y⟩ := h
  exact ⟨t, a, l, ls, e, s _ _ (fun z => by rw [z, hd] at ht; cases ht) ht, o.sameD hd s, g.sameD hd s, x, y⟩
/-- a list of texts that are due -/
def DueL (C : Addr) (m n : Nat) (H : Hp) (L : Addr) : Prop := ∃ us, H L = some (.lst us) ∧ us.length = n ∧ ∀ v ∈ us, Due C m H v
theorem norm_eq {m : Nat} {a b : List Pn} (ha : LenF m a) (hb : LenF m b) (h : ∀ pt, NM.wr pt a = NM.wr pt b) : normL a = normL b := norm_same ha hb fun pt _ => h pt
theorem mapW_id (z : List Nat) : mapW (imgF fun _ => none) z = z := by
  induction z with
  | nil => rfl
  | cons c z ih =>
    have e : mapW (imgF fun _ => none) (c :: z) = [c] ++ mapW (imgF fun _ => none) z := rfl
    rw [e, ih]
    rfl
end K23

set_option Elab.async false
set_option linter.all false
set_option maxRecDepth 100000
set_option maxHeartbeats 4000000
namespace K23
open PySem PySem.Spec PyProof.Rows L2 CK SX NM
/-! ### what is made of texts, as promises over the lists that they are made of -/
section
variable {C x y : Addr} {H : Hp} {m e e' w w' k k' v v' : Nat} {ps qs : List Pn} {R : Addr → Hp → Prop}
theorem mk_joined (ox : OT C H x m (normL ps)) (oy : OT C H y m (normL qs)) (m3 : m ≤ 3) (sp : Sd m e w k v ps) (sq : Sd m e' w' k' v' qs) (he : e + e' ≤ 2000) (hw : w + w' ≤ 1000000)
    (q : ∀ u H', Same H H' → OT C H' u m (normL (ps ++ qs)) → R u H') : OT C H x m (normL ps) ∧ OT C H y m (normL qs) ∧ m ≤ 3 ∧ meas (normL ps) + meas (normL qs) ≤ 2000 ∧ (normL ps).length + (normL qs).length ≤ 5000 ∧ Wl m (normL ps ++ normL qs) ∧ ∀ u H', Same H H' → OT C H' u m (normL (normL ps ++ normL qs)) → R u H' := by
  have np := (sp.norm (Nat.le_trans (Nat.le_add_right _ _) hw)).up (v' := 2000) (Nat.le_refl _) (Nat.le_refl _) (Nat.le_refl _) (by omega)
  have nq := (sq.norm (Nat.le_trans (Nat.le_add_left _ _) hw)).up (v' := 2000) (Nat.le_refl _) (Nat.le_refl _) (Nat.le_refl _) (by omega)
  have a := np.me
  have b := nq.me
  have c := np.few
  have d := nq.few
  refine ⟨ox, oy, m3, by omega, by omega, (np.app nq).wl hw, fun u H' s ou => q u H' s ?_⟩
  rw [norm_eq (lenF_app sp.len sq.len) (lenF_app np.len nq.len) fun pt => by rw [wr_app, wr_app, wr_normL sp.len, wr_normL sq.len]]
  exact ou
theorem mk_mirrored (ox : OT C H x m (normL ps)) (m3 : m ≤ 3) (sp : Sd m e w k v ps) (he : e ≤ 2000) (hw : w ≤ 1000000) (q : ∀ u H', Same H H' → OT C H' u m (normL (mirP ps)) → R u H') : OT C H x m (normL ps) ∧ m ≤ 3 ∧ meas (normL ps) ≤ 2000 ∧ Wl m (mirP (normL ps)) ∧ ∀ u H', Same H H' → OT C H' u m (normL (mirP (normL ps))) → R u H' := by
  have np := sp.norm hw
  have a := np.me
  refine ⟨ox, m3, by omega, np.mir.wl hw, fun u H' s ou => q u H' s ?_⟩
  rw [norm_eq (lenF_mir sp.len) (lenF_mir np.len) fun pt => by rw [wr_mirP, wr_mirP, wr_normL sp.len]]
  exact ou
theorem mk_repeated (t : Nat) (ox : OT C H x m (normL ps)) (m3 : m ≤ 3) (sp : Sd m e w k v ps) (ht : t ≤ 1000) (he : e ≤ 2000) (het : e * t ≤ 2000) (hw : w ≤ 1000000) (hwt : w * t ≤ 1000000) (q : ∀ u H', Same H H' → OT C H' u m (normL (repP t ps)) → R u H') : OT C H x m (normL ps) ∧ m ≤ 3 ∧ t ≤ 1000 ∧ meas (normL ps) ≤ 2000 ∧ meas (normL ps) * t ≤ 2000 ∧ t * (normL ps).length ≤ 5000 ∧ Wl m (repP t (normL ps)) ∧ ∀ u H', Same H H' → OT C H' u m (normL (repP t (normL ps))) → R u H' := by
  have np := sp.norm hw
  have a := np.me
  have b : meas (normL ps) * t ≤ e * t := Nat.mul_le_mul_right _ a
  have c : t * (normL ps).length ≤ t * e := Nat.mul_le_mul_left _ np.few
  rw [Nat.mul_comm t e] at c
  refine ⟨ox, m3, ht, by omega, by omega, by omega, (np.rep t).wl hwt, fun u H' s ou => q u H' s ?_⟩
  rw [norm_eq (sp.rep t).len (np.rep t).len fun pt => by rw [wr_repP, wr_repP, wr_normL sp.len]]
  exact ou
theorem mk_mapped {d : Addr} {kvs : List (Key × V)} {img : Nat → List Nat} {b : Nat} (ox : OT C H x m (normL ps)) (m3 : m ≤ 3) (sp : Sd m e w k v ps) (im : Im H d kvs img) (hi : ∀ c, (img c).length ≤ b) (lo : ∀ c, Low [c] → Low (img c)) (he : e ≤ 1000) (heb : b * e ≤ 2000) (hw : w ≤ 1000000) (hwb : b * w ≤ 1000000)
    (q : ∀ u H', Same H H' → OT C H' u m (normL (mapP img ps)) → R u H') : OT C H x m (normL ps) ∧ m ≤ 3 ∧ Im H d kvs img ∧ meas (mapP img (normL ps)) ≤ 2000 ∧ (∀ p ∈ normL ps, p.1.length ≤ 1000) ∧ (∀ p ∈ mapP img (normL ps), p.1.length ≤ 2000) ∧ Wl m (mapP img (normL ps)) ∧ ∀ u H', Same H H' → OT C H' u m (normL (mapP img (normL ps))) → R u H' := by
  have np := sp.norm hw
  have nm := np.map hi lo
  refine ⟨ox, m3, im, Nat.le_trans nm.me heb, fun p hp => Nat.le_trans (np.ws p hp) he, fun p hp => Nat.le_trans (nm.ws p hp) heb, nm.wl hwb, fun u H' s ou => q u H' s ?_⟩
  rw [norm_eq (lenF_map sp.len) nm.len fun pt => by rw [wr_mapP, wr_mapP, wr_normL sp.len]]
  exact ou
/-- points, as they are drawn -/
def Pts (m : Nat) (pts : List (List Nat)) : Prop := pts.length ≤ 1000 ∧ ∀ pt ∈ pts, pt.length = m ∧ ∀ x ∈ pt, x ≤ 2
theorem mk_same {R : Hp → Prop} {a l lp : Addr} {pts : List (List Nat)} (oa : OT C H a m (normL ps)) (pl : PL H l ps) (pp : PT H lp pts) (m3 : m ≤ 3) (sp : Sd m e w k v ps) (hk : k ≤ 5000) (hv : v ≤ 2000) (hw : w ≤ 20000) (hp : Pts m pts) (q : ∀ H', Same H H' → R H') : OT C H a m (normL ps) ∧ PL H l ps ∧ PT H lp pts ∧ m ≤ 3 ∧ LenF m ps ∧ (∀ p ∈ normL ps, p.1 ≠ []) ∧ Wl m (normL ps) ∧ (∀ p ∈ ps, Bf p.2) ∧ Ws 100000 ps ∧ ps.length ≤ 100000 ∧ pts.length ≤ 1000 ∧
  (∀ pt ∈ pts, pt.length = m ∧ Bf pt ∧ NM.wr pt (normL ps) = NM.wr pt ps ∧ (NM.wr pt ps).length ≤ 20000) ∧ ∀ H', Same H H' → R H' := by
  have nm := nm_normL sp.len
  refine ⟨oa, pl, pp, m3, sp.len, fun p hp => (nm.all p hp).ne, wl_normL sp.len (sp.wl (by omega)), sp.bf, fun p hp => by have := sp.ws p hp; omega, by have := sp.few; omega, hp.1, fun pt hpt => ⟨(hp.2 pt hpt).1, fun z hz => small900 (Nat.le_trans ((hp.2 pt hpt).2 z hz) (by decide)), wr_normL sp.len pt, Nat.le_trans (sp.wr pt (hp.2 pt hpt).2) hw⟩, q⟩
end
theorem PT.same {H H' : Hp} {lp : Addr} {pts : List (List Nat)} (h : PT H lp pts) (s : Same H H') : PT H' lp pts := by
  obtain ⟨vs, e, p⟩ := h
  exact ⟨vs, s _ _ e, p.same s⟩
/-- a pair of lists of pieces, as data -/
theorem lay_two {ps qs : List Pn} (hp : ∀ p ∈ ps, Low p.1) (hq : ∀ p ∈ qs, Low p.1) : SeqAt.shaped (.tuple [.list (ps.map dP), .list (qs.map dP)]) = true := by
  have a := shaped_dPs hp
  have b := shaped_dPs hq
  have da : (PyData.list (ps.map dP)).depth ≤ 63 := by
    rw [PyData.depth]
    have := deep_dPs ps
    omega
  have db : (PyData.list (qs.map dP)).depth ≤ 63 := by
    rw [PyData.depth]
    have := deep_dPs qs
    omega
  unfold SeqAt.shaped at a b ⊢
  rw [Bool.and_eq_true, decide_eq_true_eq] at a b ⊢
  refine ⟨?_, ?_⟩
  · rw [PyData.canLay0, PyData.canLayAll0, PyData.canLayAll0, PyData.canLayAll0, a.1, b.1]
    rfl
  · rw [PyData.depth, PyData.depthAll, PyData.depthAll, PyData.depthAll]
    omega
end K23

set_option linter.all false
set_option maxRecDepth 100000
/-! a text whose number at an unknown is taken less: what the program's steps from the last piece on find -/
namespace NM
open WM
/-! ### a word as a beginning of another one taken without end -/
def preE (u : W) (n : Nat) : W := (pw u (n / u.length + 1)).take n
theorem preE_len {u : W} (h : u ≠ []) (n : Nat) : (preE u n).length = n := by
  have n0 := List.length_pos_iff.mpr h
  have := Nat.mod_add_div n u.length
  have := Nat.mod_lt n n0
  unfold preE
  rw [List.length_take, pw_len, Nat.mul_succ]
  omega
theorem preE_get {u : W} (h : u ≠ []) {n i : Nat} (hi : i < n) : (preE u n)[i]? = u[i % u.length]? := by
  have n0 := List.length_pos_iff.mpr h
  have := Nat.mod_add_div n u.length
  have := Nat.mod_lt n n0
  unfold preE
  rw [List.getElem?_take_of_lt hi, pw_get h _ _ (by rw [Nat.mul_succ]; omega)]
/-- what begins a great power of u, is a beginning of u without end -/
theorem pre_of {u x A B : W} {k : Nat} (h : u ≠ []) (e : pw u k ++ A = x ++ B) (hk : x.length ≤ u.length * k) : x = preE u x.length := by
  refine List.ext_getElem? fun i => ?_
  by_cases hi : i < x.length
  · rw [preE_get h hi]
    have : (pw u k ++ A)[i]? = (x ++ B)[i]? := by rw [e]
    rw [List.getElem?_append_left (by rw [pw_len]; omega), pw_get h k i (by omega), List.getElem?_append_left hi] at this
    exact this.symm
  · rw [List.getElem?_eq_none (by omega), List.getElem?_eq_none (by rw [preE_len h]; omega)]
def rotL (u : W) (n : Nat) : W := u.drop (n % u.length) ++ u.take (n % u.length)
theorem rotL_len (u : W) (n : Nat) : (rotL u n).length = u.length := by
  unfold rotL
  rw [List.length_append, List.length_drop, List.length_take]
  omega
theorem rotL_get {u : W} (h : u ≠ []) (n : Nat) {i : Nat} (hi : i < u.length) : (rotL u n)[i]? = u[(i + n) % u.length]? := by
  have n0 := List.length_pos_iff.mpr h
  have hm := Nat.mod_lt n n0
  unfold rotL
  have e : (i + n) % u.length = (i + n % u.length) % u.length := (Nat.add_mod_mod ..).symm
  rw [e]
  by_cases z : i < u.length - n % u.length
  · rw [List.getElem?_append_left (by rw [List.length_drop]; omega), List.getElem?_drop, Nat.add_comm, Nat.mod_eq_of_lt (show i + n % u.length < u.length by omega)]
  · rw [List.getElem?_append_right (by rw [List.length_drop]; omega), List.length_drop, List.getElem?_take_of_lt (by omega)]
    congr 1
    have : i + n % u.length = u.length + (i - (u.length - n % u.length)) := by omega
    rw [this, Nat.add_mod_left, Nat.mod_eq_of_lt (show i - (u.length - n % u.length) < u.length by omega)]
theorem rotL_ne {u : W} (h : u ≠ []) (n : Nat) : rotL u n ≠ [] := fun z => by
  have := rotL_len u n
  rw [z] at this
  exact h (List.length_eq_zero_iff.mp this.symm)
theorem rotL_rotR {u : W} (h : u ≠ []) (n : Nat) : ∃ k, rotL u n = rotR u k := by
  have n0 := List.length_pos_iff.mpr h
  have hm := Nat.mod_lt n n0
  by_cases z : n % u.length = 0
  · exact ⟨0, by rw [rotR_zero]; unfold rotL; rw [z]; simp⟩
  · refine ⟨u.length - n % u.length, ?_⟩
    unfold rotL rotR
    rw [Nat.mod_eq_of_lt (show u.length - n % u.length < u.length by omega), show u.length - (u.length - n % u.length) = n % u.length by omega]
theorem prim_rotL {u : W} (h : Prim u) (n : Nat) : Prim (rotL u n) := by
  obtain ⟨k, e⟩ := rotL_rotR h.1 n
  rw [e]
  exact prim_rotR h k
/-- a beginning goes through a power -/
theorem pre_step {u x : W} (h : u ≠ []) (hx : x = preE u x.length) : u ++ x = x ++ rotL u x.length := by
  have n0 := List.length_pos_iff.mpr h
  have xg : ∀ i, i < x.length → x[i]? = u[i % u.length]? := fun i hi => by
    have := preE_get h hi
    rw [← hx] at this
    exact this
  refine List.ext_getElem? fun i => ?_
  by_cases hi : i < u.length + x.length
  · have l : (u ++ x)[i]? = u[i % u.length]? := by
      by_cases a : i < u.length
      · rw [List.getElem?_append_left a, Nat.mod_eq_of_lt a]
      · rw [List.getElem?_append_right (by omega), xg _ (by omega)]
        congr 1
        conv => rhs; rw [show i = i - u.length + u.length by omega, Nat.add_mod_right]
    have r : (x ++ rotL u x.length)[i]? = u[i % u.length]? := by
      by_cases a : i < x.length
      · rw [List.getElem?_append_left a, xg i a]
      · rw [List.getElem?_append_right (by omega), rotL_get h _ (by omega)]
        congr 2
        omega
    rw [l, r]
  · rw [List.getElem?_eq_none (by rw [List.length_append]; omega), List.getElem?_eq_none (by rw [List.length_append, rotL_len]; omega)]
theorem pre_pw {u x : W} (h : u ≠ []) (hx : x = preE u x.length) : ∀ k, pw u k ++ x = x ++ pw (rotL u x.length) k
  | 0 => by rw [pw_zero, pw_zero, List.append_nil, List.nil_append]
  | k + 1 => by rw [pw_succ, pw_succ, List.append_assoc, pre_pw h hx k, ← List.append_assoc, pre_step h hx, List.append_assoc]
/-! ### the steps -/
/-- a word taken from the start -/
def stripS : List Pn → W → Option (List Pn)
  | [], x => if x = [] then some [] else none
  | p :: r, x =>
    if x = [] then some (p :: r)
    else if isPow p = true then (if x = preE p.1 x.length then (stripS r x).map fun l => (rotL p.1 x.length, p.2) :: l else none)
    else if x <+: p.1 then some ((p.1.drop x.length, p.2) :: r)
    else if p.1 <+: x then stripS r (x.drop p.1.length)
    else none
def backL (j k : Nat) : List Pn → Option (List Pn)
  | [] => some []
  | p :: r => (backL j k r).bind fun L => if isPow p = true then (stripS L (pw p.1 (p.2.getD (j + 1) 0 * k))).map fun l => p :: l else some (p :: L)
/-- pieces as they stand in a normal list, or behind a step -/
structure OkP (m : Nat) (p : Pn) : Prop where
  len : p.2.length = m + 1
  fix : isPow p = false → p.2 = one1 m
  pow : isPow p = true → Prim p.1 ∧ isOpen p.2 = true
def OkL (m : Nat) (l : List Pn) : Prop := ∀ p ∈ l, OkP m p
theorem Nm.ok {m : Nat} {l : List Pn} (h : Nm m l) : OkL m l := fun p hp => ⟨(h.all p hp).len, (h.all p hp).fix, (h.all p hp).pow⟩
theorem OkL.tail {m : Nat} {p : Pn} {r : List Pn} (h : OkL m (p :: r)) : OkL m r := fun q hq => h q (List.mem_cons_of_mem _ hq)
theorem OkL.lenF {m : Nat} {l : List Pn} (h : OkL m l) : LenF m l := fun p hp => (h p hp).len
theorem OkP.wrt {m : Nat} {p : Pn} (h : OkP m p) (e : isPow p = false) (pt : List Nat) : wrt pt p = p.1 := by
  unfold NM.wrt
  rw [h.fix e, val_one, pw_one]
/-- what the step keeps, and what it writes -/
theorem strip_sound {m : Nat} : ∀ {L L' : List Pn} {x : W}, OkL m L → stripS L x = some L' → OkL m L' ∧ ∀ pt, wr pt L = x ++ wr pt L'
  | [], L', x, _, h => by
    unfold stripS at h
    split at h
    · next e =>
      cases h
      exact ⟨fun p hp => absurd hp List.not_mem_nil, fun pt => by rw [e]; rfl⟩
    · cases h
  | p :: r, L', x, ok, h => by
    unfold stripS at h
    have op := ok p List.mem_cons_self
    split at h
    · next e =>
      cases h
      exact ⟨ok, fun pt => by rw [e]; rfl⟩
    · next xe =>
      split at h
      · next ep =>
        split at h
        · next hx =>
          cases hs : stripS r x with
          | none => rw [hs] at h; cases h
          | some l =>
            rw [hs] at h
            cases h
            obtain ⟨ol, wl⟩ := strip_sound ok.tail hs
            obtain ⟨pr, opn⟩ := op.pow ep
            refine ⟨fun q hq => ?_, fun pt => ?_⟩
            · rcases List.mem_cons.mp hq with z | z
              · rw [z]
                have ep' : isPow (rotL p.1 x.length, p.2) = true := ep
                exact ⟨op.len, fun y => (by rw [ep'] at y; cases y), fun _ => ⟨prim_rotL pr _, opn⟩⟩
              · exact ol q z
            · rw [wr, wr, wl pt]
              show pw p.1 (valF p.2 pt) ++ (x ++ wr pt l) = x ++ (pw (rotL p.1 x.length) (valF p.2 pt) ++ wr pt l)
              rw [← List.append_assoc, pre_pw pr.1 hx, List.append_assoc]
        · cases h
      · next ep =>
        have ep : isPow p = false := by simpa using ep
        split at h
        · next hx =>
          cases h
          obtain ⟨y, e⟩ := hx
          refine ⟨fun q hq => ?_, fun pt => ?_⟩
          · rcases List.mem_cons.mp hq with z | z
            · rw [z]
              have ep' : isPow (p.1.drop x.length, p.2) = false := ep
              exact ⟨op.len, fun _ => op.fix ep, fun y => by rw [ep'] at y; cases y⟩
            · exact ok q (List.mem_cons_of_mem _ z)
          · rw [wr, wr, op.wrt ep, ← List.append_assoc]
            congr 1
            show p.1 = x ++ pw (p.1.drop x.length) (valF p.2 pt)
            rw [op.fix ep, val_one, pw_one, ← e]
            simp
        · split at h
          · next hx =>
            obtain ⟨y, e⟩ := hx
            obtain ⟨ol, wl⟩ := strip_sound ok.tail h
            refine ⟨ol, fun pt => ?_⟩
            rw [wr, wl pt, op.wrt ep, ← List.append_assoc]
            congr 1
            rw [← e]
            simp
          · cases h
/-- a point moved on -/
def onP (j k : Nat) (pt : List Nat) : List Nat := pt.set j (pt.getD j 0 + k)
theorem onP_len (j k : Nat) (pt : List Nat) : (onP j k pt).length = pt.length := List.length_set
theorem dot_on (k : Nat) : ∀ (f pt : List Nat) (j : Nat), f.length = pt.length → j < pt.length → dot f (onP j k pt) = dot f pt + f.getD j 0 * k
  | [], pt, j, h, hj => by
    have h : 0 = pt.length := h
    omega
  | _ :: _, [], _, h, _ => by simp at h
  | a :: f, b :: pt, 0, h, _ => by
    show a * (b + k) + dot f pt = a * b + dot f pt + a * k
    rw [Nat.mul_add]
    omega
  | a :: f, b :: pt, j + 1, h, hj => by
    have := dot_on k f pt j (by simpa using h) (by simpa using hj)
    unfold onP at this ⊢
    show a * b + dot f (pt.set j (pt.getD j 0 + k)) = a * b + dot f pt + f.getD j 0 * k
    rw [this]
    omega
theorem val_on {f : F} {pt : List Nat} {m j k : Nat} (hf : f.length = m + 1) (hp : pt.length = m) (hj : j < m) : valF f (onP j k pt) = valF f pt + f.getD (j + 1) 0 * k := by
  cases f with
  | nil => simp at hf
  | cons a f =>
    have := dot_on k f pt j (by simp at hf; omega) (by omega)
    unfold valF
    show a + dot f (onP j k pt) = a + dot f pt + f.getD j 0 * k
    rw [this]
    omega
theorem back_sound {m j k : Nat} (hj : j < m) : ∀ {T L : List Pn}, OkL m T → backL j k T = some L → OkL m L ∧ ∀ pt, pt.length = m → wr (onP j k pt) L = wr pt T
  | [], L, _, h => by
    cases h
    exact ⟨fun p hp => absurd hp List.not_mem_nil, fun pt _ => rfl⟩
  | p :: r, L, ok, h => by
    have op := ok p List.mem_cons_self
    unfold backL at h
    cases hb : backL j k r with
    | none => rw [hb] at h; cases h
    | some l =>
      rw [hb] at h
      obtain ⟨ol, wl⟩ := back_sound hj ok.tail hb
      have h : (if isPow p = true then (stripS l (pw p.1 (p.2.getD (j + 1) 0 * k))).map fun l => p :: l else some (p :: l)) = some L := h
      split at h
      · next ep =>
        cases hs : stripS l (pw p.1 (p.2.getD (j + 1) 0 * k)) with
        | none => rw [hs] at h; cases h
        | some l2 =>
          rw [hs] at h
          cases h
          obtain ⟨o2, w2⟩ := strip_sound ol hs
          refine ⟨fun q hq => ?_, fun pt hp => ?_⟩
          · rcases List.mem_cons.mp hq with z | z
            · rw [z]; exact op
            · exact o2 q z
          · rw [wr, wr, ← wl pt hp, w2]
            show pw p.1 (valF p.2 (onP j k pt)) ++ _ = pw p.1 (valF p.2 pt) ++ _
            rw [val_on op.len hp hj, pw_add, List.append_assoc]
      · next ep =>
        have ep : isPow p = false := by simpa using ep
        cases h
        refine ⟨fun q hq => ?_, fun pt hp => ?_⟩
        · rcases List.mem_cons.mp hq with z | z
          · rw [z]; exact op
          · exact ol q z
        · rw [wr, wr, wl pt hp, op.wrt ep, op.wrt ep]
/-! ### no great power of the same word behind a power -/
def NB (m : Nat) (u : W) (R : List Pn) : Prop := ∃ N, ∀ pt, Far m N pt → ∀ k, N ≤ k → ∀ Z, wr pt R ≠ pw u k ++ Z
def Irr (m : Nat) : List Pn → Prop
  | [] => True
  | p :: r => (isPow p = true → NB m p.1 r) ∧ Irr m r
theorem Far.le {m N M : Nat} {pt : List Nat} (h : Far m N pt) (l : M ≤ N) : Far m M pt := ⟨h.1, fun x hx => Nat.le_trans l (h.2 x hx)⟩
theorem nb_of {m : Nat} {u : W} {r : List Pn} (hu : Prim u) (nm : Nm m r) (hq : ∀ q, r.head? = some q → isPow q = true → q.1 ≠ u) : NB m u r :=
  ⟨u.length + tot r + 1, fun pt far k hk Z e => no_begin hu nm hq far (Nat.le_refl _) hk e⟩
theorem nb_tail {m : Nat} {p : Pn} {r : List Pn} (h : Nm m (p :: r)) (ep : isPow p = true) : NB m p.1 r := by
  obtain ⟨pr, _⟩ := h.head.pow ep
  refine nb_of pr h.tail fun q hq hp => ?_
  match r, h, hq with
  | z :: r', h, hq =>
    cases hq
    exact fun y => h.adj0.pow ep hp y.symm
theorem irr_nm {m : Nat} : ∀ {l : List Pn}, Nm m l → Irr m l
  | [], _ => True.intro
  | p :: r, h => ⟨nb_tail h, irr_nm h.tail⟩
theorem strip_irr {m : Nat} : ∀ {L L' : List Pn} {x : W}, OkL m L → Irr m L → stripS L x = some L' → Irr m L'
  | [], L', x, _, _, h => by
    unfold stripS at h
    split at h
    · cases h
      exact True.intro
    · cases h
  | p :: r, L', x, ok, ir, h => by
    unfold stripS at h
    have op := ok p List.mem_cons_self
    split at h
    · cases h
      exact ir
    · split at h
      · next ep =>
        split at h
        · next hx =>
          cases hs : stripS r x with
          | none => rw [hs] at h; cases h
          | some l =>
            rw [hs] at h
            cases h
            obtain ⟨ol, wl⟩ := strip_sound ok.tail hs
            obtain ⟨pr, opn⟩ := op.pow ep
            obtain ⟨N, hN⟩ := ir.1 ep
            refine ⟨fun _ => ⟨N, fun pt far k hk Z e => ?_⟩, strip_irr ok.tail ir.2 hs⟩
            have e : wr pt l = pw (rotL p.1 x.length) k ++ Z := e
            refine hN pt far k hk (x ++ Z) ?_
            rw [wl pt, e, ← List.append_assoc, ← pre_pw pr.1 hx, List.append_assoc]
        · cases h
      · next ep =>
        have ep : isPow p = false := by simpa using ep
        split at h
        · cases h
          exact ⟨fun y => (by have ep' : isPow (p.1.drop x.length, p.2) = false := ep; rw [ep'] at y; cases y), ir.2⟩
        · split at h
          · exact strip_irr ok.tail ir.2 h
          · cases h
/-- a great power begins with what is a beginning of it -/
theorem pw_pre {u x : W} (h : u ≠ []) (hx : x = preE u x.length) {b : Nat} (hb : x.length ≤ u.length * b) : ∃ t, pw u b = x ++ t := by
  refine ⟨(pw u b).drop x.length, ?_⟩
  have e : (pw u b).take x.length = x := by
    refine List.ext_getElem? fun i => ?_
    by_cases hi : i < x.length
    · rw [List.getElem?_take_of_lt hi, pw_get h b i (by omega), hx]
      conv => rhs; rw [preE_get h hi]
    · rw [List.getElem?_eq_none (by rw [List.length_take]; omega), List.getElem?_eq_none (by omega)]
  conv => lhs; rw [← List.take_append_drop x.length (pw u b), e]
/-- a great power less a beginning goes on with a great power of the turned word -/
theorem pw_less {u x A B : W} {v : Nat} (h : u ≠ []) (hx : x = preE u x.length) (hv : x.length ≤ v) (e : pw u v ++ A = x ++ B) : ∃ Z, B = pw (rotL u x.length) (v - x.length) ++ Z := by
  have n0 := List.length_pos_iff.mpr h
  obtain ⟨t, ht⟩ := pw_pre h hx (b := x.length) (Nat.le_mul_of_pos_left _ n0)
  have s : pw u v = x ++ (pw (rotL u x.length) (v - x.length) ++ t) := by
    have : v = (v - x.length) + x.length := by omega
    conv => lhs; rw [this, pw_add, ht, ← List.append_assoc, pre_pw h hx]
    rw [List.append_assoc]
  rw [s, List.append_assoc, List.append_assoc] at e
  exact ⟨t ++ A, (List.append_cancel_left e).symm⟩
theorem nat_pt (m : Nat) : (List.replicate m 0).length = m := by simp
/-- what begins with x as a text, is found -/
theorem strip_complete {m : Nat} : ∀ {L : List Pn} {x : W} {Y : List Pn}, OkL m L → Irr m L → LenF m Y → (∀ pt, pt.length = m → wr pt L = x ++ wr pt Y) → ∃ L', stripS L x = some L'
  | [], x, Y, _, _, _, h => by
    have e := h _ (nat_pt m)
    have : x = [] := (List.append_eq_nil_iff.mp e.symm).1
    exact ⟨[], by unfold stripS; rw [if_pos this]⟩
  | p :: r, x, Y, ok, ir, hY, h => by
    have op := ok p List.mem_cons_self
    unfold stripS
    by_cases xe : x = []
    · exact ⟨_, if_pos xe⟩
    rw [if_neg xe]
    cases ep : isPow p with
    | false =>
      rw [if_neg Bool.false_ne_true]
      have e0 : ∀ pt, pt.length = m → p.1 ++ wr pt r = x ++ wr pt Y := fun pt hp => by
        have := h pt hp
        rw [wr, op.wrt ep] at this
        exact this
      by_cases h1 : x <+: p.1
      · exact ⟨_, if_pos h1⟩
      rw [if_neg h1]
      have e1 := e0 _ (nat_pt m)
      rcases List.prefix_or_prefix_of_prefix (l₁ := x) (l₂ := p.1) (l₃ := p.1 ++ wr (List.replicate m 0) r) (by rw [e1]; exact List.prefix_append _ _) (List.prefix_append _ _) with z | z
      · exact absurd z h1
      rw [if_pos z]
      obtain ⟨y, hy⟩ := z
      refine strip_complete ok.tail ir.2 hY fun pt hp => ?_
      have := e0 pt hp
      rw [← hy, List.append_assoc] at this
      rw [← hy, List.drop_left]
      exact List.append_cancel_left this
    | true =>
      rw [if_pos rfl]
      obtain ⟨pr, opn⟩ := op.pow ep
      have u0 := List.length_pos_iff.mpr pr.1
      have nY := nm_normL hY
      have e0 : ∀ pt, pt.length = m → pw p.1 (valF p.2 pt) ++ wr pt r = x ++ wr pt (normL Y) := fun pt hp => by
        have := h pt hp
        rw [wr] at this
        rw [wr_normL hY]
        exact this
      obtain ⟨q1, s1, f1⟩ := (rich_all m).far (x.length + 1)
      have v1 := val_far op.len opn f1
      have hx : x = preE p.1 x.length := pre_of pr.1 (e0 q1 s1) (Nat.le_trans (by omega) (Nat.le_mul_of_pos_left _ u0))
      rw [if_pos hx]
      have prz := prim_rotL pr x.length
      generalize ez : rotL p.1 x.length = z at prz
      -- what is left begins with the turned power
      have hd : ∃ g Y1, normL Y = (z, g) :: Y1 ∧ isPow (z, g) = true := by
        refine Classical.byContradiction fun no => ?_
        obtain ⟨q2, s2, f2⟩ := (rich_all m).far (z.length + tot (normL Y) + 1 + x.length)
        have v2 := val_far op.len opn f2
        obtain ⟨Z, eZ⟩ := pw_less pr.1 hx (v := valF p.2 q2) (by omega) (e0 q2 s2)
        rw [ez] at eZ
        refine no_begin prz nY (fun q hq hp e => no ?_) (f2.le (Nat.le_add_right _ _)) (Nat.le_refl _) (show _ ≤ valF p.2 q2 - x.length by omega) eZ
        cases hn : normL Y with
        | nil => rw [hn] at hq; cases hq
        | cons a b =>
          rw [hn] at hq
          cases hq
          exact ⟨q.2, b, by rw [← e], by rw [← e]; exact hp⟩
      obtain ⟨g, Y1, eY, eg⟩ := hd
      rw [eY] at nY e0
      have ng := nY.head
      have e2 : ∀ pt, pt.length = m → pw p.1 (valF p.2 pt) ++ wr pt r = pw p.1 (valF g pt) ++ (x ++ wr pt Y1) := fun pt hp => by
        have := e0 pt hp
        rw [wr] at this
        rw [this, ← List.append_assoc, ← List.append_assoc]
        congr 1
        show x ++ pw z (valF g pt) = _
        rw [← ez, pre_pw pr.1 hx]
      have fg : p.2 = g := by
        refine Classical.byContradiction fun ne => ?_
        obtain ⟨N, hN⟩ := ir.1 ep
        obtain ⟨N1, hN1⟩ := nb_tail nY eg
        obtain ⟨pt, sp, far, hd⟩ := (rich_all m).part (N + N1 + x.length) p.2 g op.len ng.len (of_decide_eq_true ep) (of_decide_eq_true eg) ne
        have e := e2 pt sp
        rcases hd with hd | hd
        · have s : pw p.1 (valF g pt) = pw p.1 (valF p.2 pt) ++ pw p.1 (valF g pt - valF p.2 pt) := by rw [← pw_add]; congr 1; omega
          rw [s, List.append_assoc] at e
          exact hN pt (far.le (by omega)) _ (show N ≤ valF g pt - valF p.2 pt by omega) _ (List.append_cancel_left e)
        · have s : pw p.1 (valF p.2 pt) = pw p.1 (valF g pt) ++ pw p.1 (valF p.2 pt - valF g pt) := by rw [← pw_add]; congr 1; omega
          rw [s, List.append_assoc] at e
          obtain ⟨Z, eZ⟩ := pw_less pr.1 hx (v := valF p.2 pt - valF g pt) (by omega) (List.append_cancel_left e)
          rw [ez] at eZ
          exact hN1 pt (far.le (by omega)) _ (show N1 ≤ valF p.2 pt - valF g pt - x.length by omega) _ eZ
      subst fg
      obtain ⟨l, hl⟩ := strip_complete ok.tail ir.2 (nY.tail.lenF) fun pt hp => List.append_cancel_left (e2 pt hp)
      exact ⟨_, by rw [hl]; rfl⟩
theorem far_on {m N j k : Nat} {pt : List Nat} (h : Far m N pt) : Far m N (onP j k pt) := by
  refine ⟨by rw [onP_len]; exact h.1, fun x hx => ?_⟩
  rcases List.mem_or_eq_of_mem_set hx with z | z
  · exact h.2 x z
  · rw [z]
    by_cases hj : j < pt.length
    · have := h.2 _ (List.getElem_mem hj)
      rw [List.getD_eq_getElem?_getD, List.getElem?_eq_getElem hj]
      show N ≤ pt[j] + k
      omega
    · unfold onP at hx
      rw [List.set_eq_of_length_le (by omega)] at hx
      have := h.2 x hx
      rw [z] at this
      exact this
/-- points that were moved on tell texts apart -/
theorem rich_on {m j k : Nat} (hj : j < m) : Rich m (fun pt => ∃ q, q.length = m ∧ onP j k q = pt) := by
  refine rich_mul (t := 1) (b := k) (by decide) fun pt hl h => ⟨pt.set j (pt.getD j 0 - k), by rw [List.length_set]; exact hl, ?_⟩
  have hj' : j < pt.length := by omega
  have g1 : k ≤ pt.getD j 0 := by
    rw [List.getD_eq_getElem?_getD, List.getElem?_eq_getElem hj']
    exact (h _ (List.getElem_mem hj')).1
  have g0 : (pt.set j (pt.getD j 0 - k)).getD j 0 = pt.getD j 0 - k := by
    rw [List.getD_eq_getElem?_getD, List.getElem?_set_self hj']
    rfl
  unfold onP
  rw [g0, Nat.sub_add_cancel g1, List.set_set]
  refine List.ext_getElem? fun i => ?_
  rw [List.getElem?_set]
  by_cases z : j = i
  · subst z
    rw [if_pos rfl, if_pos hj', List.getD_eq_getElem?_getD, List.getElem?_eq_getElem hj']
    rfl
  · rw [if_neg z]
/-- lists that write the same at the points moved on write the same -/
theorem same_on {m j k : Nat} {a b : List Pn} (hj : j < m) (ha : LenF m a) (hb : LenF m b) (h : ∀ pt, pt.length = m → wr (onP j k pt) a = wr (onP j k pt) b) : normL a = normL b :=
  uni (rich_on (k := k) hj) (nm_normL ha) (nm_normL hb) fun pt ⟨q, hq, e⟩ => by
    rw [wr_normL ha, wr_normL hb, ← e]
    exact h q hq
/-- letters ahead of what goes on as a text with great powers -/
theorem no_ahead {m j k : Nat} {y : W} {q : Pn} {M r : List Pn} (hy : y ≠ []) (oq : NormP m q) (eq' : isPow q = true) (hr : OkL m r) (hh : ∀ p, r.head? = some p → isPow p = true ∧ y.getLast? ≠ p.1.getLast?) (h : ∀ pt, pt.length = m → wr (onP j k pt) (q :: M) = y ++ wr pt r) : False := by
  obtain ⟨pr, opn⟩ := oq.pow eq'
  have q0 := List.length_pos_iff.mpr pr.1
  match r, hr, hh, h with
  | [], _, _, h =>
    obtain ⟨pt, sp, far⟩ := (rich_all m).far (y.length + 1)
    have v := val_far oq.len opn (far_on (j := j) (k := k) far)
    have e := congrArg List.length (h pt sp)
    rw [wr, List.length_append] at e
    have e1 : (wrt (onP j k pt) q).length = q.1.length * valF q.2 (onP j k pt) := pw_len _ _
    have e2 : valF q.2 (onP j k pt) ≤ q.1.length * valF q.2 (onP j k pt) := Nat.le_mul_of_pos_left _ q0
    rw [wr, List.length_append, List.length_nil] at e
    omega
  | p :: r1, hr, hh, h =>
    obtain ⟨ep, hl⟩ := hh p rfl
    have op := hr p List.mem_cons_self
    obtain ⟨pru, opu⟩ := op.pow ep
    have p0 := List.length_pos_iff.mpr pru.1
    obtain ⟨pt, sp, far⟩ := (rich_all m).far (y.length + q.1.length + p.1.length)
    have v := val_far oq.len opn (far_on (j := j) (k := k) far)
    have v2 := val_far op.len opu far
    have e := h pt sp
    rw [wr, wr] at e
    have e2 : valF q.2 (onP j k pt) ≤ q.1.length * valF q.2 (onP j k pt) := Nat.le_mul_of_pos_left _ q0
    have e3 : valF p.2 pt ≤ p.1.length * valF p.2 pt := Nat.le_mul_of_pos_left _ p0
    exact hl (turn_last pr.1 pru.1 hy e (by omega) (by omega))
theorem last_app {y z : W} (h : y ≠ []) : (z ++ y).getLast? = y.getLast? := by
  rw [List.getLast?_append]
  cases e : y.getLast? with
  | none => exact absurd (List.getLast?_eq_none_iff.mp e) h
  | some c => rfl
/-- a word ahead may be taken away -/
theorem cut_fix {m j k : Nat} {p : Pn} {r M : List Pn} (hT : Nm m (p :: r)) (ep : isPow p = false) (hM : Nm m M) (h : ∀ pt, pt.length = m → wr (onP j k pt) M = p.1 ++ wr pt r) : ∃ M', LenF m M' ∧ ∀ pt, pt.length = m → wr (onP j k pt) M' = wr pt r := by
  have hp := hT.head
  have hh : ∀ y z : W, p.1 = z ++ y → y ≠ [] → ∀ c, r.head? = some c → isPow c = true ∧ y.getLast? ≠ c.1.getLast? := fun y z e hy c hc => by
    match r, hT, hc with
    | c' :: r', hT, hc =>
      cases hc
      have a := hT.adj0.fix ep
      refine ⟨a.1, fun w => a.2 ?_⟩
      rw [e, last_app hy]
      exact w
  match M, hM, h with
  | [], _, h =>
    have e := h _ (nat_pt m)
    exact absurd (List.append_eq_nil_iff.mp e.symm).1 hp.ne
  | q :: M1, hM, h =>
    have hq := hM.head
    cases eq' : isPow q with
    | true => exact (no_ahead hp.ne hq eq' hT.ok.tail (hh p.1 [] rfl hp.ne) h).elim
    | false =>
      have wq : ∀ pt, wrt pt q = q.1 := fun pt => (hM.ok q List.mem_cons_self).wrt eq' pt
      have e0 : ∀ pt, pt.length = m → q.1 ++ wr (onP j k pt) M1 = p.1 ++ wr pt r := fun pt hl => by
        have := h pt hl
        rw [wr, wq] at this
        exact this
      have e1 := e0 _ (nat_pt m)
      rcases List.prefix_or_prefix_of_prefix (l₁ := p.1) (l₂ := q.1) (l₃ := q.1 ++ wr (onP j k (List.replicate m 0)) M1) (by rw [e1]; exact List.prefix_append _ _) (List.prefix_append _ _) with z | z
      · obtain ⟨y, hy⟩ := z
        refine ⟨fixP y m :: M1, fun c hc => ?_, fun pt hl => ?_⟩
        · rcases List.mem_cons.mp hc with w | w
          · rw [w]; simp [fixP, one1]
          · exact hM.tail.lenF c w
        · have := e0 pt hl
          rw [← hy, List.append_assoc] at this
          rw [wr, wrt_fix]
          exact List.append_cancel_left this
      · obtain ⟨y, hy⟩ := z
        by_cases hy0 : y = []
        · refine ⟨M1, hM.tail.lenF, fun pt hl => ?_⟩
          have := e0 pt hl
          rw [← hy, hy0, List.append_nil] at this
          exact List.append_cancel_left this
        · have e2 : ∀ pt, pt.length = m → wr (onP j k pt) M1 = y ++ wr pt r := fun pt hl => by
            have := e0 pt hl
            rw [← hy, List.append_assoc] at this
            exact List.append_cancel_left this
          match M1, hM, e2 with
          | [], _, e2 => exact absurd (List.append_eq_nil_iff.mp (e2 _ (nat_pt m)).symm).1 hy0
          | q2 :: M2, hM, e2 => exact (no_ahead hy0 hM.tail.head (hM.adj0.fix eq').1 hT.ok.tail (hh y q.1 hy.symm hy0) e2).elim
/-- what can be moved back is found -/
theorem back_complete {m j k : Nat} (hj : j < m) : ∀ {T M : List Pn}, Nm m T → LenF m M → (∀ pt, pt.length = m → wr (onP j k pt) M = wr pt T) → ∃ L, backL j k T = some L ∧ Irr m L
  | [], M, _, _, _ => ⟨[], rfl, True.intro⟩
  | p :: r, M, hT, hM, h => by
    have hp := hT.head
    have op := hT.ok p List.mem_cons_self
    have nM := nm_normL hM
    have h0 : ∀ pt, pt.length = m → wr (onP j k pt) (normL M) = wrt pt p ++ wr pt r := fun pt hl => by
      rw [wr_normL hM, h pt hl, wr]
    cases ep : isPow p with
    | false =>
      obtain ⟨M', lM, hM'⟩ := cut_fix hT ep nM fun pt hl => by rw [h0 pt hl, op.wrt ep]
      obtain ⟨L, hL, iL⟩ := back_complete hj hT.tail lM hM'
      refine ⟨p :: L, ?_, fun y => (by rw [ep] at y; cases y), iL⟩
      unfold backL
      rw [hL]
      show (if isPow p = true then _ else _) = _
      rw [ep, if_neg Bool.false_ne_true]
    | true =>
      obtain ⟨pr, opn⟩ := op.pow ep
      have u0 := List.length_pos_iff.mpr pr.1
      have hd : ∃ g M1, normL M = (p.1, g) :: M1 ∧ isPow (p.1, g) = true := by
        refine Classical.byContradiction fun no => ?_
        obtain ⟨pt, sp, far⟩ := (rich_all m).far (p.1.length + tot (normL M) + 1)
        have v := val_far op.len opn far
        refine no_begin pr nM (fun q hq hp' e => no ?_) (far_on (j := j) (k := k) far) (Nat.le_refl _) v (h0 pt sp)
        cases hn : normL M with
        | nil => rw [hn] at hq; cases hq
        | cons a b =>
          rw [hn] at hq
          cases hq
          exact ⟨q.2, b, by rw [← e], by rw [← e]; exact hp'⟩
      obtain ⟨g, M1, eM, eg⟩ := hd
      rw [eM] at nM h0
      have ng := nM.head
      have e2 : ∀ pt, pt.length = m → pw p.1 (valF g pt + g.getD (j + 1) 0 * k) ++ wr (onP j k pt) M1 = pw p.1 (valF p.2 pt) ++ wr pt r := fun pt hl => by
        have := h0 pt hl
        rw [wr] at this
        rw [← val_on ng.len hl hj]
        exact this
      have fg : p.2 = g := by
        refine Classical.byContradiction fun ne => ?_
        obtain ⟨N, hN⟩ := nb_tail hT ep
        obtain ⟨N1, hN1⟩ := nb_tail nM eg
        obtain ⟨pt, sp, far, hd⟩ := (rich_all m).part (N + N1 + g.getD (j + 1) 0 * k) p.2 g op.len ng.len (of_decide_eq_true ep) (of_decide_eq_true eg) ne
        have e := e2 pt sp
        rcases hd with hd | hd
        · have s : pw p.1 (valF g pt + g.getD (j + 1) 0 * k) = pw p.1 (valF p.2 pt) ++ pw p.1 (valF g pt + g.getD (j + 1) 0 * k - valF p.2 pt) := by rw [← pw_add]; congr 1; omega
          rw [s, List.append_assoc] at e
          exact hN pt (far.le (by omega)) _ (show N ≤ valF g pt + g.getD (j + 1) 0 * k - valF p.2 pt by omega) _ (List.append_cancel_left e).symm
        · have s : pw p.1 (valF p.2 pt) = pw p.1 (valF g pt + g.getD (j + 1) 0 * k) ++ pw p.1 (valF p.2 pt - (valF g pt + g.getD (j + 1) 0 * k)) := by rw [← pw_add]; congr 1; omega
          rw [s, List.append_assoc] at e
          exact hN1 (onP j k pt) (far_on (far.le (by omega))) _ (show N1 ≤ valF p.2 pt - (valF g pt + g.getD (j + 1) 0 * k) by omega) _ (List.append_cancel_left e)
      subst fg
      have e3 : ∀ pt, pt.length = m → wr pt r = pw p.1 (p.2.getD (j + 1) 0 * k) ++ wr (onP j k pt) M1 := fun pt hl => by
        have := e2 pt hl
        rw [pw_add, List.append_assoc] at this
        exact (List.append_cancel_left this).symm
      have lM : LenF m ((p.1, (p.2.getD (j + 1) 0 * k) :: List.replicate m 0) :: M1) := fun c hc => by
        rcases List.mem_cons.mp hc with w | w
        · rw [w]; simp
        · exact nM.tail.lenF c w
      have wM : ∀ pt, wr pt ((p.1, (p.2.getD (j + 1) 0 * k) :: List.replicate m 0) :: M1) = pw p.1 (p.2.getD (j + 1) 0 * k) ++ wr pt M1 := fun pt => by
        rw [wr]
        congr 1
        show pw p.1 (p.2.getD (j + 1) 0 * k + dot (List.replicate m 0) pt) = _
        rw [dot_zero, Nat.add_zero]
      obtain ⟨L, hL, iL⟩ := back_complete hj hT.tail lM fun pt hl => by rw [wM, e3 pt hl]
      obtain ⟨oL, wL⟩ := back_sound hj hT.ok.tail hL
      have en := same_on (k := k) hj oL.lenF lM fun pt hl => by rw [wL pt hl, wM, e3 pt hl]
      have eL : ∀ pt, wr pt L = pw p.1 (p.2.getD (j + 1) 0 * k) ++ wr pt M1 := fun pt => by
        rw [← wr_normL oL.lenF, en, wr_normL lM, wM]
      obtain ⟨L', hL'⟩ := strip_complete oL iL nM.tail.lenF fun pt _ => eL pt
      obtain ⟨oL', wL'⟩ := strip_sound oL hL'
      refine ⟨p :: L', ?_, fun _ => ?_, strip_irr oL iL hL'⟩
      · unfold backL
        rw [hL]
        show (if isPow p = true then _ else _) = _
        rw [ep, if_pos rfl, hL']
        rfl
      · obtain ⟨N, hN⟩ := nb_tail hT ep
        refine ⟨N + k, fun pt far a ha Z e => ?_⟩
        have hj' : j < pt.length := by rw [far.1]; exact hj
        have pj := far.2 _ (List.getElem_mem hj')
        have gj : pt.getD j 0 = pt[j] := by rw [List.getD_eq_getElem?_getD, List.getElem?_eq_getElem hj']; rfl
        have back : onP j k (pt.set j (pt[j] - k)) = pt := by
          unfold onP
          rw [List.getD_eq_getElem?_getD, List.getElem?_set_self hj', List.set_set]
          show pt.set j (pt[j] - k + k) = pt
          rw [Nat.sub_add_cancel (by omega)]
          exact List.set_getElem_self hj'
        have far' : Far m N (pt.set j (pt[j] - k)) := by
          refine ⟨by rw [List.length_set]; exact far.1, fun x hx => ?_⟩
          rcases List.mem_or_eq_of_mem_set hx with w | w
          · have := far.2 x w
            omega
          · rw [w]; omega
        have e5 := wL (pt.set j (pt[j] - k)) far'.1
        rw [back, wL', e, ← List.append_assoc, ← pw_add] at e5
        exact hN _ far' _ (show N ≤ p.2.getD (j + 1) 0 * k + a by omega) _ e5.symm
/-! ### what is found is no greater -/
structure LesP (q p : Pn) : Prop where
  form : q.2 = p.2
  len : q.1.length ≤ p.1.length
  sub : ∀ c ∈ q.1, c ∈ p.1
inductive Les : List Pn → List Pn → Prop
  | nil : Les [] []
  | drop {p : Pn} {l r : List Pn} : Les l r → Les l (p :: r)
  | cons {q p : Pn} {l r : List Pn} : LesP q p → Les l r → Les (q :: l) (p :: r)
theorem LesP.refl (p : Pn) : LesP p p := ⟨rfl, Nat.le_refl _, fun c h => h⟩
theorem LesP.trans {a b c : Pn} (h : LesP a b) (g : LesP b c) : LesP a c := ⟨h.form.trans g.form, Nat.le_trans h.len g.len, fun x hx => g.sub x (h.sub x hx)⟩
theorem Les.refl : ∀ l : List Pn, Les l l
  | [] => .nil
  | p :: r => .cons (.refl p) (.refl r)
theorem Les.trans {a b c : List Pn} (h : Les a b) (g : Les b c) : Les a c := by
  induction g generalizing a with
  | nil => exact h
  | drop _ ih => exact .drop (ih h)
  | cons x _ ih =>
    cases h with
    | drop h => exact .drop (ih h)
    | cons y h => exact .cons (y.trans x) (ih h)
theorem Les.length {a b : List Pn} (h : Les a b) : a.length ≤ b.length := by
  induction h with
  | nil => exact Nat.le_refl _
  | drop _ ih => rw [List.length_cons]; omega
  | cons _ _ ih => rw [List.length_cons, List.length_cons]; omega
theorem Les.mem {a b : List Pn} (h : Les a b) : ∀ q ∈ a, ∃ p ∈ b, LesP q p := by
  induction h with
  | nil => exact fun q hq => absurd hq List.not_mem_nil
  | drop _ ih => exact fun q hq => let ⟨p, hp, e⟩ := ih q hq; ⟨p, List.mem_cons_of_mem _ hp, e⟩
  | cons x _ ih =>
    intro q hq
    rcases List.mem_cons.mp hq with z | z
    · exact ⟨_, List.mem_cons_self, by rw [z]; exact x⟩
    · obtain ⟨p, hp, e⟩ := ih q z
      exact ⟨p, List.mem_cons_of_mem _ hp, e⟩
theorem Les.meas {a b : List Pn} (h : Les a b) : NM.meas a ≤ NM.meas b := by
  have e : ∀ (p : Pn) (r : List Pn), NM.meas (p :: r) = measP p + NM.meas r := fun p r => by simp [NM.meas]
  induction h with
  | nil => exact Nat.le_refl _
  | drop _ ih => rw [e]; omega
  | cons x _ ih =>
    rw [e, e]
    refine Nat.add_le_add ?_ ih
    unfold measP
    rw [x.form]
    exact Nat.mul_le_mul x.len (Nat.le_refl _)
theorem Les.wr {a b : List Pn} (h : Les a b) (pt : List Nat) : (NM.wr pt a).length ≤ (NM.wr pt b).length := by
  induction h with
  | nil => exact Nat.le_refl _
  | drop _ ih => rw [NM.wr.eq_2, List.length_append]; omega
  | @cons q p l r x _ ih =>
    rw [NM.wr.eq_2, NM.wr.eq_2, List.length_append, List.length_append]
    have e1 : (wrt pt q).length = q.1.length * valF q.2 pt := pw_len _ _
    have e2 : (wrt pt p).length = p.1.length * valF p.2 pt := pw_len _ _
    have : q.1.length * valF q.2 pt ≤ p.1.length * valF p.2 pt := by rw [x.form]; exact Nat.mul_le_mul x.len (Nat.le_refl _)
    omega
theorem rotL_les (u : W) (n : Nat) (f : F) : LesP (rotL u n, f) (u, f) := ⟨rfl, by rw [show (rotL u n, f).1 = rotL u n from rfl, rotL_len]; exact Nat.le_refl _, fun c hc => (List.mem_append.mp hc).elim List.mem_of_mem_drop List.mem_of_mem_take⟩
theorem strip_les : ∀ {L L' : List Pn} {x : W}, stripS L x = some L' → Les L' L
  | [], L', x, h => by
    unfold stripS at h
    split at h
    · cases h; exact .nil
    · cases h
  | p :: r, L', x, h => by
    unfold stripS at h
    split at h
    · cases h; exact .refl _
    · split at h
      · split at h
        · cases hs : stripS r x with
          | none => rw [hs] at h; cases h
          | some l =>
            rw [hs] at h
            cases h
            exact .cons (rotL_les p.1 _ p.2) (strip_les hs)
        · cases h
      · split at h
        · cases h
          exact .cons ⟨rfl, by rw [show (p.1.drop x.length, p.2).1 = p.1.drop x.length from rfl, List.length_drop]; omega, fun c hc => List.mem_of_mem_drop hc⟩ (.refl _)
        · split at h
          · exact .drop (strip_les h)
          · cases h
theorem back_les {j k : Nat} : ∀ {T L : List Pn}, backL j k T = some L → Les L T
  | [], L, h => by cases h; exact .nil
  | p :: r, L, h => by
    unfold backL at h
    cases hb : backL j k r with
    | none => rw [hb] at h; cases h
    | some l =>
      rw [hb] at h
      have h : (if isPow p = true then (stripS l (pw p.1 (p.2.getD (j + 1) 0 * k))).map fun l => p :: l else some (p :: l)) = some L := h
      split at h
      · cases hs : stripS l (pw p.1 (p.2.getD (j + 1) 0 * k)) with
        | none => rw [hs] at h; cases h
        | some l2 =>
          rw [hs] at h
          cases h
          exact .cons (.refl p) ((strip_les hs).trans (back_les hb))
      · cases h
        exact .cons (.refl p) (back_les hb)
theorem back_cons {j k : Nat} {p : Pn} {r : List Pn} : backL j k (p :: r) = (backL j k r).bind fun L => if isPow p = true then (stripS L (pw p.1 (p.2.getD (j + 1) 0 * k))).map fun l => p :: l else some (p :: L) := rfl
end NM

set_option Elab.async false
set_option linter.all false
set_option maxRecDepth 100000
set_option maxHeartbeats 4000000
namespace K23
open PySem PySem.Spec PyProof.Rows L2 CK SX NM
theorem starts_S (a b : List Nat) : Txt.startswith (S a) (S b) = decide (b <+: a) := by
  unfold Txt.startswith
  rw [StrLaws.subAt_eq, S_len, S_len]
  show (decide (0 + b.length ≤ a.length) && ((a.drop 0).take b.length == b)) = _
  rw [List.drop_zero, Nat.zero_add]
  by_cases h : b <+: a
  · have e := List.prefix_iff_eq_take.mp h
    have l := h.length_le
    rw [decide_eq_true h, decide_eq_true l, Bool.true_and, beq_iff_eq]
    exact e.symm
  · rw [decide_eq_false h, Bool.and_eq_false_iff]
    refine .inr ?_
    rw [beq_eq_false_iff_ne]
    exact fun e => h (List.prefix_iff_eq_take.mpr e.symm)
theorem rotZ_nat (z : List Nat) (n : Nat) : rotZ z (n : Nat) = rotL z n := by
  unfold rotZ rotL
  by_cases h : z = []
  · subst h
    simp
  · have e : ((n : Nat) : Int).fmod (z.length : Int) = ((n % z.length : Nat) : Int) := fmodN n z.length
    rw [e, Int.toNat_natCast]
theorem strip_nil (L : List Pn) : stripS L [] = some L := by
  cases L with
  | nil => rfl
  | cons p r => unfold stripS; rw [if_pos rfl]
theorem strip_cons {p : Pn} {r : List Pn} {x : List Nat} (h : x ≠ []) : stripS (p :: r) x = if isPow p = true then (if x = preE p.1 x.length then (stripS r x).map fun l => (rotL p.1 x.length, p.2) :: l else none)
    else if x <+: p.1 then some ((p.1.drop x.length, p.2) :: r) else if p.1 <+: x then stripS r (x.drop p.1.length) else none := by
  conv => lhs; unfold stripS
  rw [if_neg h]
theorem strip_emp {x : List Nat} (h : x ≠ []) : stripS [] x = none := by
  unfold stripS
  rw [if_neg h]
section
variable {P : Program} {w : World} {K : PySem.W.Frag} {mg : Str → Option Value} {base : Heap} {C : Addr}
def sp_stretch0 : Sp := fun vs H Q _ => ∃ (u : List Nat) (n : Nat), vs = [.str (S u), .int 0, .int n] ∧ u ≠ [] ∧ u.length ≤ 100000 ∧ n ≤ 100000 ∧ Q (.str (S (preE u n))) H
theorem c_stretch0 (T : Txt K mg C) : C8.Cal P w K mg base 1 "stretch" sp_stretch0 [] := by
  refine calF T.d_stretch sc_stretch (fun vs H Q E h => ?_) (fun f cdv A outer s H vs Q E hr h => ?_)
  · obtain ⟨_, _, rfl, _⟩ := h; rfl
  · obtain ⟨u, n, rfl, ne, hu, hn, q⟩ := h
    have n0 := List.length_pos_iff.mpr ne
    refine ⟨_, (pss_cons (ps_set (i := 3) sc_stretch.nd rfl (Or.inl rfl) (pe_op op_modN (pv 1) (pe_callB call_len_str (by rfl) T.m_len (by decide +kernel) (pa_cons (pv 0) pa_nil))))
    (pss_one (ps_ret (pe_slice C8.sl_txt (pe_op op_repM (pv 0) (pe_op op_add (pe_op op_fdivZ (pe_op op_add (pv 3) (pv 2)) (pe_callB call_len_str (by rfl) T.m_len (by decide +kernel) (pa_cons (pv 0) pa_nil))) pe_int)) (po_some (pv 3)) (po_some (pe_op op_add (pv 3) (pv 2))))))), ?_⟩
    have hm : (0 : Int).fmod (u.length : Int) = ((0 : Nat) : Int) := by simp
    refine ⟨_, rfl, _, rfl, S u, rfl, len_line (by omega), (0 : Int), u.length, rfl, congrArg (fun n : Nat => V.int n) (S_len u), by omega, ?_⟩
    have hdm := Nat.div_add_mod n u.length
    have hml := Nat.mod_lt n n0
    have dl : n / u.length ≤ n := Nat.div_le_self _ _
    refine ⟨_, rfl, _, rfl, _, rfl, ((0 : Nat) : Int), n, congrArg V.int hm, rfl, _, rfl, S u, rfl, len_line (by omega), n, u.length, congrArg V.int (by omega), congrArg (fun n : Nat => V.int n) (S_len u), by omega, by omega, _, _, rfl, rfl, u, n / u.length + 1, rfl, congrArg V.int (by omega), by omega, by omega, ?_, ?_⟩
    · rw [Nat.add_mul, Nat.one_mul, Nat.mul_comm]
      omega
    · have l : (List.replicate (n / u.length + 1) u).flatten.length = u.length * (n / u.length + 1) := WM.pw_len u _
      have hle : n ≤ u.length * (n / u.length + 1) := by rw [Nat.mul_succ]; omega
      refine ⟨_, rfl, ((0 : Nat) : Int), congrArg V.int hm, _, rfl, _, rfl, ((0 : Nat) : Int), n, congrArg V.int hm, rfl, ((0 + n : Nat) : Int), congrArg V.int (by omega), S _, rfl, ?_, ?_⟩
      · rw [S_len, l, Nat.mul_succ, sizeLine_eq]
        omega
      · rw [slice_mid (by omega) (by rw [l]; omega), show 0 + n - 0 = n by omega, List.drop_zero]
        exact q
def sp_follows : Sp := fun vs H Q _ => ∃ (u x : List Nat), vs = [.str (S u), .str (S x)] ∧ u ≠ [] ∧ u.length ≤ 100000 ∧ x.length ≤ 100000 ∧ Q (.int (WM.lcp (preE u x.length) x : Nat)) H
theorem c_follows (T : Txt K mg C) : C8.Cal P w K mg base 2 "follows" sp_follows [] := by
  refine calF T.d_follows sc_follows (fun vs H Q E h => ?_) (fun f cdv A outer s H vs Q E hr h => ?_)
  · obtain ⟨_, _, rfl, _⟩ := h; rfl
  · obtain ⟨u, x, rfl, ne, hu, hx, q⟩ := h
    refine ⟨_, (pss_one (ps_ret (C8.pe_c (c_alike_ahead T) hr (by decide) (by rfl) (pa_cons (C8.pe_c (c_stretch0 T) hr (by decide) (by rfl) (pa_cons (pv 0) (pa_cons pe_int (pa_cons (pe_callB call_len_str (by rfl) T.m_len (by decide +kernel) (pa_cons (pv 1) pa_nil)) pa_nil)))) (pa_cons (pv 1) pa_nil))))), ?_⟩
    refine ⟨_, rfl, _, rfl, S x, rfl, len_line (by omega), u, x.length, by show [V.str (S u), V.int 0, V.int ((S x).length : Nat)] = _; rw [S_len], ne, hu, hx, ?_⟩
    exact ⟨_, rfl, preE u x.length, x, rfl, by rw [preE_len ne]; omega, by omega, q⟩
/-- follows less than the whole: no beginning -/
theorem lcp_pre {u x : List Nat} (h : u ≠ []) : WM.lcp (preE u x.length) x < x.length ↔ ¬ x = preE u x.length := by
  have l := preE_len h x.length
  constructor
  · intro a e
    have := WM.le_lcp (preE u x.length) x x.length (by omega) (Nat.le_refl _) (by rw [← e])
    omega
  · intro ne
    refine Classical.byContradiction fun a => ne ?_
    have := WM.lcp_take (preE u x.length) x x.length (by omega)
    rw [List.take_of_length_le (by omega), List.take_of_length_le (Nat.le_refl _)] at this
    exact this.symm
def sp_without : Sp := fun vs H Q _ => ∃ (l : Addr) (m : Nat) (L : List Pn) (x : List Nat), vs = [.ref l, .str (S x)] ∧ PL H l L ∧ OkL m L ∧ m ≤ 3 ∧ Ws 50000 L ∧ x.length ≤ 50000 ∧ L.length ≤ 50000 ∧
  (∀ L' D H', stripS L x = some L' → Same H H' → PL H' D L' → Q (.ref D) H') ∧ (∀ H', stripS L x = none → Same H H' → Q .non H')
theorem c_without_start (T : Txt K mg C) : C8.Cal P w K mg base 3 "without_start" sp_without [] := by
  refine calF T.d_without_start sc_without_start (fun vs H Q E h => ?_) (fun f cdv A outer s H vs Q E hr h => ?_)
  · obtain ⟨_, _, _, _, rfl, _⟩ := h; rfl
  · obtain ⟨l, m, L, x, rfl, ⟨us, hl, hp⟩, ok, m3, ws, hx, few, qs, qn⟩ := h
    have lu := hp.len
    refine ⟨_, (pss_cons (ps_set (i := 2) sc_without_start.nd rfl (Or.inl rfl) (pe_lst pa_nil))
    (pss_cons (ps_for PassesOwn.never rfl (pi_enum (by rfl) T.m_enumerate (pa_cons (pv 0) pa_nil)) (pg_tup rfl (pgs_cons (pg_name (i := 3) sc_without_start.nd rfl (Or.inl rfl)) (pgs_cons (pg_two (K := K) (i := 4) (j := 5) rfl rfl sc_without_start.nd rfl rfl (Or.inl rfl) (Or.inl rfl)) pgs_nil)))
    (pss_cons (ps_if (pt_not (pt_truth (pv 1) (by intro _; rfl)))
    (pss_one (ps_ret (pe_op op_cat (pv 2) (pe_slice sl_list (pv 0) (po_some (pv 3)) po_none))))
    pss_nil)
    (pss_one (ps_if (pt_val (C8.pe_c (c_is_power T) hr (by decide) (by rfl) (pa_cons (pe_tup (pa_cons (pv 4) (pa_cons (pv 5) pa_nil))) pa_nil)))
    (pss_cons (ps_if (pt_cmpR op_lt (C8.pe_c (c_follows T) hr (by decide) (by rfl) (pa_cons (pv 4) (pa_cons (pv 1) pa_nil))) (pe_callB call_len_str (by rfl) T.m_len (by decide +kernel) (pa_cons (pv 1) pa_nil)) (nomark _))
    (pss_one (ps_ret pe_non))
    pss_nil)
    (pss_one (ps_expr (pe_bm PySem.F.plainAttrs_list PySem.F.slot_list_append PySem.F.type_list_append mt_append (pv 2) (pa_cons (pe_tup (pa_cons (C8.pe_c (c_turned_word T) hr (by decide) (by rfl) (pa_cons (pv 4) (pa_cons (pe_callB call_len_str (by rfl) T.m_len (by decide +kernel) (pa_cons (pv 1) pa_nil)) pa_nil))) (pa_cons (pv 5) pa_nil))) pa_nil)))))
    (pss_one (ps_if (pt_val (pe_m1 PySem.F.slot_str_startswith PySem.F.type_str_startswith mt_startswith (pv 4) (pv 1)))
    (pss_cons (ps_expr (pe_bm PySem.F.plainAttrs_list PySem.F.slot_list_append PySem.F.type_list_append mt_append (pv 2) (pa_cons (pe_tup (pa_cons (pe_slice C8.sl_txt (pv 4) (po_some (pe_callB call_len_str (by rfl) T.m_len (by decide +kernel) (pa_cons (pv 1) pa_nil))) po_none) (pa_cons (pv 5) pa_nil))) pa_nil)))
    (pss_one (ps_set (i := 1) sc_without_start.nd rfl (Or.inl rfl) pe_str)))
    (pss_one (ps_if (pt_val (pe_m1 PySem.F.slot_str_startswith PySem.F.type_str_startswith mt_startswith (pv 1) (pv 4)))
    (pss_one (ps_set (i := 1) sc_without_start.nd rfl (Or.inl rfl) (pe_slice C8.sl_txt (pv 1) (po_some (pe_callB call_len_str (by rfl) T.m_len (by decide +kernel) (pa_cons (pv 4) pa_nil))) po_none)))
    (pss_one (ps_ret pe_non))))))))))
    (pss_one (ps_ret (pe_ifExp (pt_truth (pv 1) (by intro _; rfl)) pe_non (pv 2)))))), ?_⟩
    refine ⟨by show 0 ≤ sizeLine; omega, fun Lf nf => ?_⟩
    have s0 := sameNew (o := .lst []) nf
    have ll : l ≠ Lf := fun z => by rw [z, nf] at hl; cases hl
    refine ⟨_, rfl, l, us, rfl, .inl (.inl (s0 _ _ hl)), ?_⟩
    refine for_it (walk_enum (K := K) (a := l) (xs := us)) (fun i σ H' => i ≤ L.length ∧ Same H H' ∧ ∃ (y : List Nat) (L1 : List Pn) (y3 y4 y5 : Option V), σ = [some (.ref l), some (.str (S y)), some (.ref Lf), y3, y4, y5] ∧ PL H' Lf L1 ∧ L1.length ≤ i ∧ y.length ≤ 50000 ∧ stripS L x = (stripS (L.drop i) y).map fun z => L1 ++ z)
      ⟨Nat.zero_le _, s0, x, [], none, none, none, rfl, ⟨[], upd_same, .nil⟩, Nat.zero_le _, hx, by rw [List.drop_zero]; cases stripS L x <;> rfl⟩ (fun i σ H' _ p => .inl (.inl (p.2.1 _ _ hl))) (fun i xv σ H1 H2 hi pI yy => ?_) fun σ H1 pI => ?_
    · obtain ⟨_, s1, y, L1, y3, y4, y5, rfl, ⟨zs, hz, pz⟩, l1, hy, es⟩ := pI
      obtain ⟨T, x1, x2, rfl, hT, rfl, e1, hx2⟩ := yy
      cases e1
      have hx2 : us[i]? = some x2 := hx2
      obtain ⟨b, p, rfl, hpi, pc⟩ := hp.get hx2
      have mem := List.mem_of_getElem? hpi
      have op := ok p mem
      have wp := ws p mem
      have iL := (List.getElem?_eq_some_iff.mp hpi).1
      have eD : L.drop i = p :: L.drop (i + 1) := by rw [← List.getElem_cons_drop iL, (List.getElem?_eq_some_iff.mp hpi).2]
      have st := sameNew (o := .tup [.int (i : Nat), .ref b]) hT
      have s2 := s1.trans st
      obtain ⟨fa, p1, p2⟩ := pc.mono (tup_same s2)
      have hz2 := st _ _ hz
      have pz2 := pz.same st
      refine ⟨T, _, rfl, .inl (.inl upd_same), rfl, _, _, rfl, _, _, rfl, b, _, rfl, .inl (.inl p1), rfl, _, _, rfl, _, _, rfl, rfl, rfl, ?_⟩
      have hl2 := s2 _ _ hl
      generalize upd H1 T (.tup [.int (i : Nat), .ref b]) = H2 at s2 p1 p2 hz2 pz2 hl2 ⊢
      clear st hz pz s1 hT
      have lz := pz2.len
      by_cases y0 : y = []
      · subst y0
        refine ⟨_, rfl, false, ⟨len_line (by simp), by rw [S_len]; rfl⟩, iteT ?_⟩
        refine ⟨_, rfl, _, rfl, _, rfl, (i : Int), rfl, l, us, rfl, .inl (.inl hl2), fun q1 nq1 => ?_⟩
        have sq := sameNew (o := .lst (cutV us (some ((i : Nat) : Int)) none)) nq1
        rw [cutV_drop] at sq ⊢
        refine ⟨Lf, q1, _, _, rfl, rfl, sq _ _ hz2, upd_same, by rw [List.length_drop, sizeLine_eq]; omega, fun D nD => ?_⟩
        have sD := sameNew (o := .lst (zs ++ us.drop i)) nD
        have sA := sq.trans sD
        refine qs (L1 ++ L.drop i) D _ (by rw [es, strip_nil]; rfl) (s2.trans sA) ⟨_, upd_same, ?_⟩
        exact (pz2.same sA).app (((hp.drop i).same s2).same sA)
      have y1 := List.length_pos_iff.mpr y0
      refine ⟨_, rfl, true, ⟨len_line (by omega), by rw [S_len]; symm; rw [bne_iff_ne]; omega⟩, iteF ?_⟩
      refine ⟨_, rfl, _, rfl, by show 2 ≤ sizeLine; decide, fun t3 nt3 => ?_⟩
      have st3 := sameNew (o := .tup [.str (S p.1), .ref fa]) nt3
      have s3 := s2.trans st3
      refine ⟨t3, p, m, rfl, ⟨fa, upd_same, st3 _ _ p2⟩, op.len, _, rfl, ?_⟩
      have hz3 := st3 _ _ hz2
      have pz3 := pz2.same st3
      have p23 := st3 _ _ p2
      generalize upd H2 t3 (.tup [.str (S p.1), .ref fa]) = H3 at s3 hz3 pz3 p23 ⊢
      clear st3 nt3 hz2 pz2 p2 p1 hl2 s2
      rw [eD] at es
      rw [strip_cons y0] at es
      -- a piece goes to what is left
      have put : ∀ {H5 : Hp} {t : Addr} {v : List Nat} (y' : List Nat) (σ3 σ4 σ5 : Option V), Same H3 H5 → H5 t = some (.tup [.str (S v), .ref fa]) → y'.length ≤ 50000 → stripS L x = (stripS (L.drop (i + 1)) y').map (fun z => (L1 ++ [(v, p.2)]) ++ z) →
          i + 1 ≤ L.length ∧ Same H (upd H5 Lf (.lst (zs ++ [.ref t]))) ∧ ∃ (y : List Nat) (L1 : List Pn) (y3 y4 y5 : Option V), [some (V.ref l), some (.str (S y')), some (.ref Lf), σ3, σ4, σ5] = [some (.ref l), some (.str (S y)), some (.ref Lf), y3, y4, y5] ∧ PL (upd H5 Lf (.lst (zs ++ [.ref t]))) Lf L1 ∧ L1.length ≤ i + 1 ∧ y.length ≤ 50000 ∧ stripS L x = (stripS (L.drop (i + 1)) y).map fun z => L1 ++ z := fun {H5 t v} y' σ3 σ4 σ5 s5 ht hy' es' => by
        have hz5 := s5 _ _ hz3
        refine ⟨iL, same_upd2 nf (s3.trans s5), y', L1 ++ [(v, p.2)], _, _, _, rfl, ⟨_, upd_same, ?_⟩, by rw [List.length_append]; simp; omega, hy', es'⟩
        exact ((pz3.same s5).upd hz5).app (.one ⟨fa, tup_upd hz5 _ _ ht, tup_upd hz5 _ _ (s5 _ _ p23)⟩)
      cases ep : isPow p with
      | true =>
        obtain ⟨pr, opn⟩ := op.pow ep
        rw [if_pos ep] at es
        refine iteT ?_
        refine ⟨_, rfl, _, rfl, p.1, y, rfl, pr.1, by omega, by omega, _, rfl, S y, rfl, len_line (by omega), _, _, rfl, rfl, _, rfl, ?_⟩
        by_cases hpre : y = preE p.1 y.length
        · rw [if_pos hpre] at es
          have : ¬ WM.lcp (preE p.1 y.length) y < y.length := fun a => (lcp_pre pr.1).mp a hpre
          rw [decide_eq_false (show ¬ ((WM.lcp (preE p.1 y.length) y : Nat) : Int) < ((S y).length : Nat) by rw [S_len]; omega)]
          refine iteF ?_
          refine ⟨_, rfl, .inl ⟨rfl, _, .inl (.inl hz3)⟩, ?_⟩
          refine ⟨_, rfl, _, rfl, S y, rfl, len_line (by omega), p.1, ((y.length : Nat) : Int), by show [V.str (S p.1), V.int ((S y).length : Nat)] = _; rw [S_len], by omega, pr.1, _, rfl, by show 2 ≤ sizeLine; decide, fun t nt => ?_⟩
          rw [rotZ_nat]
          have st := sameNew (o := .tup [.str (S (rotL p.1 y.length)), .ref fa]) nt
          refine ⟨Lf, _, _, rfl, rfl, st _ _ hz3, by rw [sizeLine_eq]; omega, ?_⟩
          refine put y _ _ _ st upd_same hy ?_
          rw [es, Option.map_map]
          congr 1
          funext z
          simp
        · rw [if_neg hpre] at es
          have : WM.lcp (preE p.1 y.length) y < y.length := (lcp_pre pr.1).mpr hpre
          rw [decide_eq_true (show ((WM.lcp (preE p.1 y.length) y : Nat) : Int) < ((S y).length : Nat) by rw [S_len]; omega)]
          exact iteT (qn _ es s3)
      | false =>
        rw [if_neg (by rw [ep]; exact Bool.false_ne_true)] at es
        refine iteF ?_
        refine ⟨_, rfl, ⟨_, rfl⟩, _, rfl, _, _, rfl, rfl, _, rfl, ?_⟩
        rw [starts_S]
        by_cases h1 : y <+: p.1
        · rw [if_pos h1] at es
          rw [decide_eq_true h1]
          refine iteT ?_
          refine ⟨_, rfl, .inl ⟨rfl, _, .inl (.inl hz3)⟩, ?_⟩
          refine ⟨_, rfl, _, rfl, S y, rfl, len_line (by omega), ((S y).length : Nat), rfl, S p.1, rfl, len_line (by omega), ?_⟩
          rw [SX.slice_from (by omega), Int.toNat_natCast, S_len]
          refine ⟨_, rfl, by show 2 ≤ sizeLine; decide, fun t nt => ?_⟩
          have st := sameNew (o := .tup [.str (S (p.1.drop y.length)), .ref fa]) nt
          refine ⟨Lf, _, _, rfl, rfl, st _ _ hz3, by rw [sizeLine_eq]; omega, ?_⟩
          have e0 : (V.str (Str.ofString "") : V) = .str (S []) := by rw [empty_S]
          show _ ∧ _ ∧ _
          rw [e0]
          refine put [] _ _ _ st upd_same (by simp) ?_
          rw [es, strip_nil]
          simp
        · rw [if_neg h1] at es
          rw [decide_eq_false h1]
          refine iteF ?_
          refine ⟨_, rfl, ⟨_, rfl⟩, _, rfl, _, _, rfl, rfl, _, rfl, ?_⟩
          rw [starts_S]
          by_cases h2 : p.1 <+: y
          · rw [if_pos h2] at es
            rw [decide_eq_true h2]
            refine iteT ?_
            refine ⟨_, rfl, _, rfl, S p.1, rfl, len_line (by omega), ((S p.1).length : Nat), rfl, S y, rfl, len_line (by omega), ?_⟩
            rw [SX.slice_from (by omega), Int.toNat_natCast, S_len]
            exact ⟨iL, s3, y.drop p.1.length, L1, _, _, _, rfl, ⟨_, hz3, pz3⟩, by omega, by rw [List.length_drop]; omega, es⟩
          · rw [if_neg h2] at es
            rw [decide_eq_false h2]
            exact iteF (qn _ es s3)
    · obtain ⟨_, s1, y, L1, y3, y4, y5, rfl, pl, l1, hy, es⟩ := pI
      rw [lu, List.drop_length] at es
      by_cases y0 : y = []
      · subst y0
        rw [strip_nil] at es
        refine ⟨_, rfl, false, ⟨len_line (by simp), by rw [S_len]; rfl⟩, iteF ⟨_, rfl, ?_⟩⟩
        exact qs (L1 ++ []) Lf _ es s1 (by rw [List.append_nil]; exact pl)
      · have y1 := List.length_pos_iff.mpr y0
        rw [strip_emp y0] at es
        refine ⟨_, rfl, true, ⟨len_line (by omega), by rw [S_len]; symm; rw [bne_iff_ne]; omega⟩, iteT ?_⟩
        exact qn _ es s1
end
end K23

set_option Elab.async false
set_option linter.all false
set_option maxRecDepth 100000
set_option maxHeartbeats 4000000
namespace K23
open PySem PySem.Spec PyProof.Rows L2 CK SX NM
/-! ### a text whose number at an unknown is taken less -/
def backT (m j k : Nat) (ps : List Pn) : Option (List Pn) := if (lenP m ps).getD 0 0 < (lenP m ps).getD (j + 1) 0 * k then none else backL j k ps
theorem getD_tab : ∀ (f : F) (i : Nat), f.getD i 0 = (f[i]?).getD 0 := fun f i => List.getD_eq_getElem?_getD
theorem add_getD : ∀ (f g : F) (i : Nat), f.length = g.length → (addF f g).getD i 0 = f.getD i 0 + g.getD i 0
  | [], [], _, _ => by simp [addF]
  | _ :: _, [], _, h => by simp at h
  | [], _ :: _, _, h => by simp at h
  | a :: f, b :: g, 0, _ => rfl
  | a :: f, b :: g, i + 1, h => add_getD f g i (by simpa using h)
theorem times_getD (k : Nat) : ∀ (f : F) (i : Nat), (timesF k f).getD i 0 = k * f.getD i 0
  | [], i => by simp [timesF]
  | a :: f, 0 => rfl
  | a :: f, i + 1 => times_getD k f i
theorem lenQ_getD {m : Nat} (i : Nat) : ∀ (ps : List Pn) (acc : F), acc.length = m + 1 → LenF m ps → (ps.foldl (fun acc p => addF acc (timesF p.1.length p.2)) acc).getD i 0 = acc.getD i 0 + (ps.map fun p => p.1.length * p.2.getD i 0).sum
  | [], acc, _, _ => by simp
  | p :: r, acc, h, l => by
    have l0 := l p List.mem_cons_self
    have e : acc.length = (timesF p.1.length p.2).length := by rw [len_timesF, h, l0]
    rw [List.foldl_cons, lenQ_getD i r _ (by rw [len_add e, len_timesF, l0]) fun q hq => l q (List.mem_cons_of_mem _ hq), add_getD _ _ _ e, times_getD, List.map_cons, List.sum_cons]
    omega
theorem lenP_getD {m : Nat} {ps : List Pn} (l : LenF m ps) (i : Nat) : (lenP m ps).getD i 0 = (ps.map fun p => p.1.length * p.2.getD i 0).sum := by
  unfold lenP
  rw [lenQ_getD i ps _ (by simp) l]
  have : (0 :: List.replicate m 0).getD i 0 = 0 := by
    cases i with
    | zero => rfl
    | succ i =>
      show (List.replicate m 0).getD i 0 = 0
      rw [List.getD_eq_getElem?_getD, List.getElem?_replicate]
      split <;> rfl
  rw [this, Nat.zero_add]
theorem mem_sum {α : Type} (u : α → Nat) : ∀ {l : List α} {a : α}, a ∈ l → u a ≤ (l.map u).sum
  | b :: l, a, h => by
    rw [List.map_cons, List.sum_cons]
    rcases List.mem_cons.mp h with z | z
    · rw [z]; omega
    · have := mem_sum u z; omega
theorem lenP_zero {m : Nat} {ps : List Pn} (l : LenF m ps) : (lenP m ps).getD 0 0 ≤ meas ps := by
  rw [lenP_getD l]
  clear l
  unfold meas
  induction ps with
  | nil => exact Nat.le_refl _
  | cons p r ih =>
    rw [List.map_cons, List.map_cons, List.sum_cons, List.sum_cons]
    refine Nat.add_le_add ?_ ih
    unfold measP
    refine Nat.mul_le_mul_left _ ?_
    have : p.2.getD 0 0 = p.2.headD 0 := by cases p.2 <;> rfl
    omega
section
variable {P : Program} {w : World} {K : PySem.W.Frag} {mg : Str → Option Value} {base : Heap} {C : Addr}
def sp_moved (C : Addr) : Sp := fun vs H Q _ => ∃ (a : Addr) (m j k : Nat) (ps : List Pn), vs = [.ref a, .int j, .int k] ∧ OT C H a m ps ∧ j < m ∧ m ≤ 3 ∧ Nm m ps ∧ meas ps ≤ 2000 ∧ Wl m ps ∧ k < 2 ^ 100 ∧
  (∀ L x H', backT m j k ps = some L → Same H H' → OT C H' x m (normL L) → Q (.ref x) H') ∧ (∀ H', backT m j k ps = none → Same H H' → Q .non H')
theorem c_moved_back (T : Txt K mg C) : C8.Cal P w K mg base 9 "moved_back" (sp_moved C) [] := by
  refine calF T.d_moved_back sc_moved_back (fun vs H Q E h => ?_) (fun f cdv A outer s H vs Q E hr h => ?_)
  · obtain ⟨_, _, _, _, _, rfl, _⟩ := h; rfl
  · obtain ⟨a, m, j, k, ps, rfl, oa, hj, m3, nm, hme, hw, hk, qs, qn⟩ := h
    obtain ⟨l0, ⟨dx, ha⟩, ga⟩ := id oa
    have lT := len_lenP ga.len
    have bT := bf_lenP ga.len hw
    have up100 : k < 2 ^ 100 := hk
    refine ⟨_, (pss_cons (ps_set (i := 3) sc_moved_back.nd rfl (Or.inl rfl) (C8.pe_c (c_length T) hr (by decide) (by rfl) (pa_cons (pv 0) pa_nil)))
    (pss_cons (ps_if (pt_cmpR op_gt (pe_op op_mulW (pe_ix ix_tup (pv 3) (pe_op op_add (pv 1) pe_int) (fun _ _ => rfl)) (pv 2)) (pe_ix ix_tup (pv 3) pe_int (fun _ _ => rfl)) (nomark _))
    (pss_one (ps_ret pe_non))
    pss_nil)
    (pss_cons (ps_set (i := 4) sc_moved_back.nd rfl (Or.inl rfl) (pe_lst pa_nil))
    (pss_cons (ps_for PassesOwn.never rfl (pi_reversed (by rfl) T.m_reversed (pa_cons (C8.pe_mt0 (m_OpenText_pieces T) hr (by decide) (pv 0)) pa_nil)) (pg_two (K := K) (i := 5) (j := 6) rfl rfl sc_moved_back.nd rfl rfl (Or.inl rfl) (Or.inl rfl))
    (pss_cons (ps_if (pt_val (C8.pe_c (c_is_power T) hr (by decide) (by rfl) (pa_cons (pe_tup (pa_cons (pv 5) (pa_cons (pv 6) pa_nil))) pa_nil)))
    (pss_cons (ps_set (i := 4) sc_moved_back.nd rfl (Or.inl rfl) (C8.pe_c (c_without_start T) hr (by decide) (by rfl) (pa_cons (pv 4) (pa_cons (pe_op op_repM (pv 5) (pe_op op_mulW (pe_ix ix_tup (pv 6) (pe_op op_add (pv 1) pe_int) (fun _ _ => rfl)) (pv 2))) pa_nil))))
    (pss_one (ps_if (pt_cmpR op_isN (pv 4) pe_non (nomark _))
    (pss_one (ps_ret pe_non))
    pss_nil)))
    pss_nil)
    (pss_one (ps_set (i := 4) sc_moved_back.nd rfl (Or.inl rfl) (pe_op op_cat (pe_lst (pa_cons (pe_tup (pa_cons (pv 5) (pa_cons (pv 6) pa_nil))) pa_nil)) (pv 4))))))
    (pss_one (ps_ret (C8.pe_mk (n_OpenText T) hr (by decide) (by rfl) (pa_cons (C8.pe_mt0 (m_OpenText_many T) hr (by decide) (pv 0)) (pa_cons (pv 4) pa_nil))))))))), ?_⟩
    refine ⟨_, rfl, a, m, ps, rfl, oa, m3, fun p H1 s1 h1 => ?_⟩
    have h1' : H1 p = some (.tup (natsV (lenP m ps))) := h1
    have gN : ∀ {f : F} {i : Nat}, i < f.length → (natsV f)[i]? = some (.int (f.getD i 0 : Nat)) := fun {f i} hi => by
      unfold natsV
      rw [List.getElem?_map, List.getElem?_eq_getElem hi, List.getD_eq_getElem?_getD, List.getElem?_eq_getElem hi]
      rfl
    have gB : ∀ {f : F} {i : Nat}, Bf f → i < f.length → f.getD i 0 < 2 ^ 900 := fun {f i} hf hi => by
      rw [List.getD_eq_getElem?_getD, List.getElem?_eq_getElem hi]
      exact hf _ (List.getElem_mem hi)
    have cm : ∀ {f : F}, Bf f → f.length = m + 1 → CMulW (f.getD (j + 1) 0 : Nat) (k : Nat) := fun {f} hf lf => wide_mul (a := 900) (b := 100) (by have := gB hf (show j + 1 < f.length by omega); omega) (by omega) (by decide) (by decide) (by decide)
    refine ⟨_, rfl, _, rfl, _, _, rfl, rfl, p, _, _, _, rfl, rfl, .inl (.inl h1'), atI_nat (j := j + 1) (gN (by omega)), _, rfl, _, _, rfl, rfl, cm bT lT, ?_⟩
    refine ⟨_, rfl, p, _, 0, _, rfl, rfl, .inl (.inl h1'), atI_nat (j := 0) (gN (by omega)), _, _, rfl, rfl, _, rfl, ?_⟩
    have eT : decide (((lenP m ps).getD 0 0 : Nat) < (((lenP m ps).getD (j + 1) 0 : Nat) : Int) * (k : Nat)) = decide ((lenP m ps).getD 0 0 < (lenP m ps).getD (j + 1) 0 * k) := decide_eq_decide.mpr (by rw [← Int.natCast_mul]; omega)
    by_cases hs : (lenP m ps).getD 0 0 < (lenP m ps).getD (j + 1) 0 * k
    · have eB : backT m j k ps = none := by unfold backT; rw [if_pos hs]
      rw [eT, decide_eq_true hs]
      exact iteT (qn _ eB s1)
    have eB : backT m j k ps = backL j k ps := by unfold backT; rw [if_neg hs]
    rw [eT, decide_eq_false hs]
    refine iteF ?_
    -- what is taken away is not long
    have few : ∀ p ∈ ps, p.2.getD (j + 1) 0 * k * p.1.length ≤ 2000 := fun p hp => by
      have h1 := mem_sum (fun p : Pn => p.1.length * p.2.getD (j + 1) 0) hp
      rw [← lenP_getD ga.len] at h1
      have h2 := lenP_zero ga.len
      have h3 := Nat.mul_le_mul_right k h1
      have h4 : p.1.length * p.2.getD (j + 1) 0 * k = p.2.getD (j + 1) 0 * k * p.1.length := by rw [Nat.mul_comm p.1.length, Nat.mul_assoc, Nat.mul_comm p.1.length, Nat.mul_assoc]
      have h3 : p.1.length * p.2.getD (j + 1) 0 * k ≤ (lenP m ps).getD (j + 1) 0 * k := h3
      omega
    refine ⟨by show 0 ≤ sizeLine; omega, fun D0 nD0 => ?_⟩
    have sD0 := sameNew (o := .lst []) nD0
    have s2 := s1.trans sD0
    refine ⟨_, rfl, a, dx, _, rfl, s2 _ _ ha, (OF_no l0 m).1, a, m, ps, rfl, oa.same s2, fun L1 H3 s3 n3 g3 => ?_⟩
    have s13 := s2.trans s3
    have hD0 := s3 _ _ (upd_same (H := H1) (a := D0) (o := .lst []))
    generalize upd H1 D0 (.lst []) = H2 at sD0 s2 s3 n3
    clear sD0 s2 s3 n3 nD0
    obtain ⟨us, hus, pus⟩ := id g3.at_
    have lu := pus.len
    have fewp := g3.few
    refine ⟨L1, us, rfl, .inl (.inl hus), ?_⟩
    refine for_it (walk_rev (K := K) (a := L1) (xs := us)) (fun i σ H' => i ≤ ps.length ∧ Same H3 H' ∧ ∃ (D : Addr) (L : List Pn) (y5 y6 : Option V), σ = [some (.ref a), some (.int (j : Nat)), some (.int (k : Nat)), some (.ref p), some (.ref D), y5, y6] ∧ PL H' D L ∧ backL j k (ps.drop (ps.length - i)) = some L)
      ⟨Nat.zero_le _, .refl _, D0, [], none, none, rfl, ⟨[], hD0, .nil⟩, by rw [Nat.sub_zero, List.drop_length]; rfl⟩ (fun i σ H' _ p => .inl (.inl (p.2.1 _ _ hus))) (fun i xv σ H4_ H4 hi pI yy => ?_) fun σ H4 pI => ?_
    · obtain ⟨_, s4, D, L, y5, y6, rfl, plD, eL⟩ := pI
      obtain ⟨rfl, hx⟩ := yy
      obtain ⟨b, q, rfl, hpi, pc⟩ := pus.get hx
      have mem := List.mem_of_getElem? hpi
      have iL := (List.getElem?_eq_some_iff.mp hpi).1
      rw [lu] at hi hpi iL
      have eD : ps.drop (ps.length - (i + 1)) = q :: ps.drop (ps.length - i) := by
        have e1 : ps.length - (i + 1) = ps.length - 1 - i := by omega
        have e2 : ps.length - i = ps.length - 1 - i + 1 := by omega
        rw [e1, e2, ← List.getElem_cons_drop iL, (List.getElem?_eq_some_iff.mp hpi).2]
      have eB1 : backL j k (ps.drop (ps.length - (i + 1))) = if isPow q = true then (stripS L (WM.pw q.1 (q.2.getD (j + 1) 0 * k))).map (fun l => q :: l) else some (q :: L) := by
        rw [eD, back_cons, eL]
        rfl
      obtain ⟨fa, p1, p2⟩ := pc.mono (tup_same s4)
      have oq := nm.ok q mem
      have lesL := (back_les eL)
      have okL := (back_sound (m := m) (k := k) hj (fun z hz => nm.ok z (List.mem_of_mem_drop hz)) eL).1
      have lenL : L.length ≤ ps.length := Nat.le_trans lesL.length (by rw [List.length_drop]; omega)
      have wsL : Ws 50000 L := fun z hz => by
        obtain ⟨y, hy, e⟩ := lesL.mem z hz
        have := g3.ws y (List.mem_of_mem_drop hy)
        have := e.len
        omega
      -- one more ahead
      have fin : ∀ {H5 : Hp} {D5 : Addr} {L5 : List Pn}, Same H4 H5 → PL H5 D5 L5 → L5.length ≤ ps.length → backL j k (ps.drop (ps.length - (i + 1))) = some (q :: L5) → ∀ (σ5 σ6 : Option V) (t : Addr), H5 t = none → ∀ (La : Addr), upd H5 t (.tup [.str (S q.1), .ref fa]) La = none → ∀ Lb, upd (upd H5 t (.tup [.str (S q.1), .ref fa])) La (.lst [.ref t]) Lb = none → ∀ zs, H5 D5 = some (.lst zs) →
          Same H3 (upd (upd (upd H5 t (.tup [.str (S q.1), .ref fa])) La (.lst [.ref t])) Lb (.lst ([V.ref t] ++ zs))) ∧ PL (upd (upd (upd H5 t (.tup [.str (S q.1), .ref fa])) La (.lst [.ref t])) Lb (.lst ([V.ref t] ++ zs))) Lb (q :: L5) := fun {H5 D5 L5} s5 pl5 l5 e5 σ5 σ6 t nt La nLa Lb nLb zs hz => by
        have st := sameNew (o := .tup [.str (S q.1), .ref fa]) nt
        have sLa := sameNew (o := .lst [.ref t]) nLa
        have sLb := sameNew (o := .lst ([V.ref t] ++ zs)) nLb
        have sA := (st.trans sLa).trans sLb
        obtain ⟨zs', hz', pz⟩ := pl5
        rw [hz] at hz'
        cases hz'
        exact ⟨(s4.trans s5).trans sA, _, upd_same, .cons ⟨fa, sLb _ _ (sLa _ _ upd_same), sA _ _ (s5 _ _ p2)⟩ (pz.same sA)⟩
      refine ⟨b, _, rfl, .inl (.inl p1), rfl, _, _, rfl, _, _, rfl, rfl, ?_⟩
      refine ⟨_, rfl, _, rfl, by show 2 ≤ sizeLine; decide, fun t3 nt3 => ?_⟩
      have st3 := sameNew (o := .tup [.str (S q.1), .ref fa]) nt3
      refine ⟨t3, q, m, rfl, ⟨fa, upd_same, st3 _ _ p2⟩, oq.len, _, rfl, ?_⟩
      cases ep : isPow q with
      | false =>
        rw [if_neg (by rw [ep]; exact Bool.false_ne_true)] at eB1
        refine iteF ?_
        obtain ⟨zs, hz, pz⟩ := id (plD.same st3)
        have lz := pz.len
        refine ⟨_, rfl, _, rfl, by show 2 ≤ sizeLine; decide, fun t nt => ⟨by show 1 ≤ sizeLine; decide, fun La nLa => ?_⟩⟩
        have sa := (sameNew (o := .tup [.str (S q.1), .ref fa]) nt).trans (sameNew (o := .lst [.ref t]) nLa)
        refine ⟨_, rfl, La, D, _, _, rfl, rfl, upd_same, sa _ _ hz, by rw [sizeLine_eq]; simp; omega, fun Lb nLb => ?_⟩
        obtain ⟨x1, x2⟩ := fin st3 ⟨zs, hz, pz⟩ lenL eB1 none none t nt La nLa Lb nLb zs hz
        exact ⟨by omega, x1, Lb, q :: L, _, _, rfl, x2, eB1⟩
      | true =>
        rw [if_pos ep] at eB1
        refine iteT ?_
        have lq : q.2.length = m + 1 := oq.len
        have nq := List.length_pos_iff.mpr (nm.all q mem).ne
        have f1 := few q mem
        have f2 : q.2.getD (j + 1) 0 * k ≤ q.2.getD (j + 1) 0 * k * q.1.length := Nat.le_mul_of_pos_right _ nq
        have p2' : (upd H4 t3 (.tup [.str (S q.1), .ref fa])) fa = some (.tup (natsV q.2)) := st3 _ _ p2
        refine ⟨_, rfl, _, rfl, _, rfl, _, rfl, _, _, rfl, rfl, fa, _, _, _, rfl, rfl, .inl (.inl p2'), atI_nat (j := j + 1) (gN (by omega)), _, rfl, _, _, rfl, rfl, cm (g3.bf q mem) lq, q.1, q.2.getD (j + 1) 0 * k, rfl, by rw [Int.natCast_mul], by omega, by have := g3.ws q mem; omega, by omega, ?_⟩
        refine ⟨D, m, L, WM.pw q.1 (q.2.getD (j + 1) 0 * k), rfl, plD.same st3, okL, m3, wsL, by rw [WM.pw_len, Nat.mul_comm]; omega, by omega, fun L' D' H5 e5 s5 pl5 => ?_, fun H5 e5 s5 => ?_⟩
        · rw [e5] at eB1
          refine ⟨_, rfl, rfl, _, rfl, iteF ?_⟩
          have les5 := strip_les e5
          obtain ⟨zs, hz, pz⟩ := id pl5
          have lz := pz.len
          have l5 := les5.length
          refine ⟨_, rfl, _, rfl, by show 2 ≤ sizeLine; decide, fun t nt => ⟨by show 1 ≤ sizeLine; decide, fun La nLa => ?_⟩⟩
          have sa := (sameNew (o := .tup [.str (S q.1), .ref fa]) nt).trans (sameNew (o := .lst [.ref t]) nLa)
          refine ⟨_, rfl, La, D', _, _, rfl, rfl, upd_same, sa _ _ hz, by rw [sizeLine_eq]; simp; omega, fun Lb nLb => ?_⟩
          obtain ⟨x1, x2⟩ := fin (st3.trans s5) ⟨zs, hz, pz⟩ (by omega) eB1 none none t nt La nLa Lb nLb zs hz
          exact ⟨by omega, x1, Lb, q :: L', _, _, rfl, x2, eB1⟩
        · refine ⟨_, rfl, rfl, _, rfl, iteT ?_⟩
          refine qn _ ?_ (s13.trans ((s4.trans st3).trans s5))
          rw [eB]
          have key : ∀ n, n ≤ ps.length → backL j k (ps.drop n) = none → backL j k ps = none := fun n => by
            induction n with
            | zero => intro _ h; rwa [List.drop_zero] at h
            | succ n ih =>
              intro hn h
              refine ih (by omega) ?_
              rw [← List.getElem_cons_drop (show n < ps.length by omega), back_cons, h]
              rfl
          refine key (ps.length - (i + 1)) (by omega) ?_
          rw [eB1, e5]
          rfl
    · obtain ⟨_, s4, D, L, y5, y6, rfl, plD, eL⟩ := pI
      rw [lu, Nat.sub_self, List.drop_zero] at eL
      have les := back_les eL
      have okL := (back_sound (m := m) (k := k) hj nm.ok eL).1
      have sA := s13.trans s4
      refine ⟨_, rfl, a, dx, _, rfl, sA _ _ ha, (OF_no l0 m).2, a, m, ps, rfl, oa.same sA, _, rfl, ?_⟩
      refine fun x dx nx ndx nex => mk_text nx ndx nex ⟨plD, okL.lenF, fun z hz => ?_, fun z hz => ?_, fun z hz => ?_, ?_⟩ m3 (Nat.le_trans les.meas hme) (Nat.lt_of_le_of_lt (les.wr _) hw) fun r H5 s5 nr ot => ⟨rfl, ?_⟩
      · obtain ⟨y, hy, e⟩ := les.mem z hz
        exact Nat.le_trans e.len (g3.ws y hy)
      · obtain ⟨y, hy, e⟩ := les.mem z hz
        exact fun c hc => g3.low y hy c (e.sub c hc)
      · obtain ⟨y, hy, e⟩ := les.mem z hz
        rw [e.form]
        exact g3.bf y hy
      · exact Nat.le_trans les.length fewp
      · exact qs L x H5 (by rw [eB, eL]) (sA.trans s5) ⟨r, ot⟩
def sp_earlier (C : Addr) : Sp := fun vs H Q _ => ∃ (a : Addr) (m j : Nat) (ps : List Pn), vs = [.ref a, .int j] ∧ OT C H a m ps ∧ j < m ∧ m ≤ 3 ∧ Nm m ps ∧ meas ps ≤ 2000 ∧ Wl m ps ∧
  (∀ L x H', backT m j 1 ps = some L → Same H H' → OT C H' x m (normL L) → Q (.ref x) H') ∧ (∀ H', backT m j 1 ps = none → Same H H' → Q .non H')
theorem c_earlier (T : Txt K mg C) : C8.Cal P w K mg base 10 "earlier" (sp_earlier C) [] := by
  refine calF T.d_earlier sc_earlier (fun vs H Q E h => ?_) (fun f cdv A outer s H vs Q E hr h => ?_)
  · obtain ⟨_, _, _, _, rfl, _⟩ := h; rfl
  · obtain ⟨a, m, j, ps, rfl, oa, hj, m3, nm, hme, hw, qs, qn⟩ := h
    refine ⟨_, (pss_cons (ps_expr (C8.pe_c (c_need_unknown T) hr (by decide) (by rfl) (pa_cons (pv 0) (pa_cons (pv 1) pa_nil))))
    (pss_one (ps_ret (C8.pe_c (c_moved_back T) hr (by decide) (by rfl) (pa_cons (pv 0) (pa_cons (pv 1) (pa_cons pe_int pa_nil))))))), ?_⟩
    exact ⟨_, rfl, _, rfl, a, m, j, ps, rfl, oa, hj, _, rfl, _, rfl, a, m, j, 1, ps, rfl, oa, hj, m3, nm, hme, hw, by decide, qs, qn⟩
end
end K23

set_option Elab.async false
set_option linter.all false
set_option maxRecDepth 100000
set_option maxHeartbeats 8000000
namespace K23
open PySem PySem.Spec PyProof.Rows L2 CK SX NM
/-! ### pieces at a later point -/
def latP (j k : Nat) (ps : List Pn) : List Pn := ps.map fun p => (p.1, (p.2.getD 0 0 + k * p.2.getD (j + 1) 0) :: p.2.tail)
theorem lenF_lat {m j k : Nat} {ps : List Pn} (h : LenF m ps) : LenF m (latP j k ps) := fun p hp => by
  obtain ⟨q, hq, rfl⟩ := List.mem_map.mp hp
  have := h q hq
  simp only [List.length_cons, List.length_tail]
  omega
theorem wr_lat {m j k : Nat} (hj : j < m) {pt : List Nat} (hp : pt.length = m) : ∀ {ps : List Pn}, LenF m ps → NM.wr pt (latP j k ps) = NM.wr (onP j k pt) ps
  | [], _ => rfl
  | p :: r, h => by
    have ih := wr_lat (k := k) hj hp (ps := r) fun q hq => h q (List.mem_cons_of_mem _ hq)
    have l := h p List.mem_cons_self
    unfold latP at ih ⊢
    rw [List.map_cons, NM.wr, NM.wr, ih]
    congr 1
    unfold wrt
    rw [val_on l hp hj]
    congr 1
    unfold valF
    have e : p.2.getD 0 0 = p.2.headD 0 := by cases p.2 <;> rfl
    show p.2.getD 0 0 + k * p.2.getD (j + 1) 0 + dot p.2.tail pt = p.2.headD 0 + dot p.2.tail pt + p.2.getD (j + 1) 0 * k
    rw [e, Nat.mul_comm k]
    omega
theorem on_later {m j k : Nat} {pt : List Nat} (hp : pt.length = m) (hj : j < m) : (laterG j k m).map (fun g => valF g pt) = onP j k pt := val_laterG hp hj
/-- what `later` writes -/
theorem wr_laterG {m j k : Nat} (hj : j < m) {pt : List Nat} (hp : pt.length = m) (ps : List Pn) : NM.wr pt (K23.repl m (laterG j k m) ps) = NM.wr (onP j k pt) ps := by
  rw [wr_repl len_laterG, on_later hp hj]
theorem lenF_later {m j k : Nat} (ps : List Pn) : LenF m (K23.repl m (laterG j k m) ps) := fun p hp => by
  obtain ⟨q, _, rfl⟩ := List.mem_map.mp hp
  exact len_insF len_laterG
/-- a text of lists, moved on -/
theorem mk_later {C x : Addr} {H : Hp} {m j k : Nat} {ps : List Pn} {R : Addr → Hp → Prop} (ox : OT C H x m (normL ps)) (hj : j < m) (m3 : m ≤ 3) (hk : k < 2 ^ 100) (lF : LenF m ps) (hm : (NM.wr (onP j k (List.replicate m 0)) ps).length + meas ps ≤ 2000) (hw : (NM.wr (onP j k (List.replicate m 1)) ps).length ≤ 1000000)
    (q : ∀ u H', Same H H' → OT C H' u m (normL (latP j k ps)) → R u H') : OT C H x m (normL ps) ∧ j < m ∧ m ≤ 3 ∧ k < 2 ^ 100 ∧ (∀ p ∈ normL ps, Bf (insF m p.2 (laterG j k m))) ∧ meas (K23.repl m (laterG j k m) (normL ps)) ≤ 2000 ∧ Wl m (K23.repl m (laterG j k m) (normL ps)) ∧ ∀ u H', Same H H' → OT C H' u m (normL (K23.repl m (laterG j k m) (normL ps))) → R u H' := by
  have nm := nm_normL lF
  have r0 : (List.replicate m 0).length = m := by simp
  have r1 : (List.replicate m 1).length = m := by simp
  refine ⟨ox, hj, m3, hk, bf_ins (c := 0) lF len_laterG (by rw [on_later r1 hj]; exact hw), ?_, ?_, fun u H' s ou => q u H' s ?_⟩
  · have a := meas_repl (m := m) (gs := laterG j k m) len_laterG (normL ps)
    have e : (laterG j k m).map (fun g => g.headD 0) = onP j k (List.replicate m 0) := by
      rw [← on_later r0 hj]
      exact List.map_congr_left fun g _ => (val_zero g m).symm
    rw [e, wr_normL lF, ← tot_meas nm.all] at a
    have b := meas_normL lF
    omega
  · unfold Wl
    rw [wr_laterG hj r1, wr_normL lF]
    exact small900 hw
  · rw [norm_same (lenF_lat lF) (lenF_later _) fun pt hp => by rw [wr_lat hj hp lF, wr_laterG hj hp, wr_normL lF]]
    exact ou
/-- what can be moved back is found, and is what it is -/
theorem backT_some {m j k : Nat} {T M : List Pn} (hj : j < m) (nT : Nm m T) (lM : LenF m M) (h : ∀ pt, pt.length = m → NM.wr (onP j k pt) M = NM.wr pt T) : ∃ L, backT m j k T = some L ∧ normL L = normL M := by
  obtain ⟨L, hL, _⟩ := back_complete hj nT lM h
  obtain ⟨oL, wL⟩ := back_sound hj nT.ok hL
  have en := same_on (k := k) hj oL.lenF lM fun pt hp => by rw [wL pt hp, h pt hp]
  refine ⟨L, ?_, en⟩
  unfold backT
  rw [if_neg ?_, hL]
  -- lengths
  have l1 := len_lenP (nT.lenF)
  have l2 := len_lenP lM
  have key : ∀ pt, pt.length = m → valF (lenP m M) pt + (lenP m M).getD (j + 1) 0 * k = valF (lenP m T) pt := fun pt hp => by
    rw [← val_on l2 hp hj, val_lenP lM, val_lenP nT.lenF, h pt hp]
  have r0 : (List.replicate m 0).length = m := by simp
  have hd : ∀ f : F, f.headD 0 = f.getD 0 0 := fun f => by cases f <;> rfl
  have k0 := key _ r0
  rw [val_zero, val_zero, hd, hd] at k0
  have k1 := key (onP j 1 (List.replicate m 0)) (by rw [onP_len]; exact r0)
  rw [val_on l2 r0 hj, val_on l1 r0 hj, val_zero, val_zero, hd, hd] at k1
  have e : (lenP m M).getD (j + 1) 0 = (lenP m T).getD (j + 1) 0 := by omega
  rw [e] at k0
  omega
theorem backT_sound {m j k : Nat} {T L : List Pn} (hj : j < m) (nT : Nm m T) (h : backT m j k T = some L) : OkL m L ∧ Les L T ∧ (∀ pt, pt.length = m → NM.wr (onP j k pt) L = NM.wr pt T) ∧ (lenP m T).getD (j + 1) 0 * k ≤ (lenP m T).getD 0 0 := by
  unfold backT at h
  split at h
  · cases h
  · next hs =>
    obtain ⟨a, b⟩ := back_sound hj nT.ok h
    exact ⟨a, back_les h, b, by omega⟩
theorem tnext_eq (D : Ends) (σ : L2.St) (H : Hp) : tNext D σ H = D.nx σ H := rfl
section
variable {P : Program} {w : World} {K : PySem.W.Frag} {mg : Str → Option Value} {base : Heap} {C : Addr}
end
end K23

set_option Elab.async false
set_option linter.all false
set_option maxRecDepth 100000
set_option maxHeartbeats 8000000
namespace K23
open PySem PySem.Spec PyProof.Rows L2 CK SX NM
/-! ### numbers of one unknown, multiplied and parted -/
def onM (j k : Nat) (pt : List Nat) : List Nat := pt.set j (k * pt.getD j 0)
theorem onM_len (j k : Nat) (pt : List Nat) : (onM j k pt).length = pt.length := List.length_set
def mulF (j k : Nat) (f : F) : F := f.set (j + 1) (k * f.getD (j + 1) 0)
def divF (j k : Nat) (f : F) : F := f.set (j + 1) (f.getD (j + 1) 0 / k)
def mulP (j k : Nat) (ps : List Pn) : List Pn := ps.map fun p => (p.1, mulF j k p.2)
def divP (j k : Nat) (ps : List Pn) : List Pn := ps.map fun p => (p.1, divF j k p.2)
/-- all numbers are multiples -/
def Dvd (j k : Nat) (ps : List Pn) : Prop := ∀ p ∈ ps, p.2.getD (j + 1) 0 % k = 0
theorem dot_mul (k : Nat) : ∀ (f pt : List Nat) (j : Nat), f.length = pt.length → dot (f.set j (k * f.getD j 0)) pt = dot f (onM j k pt)
  | [], pt, j, h => by
    cases pt with
    | nil => rfl
    | cons b pt => simp at h
  | a :: f, [], _, h => by simp at h
  | a :: f, b :: pt, 0, h => by
    show k * a * b + dot f pt = a * (k * b) + dot f pt
    rw [Nat.mul_comm k a, Nat.mul_assoc]
  | a :: f, b :: pt, j + 1, h => by
    have := dot_mul k f pt j (by simpa using h)
    unfold onM at this ⊢
    show a * b + dot (f.set j (k * f.getD j 0)) pt = a * b + dot f (pt.set j (k * pt.getD j 0))
    rw [this]
theorem val_mul {f : F} {pt : List Nat} {m j k : Nat} (hf : f.length = m + 1) (hp : pt.length = m) : valF (mulF j k f) pt = valF f (onM j k pt) := by
  cases f with
  | nil => simp at hf
  | cons a f =>
    have := dot_mul k f pt j (by simp at hf; omega)
    unfold valF mulF
    show a + dot (f.set j (k * f.getD j 0)) pt = a + dot f (onM j k pt)
    rw [this]
theorem len_mulF (j k : Nat) (f : F) : (mulF j k f).length = f.length := List.length_set
theorem len_divF (j k : Nat) (f : F) : (divF j k f).length = f.length := List.length_set
theorem lenF_mul {m j k : Nat} {ps : List Pn} (h : LenF m ps) : LenF m (mulP j k ps) := fun p hp => by
  obtain ⟨q, hq, rfl⟩ := List.mem_map.mp hp
  rw [len_mulF]
  exact h q hq
theorem lenF_div {m j k : Nat} {ps : List Pn} (h : LenF m ps) : LenF m (divP j k ps) := fun p hp => by
  obtain ⟨q, hq, rfl⟩ := List.mem_map.mp hp
  rw [len_divF]
  exact h q hq
theorem wr_mul {m j k : Nat} {pt : List Nat} (hp : pt.length = m) : ∀ {ps : List Pn}, LenF m ps → NM.wr pt (mulP j k ps) = NM.wr (onM j k pt) ps
  | [], _ => rfl
  | p :: r, h => by
    have ih := wr_mul (j := j) (k := k) hp (ps := r) fun q hq => h q (List.mem_cons_of_mem _ hq)
    unfold mulP at ih ⊢
    rw [List.map_cons, NM.wr, NM.wr, ih]
    congr 1
    unfold wrt
    rw [val_mul (h p List.mem_cons_self) hp]
theorem getD_set_self {f : List Nat} {i x : Nat} (h : i < f.length) : (f.set i x).getD i 0 = x := by
  rw [List.getD_eq_getElem?_getD, List.getElem?_set_self h]
  rfl
theorem set_self {f : List Nat} {i : Nat} (h : i < f.length) : f.set i (f.getD i 0) = f := by
  rw [List.getD_eq_getElem?_getD, List.getElem?_eq_getElem h]
  exact List.set_getElem_self h
theorem mul_div {j k : Nat} {f : F} (h : j + 1 < f.length) (hk : 1 ≤ k) : divF j k (mulF j k f) = f := by
  unfold divF mulF
  rw [getD_set_self h, List.set_set, Nat.mul_div_cancel_left _ hk]
  exact set_self h
theorem div_mul {j k : Nat} {f : F} (h : j + 1 < f.length) (hk : f.getD (j + 1) 0 % k = 0) : mulF j k (divF j k f) = f := by
  unfold divF mulF
  rw [getD_set_self h, List.set_set, Nat.mul_div_cancel' (Nat.dvd_of_mod_eq_zero hk)]
  exact set_self h
theorem mul_divP {m j k : Nat} {ps : List Pn} (h : LenF m ps) (hj : j < m) (hk : 1 ≤ k) : divP j k (mulP j k ps) = ps := by
  unfold divP mulP
  rw [List.map_map]
  conv => rhs; rw [← List.map_id ps]
  refine List.map_congr_left fun p hp => ?_
  have := h p hp
  show (p.1, divF j k (mulF j k p.2)) = p
  rw [mul_div (by omega) hk]
theorem div_mulP {m j k : Nat} {ps : List Pn} (h : LenF m ps) (hj : j < m) (hk : Dvd j k ps) : mulP j k (divP j k ps) = ps := by
  unfold divP mulP
  rw [List.map_map]
  conv => rhs; rw [← List.map_id ps]
  refine List.map_congr_left fun p hp => ?_
  have := h p hp
  show (p.1, mulF j k (divF j k p.2)) = p
  rw [div_mul (by omega) (hk p hp)]
theorem dvd_mul {m j k : Nat} {ps : List Pn} (h : LenF m ps) (hj : j < m) : Dvd j k (mulP j k ps) := fun p hp => by
  obtain ⟨q, hq, rfl⟩ := List.mem_map.mp hp
  have := h q hq
  show (mulF j k q.2).getD (j + 1) 0 % k = 0
  unfold mulF
  rw [getD_set_self (by omega)]
  exact Nat.mul_mod_right _ _
theorem isPow_mul (j k : Nat) (p : Pn) : isPow (p.1, mulF j k p.2) = isPow p := by
  unfold isPow mulF
  show decide ((p.2.set (j + 1) _).headD 0 = 0) = decide (p.2.headD 0 = 0)
  cases p.2 <;> rfl
theorem tail_mulF (j k : Nat) (f : F) : (mulF j k f).tail = f.tail.set j (k * f.getD (j + 1) 0) := by
  unfold mulF
  cases f <;> rfl
theorem isOpen_mul {j k : Nat} {f : F} (hk : 1 ≤ k) (h : isOpen f = true) : isOpen (mulF j k f) = true := by
  obtain ⟨x, hx, x0⟩ := isOpen_iff.mp h
  refine isOpen_iff.mpr ?_
  rw [tail_mulF]
  obtain ⟨i, hi, e⟩ := List.mem_iff_getElem.mp hx
  by_cases z : i = j
  · subst z
    have e2 : f.getD (i + 1) 0 = x := by
      rw [List.getD_eq_getElem?_getD]
      have : f[i + 1]? = some x := by
        rw [← List.getElem?_tail, List.getElem?_eq_getElem hi, e]
      rw [this]
      rfl
    refine ⟨k * x, ?_, by have := Nat.mul_le_mul_right x hk; omega⟩
    rw [e2]
    exact List.mem_iff_getElem.mpr ⟨i, by simpa using hi, by simp⟩
  · exact ⟨x, List.mem_iff_getElem.mpr ⟨i, by simpa using hi, by rw [List.getElem_set_ne (Ne.symm z)]; exact e⟩, x0⟩
theorem mul_one1 (m j k : Nat) : mulF j k (one1 m) = one1 m := by
  have e : (one1 m).getD (j + 1) 0 = 0 := by
    unfold one1
    show (List.replicate m 0).getD j 0 = 0
    rw [List.getD_eq_getElem?_getD, List.getElem?_replicate]
    split <;> rfl
  unfold mulF
  rw [e, Nat.mul_zero]
  by_cases h : j + 1 < (one1 m).length
  · have := set_self h
    rw [e] at this
    exact this
  · exact List.set_eq_of_length_le (by omega)
theorem nm_mul {m j k : Nat} {ps : List Pn} (hk : 1 ≤ k) (h : Nm m ps) : Nm m (mulP j k ps) := by
  refine ⟨fun p hp => ?_, fun i p q hp hq => ?_⟩
  · obtain ⟨q, hq, rfl⟩ := List.mem_map.mp hp
    have n := h.all q hq
    refine ⟨n.ne, by rw [len_mulF]; exact n.len, fun e => ?_, fun e => ?_⟩
    · rw [isPow_mul] at e
      show mulF j k q.2 = _
      rw [n.fix e, mul_one1]
    · rw [isPow_mul] at e
      exact ⟨(n.pow e).1, isOpen_mul hk (n.pow e).2⟩
  · unfold mulP at hp hq
    rw [List.getElem?_map] at hp hq
    cases ea : ps[i]? with
    | none => rw [ea] at hp; cases hp
    | some a =>
      cases eb : ps[i + 1]? with
      | none => rw [eb] at hq; cases hq
      | some b =>
        rw [ea] at hp
        rw [eb] at hq
        cases hp
        cases hq
        have ad := h.adj i a b ea eb
        refine ⟨fun e => ?_, fun e f => ?_⟩
        · rw [isPow_mul] at e
          rw [isPow_mul]
          exact ad.fix e
        · rw [isPow_mul] at e f
          exact ad.pow e f
theorem normL_mul {m j k : Nat} {ps : List Pn} (hk : 1 ≤ k) (h : LenF m ps) : normL (mulP j k ps) = mulP j k (normL ps) := by
  rw [← normL_id (nm_mul (j := j) hk (nm_normL h))]
  refine norm_same (lenF_mul h) (lenF_mul (nm_normL h).lenF) fun pt hp => ?_
  rw [wr_mul hp h, wr_mul hp (nm_normL h).lenF, wr_normL h]
theorem lat_mul {m j k : Nat} {ps : List Pn} (hj : j < m) (h : LenF m ps) : latP j 1 (mulP j k ps) = mulP j k (latP j k ps) := by
  unfold latP mulP
  rw [List.map_map, List.map_map]
  refine List.map_congr_left fun p hp => ?_
  have l := h p hp
  obtain ⟨w, f⟩ := p
  cases f with
  | nil => simp at l
  | cons a f =>
    have l : f.length = m := by simpa using l
    have e : (f.set j (k * f.getD j 0)).getD j 0 = k * f.getD j 0 := getD_set_self (by omega)
    show (w, (a + 1 * (f.set j (k * f.getD j 0)).getD j 0) :: f.set j (k * f.getD j 0)) = (w, (a + k * f.getD j 0) :: f.set j (k * f.getD j 0))
    rw [e, Nat.one_mul]
/-- the forms that multiply -/
def unitsM (m j k : Nat) : List F := (List.range m).map fun i => 0 :: (List.range m).map fun l => if l = i then (if l = j then k else 1) else 0
theorem len_unitsM {m j k : Nat} : ∀ g ∈ unitsM m j k, g.length = m + 1 := fun g hg => by
  obtain ⟨i, _, rfl⟩ := List.mem_map.mp hg
  simp
theorem dot_unit (c i : Nat) (pt : List Nat) : ∀ (n s : Nat), pt.length = n → dot ((List.range' s n).map fun l => if l = i then c else 0) pt = if s ≤ i then c * pt.getD (i - s) 0 else 0 := by
  induction pt with
  | nil =>
    intro n s h
    subst h
    simp [dot]
  | cons b pt ih =>
    intro n s h
    cases n with
    | zero => simp at h
    | succ n =>
      rw [List.range'_succ, List.map_cons]
      show (if s = i then c else 0) * b + dot _ pt = _
      rw [ih n (s + 1) (by simpa using h)]
      by_cases e : s = i
      · subst e
        rw [if_pos rfl, if_neg (by omega), if_pos (Nat.le_refl _), Nat.sub_self]
        rfl
      · rw [if_neg e]
        by_cases l : s ≤ i
        · rw [if_pos (by omega), if_pos l]
          have : i - s = (i - (s + 1)) + 1 := by omega
          rw [this]
          simp
        · rw [if_neg (by omega), if_neg l]
          simp
theorem val_units {m j k : Nat} {pt : List Nat} (hp : pt.length = m) : (unitsM m j k).map (fun g => valF g pt) = onM j k pt := by
  unfold unitsM onM
  rw [List.map_map]
  refine List.ext_getElem (by simp [hp]) fun i h1 h2 => ?_
  have hi : i < pt.length := by simpa using h2
  have key : ∀ i, (fun l => if l = i then (if l = j then k else 1) else 0) = fun l => if l = i then (if i = j then k else 1) else 0 := fun i => funext fun l => by
    by_cases e : l = i
    · rw [if_pos e, if_pos e, e]
    · rw [if_neg e, if_neg e]
  rw [List.getElem_map, List.getElem_range]
  show valF (0 :: (List.range m).map fun l => if l = i then (if l = j then k else 1) else 0) pt = _
  unfold valF
  show 0 + dot ((List.range m).map fun l => if l = i then (if l = j then k else 1) else 0) pt = _
  rw [key i, List.range_eq_range', dot_unit _ i pt m 0 hp, if_pos (Nat.zero_le _), Nat.sub_zero, List.getElem_set]
  have eg : pt.getD i 0 = pt[i] := by rw [List.getD_eq_getElem?_getD, List.getElem?_eq_getElem hi]; rfl
  by_cases e : i = j
  · subst e
    rw [if_pos rfl, if_pos rfl]
    omega
  · rw [if_neg e, if_neg (Ne.symm e), eg]
    omega
theorem wr_units {m j k : Nat} {pt : List Nat} (hp : pt.length = m) (ps : List Pn) : NM.wr pt (K23.repl m (unitsM m j k) ps) = NM.wr (onM j k pt) ps := by
  rw [wr_repl len_unitsM, val_units hp]
/-! ### how far a text goes back -/
def Bk (m j k : Nat) (T : List Pn) : Prop := ∃ M, LenF m M ∧ ∀ pt, pt.length = m → NM.wr (onP j k pt) M = NM.wr pt T
theorem on_on {j a b : Nat} {pt : List Nat} (hj : j < pt.length) : onP j a (onP j b pt) = onP j (a + b) pt := by
  unfold onP
  rw [List.set_set]
  congr 1
  rw [List.getD_eq_getElem?_getD, List.getD_eq_getElem?_getD, List.getElem?_set_self hj, List.getElem?_eq_getElem hj]
  show pt[j] + b + a = pt[j] + (a + b)
  omega
theorem bk_iff {m j k : Nat} {T : List Pn} (hj : j < m) (nT : Nm m T) : (∃ L, backT m j k T = some L) ↔ Bk m j k T :=
  ⟨fun ⟨L, h⟩ => ⟨L, (backT_sound hj nT h).1.lenF, (backT_sound hj nT h).2.2.1⟩, fun ⟨M, lM, h⟩ => (backT_some hj nT lM h).elim fun L h => ⟨L, h.1⟩⟩
theorem Bk.less {m j k k' : Nat} {T : List Pn} (hj : j < m) (h : Bk m j k T) (l : k' ≤ k) : Bk m j k' T := by
  obtain ⟨M, lM, h⟩ := h
  refine ⟨latP j (k - k') M, lenF_lat lM, fun pt hp => ?_⟩
  rw [wr_lat hj (by rw [onP_len]; exact hp) lM, on_on (by omega), show k - k' + k' = k by omega, h pt hp]
theorem Bk.len {m j k : Nat} {T : List Pn} (hj : j < m) (nT : Nm m T) (h : Bk m j k T) : (lenP m T).getD (j + 1) 0 * k ≤ (lenP m T).getD 0 0 := by
  obtain ⟨L, h⟩ := (bk_iff hj nT).mpr h
  exact (backT_sound hj nT h).2.2.2
theorem onP_zero {j : Nat} {pt : List Nat} (h : j < pt.length) : onP j 0 pt = pt := by
  unfold onP
  rw [Nat.add_zero]
  exact set_self h
theorem Bk.zero {m j : Nat} {T : List Pn} (hj : j < m) (nT : Nm m T) : Bk m j 0 T := ⟨T, nT.lenF, fun pt hp => by rw [onP_zero (by omega)]⟩
/-- a text, and the same moved on: how far they go back -/
theorem bk_later {m j k b : Nat} {T T' : List Pn} (hj : j < m) (lT : LenF m T) (h : ∀ pt, pt.length = m → NM.wr pt T' = NM.wr (onP j b pt) T) : Bk m j (k + b) T' ↔ Bk m j k T := by
  constructor
  · rintro ⟨M, lM, hM⟩
    refine ⟨M, lM, fun pt hp => ?_⟩
    have key : normL (latP j k M) = normL T := same_on (k := b) hj (lenF_lat lM) lT fun pt hp => by
      rw [wr_lat hj (by rw [onP_len]; exact hp) lM, on_on (by omega), hM pt hp, h pt hp]
    rw [← wr_lat hj hp lM, ← wr_normL (lenF_lat lM), key, wr_normL lT]
  · rintro ⟨M, lM, hM⟩
    refine ⟨M, lM, fun pt hp => ?_⟩
    have hp' : (onP j b pt).length = m := by rw [onP_len]; exact hp
    rw [← on_on (by omega), hM _ hp', h pt hp]
end K23

set_option Elab.async false
set_option linter.all false
set_option maxRecDepth 100000
set_option maxHeartbeats 8000000
namespace K23
open PySem PySem.Spec PyProof.Rows L2 CK SX NM
theorem dot_div (k : Nat) : ∀ (f pt : List Nat) (j : Nat), dot (f.set j (f.getD j 0 / k)) pt ≤ dot f pt
  | [], _, _ => Nat.le_refl _
  | a :: f, [], 0 => Nat.le_refl _
  | a :: f, [], j + 1 => Nat.le_refl _
  | a :: f, b :: pt, 0 => by
    show a / k * b + dot f pt ≤ a * b + dot f pt
    exact Nat.add_le_add_right (Nat.mul_le_mul_right b (Nat.div_le_self a k)) _
  | a :: f, b :: pt, j + 1 => by
    have := dot_div k f pt j
    show a * b + dot (f.set j (f.getD j 0 / k)) pt ≤ a * b + dot f pt
    omega
theorem val_div (j k : Nat) (f : F) (pt : List Nat) : valF (divF j k f) pt ≤ valF f pt := by
  cases f with
  | nil => exact Nat.le_refl _
  | cons a f => exact Nat.add_le_add_left (dot_div k f pt j) a
theorem wr_div (j k : Nat) (pt : List Nat) : ∀ ps : List Pn, (NM.wr pt (divP j k ps)).length ≤ (NM.wr pt ps).length
  | [] => Nat.le_refl _
  | p :: r => by
    have ih := wr_div j k pt r
    unfold divP at ih ⊢
    rw [List.map_cons, NM.wr, NM.wr, List.length_append, List.length_append]
    refine Nat.add_le_add ?_ ih
    have e : ∀ q : Pn, (wrt pt q).length = q.1.length * valF q.2 pt := fun q => WM.pw_len _ _
    rw [e, e]
    exact Nat.mul_le_mul_left _ (val_div j k p.2 pt)
theorem meas_div (j k : Nat) : ∀ ps : List Pn, meas (divP j k ps) ≤ meas ps
  | [] => Nat.le_refl _
  | p :: r => by
    have ih := meas_div j k r
    unfold divP meas at ih ⊢
    rw [List.map_cons, List.map_cons, List.map_cons, List.sum_cons, List.sum_cons]
    refine Nat.add_le_add ?_ ih
    unfold measP
    refine Nat.mul_le_mul_left _ ?_
    have eh : (divF j k p.2).headD 0 = p.2.headD 0 := by unfold divF; cases p.2 <;> rfl
    show (divF j k p.2).headD 0 + (if isOpen (divF j k p.2) = true then 1 else 0) ≤ p.2.headD 0 + (if isOpen p.2 = true then 1 else 0)
    rw [eh]
    refine Nat.add_le_add_left ?_ _
    by_cases o : isOpen (divF j k p.2) = true
    · obtain ⟨x, hx, x0⟩ := isOpen_iff.mp o
      have : isOpen p.2 = true := by
        have et : (divF j k p.2).tail = p.2.tail.set j (p.2.getD (j + 1) 0 / k) := by unfold divF; cases p.2 <;> rfl
        rw [et] at hx
        obtain ⟨i, hi, e⟩ := List.mem_iff_getElem.mp hx
        have hi' : i < p.2.tail.length := by simpa using hi
        by_cases z : j = i
        · subst z
          rw [List.getElem_set_self] at e
          refine isOpen_iff.mpr ⟨p.2.tail[j], List.getElem_mem _, fun z => x0 ?_⟩
          have eg : p.2.getD (j + 1) 0 = p.2.tail[j] := by
            rw [List.getD_eq_getElem?_getD, ← List.getElem?_tail, List.getElem?_eq_getElem hi']
            rfl
          rw [← e, eg, z, Nat.zero_div]
        · rw [List.getElem_set_ne z] at e
          exact isOpen_iff.mpr ⟨x, by rw [← e]; exact List.getElem_mem _, x0⟩
      rw [if_pos o, if_pos this]
      exact Nat.le_refl _
    · rw [if_neg o]
      exact Nat.zero_le _
theorem bf_div {j k : Nat} {f : F} (h : Bf f) : Bf (divF j k f) := fun n hn => by
  rcases List.mem_or_eq_of_mem_set hn with z | z
  · exact h n z
  · by_cases l : j + 1 < f.length
    · have := h (f.getD (j + 1) 0) (by rw [List.getD_eq_getElem?_getD, List.getElem?_eq_getElem l]; exact List.getElem_mem _)
      rw [z]
      exact Nat.lt_of_le_of_lt (Nat.div_le_self _ _) this
    · have : f.getD (j + 1) 0 = 0 := by rw [List.getD_eq_getElem?_getD, List.getElem?_eq_none (by omega)]; rfl
      rw [z, this, Nat.zero_div]
      exact Nat.pow_pos (by decide)
section
variable {P : Program} {w : World} {K : PySem.W.Frag} {mg : Str → Option Value} {base : Heap} {C : Addr}
def sp_need_positive : Sp := fun vs H Q _ => ∃ (n : Nat), vs = [.int n] ∧ 1 ≤ n ∧ Q .non H
theorem c_need_positive (T : Txt K mg C) : C8.Cal P w K mg base 4 "need_positive" sp_need_positive [] := by
  refine calF T.d_need_positive sc_need_positive (fun vs H Q E h => ?_) (fun f cdv A outer s H vs Q E hr h => ?_)
  · obtain ⟨_, rfl, _⟩ := h; rfl
  · obtain ⟨n, rfl, hn, q⟩ := h
    refine ⟨_, (pss_cons (ps_expr (C8.pe_c (c_need_count T) hr (by decide) (by rfl) (pa_cons (pv 0) pa_nil)))
    (pss_one (ps_if (pt_cmpR op_eq (pv 0) pe_int (nomark _))
    (pss_one ps_never)
    pss_nil))), ?_⟩
    refine ⟨_, rfl, n, rfl, _, rfl, rfl, _, rfl, ?_⟩
    rw [decide_eq_false (show ¬ V.int (n : Nat) = V.int 0 from fun e => by have := V.int.inj e; omega)]
    exact iteF q
def sp_thinned (C : Addr) : Sp := fun vs H Q _ => ∃ (a : Addr) (m j k : Nat) (ps : List Pn), vs = [.ref a, .int j, .int k] ∧ OT C H a m ps ∧ j < m ∧ m ≤ 3 ∧ LenF m ps ∧ meas ps ≤ 2000 ∧ Wl m ps ∧ 1 ≤ k ∧ k < 2 ^ 100 ∧
  (∀ x H', Dvd j k ps → Same H H' → OT C H' x m (normL (divP j k ps)) → Q (.ref x) H') ∧ (∀ H', ¬ Dvd j k ps → Same H H' → Q .non H')
theorem c_thinned (T : Txt K mg C) : C8.Cal P w K mg base 9 "thinned" (sp_thinned C) [] := by
  refine calF T.d_thinned sc_thinned (fun vs H Q E h => ?_) (fun f cdv A outer s H vs Q E hr h => ?_)
  · obtain ⟨_, _, _, _, _, rfl, _⟩ := h; rfl
  · obtain ⟨a, m, j, k, ps, rfl, oa, hj, m3, lF, hme, hw, hk, k100, qs, qn⟩ := h
    obtain ⟨l0, ⟨dx, ha⟩, ga⟩ := id oa
    refine ⟨_, (pss_cons (ps_expr (C8.pe_c (c_need_unknown T) hr (by decide) (by rfl) (pa_cons (pv 0) (pa_cons (pv 1) pa_nil))))
    (pss_cons (ps_expr (C8.pe_c (c_need_positive T) hr (by decide) (by rfl) (pa_cons (pv 2) pa_nil)))
    (pss_cons (ps_set (i := 3) sc_thinned.nd rfl (Or.inl rfl) (pe_lst pa_nil))
    (pss_cons (ps_for PassesOwn.never rfl (pi_list (C8.pe_mt0 (m_OpenText_pieces T) hr (by decide) (pv 0))) (pg_two (K := K) (i := 4) (j := 5) rfl rfl sc_thinned.nd rfl rfl (Or.inl rfl) (Or.inl rfl))
    (pss_cons (ps_if (pt_truth (pe_op op_modN (pe_ix ix_tup (pv 5) (pe_op op_add (pv 1) pe_int) (fun _ _ => rfl)) (pv 2)) (by intro _; rfl))
    (pss_one (ps_ret pe_non))
    pss_nil)
    (pss_one (ps_expr (pe_bm PySem.F.plainAttrs_list PySem.F.slot_list_append PySem.F.type_list_append mt_append (pv 3) (pa_cons (pe_tup (pa_cons (pv 4) (pa_cons (pe_op op_catS (pe_op op_catS (pe_slice sl_take (pv 5) po_none (po_some (pe_op op_add (pv 1) pe_int))) (pe_tup (pa_cons (pe_op op_fdivW (pe_ix ix_tup (pv 5) (pe_op op_add (pv 1) pe_int) (fun _ _ => rfl)) (pv 2)) pa_nil))) (pe_slice sl_drop (pv 5) (po_some (pe_op op_add (pv 1) pe_int)) po_none)) pa_nil))) pa_nil))))))
    (pss_one (ps_ret (C8.pe_mk (n_OpenText T) hr (by decide) (by rfl) (pa_cons (C8.pe_mt0 (m_OpenText_many T) hr (by decide) (pv 0)) (pa_cons (pv 3) pa_nil))))))))), ?_⟩
    refine ⟨_, rfl, _, rfl, a, m, j, ps, rfl, oa, hj, _, rfl, k, rfl, hk, by show 0 ≤ sizeLine; omega, fun D nD => ?_⟩
    have sD := sameNew (o := .lst []) nD
    refine ⟨_, rfl, a, dx, _, rfl, sD _ _ ha, (OF_no l0 m).1, a, m, ps, rfl, oa.same sD, fun L1 H1 s1 n1 g1 => ?_⟩
    obtain ⟨us, hus, pus⟩ := id g1.at_
    have lu := pus.len
    have few := g1.few
    have LD : L1 ≠ D := fun z => by rw [z, upd_same] at n1; cases n1
    refine ⟨L1, rfl, ⟨_, .inl (.inl hus)⟩, for_list (K := K) (a := L1) (xs := us) (fun i σ H' => Same H H' ∧ H' L1 = some (.lst us) ∧ Pcs H' us ps ∧ Dvd j k (ps.take i) ∧ ∃ (y4 y5 : Option V), σ = [some (.ref a), some (.int (j : Nat)), some (.int (k : Nat)), some (.ref D), y4, y5] ∧ PL H' D (divP j k (ps.take i)))
      ⟨sD.trans s1, hus, pus, fun p hp => absurd hp List.not_mem_nil, none, none, rfl, [], s1 _ _ upd_same, .nil⟩ (fun i σ H' _ p => .inl (.inl p.2.1)) (fun i y σ H' hi pI => ?_) (fun σ H' pI => ?_)⟩
    · obtain ⟨s3, hus, pus, dv, y4, y5, rfl, vs, hvs, pvs⟩ := pI
      obtain ⟨b, p, rfl, hpi, pc⟩ := pus.get hi
      have mem := List.mem_of_getElem? hpi
      have lp := g1.len p mem
      have bp := g1.bf p mem
      obtain ⟨fa, e1, e2⟩ := pc
      have e2' : H' fa = some (.tup (natsV p.2)) := e2
      refine ⟨b, _, rfl, .inl (.inl e1), rfl, _, _, rfl, _, _, rfl, rfl, ?_⟩
      have eg : (natsV p.2)[j + 1]? = some (.int (p.2.getD (j + 1) 0 : Nat)) := by
        unfold natsV
        rw [List.getElem?_map, List.getD_eq_getElem?_getD, List.getElem?_eq_getElem (by omega)]
        rfl
      have ek : ((((p.2.getD (j + 1) 0 : Nat) : Int).fmod (k : Int)) != 0) = decide (p.2.getD (j + 1) 0 % k ≠ 0) := by
        rw [Int.fmod_eq_emod_of_nonneg _ (by omega), show ((p.2.getD (j + 1) 0 : Nat) : Int) % (k : Int) = ((p.2.getD (j + 1) 0 % k : Nat) : Int) from rfl]
        generalize p.2.getD (j + 1) 0 % k = z
        cases z with
        | zero => rfl
        | succ z => rfl
      refine ⟨_, rfl, _, rfl, _, _, rfl, rfl, fa, _, _, _, rfl, rfl, .inl (.inl e2'), atI_nat (j := j + 1) eg, _, rfl, _, _, rfl, rfl, by show (k : Int) ≠ 0; omega, _, ek.symm, ?_⟩
      by_cases dz : p.2.getD (j + 1) 0 % k = 0
      · rw [decide_eq_false (fun h => h dz)]
        refine iteF ?_
        rw [tnext_eq]
        refine ⟨_, rfl, .inl ⟨rfl, _, .inl (.inl hvs)⟩, _, rfl, _, rfl, _, rfl, _, _, rfl, rfl, (j : Int) + 1, rfl, fa, _, j + 1, rfl, rfl, rfl, e2', fun p1 H1 s1 h1 => ?_⟩
        have ln : (natsV p.2).length = m + 1 := by rw [natsV_len', lp]
        refine ⟨_, rfl, _, rfl, _, _, rfl, rfl, fa, _, _, _, rfl, rfl, .inl (.inl (s1 _ _ e2')), atI_nat (j := j + 1) eg, _, rfl, _, _, rfl, rfl, wide_div (b := 100) (by omega) (by rw [Int.natAbs_natCast]; exact k100) (by decide) (by decide), by show 1 ≤ sizeLine; decide, fun t1 nt1 => ?_⟩
        have st1 := sameNew (o := .tup [V.int (((p.2.getD (j + 1) 0 : Nat) : Int) / (k : Int))]) nt1
        refine ⟨p1, t1, _, _, rfl, rfl, st1 _ _ h1, upd_same, by rw [List.length_take]; simp; omega, fun p2 H2 s2 h2 => ?_⟩
        have sA := (s1.trans st1).trans s2
        refine ⟨_, rfl, _, rfl, _, _, rfl, rfl, (j : Int) + 2, rfl, fa, _, j + 2, rfl, rfl, rfl, sA _ _ e2', fun p3 H3 s4 h3 => ?_⟩
        refine ⟨p2, p3, _, _, rfl, rfl, s4 _ _ h2, h3, by rw [List.length_append, List.length_take, List.length_drop]; simp; omega, fun p4 H4 s5 h4 => ⟨by show 2 ≤ sizeLine; decide, fun t nt => ?_⟩⟩
        have sB := (sA.trans s4).trans s5
        have st := sameNew (o := .tup [.str (S p.1), .ref p4]) nt
        have sC := sB.trans st
        have hf4 : FT H4 p4 (divF j k p.2) := by
          show H4 p4 = some (.tup (natsV (divF j k p.2)))
          rw [h4]
          congr 2
          unfold divF
          rw [List.set_eq_take_append_cons_drop, if_pos (by omega), natsV_app', natsV_take]
          show _ = natsV (p.2.take (j + 1)) ++ V.int ((p.2.getD (j + 1) 0 / k : Nat) : Int) :: natsV (p.2.drop (j + 1 + 1))
          rw [natsV_drop, List.append_assoc]
          rfl
        have hv := sC _ _ hvs
        have lv := pvs.len
        refine ⟨D, vs, _, rfl, rfl, hv, by rw [lv, sizeLine_eq]; unfold divP; rw [List.length_map, List.length_take]; omega, ?_⟩
        have eT : divP j k (ps.take (i + 1)) = divP j k (ps.take i) ++ [(p.1, divF j k p.2)] := by
          unfold divP
          rw [List.take_succ, hpi, List.map_append]
          rfl
        refine ⟨same_upd2 nD (s3.trans sC), by rw [upd_ne LD]; exact sC _ _ hus, (pus.same sC).upd hv, fun z hz => ?_, _, _, rfl, _, upd_same, ?_⟩
        · rw [List.take_succ, hpi] at hz
          rcases List.mem_append.mp hz with z1 | z1
          · exact dv z z1
          · rw [List.mem_singleton.mp z1]
            exact dz
        · rw [eT]
          exact ((pvs.same sC).upd hv).app (.one ⟨p4, tup_upd hv _ _ upd_same, tup_upd hv _ _ (st _ _ hf4)⟩)
      · rw [decide_eq_true dz]
        refine iteT ?_
        exact qn _ (fun h => dz (h p mem)) s3
    · obtain ⟨s3, hus, pus, dv, y4, y5, rfl, vs, hvs, pvs⟩ := pI
      rw [lu, List.take_length] at dv
      rw [lu, List.take_length] at pvs
      refine ⟨_, rfl, a, dx, _, rfl, s3 _ _ ha, (OF_no l0 m).2, a, m, ps, rfl, oa.same s3, _, rfl, fun x dx' nx ndx nex => ?_⟩
      exact mk_text nx ndx nex ⟨⟨_, hvs, pvs⟩, lenF_div lF, fun z hz => (by obtain ⟨q, hq, rfl⟩ := List.mem_map.mp hz; exact g1.ws q hq), fun z hz => (by obtain ⟨q, hq, rfl⟩ := List.mem_map.mp hz; exact g1.low q hq), fun z hz => (by obtain ⟨q, hq, rfl⟩ := List.mem_map.mp hz; exact bf_div (g1.bf q hq)), (by unfold divP; rw [List.length_map]; exact few)⟩ m3 (Nat.le_trans (meas_div j k ps) hme) (Nat.lt_of_le_of_lt (wr_div j k _ ps) hw) fun r H5 s5 nr ot => ⟨rfl, qs x H5 dv (s3.trans s5) ⟨r, ot⟩⟩
end
end K23

set_option Elab.async false
set_option linter.all false
set_option maxRecDepth 100000
set_option maxHeartbeats 8000000
namespace K23
open PySem PySem.Spec PyProof.Rows L2 CK SX NM
/-- the first text, and how many steps it stands back -/
structure Fst (m j : Nat) (ps X : List Pn) (k : Nat) : Prop where
  nm : Nm m X
  wr : ∀ pt, pt.length = m → NM.wr (onP j k pt) X = NM.wr pt ps
  me : meas X ≤ meas ps
  le : ∀ pt, (NM.wr pt X).length ≤ (NM.wr pt ps).length
  few : k ≤ meas ps
  zero : (lenP m ps).getD (j + 1) 0 = 0 → k = 0
  most : (lenP m ps).getD (j + 1) 0 ≠ 0 → ∀ k', Bk m j k' ps → k' ≤ k
theorem fst_of {m j k : Nat} {ps L : List Pn} (hj : j < m) (nm : Nm m ps) (e : backT m j k ps = some L) (n0 : (lenP m ps).getD (j + 1) 0 ≠ 0) (most : ∀ k', Bk m j k' ps → k' ≤ k) : Fst m j ps (normL L) k := by
  obtain ⟨ok, les, wl, len⟩ := backT_sound hj nm e
  refine ⟨nm_normL ok.lenF, fun pt hp => by rw [wr_normL ok.lenF]; exact wl pt hp, Nat.le_trans (meas_normL ok.lenF) les.meas, fun pt => by rw [wr_normL ok.lenF]; exact les.wr pt, ?_, fun z => absurd z n0, fun _ => most⟩
  have a := lenP_zero nm.lenF
  have b := Nat.mul_le_mul_right k (Nat.pos_of_ne_zero n0)
  omega
theorem lenP_wr {m i : Nat} : ∀ {ps : List Pn}, LenF m ps → (ps.map fun p => p.1.length * p.2.getD i 0).sum ≤ (NM.wr (List.replicate m 1) ps).length
  | [], _ => Nat.le_refl _
  | p :: r, h => by
    have ih := lenP_wr (i := i) (ps := r) fun q hq => h q (List.mem_cons_of_mem _ hq)
    have l := h p List.mem_cons_self
    rw [List.map_cons, List.sum_cons, NM.wr, List.length_append]
    have e : (wrt (List.replicate m 1) p).length = p.1.length * valF p.2 (List.replicate m 1) := WM.pw_len _ _
    rw [e, val_ones l]
    refine Nat.add_le_add (Nat.mul_le_mul_left _ ?_) ih
    have key : ∀ (f : List Nat) (i : Nat), f.getD i 0 ≤ f.sum := fun f => by
      induction f with
      | nil => intro i; simp
      | cons a f ih =>
        intro i
        rw [List.sum_cons]
        cases i with
        | zero => exact Nat.le_add_right _ _
        | succ i => exact Nat.le_trans (ih i) (Nat.le_add_left _ _)
    exact key _ _
section
variable {P : Program} {w : World} {K : PySem.W.Frag} {mg : Str → Option Value} {base : Heap} {C : Addr}
def sp_first (C : Addr) : Sp := fun vs H Q _ => ∃ (a : Addr) (m j : Nat) (ps : List Pn), vs = [.ref a, .int j] ∧ OT C H a m ps ∧ j < m ∧ m ≤ 3 ∧ Nm m ps ∧ meas ps ≤ 2000 ∧ Wl m ps ∧
  ∀ x t X k H', Same H H' → OT C H' x m X → H' t = some (.tup [.ref x, .int (k : Nat)]) → Fst m j ps X k → Q (.ref t) H'
theorem c_first (T : Txt K mg C) : C8.Cal P w K mg base 10 "first" (sp_first C) [] := by
  refine calF T.d_first sc_first (fun vs H Q E h => ?_) (fun f cdv A outer s H vs Q E hr h => ?_)
  · obtain ⟨_, _, _, _, rfl, _⟩ := h; rfl
  · obtain ⟨a, m, j, ps, rfl, oa, hj, m3, nm, hme, hw, q⟩ := h
    have lT := len_lenP nm.lenF
    have gN : ∀ {f : F} {i : Nat}, i < f.length → (natsV f)[i]? = some (.int (f.getD i 0 : Nat)) := fun {f i} hi => by
      unfold natsV
      rw [List.getElem?_map, List.getElem?_eq_getElem hi, List.getD_eq_getElem?_getD, List.getElem?_eq_getElem hi]
      rfl
    have lz := lenP_zero nm.lenF
    refine ⟨_, (pss_cons (ps_expr (C8.pe_c (c_need_unknown T) hr (by decide) (by rfl) (pa_cons (pv 0) (pa_cons (pv 1) pa_nil))))
    (pss_cons (ps_set (i := 2) sc_first.nd rfl (Or.inl rfl) (C8.pe_c (c_length T) hr (by decide) (by rfl) (pa_cons (pv 0) pa_nil)))
    (pss_cons (ps_if (pt_not (pt_truth (pe_ix ix_tup (pv 2) (pe_op op_add (pv 1) pe_int) (fun _ _ => rfl)) (by intro _; rfl)))
    (pss_one (ps_ret (pe_tup (pa_cons (pv 0) (pa_cons pe_int pa_nil)))))
    pss_nil)
    (pss_cons (ps_par (i := 3) (j := 4) (by rfl) sc_first.nd rfl rfl (by decide) rfl rfl (pa_cons pe_int (pa_cons (pe_op op_fdivW (pe_ix ix_tup (pv 2) pe_int (fun _ _ => rfl)) (pe_ix ix_tup (pv 2) (pe_op op_add (pv 1) pe_int) (fun _ _ => rfl))) pa_nil)) (by rfl))
    (pss_cons (ps_while PassesOwn.never (pt_cmpR op_lt (pv 3) (pv 4) (nomark _))
    (pss_cons (ps_set (i := 5) sc_first.nd rfl (Or.inl rfl) (pe_op op_fdivW (pe_op op_add (pe_op op_add (pv 3) (pv 4)) pe_int) pe_int))
    (pss_one (ps_if (pt_cmpR op_isN (C8.pe_c (c_moved_back T) hr (by decide) (by rfl) (pa_cons (pv 0) (pa_cons (pv 1) (pa_cons (pv 5) pa_nil)))) pe_non (nomark _))
    (pss_one (ps_set (i := 4) sc_first.nd rfl (Or.inl rfl) (pe_op op_sub (pv 5) pe_int)))
    (pss_one (ps_set (i := 3) sc_first.nd rfl (Or.inl rfl) (pv 5)))))))
    (pss_one (ps_ret (pe_tup (pa_cons (C8.pe_c (c_moved_back T) hr (by decide) (by rfl) (pa_cons (pv 0) (pa_cons (pv 1) (pa_cons (pv 3) pa_nil)))) (pa_cons (pv 3) pa_nil)))))))))), ?_⟩
    refine ⟨_, rfl, _, rfl, a, m, j, ps, rfl, oa, hj, _, rfl, a, m, _, rfl, oa, m3, fun p1 H1 s1 h1 => ?_⟩
    have h1' : H1 p1 = some (.tup (natsV (lenP m ps))) := h1
    have ek : ∀ z : Nat, (((z : Int)) != 0) = decide (z ≠ 0) := fun z => by cases z <;> rfl
    refine ⟨_, rfl, _, rfl, _, _, rfl, rfl, p1, _, _, _, rfl, rfl, .inl (.inl h1'), atI_nat (j := j + 1) (gN (by omega)), _, (ek _).symm, ?_⟩
    by_cases n0 : (lenP m ps).getD (j + 1) 0 = 0
    · rw [decide_eq_false (fun h => h n0)]
      refine iteT ?_
      refine ⟨_, rfl, by show 2 ≤ sizeLine; decide, fun t nt => ?_⟩
      have st := sameNew (o := .tup [.ref a, .int 0]) nt
      exact q a t ps 0 _ (s1.trans st) (oa.same (s1.trans st)) upd_same ⟨nm, fun pt hp => by rw [onP_zero (by omega)], Nat.le_refl _, fun _ => Nat.le_refl _, Nat.zero_le _, fun _ => rfl, fun z => absurd n0 z⟩
    · rw [decide_eq_true n0]
      refine iteF ?_
      obtain ⟨a0, hA⟩ : ∃ a0, (lenP m ps).getD 0 0 = a0 := ⟨_, rfl⟩
      obtain ⟨b0, hB⟩ : ∃ b0, (lenP m ps).getD (j + 1) 0 = b0 := ⟨_, rfl⟩
      have g0 : (natsV (lenP m ps))[0]? = some (.int (a0 : Nat)) := by rw [← hA]; exact gN (by omega)
      have g1 : (natsV (lenP m ps))[j + 1]? = some (.int (b0 : Nat)) := by rw [← hB]; exact gN (by omega)
      have nb : b0 ≠ 0 := by rw [← hB]; exact n0
      have bnd : ∀ k, Bk m j k ps → k ≤ a0 / b0 := fun k hk => by
        have := hk.len hj nm
        rw [hA, hB] at this
        exact (Nat.le_div_iff_mul_le (by omega)).mpr (by rw [Nat.mul_comm]; exact this)
      have hi2 : a0 / b0 ≤ 2000 := Nat.le_trans (Nat.div_le_self _ _) (by omega)
      have cd : CDivW (a0 : Int) (b0 : Int) := by
        refine wide_div (b := 900) (by omega) ?_ (by decide) (by decide)
        rw [Int.natAbs_natCast, ← hB, lenP_getD nm.lenF]
        exact Nat.lt_of_le_of_lt (lenP_wr nm.lenF) hw
      rw [tnext_eq]
      refine ⟨_, rfl, p1, _, 0, _, rfl, rfl, .inl (.inl h1'), atI_nat (j := 0) g0, _, rfl, _, rfl, _, _, rfl, rfl, p1, _, _, _, rfl, rfl, .inl (.inl h1'), atI_nat (j := j + 1) g1, _, _, rfl, rfl, cd, _, _, rfl, ?_⟩
      refine while_by (fun σ H' => Same H H' ∧ ∃ (lo hi : Nat) (zl zh : Int) (y : Option V), σ = [some (.ref a), some (.int (j : Nat)), some (.ref p1), some (.int zl), some (.int zh), y] ∧ zl = lo ∧ zh = hi ∧ lo ≤ hi ∧ hi ≤ a0 / b0 ∧ Bk m j lo ps ∧ ∀ k, Bk m j k ps → k ≤ hi)
        (fun σ _ => match σ with | [_, _, _, some (.int zl), some (.int zh), _] => (zh - zl).toNat | _ => 0) ?_ (fun σ H' p => ?_) ?_
      · exact ⟨s1, 0, a0 / b0, _, _, none, rfl, rfl, rfl, Nat.zero_le _, Nat.le_refl _, .zero hj nm, bnd⟩
      · obtain ⟨s2, lo, hh, zl, zh, y, rfl, rfl, rfl, hle, hlt, h1, h2⟩ := p
        refine ⟨_, rfl, _, rfl, _, _, rfl, rfl, _, rfl, ite2 (fun c => ?_) (fun c => ?_)⟩
        · have c' : lo < hh := by
            have := of_decide_eq_true c
            omega
          have cd2 : CDivW (((lo : Nat) : Int) + ((hh : Nat) : Int) + 1) 2 := ⟨by decide, by decide⟩
          have e2 : (((lo : Nat) : Int) + ((hh : Nat) : Int) + 1) / 2 = (((lo + hh + 1) / 2 : Nat) : Int) := by omega
          have m1 : lo < (lo + hh + 1) / 2 := by omega
          have m2 : (lo + hh + 1) / 2 ≤ hh := by omega
          refine ⟨_, rfl, _, rfl, _, _, rfl, rfl, _, _, rfl, rfl, _, _, rfl, rfl, cd2, ?_⟩
          dsimp only
          rw [e2]
          generalize (lo + hh + 1) / 2 = md at m1 m2
          refine ⟨_, rfl, _, rfl, _, rfl, a, m, j, md, ps, rfl, oa.same s2, hj, m3, nm, hme, hw, Nat.lt_of_le_of_lt (show md ≤ 2000 by omega) (Nat.lt_of_lt_of_le (by decide : 2000 < 2 ^ 20) (Nat.pow_le_pow_right (by decide) (by decide))), fun L x H4 eL s4 ox => ⟨rfl, _, rfl, iteF ?_⟩, fun H4 eN s4 => ⟨rfl, _, rfl, iteT ?_⟩⟩
          · refine ⟨_, rfl, ⟨s2.trans s4, md, hh, _, _, _, rfl, rfl, rfl, m2, hlt, (bk_iff hj nm).mp ⟨L, eL⟩, h2⟩, ?_⟩
            show ((hh : Int) - (md : Int)).toNat < ((hh : Int) - (lo : Int)).toNat
            omega
          · refine ⟨_, rfl, _, _, rfl, rfl, ⟨s2.trans s4, lo, md - 1, _, _, _, rfl, rfl, by omega, by omega, by omega, h1, fun k hk => ?_⟩, ?_⟩
            · by_cases z : k < md
              · omega
              · exfalso
                obtain ⟨L, eL⟩ := (bk_iff hj nm).mpr (hk.less hj (show md ≤ k by omega))
                rw [eN] at eL
                cases eL
            · show (((md : Int) - 1) - (lo : Int)).toNat < ((hh : Int) - (lo : Int)).toNat
              omega
        · have c' : lo = hh := by
            have : ¬ (lo : Int) < hh := fun z => c (decide_eq_true z)
            omega
          subst c'
          obtain ⟨L, eL⟩ := (bk_iff hj nm).mpr h1
          have F := fst_of hj nm eL n0 h2
          refine ⟨_, rfl, _, rfl, _, rfl, a, m, j, lo, ps, rfl, oa.same s2, hj, m3, nm, hme, hw, Nat.lt_of_le_of_lt (show lo ≤ 2000 by omega) (Nat.lt_of_lt_of_le (by decide : 2000 < 2 ^ 20) (Nat.pow_le_pow_right (by decide) (by decide))), fun L' x H4 eL' s4 ox => ⟨_, rfl, by show 2 ≤ sizeLine; decide, fun t nt => ?_⟩, fun H4 eN s4 => (by rw [eL] at eN; cases eN)⟩
          rw [eL] at eL'
          cases eL'
          have st := sameNew (o := .tup [.ref x, .int (lo : Nat)]) nt
          exact q x t _ lo _ ((s2.trans s4).trans st) (ox.same st) upd_same F
      · intro σ H' Q1 Q2 hq h
        obtain ⟨a, ha, b, hb, x, y, e1, e2, k, e3, h⟩ := h
        exact ⟨a, ha, b, hb, x, y, e1, e2, k, e3, hq _ _ h⟩
end
end K23

set_option Elab.async false
set_option linter.all false
set_option maxRecDepth 100000
set_option maxHeartbeats 8000000
namespace K23
open PySem PySem.Spec PyProof.Rows L2 CK SX NM
/-! ### firsts -/
theorem len_on {m j k : Nat} {pt : List Nat} (hp : pt.length = m) (hj : j < m) : ∀ {ps : List Pn}, LenF m ps → (NM.wr (onP j k pt) ps).length = (NM.wr pt ps).length + (ps.map fun p => p.1.length * p.2.getD (j + 1) 0).sum * k
  | [], _ => by simp [NM.wr]
  | p :: r, h => by
    have ih := len_on (k := k) hp hj (ps := r) fun q hq => h q (List.mem_cons_of_mem _ hq)
    have e : ∀ q : List Nat, (wrt q p).length = p.1.length * valF p.2 q := fun q => WM.pw_len _ _
    rw [NM.wr, NM.wr, List.length_append, List.length_append, ih, e, e, val_on (h p List.mem_cons_self) hp hj, List.map_cons, List.sum_cons, Nat.mul_add, Nat.add_mul, Nat.mul_assoc]
    omega
theorem tot_on {m j : Nat} {T T' : List Pn} {k b : Nat} (hj : j < m) (lT : LenF m T) (lT' : LenF m T') (h : ∀ pt, pt.length = m → NM.wr (onP j k pt) T = NM.wr (onP j b pt) T') : (lenP m T).getD (j + 1) 0 = (lenP m T').getD (j + 1) 0 := by
  rw [lenP_getD lT, lenP_getD lT']
  have p0 : (List.replicate m 0).length = m := by simp
  have p1 : (onP j 1 (List.replicate m 0)).length = m := by rw [onP_len]; exact p0
  have a := congrArg List.length (h _ p0)
  have b' := congrArg List.length (h _ p1)
  rw [len_on p0 hj lT, len_on p0 hj lT'] at a
  rw [len_on p1 hj lT, len_on p1 hj lT', len_on p0 hj lT, len_on p0 hj lT'] at b'
  omega
theorem on_zero {m j k : Nat} {pt : List Nat} (hp : pt.length = m) (hj : j < m) : ∀ {T : List Pn}, LenF m T → (∀ p ∈ T, p.1 ≠ []) → (T.map fun p => p.1.length * p.2.getD (j + 1) 0).sum = 0 → NM.wr (onP j k pt) T = NM.wr pt T
  | [], _, _, _ => rfl
  | p :: r, l, n, h => by
    rw [List.map_cons, List.sum_cons] at h
    have ih := on_zero (k := k) hp hj (T := r) (fun q hq => l q (List.mem_cons_of_mem _ hq)) (fun q hq => n q (List.mem_cons_of_mem _ hq)) (by omega)
    have w1 := List.length_pos_iff.mpr (n p List.mem_cons_self)
    have z : p.2.getD (j + 1) 0 = 0 := by
      rcases Nat.mul_eq_zero.mp (show p.1.length * p.2.getD (j + 1) 0 = 0 by omega) with y | y
      · omega
      · exact y
    rw [NM.wr, NM.wr, ih]
    congr 1
    unfold wrt
    rw [val_on (l p List.mem_cons_self) hp hj, z, Nat.zero_mul, Nat.add_zero]
theorem Fst.bk {m j k : Nat} {T X : List Pn} (h : Fst m j T X k) : Bk m j k T := ⟨X, h.nm.lenF, h.wr⟩
theorem Fst.uniq {m j k l : Nat} {T X Y : List Pn} (hj : j < m) (h : Fst m j T X k) (g : Fst m j T Y l) : X = Y ∧ k = l := by
  have e : k = l := by
    by_cases z : (lenP m T).getD (j + 1) 0 = 0
    · rw [h.zero z, g.zero z]
    · exact Nat.le_antisymm (g.most z _ h.bk) (h.most z _ g.bk)
  subst e
  refine ⟨?_, rfl⟩
  have := same_on (k := k) hj h.nm.lenF g.nm.lenF fun pt hp => by rw [h.wr pt hp, g.wr pt hp]
  rw [normL_id h.nm, normL_id g.nm] at this
  exact this
theorem Bk.step {m j k l : Nat} {X T : List Pn} (hj : j < m) (h : Bk m j k X) (g : ∀ pt, pt.length = m → NM.wr (onP j l pt) X = NM.wr pt T) : Bk m j (k + l) T := by
  obtain ⟨M, lM, hM⟩ := h
  refine ⟨M, lM, fun pt hp => ?_⟩
  rw [← on_on (by omega), hM _ (by rw [onP_len]; exact hp), g pt hp]
/-- it can't go back any more -/
theorem Fst.last {m j k l : Nat} {T X : List Pn} (hj : j < m) (h : Fst m j T X l) (n0 : (lenP m T).getD (j + 1) 0 ≠ 0) (b : Bk m j k X) : k = 0 := by
  have := h.most n0 _ (b.step hj h.wr)
  omega
theorem Fst.later {m j k l b : Nat} {T T' X Y : List Pn} (hj : j < m) (lT : LenF m T) (lT' : LenF m T') (e : ∀ pt, pt.length = m → NM.wr pt T' = NM.wr (onP j b pt) T) (h : Fst m j T X k) (g : Fst m j T' Y l) (n0 : (lenP m T).getD (j + 1) 0 ≠ 0) : X = Y ∧ k + b = l := by
  have n0' : (lenP m T').getD (j + 1) 0 ≠ 0 := by
    rw [tot_on (k := 0) (b := b) hj lT' lT fun pt hp => by rw [onP_zero (by omega)]; exact e pt hp]
    exact n0
  have a := g.most n0' _ ((bk_later hj lT e).mpr h.bk)
  have c : l = k + b := by
    have hb : b ≤ l := by omega
    have g2 := g.bk
    rw [show l = (l - b) + b by omega] at g2
    have := h.most n0 _ ((bk_later hj lT e).mp g2)
    omega
  subst c
  refine ⟨?_, rfl⟩
  have := same_on (k := k + b) hj h.nm.lenF g.nm.lenF fun pt hp => by
    rw [g.wr pt hp, e pt hp, ← on_on (by omega), h.wr _ (by rw [onP_len]; exact hp)]
  rw [normL_id h.nm, normL_id g.nm] at this
  exact this
theorem meas_lat {m j b : Nat} (hj : j < m) : ∀ {ps : List Pn}, LenF m ps → meas (latP j b ps) ≤ (NM.wr (onP j b (List.replicate m 0)) ps).length + meas ps
  | [], _ => Nat.zero_le _
  | p :: r, h => by
    have ih := meas_lat (b := b) hj (ps := r) fun q hq => h q (List.mem_cons_of_mem _ hq)
    have l := h p List.mem_cons_self
    have p0 : (List.replicate m 0).length = m := by simp
    unfold latP meas at ih ⊢
    rw [List.map_cons, List.map_cons, List.map_cons, List.sum_cons, List.sum_cons, NM.wr, List.length_append]
    have e : (wrt (onP j b (List.replicate m 0)) p).length = p.1.length * (p.2.headD 0 + p.2.getD (j + 1) 0 * b) := by
      have : (wrt (onP j b (List.replicate m 0)) p).length = p.1.length * valF p.2 (onP j b (List.replicate m 0)) := WM.pw_len _ _
      rw [this, val_on l p0 hj, val_zero]
    have key : measP (p.1, (p.2.getD 0 0 + b * p.2.getD (j + 1) 0) :: p.2.tail) ≤ (wrt (onP j b (List.replicate m 0)) p).length + measP p := by
      rw [e]
      unfold measP
      have eh : p.2.getD 0 0 = p.2.headD 0 := by cases p.2 <;> rfl
      have eo : isOpen ((p.2.getD 0 0 + b * p.2.getD (j + 1) 0) :: p.2.tail) = isOpen p.2 := by unfold isOpen; rfl
      show p.1.length * ((p.2.getD 0 0 + b * p.2.getD (j + 1) 0) + (if isOpen ((p.2.getD 0 0 + b * p.2.getD (j + 1) 0) :: p.2.tail) = true then 1 else 0)) ≤ _
      rw [eo, eh, Nat.mul_comm b, Nat.mul_add, Nat.mul_add, Nat.mul_add]
      omega
    omega
/-- the two are equal by their own == -/
def RT (C : Addr) : Addr → Addr → Hp → Prop := fun a b H => ∃ m ps, OT C H a m ps ∧ OT C H b m ps
theorem rt_mono {C : Addr} : ∀ a b H H', Ext H H' → RT C a b H → RT C a b H' := fun a b H H' e ⟨m, ps, h, g⟩ => ⟨m, ps, h.same e, g.same e⟩
theorem rt_sp {C : Addr} : ∀ vs H Q E, spEq (RT C) vs H Q E → sp_eq C vs H Q E := fun vs H Q E ⟨a, b, hv, ⟨m, ps, h, g⟩, q⟩ => ⟨a, b, m, m, ps, ps, hv, h, g, by rw [decide_eq_true rfl, decide_eq_true rfl]; exact q H (fun _ _ e => e)⟩
theorem prs_two {C x y : Addr} {H : Hp} {m k : Nat} {ps : List Pn} (h : OT C H x m ps) (g : OT C H y m ps) : Prs (DPart C (RT C)) [V.ref x, V.int (k : Nat)] [V.ref y, V.int (k : Nat)] H := by
  obtain ⟨d1, f1, e1⟩ := h.at'
  obtain ⟨d2, f2, e2⟩ := g.at'
  refine .cons (.inl ⟨x, y, d1, d2, f1, f2, rfl, rfl, e1, e2, m, ps, h, g⟩) (.cons (.inr ⟨rfl, rfl, ?_⟩) .nil)
  show decide _ = true
  exact decide_eq_true rfl
theorem sum_nats : ∀ f : List Nat, (f.map fun n : Nat => ((n : Nat) : Int)).sum = ((f.sum : Nat) : Int)
  | [] => rfl
  | x :: f => by
    rw [List.map_cons, List.sum_cons, List.sum_cons, sum_nats f]
    omega
section
variable {P : Program} {w : World} {K : PySem.W.Frag} {mg : Str → Option Value} {base : Heap} {C : Addr}
def sp_law_units : Sp := fun vs H Q _ => ∃ (m j k : Nat), vs = [.int m, .int j, .int k] ∧ m ≤ 3 ∧ k < 2 ^ 20 ∧ ∀ l H', Same H H' → FL H' l (unitsM m j k) → Q (.ref l) H'
theorem c_law_units (T : Txt K mg C) : C8.Cal P w K mg base 1 "_law_units" sp_law_units [] := by
  refine calF T.d_law_units sc_law_units (fun vs H Q E h => ?_) (fun f cdv A outer s H vs Q E hr h => ?_)
  · obtain ⟨_, _, _, rfl, _⟩ := h; rfl
  · obtain ⟨m, j, k, rfl, m3, hk, q⟩ := h
    refine ⟨_, (pss_cons (ps_set (i := 3) sc_law_units.nd rfl (Or.inl rfl) (pe_lst pa_nil))
    (pss_cons (ps_for PassesOwn.never rfl (pi_range1 (by rfl) T.m_range (pa_cons (pv 0) pa_nil)) (pg_name (i := 4) sc_law_units.nd rfl (Or.inr rfl))
    (pss_one (ps_expr (pe_bm PySem.F.plainAttrs_list PySem.F.slot_list_append PySem.F.type_list_append mt_append (pv 3) (pa_cons (pe_callTy call_tupL (by rfl) T.m_tuple (by decide +kernel) (pa_cons (pe_op op_cat (pe_lst (pa_cons pe_int pa_nil)) (pe_lc (own := [("_law_place", 5)]) (by rfl) sc_law_units.nd (pi_range1 (by rfl) T.m_range (pa_cons (pv 0) pa_nil)) (blkOk_by (N := ["_law_many", "_law_at", "_law_by", "_law_found", "_law_other", "_law_place"]) (sc := C8.fnScope (topS 86)) (own := [("_law_place", 5)]) (by decide +kernel)) (fun _ _ _ _ _ => (pg_name (i := 5) sc_law_units.nd rfl (Or.inl rfl))) (fun _ _ _ _ _ => pts_nil) (fun _ _ _ _ _ => (pe_op op_mulW (pe_callTy call_int1 (by rfl) T.m_int (by decide +kernel) (pa_cons (pe_cmpR op_eq (pv 5) (pv 4) (nomark _)) pa_nil)) (pe_ifExp (pt_cmpR op_eq (pv 5) (pv 1) (nomark _)) (pv 2) pe_int))))) pa_nil)) pa_nil)))))
    (pss_one (ps_ret (pv 3))))), ?_⟩
    refine ⟨by show 0 ≤ sizeLine; omega, fun D nD => ?_⟩
    have sD := sameNew (o := .lst []) nD
    refine ⟨_, rfl, (m : Int), rfl, by omega, by omega, ?_⟩
    refine for_it walk_range (fun i σ H' => i ≤ m ∧ Same H H' ∧ ∃ (vs : List V) (y4 y5 : Option V), σ = [some (.int (m : Nat)), some (.int (j : Nat)), some (.int (k : Nat)), some (.ref D), y4, y5] ∧ H' D = some (.lst vs) ∧ Fs H' vs ((List.range i).map fun i => 0 :: (List.range m).map fun l => if l = i then (if l = j then k else 1) else 0))
      ⟨Nat.zero_le _, sD, [], none, none, rfl, upd_same, .nil⟩ (fun _ _ _ _ _ => True.intro) (fun i x σ H1 H2 hi pI yy => ?_) fun σ H1 pI => ?_
    · obtain ⟨_, s1, vs, y4, y5, rfl, hvs, pvs⟩ := pI
      obtain ⟨rfl, rfl⟩ := yy
      have hi' : i < m := by omega
      have lv := pvs.len
      rw [List.length_map, List.length_range] at lv
      refine ⟨_, rfl, .inl ⟨rfl, _, .inl (.inl hvs)⟩, by show 1 ≤ sizeLine; decide, fun l1 n1 => ?_⟩
      have st1 := sameNew (o := .lst [V.int 0]) n1
      refine ⟨_, rfl, (m : Int), rfl, by omega, by omega, fun D1 hD => ?_⟩
      refine lcR_map (fun l => .int ((if l = i then (if l = j then k else 1) else 0 : Nat) : Int)) (small1000 (by omega)) (fun l H' R hl s' q' => ?_) hD fun H3 s3 hL => ?_
      · refine ⟨rfl, _, rfl, _, rfl, rfl, .inr ⟨_, rfl, ?_⟩⟩
        have q1 := q' _ (Same.refl _)
        have ei : decide (V.int (0 + (l : Int)) = V.int (0 + (i : Int))) = decide (l = i) := decide_eq_decide.mpr ⟨fun e => by have := V.int.inj e; omega, fun e => by rw [e]⟩
        have ej : decide (V.int (0 + (l : Int)) = V.int ((j : Nat) : Int)) = decide (l = j) := decide_eq_decide.mpr ⟨fun e => by have := V.int.inj e; omega, fun e => by rw [e, Int.zero_add]⟩
        have cm : ∀ (b : Bool) (z : Nat), z < 2 ^ 20 → CMulW (if b = true then 1 else 0) (z : Int) := fun b z hz => wide_mul (a := 3) (b := 20) (by cases b <;> decide) (by rw [Int.natAbs_natCast]; exact hz) (by decide) (by decide) (by decide)
        rw [ei]
        refine ⟨_, rfl, _, rfl, rfl, _, rfl, ?_⟩
        rw [ej]
        have ev : ∀ z : Nat, V.int ((if l = i then z else 0 : Nat) : Int) = V.int ((if decide (l = i) = true then 1 else 0) * (z : Int)) := fun z => by
          by_cases e : l = i
          · rw [if_pos e, decide_eq_true e, if_pos rfl, Int.one_mul]
          · rw [if_neg e, decide_eq_false e, if_neg Bool.false_ne_true, Int.zero_mul]
            rfl
        by_cases e : l = j
        · rw [decide_eq_true e]
          rw [if_pos e, ev] at q1
          exact iteT ⟨_, rfl, _, _, rfl, rfl, cm _ k hk, q1⟩
        · rw [decide_eq_false e]
          rw [if_neg e, ev] at q1
          exact iteF ⟨_, _, rfl, rfl, cm _ 1 (by decide), q1⟩
      · rw [Int.toNat_natCast] at hL
        refine ⟨l1, D1, _, _, rfl, rfl, s3 _ _ upd_same, hL, by rw [sizeLine_eq]; simp; omega, fun l3 n3 => ?_⟩
        have st3 := sameNew (o := .lst ([V.int 0] ++ (List.range m).map fun l => .int ((if l = i then (if l = j then k else 1) else 0 : Nat) : Int))) n3
        refine ⟨l3, _, rfl, upd_same, fun fa H4 s4 h4 => ?_⟩
        have sA := (st1.trans s3).trans (st3.trans s4)
        have hv := sA _ _ hvs
        refine ⟨D, vs, _, rfl, rfl, hv, by rw [sizeLine_eq]; omega, ?_⟩
        refine ⟨hi', same_upd2 nD (s1.trans sA), _, _, _, rfl, upd_same, ?_⟩
        rw [List.range_succ, List.map_append]
        refine ((pvs.same sA).mono (tup_upd hv)).app (.cons (tup_upd hv _ _ ?_) .nil)
        rw [h4]
        show some (HO.tup (V.int 0 :: _)) = some (HO.tup (V.int 0 :: List.map _ (List.map _ _)))
        rw [List.map_map]
        rfl
    · obtain ⟨_, s1, vs, y4, y5, rfl, hvs, pvs⟩ := pI
      exact ⟨_, rfl, q D _ s1 ⟨vs, hvs, pvs⟩⟩
def sp_fr (C : Addr) : Sp := fun vs H Q _ => ∃ (a l : Addr) (m j b : Nat) (ps : List Pn) (ns : List Nat), vs = [.ref a, .int j, .int b, .ref l] ∧ OT C H a m ps ∧ Nm m ps ∧ j < m ∧ m ≤ 3 ∧ b < 2 ^ 20 ∧ meas ps + (NM.wr (onP j b (List.replicate m 0)) ps).length ≤ 2000 ∧ (NM.wr (onP j b (List.replicate m 1)) ps).length ≤ 1000000 ∧ H l = some (.lst (natsV ns)) ∧ (ns.sum = 0 ↔ (lenP m ps).getD (j + 1) 0 = 0) ∧ ∀ H', Same H H' → Q (.bl true) H'
theorem c_law_first_right (T : Txt K mg C) : C8.Cal P w K mg base 12 "_law_first_right" (sp_fr C) [] := by
  refine calF T.d_law_first_right sc_law_first_right (fun vs H Q E h => ?_) (fun f cdv A outer s H vs Q E hr h => ?_)
  · obtain ⟨_, _, _, _, _, _, _, rfl, _⟩ := h; rfl
  · obtain ⟨a, l, m, j, b, ps, ns, rfl, oa, nm, hj, m3, hb, h0, h1, hl, ez, q⟩ := h
    have lF := nm.lenF
    have b100 : b < 2 ^ 100 := Nat.lt_of_lt_of_le hb (Nat.pow_le_pow_right (by decide) (by decide))
    have lL := lenF_lat (j := j) (k := b) lF
    have p0 : (List.replicate m 0).length = m := by simp
    have p1 : (List.replicate m 1).length = m := by simp
    have wT : ∀ pt, pt.length = m → NM.wr pt (normL (latP j b ps)) = NM.wr (onP j b pt) ps := fun pt hp => by rw [wr_normL lL, wr_lat hj hp lF]
    have ea : normL ps = ps := normL_id nm
    have oa' : OT C H a m (normL ps) := by rw [ea]; exact oa
    have hW : Wl m ps := small900 (by
      have := len_on (k := b) p1 hj lF
      omega)
    refine ⟨_, (pss_cons (ps_par (i := 4) (j := 5) (by rfl) sc_law_first_right.nd rfl rfl (by decide) rfl rfl (pa_cons (C8.pe_c (c_first T) hr (by decide) (by rfl) (pa_cons (C8.pe_c (c_later T) hr (by decide) (by rfl) (pa_cons (pv 0) (pa_cons (pv 1) (pa_cons (pv 2) pa_nil)))) (pa_cons (pv 1) pa_nil))) (pa_cons (C8.pe_c (c_first T) hr (by decide) (by rfl) (pa_cons (pv 0) (pa_cons (pv 1) pa_nil))) pa_nil)) (by rfl))
    (pss_cons (ps_if (PW.pt (pw_or (pt_not (pt_val (pe_callB call_isK (by rfl) T.m_isinstance (by decide +kernel) (pa_cons (pv 4) (pa_cons (pe_bltn (v := .ty "tuple") (by rfl) T.m_tuple (by decide +kernel) rfl) pa_nil))))) (pw_or (pt_cmpR op_ne (pe_callB call_len_seq (by rfl) T.m_len (by decide +kernel) (pa_cons (pv 4) pa_nil)) pe_int (nomark _)) (pw_or (pt_val (pe_callB call_isK (by rfl) T.m_isinstance (by decide +kernel) (pa_cons (pe_ix ix_tup (pv 4) pe_int (fun _ _ => rfl)) (pa_cons (pe_bltn (v := .ty "bool") (by rfl) T.m_bool (by decide +kernel) rfl) pa_nil)))) (pw_or1 (pt_not (pt_val (pe_callB call_isK (by rfl) T.m_isinstance (by decide +kernel) (pa_cons (pe_ix ix_tup (pv 4) pe_int (fun _ _ => rfl)) (pa_cons (pe_bltn (v := .ty "int") (by rfl) T.m_int (by decide +kernel) rfl) pa_nil))))))))))
    (pss_one (ps_ret pe_bl))
    pss_nil)
    (pss_cons (ps_if (pt_cmpR op_eq (pe_callB (cr_sum rfl) (by rfl) T.m_sum (by decide +kernel) (pa_cons (pv 3) pa_nil)) pe_int (nomark _))
    (pss_one (ps_ret (pe_and (pe_cmpR op_isBl (pe_cmpR (op_eqO (m_OpenText___eq__ T) hr (by decide)) (pe_ix ix_tup (pv 4) pe_int (fun _ _ => rfl)) (pv 0) (nomark _)) pe_bl (nomark _)) (pe_and (pe_cmpR op_eq (pe_ix ix_tup (pv 4) pe_int (fun _ _ => rfl)) pe_int (nomark _)) (pe_one (pe_cmpR (op_eqTO (m_OpenText___eq__ T) rt_mono rt_sp hr (by decide)) (pv 5) (pv 4) (nomark _)))))))
    pss_nil)
    (pss_cons (ps_asg (pv 4) (pg_two (K := K) (i := 6) (j := 7) rfl rfl sc_law_first_right.nd rfl rfl (Or.inl rfl) (Or.inl rfl)))
    (pss_cons (ps_if (PW.pt (pw_or (pt_cmpR op_notBl (pe_cmpR (op_eqO (m_OpenText___eq__ T) hr (by decide)) (C8.pe_c (c_later T) hr (by decide) (by rfl) (pa_cons (pv 6) (pa_cons (pv 1) (pa_cons (pv 7) pa_nil)))) (C8.pe_c (c_later T) hr (by decide) (by rfl) (pa_cons (pv 0) (pa_cons (pv 1) (pa_cons (pv 2) pa_nil)))) (nomark _)) pe_bl (nomark _)) (pw_or1 (pt_cmpR op_notN (C8.pe_c (c_earlier T) hr (by decide) (by rfl) (pa_cons (pv 6) (pa_cons (pv 1) pa_nil))) pe_non (nomark _)))))
    (pss_one (ps_ret pe_bl))
    pss_nil)
    (pss_one (ps_ret (pe_and (pe_cmpR op_isBl (pe_cmpR (op_eqO (m_OpenText___eq__ T) hr (by decide)) (pe_ix ix_tup (pv 5) pe_int (fun _ _ => rfl)) (pv 6) (nomark _)) pe_bl (nomark _)) (pe_and (pe_cmpR op_eq (pe_op op_add (pe_ix ix_tup (pv 5) pe_int (fun _ _ => rfl)) (pv 2)) (pv 7) (nomark _)) (pe_one (pe_cmpR op_eq (pe_ix ix_tup (C8.pe_c (c_first T) hr (by decide) (by rfl) (pa_cons (pv 6) (pa_cons (pv 1) pa_nil))) pe_int (fun _ _ => rfl)) pe_int (nomark _)))))))))))), ?_⟩
    have hmT : meas (normL (latP j b ps)) ≤ 2000 := Nat.le_trans (meas_normL lL) (by have := meas_lat (b := b) hj lF; omega)
    have hWT : Wl m (normL (latP j b ps)) := small900 (by rw [wT _ p1]; exact h1)
    refine ⟨_, rfl, _, rfl, _, rfl, a, m, j, b, normL ps, rfl, mk_later oa' hj m3 b100 lF (by omega) h1 fun u H1 s1 ou => ?_⟩
    refine ⟨_, rfl, u, m, j, _, rfl, ou, hj, m3, nm_normL lL, hmT, hWT, fun x t X k H2 s2 ox ht F => ?_⟩
    have s12 := s1.trans s2
    refine ⟨_, rfl, _, rfl, a, m, j, ps, rfl, oa.same s12, hj, m3, nm, by omega, hW, fun y t' Y k' H3 s3 oy ht' F' => ⟨_, _, rfl, ?_⟩⟩
    have s13 := s12.trans s3
    have ox := ox.same s3
    have ht := s3 _ _ ht
    have hl := s13 _ _ hl
    have oa := oa.same s13
    have oa' := oa'.same s13
    clear s12 s1 s2 s3 ou
    try dsimp only
    refine if_dec false (fun R q' => ?_) (fun bb => (by cases bb)) fun _ H4 s4 => ?_
    · have kt : Kn H3 (.ref t) := .tup ht
      have ki : Kn H3 (.int (k : Nat)) := .int _
      refine ⟨_, rfl, .ref t, "tuple", _, rfl, kt, kit_tuple kt, _, rfl, ?_⟩
      rw [isTu_tup ht]
      refine iteF ?_
      refine ⟨_, rfl, t, _, rfl, .inr (.inl (.inl ht)), rfl, _, rfl, iteF ?_⟩
      refine ⟨_, rfl, t, _, 1, _, rfl, rfl, .inl (.inl ht), atI_nat (j := 1) rfl, .int (k : Nat), "bool", _, rfl, ki, kit_bool ki, _, rfl, iteF ?_⟩
      refine ⟨_, rfl, t, _, 1, _, rfl, rfl, .inl (.inl ht), atI_nat (j := 1) rfl, .int (k : Nat), "int", _, rfl, ki, kit_int ki, _, rfl, ?_⟩
      exact q' _ (Same.refl _)
    have ht := s4 _ _ ht
    have ht' := s4 _ _ ht'
    have ox := ox.same s4
    have oy := oy.same s4
    have oa := oa.same s4
    have oa' := oa'.same s4
    have hl := s4 _ _ hl
    have s14 := s13.trans s4
    clear s13 s4
    have nmT := nm_normL lL
    have eT := tot_on (k := 0) (b := b) hj nmT.lenF lF fun pt hp => by rw [onP_zero (by omega)]; exact wT pt hp
    have eN : natsV ns = (ns.map fun n : Nat => ((n : Nat) : Int)).map V.int := by
      unfold natsV
      rw [List.map_map]
      rfl
    refine if_dec (decide ((lenP m ps).getD (j + 1) 0 = 0)) (fun R q' => ?_) (fun bb H5 s5 => ?_) fun bb H5 s5 => ?_
    · refine ⟨_, rfl, l, _, rfl, .inl (.inl (by rw [← eN]; exact hl)), rfl, _, rfl, ?_⟩
      have e : decide (V.int (ns.map fun n : Nat => ((n : Nat) : Int)).sum = V.int 0) = decide ((lenP m ps).getD (j + 1) 0 = 0) := by
        rw [sum_nats]
        exact decide_eq_decide.mpr ⟨fun e => ez.mp (by have := V.int.inj e; omega), fun e => by rw [ez.mpr e]; rfl⟩
      have q1 := q' _ (Same.refl _)
      rw [← e] at q1
      exact q1
    · have z0 := of_decide_eq_true bb
      have zT := eT.trans z0
      have k0 := F.zero zT
      have k0' := F'.zero z0
      subst k0 k0'
      have zs := z0
      rw [lenP_getD lF] at zs
      have eX : X = ps := by
        have := norm_same F.nm.lenF lF fun pt hp => by
          have h1 := F.wr pt hp
          rw [onP_zero (by omega), wT pt hp, on_zero hp hj lF (fun p hp => (nm.all p hp).ne) zs] at h1
          exact h1
        rw [normL_id F.nm, ea] at this
        exact this
      have eY : Y = ps := by
        have := norm_same F'.nm.lenF lF fun pt hp => by
          have h1 := F'.wr pt hp
          rw [onP_zero (by omega)] at h1
          exact h1
        rw [normL_id F'.nm, ea] at this
        exact this
      subst eX
      subst eY
      have ht := s5 _ _ ht
      have ht' := s5 _ _ ht'
      have ox := ox.same s5
      have oy := oy.same s5
      have oa := oa.same s5
      obtain ⟨d1, f1, e1⟩ := ox.at'
      obtain ⟨d2, f2, e2⟩ := oa.at'
      refine ⟨_, rfl, t, _, 0, _, rfl, rfl, .inl (.inl ht), atI_nat (j := 0) rfl, _, rfl, x, a, d1, _, d2, _, rfl, rfl, e1, e2, x, a, m, m, _, _, rfl, ox, oa, ⟨_, rfl⟩, ?_⟩
      rw [decide_eq_true (rfl : m = m), decide_eq_true rfl]
      refine ⟨_, _, rfl, rfl, _, rfl, iteT ?_⟩
      refine ⟨_, rfl, t, _, 1, _, rfl, rfl, .inl (.inl ht), atI_nat (j := 1) rfl, rfl, _, rfl, iteT ?_⟩
      exact ⟨_, rfl, _, rfl, ⟨t', t, _, _, rfl, rfl, .inl (.inl ht'), .inl (.inl ht), prs_two oy ox⟩, fun H6 e6 => q H6 ((s14.trans s5).trans e6)⟩
    · have n0 := of_decide_eq_false bb
      obtain ⟨eX, ek⟩ := Fst.later hj lF nmT.lenF wT F' F n0
      subst eX
      have ht := s5 _ _ ht
      have ht' := s5 _ _ ht'
      have ox := ox.same s5
      have oy := oy.same s5
      have oa' := oa'.same s5
      have s15 := s14.trans s5
      refine ⟨_, rfl, t, _, rfl, .inl (.inl ht), rfl, _, _, rfl, _, _, rfl, rfl, ?_⟩
      try dsimp only
      have lY := F'.nm.lenF
      have eY : normL Y = Y := normL_id F'.nm
      have ox' : OT C H5 x m (normL Y) := by rw [eY]; exact ox
      have mY : meas Y ≤ meas ps := F'.me
      have k2 := F.few
      have k100 : k < 2 ^ 100 := Nat.lt_of_le_of_lt (show k ≤ 2000 by omega) (by decide)
      have hWY : Wl m Y := Nat.lt_of_le_of_lt (F'.le _) hW
      have wk : ∀ pt, pt.length = m → NM.wr (onP j k pt) Y = NM.wr (onP j b pt) ps := fun pt hp => by rw [F.wr pt hp, wT pt hp]
      have eL : normL (latP j k Y) = normL (latP j b ps) := norm_same (lenF_lat lY) lL fun pt hp => by rw [wr_lat hj hp lY, wr_lat hj hp lF, wk pt hp]
      refine if_dec false (fun R q' => ?_) (fun bb => (by cases bb)) fun _ H6 s6 => ?_
      · refine ⟨_, rfl, _, rfl, _, rfl, x, m, j, k, normL Y, rfl, mk_later ox' hj m3 k100 lY (by rw [wk _ p0]; omega) (by rw [wk _ p1]; exact h1) fun u1 H7 s7 o1 => ?_⟩
        refine ⟨_, rfl, _, rfl, _, rfl, a, m, j, b, normL ps, rfl, mk_later (oa'.same s7) hj m3 b100 lF (by omega) h1 fun u2 H8 s8 o2 => ?_⟩
        rw [eL] at o1
        have o1 := o1.same s8
        obtain ⟨d1, f1, e1⟩ := o1.at'
        obtain ⟨d2, f2, e2⟩ := o2.at'
        refine ⟨u1, u2, d1, _, d2, _, rfl, rfl, e1, e2, u1, u2, m, m, _, _, rfl, o1, o2, ⟨_, rfl⟩, ?_⟩
        rw [decide_eq_true (rfl : m = m), decide_eq_true rfl]
        refine ⟨_, _, rfl, rfl, _, rfl, ?_⟩
        refine iteF ?_
        have s78 := s7.trans s8
        refine ⟨_, rfl, _, rfl, x, m, j, Y, rfl, ox.same s78, hj, m3, F'.nm, by omega, hWY, fun L z H9 e9 s9 oz => ?_, fun H9 e9 s9 => ⟨rfl, _, rfl, q' _ (s78.trans s9)⟩⟩
        have := F'.last hj n0 ((bk_iff hj F'.nm).mp ⟨L, e9⟩)
        omega
      · have ht' := s6 _ _ ht'
        have ox := ox.same s6
        have oy := oy.same s6
        obtain ⟨d1, f1, e1⟩ := oy.at'
        obtain ⟨d2, f2, e2⟩ := ox.at'
        refine ⟨_, rfl, t', _, 0, _, rfl, rfl, .inl (.inl ht'), atI_nat (j := 0) rfl, _, rfl, y, x, d1, _, d2, _, rfl, rfl, e1, e2, y, x, m, m, _, _, rfl, oy, ox, ⟨_, rfl⟩, ?_⟩
        rw [decide_eq_true (rfl : m = m), decide_eq_true rfl]
        refine ⟨_, _, rfl, rfl, _, rfl, iteT ?_⟩
        refine ⟨_, rfl, t', _, 1, _, rfl, rfl, .inl (.inl ht'), atI_nat (j := 1) rfl, _, rfl, _, _, rfl, rfl, _, rfl, rfl, _, rfl, ?_⟩
        rw [decide_eq_true (show V.int (((k' : Nat) : Int) + ((b : Nat) : Int)) = V.int ((k : Nat) : Int) by rw [← ek]; rfl)]
        refine iteT ?_
        refine ⟨_, rfl, _, rfl, x, m, j, Y, rfl, ox, hj, m3, F'.nm, by omega, hWY, fun z t9 Z kz H9 s9 oz ht9 FZ => ?_⟩
        have kz0 := F'.last hj n0 FZ.bk
        subst kz0
        exact ⟨t9, _, 1, _, rfl, rfl, .inl (.inl ht9), atI_nat (j := 1) rfl, rfl, q H9 ((s15.trans s6).trans s9)⟩
end
end K23

set_option Elab.async false
set_option linter.all false
set_option maxRecDepth 100000
set_option maxHeartbeats 8000000
namespace K23
open PySem PySem.Spec PyProof.Rows L2 CK SX NM
/-! ### bounds of the drawn -/
structure RB (m : Nat) (ps : List Pn) : Prop where
  lF : LenF m ps
  me : meas ps ≤ 120
  w0 : ∀ j k, j < m → (NM.wr (onP j k (List.replicate m 0)) ps).length ≤ 90 + 90 * k
  wB : ∀ (B : Nat) pt, (∀ x ∈ pt, x ≤ B) → (NM.wr pt ps).length ≤ 90 + 270 * B
theorem RB.norm {m : Nat} {ps : List Pn} (h : RB m ps) : RB m (normL ps) :=
  ⟨(nm_normL h.lF).lenF, Nat.le_trans (meas_normL h.lF) h.me, fun j k hj => by rw [wr_normL h.lF]; exact h.w0 j k hj, fun B pt hp => by rw [wr_normL h.lF]; exact h.wB B pt hp⟩
theorem rb_raw {Lt : Nat → Prop} {m : Nat} {ps : List Pn} (dr : Dr Lt m 3 ps) (sm : Sms m 3 ps) (few : ps.length ≤ 5) (m3 : m ≤ 3) : RB m ps := by
  have hl : LenF m ps := fun p hp => (dr p hp).1
  have gd : ∀ {f : F} {i : Nat}, Up 3 f → f.getD i 0 ≤ 3 := fun {f i} h => by
    rw [List.getD_eq_getElem?_getD]
    cases e : f[i]? with
    | none => exact Nat.zero_le _
    | some x => exact h x (List.mem_of_getElem? e)
  have hd : ∀ {f : F}, Up 3 f → f.headD 0 ≤ 3 := fun {f} h => by
    cases f with
    | nil => simp
    | cons a f => exact h a List.mem_cons_self
  have hB : ∀ p ∈ ps, (p.1.length ≤ 6 ∧ Up 3 p.2) ∨ (∃ c, p.2 = c :: List.replicate m 0 ∧ p.1.length * c ≤ 8) := sm
  have e0 : ∀ j, (List.replicate m 0).getD j 0 = 0 := fun j => by
    rw [List.getD_eq_getElem?_getD, List.getElem?_replicate]
    split <;> rfl
  refine ⟨hl, ?_, fun j k hj => ?_, fun B pt hp => ?_⟩
  · refine Nat.le_trans (meas_le (k := 24) _ fun p hp => ?_) (by have := Nat.mul_le_mul_right 24 few; omega)
    unfold measP
    rcases hB p hp with ⟨l6, u⟩ | ⟨c, ec, l8⟩
    · have a := hd u
      refine Nat.le_trans (Nat.mul_le_mul l6 (show _ ≤ 4 from ?_)) (by decide)
      split <;> omega
    · have e1 : isOpen (c :: List.replicate m 0) = false := by
        unfold isOpen
        rw [List.any_eq_false]
        intro y hy
        rw [List.eq_of_mem_replicate (show y ∈ List.replicate m 0 from hy)]
        simp
      rw [ec, e1, if_neg Bool.false_ne_true]
      show p.1.length * (c + 0) ≤ 24
      rw [Nat.add_zero]
      omega
  · refine Nat.le_trans (wr_le (k := 18 + 18 * k) _ fun p hp => ?_) (by have := Nat.mul_le_mul_right (18 + 18 * k) few; omega)
    have e : (wrt (onP j k (List.replicate m 0)) p).length = p.1.length * valF p.2 (onP j k (List.replicate m 0)) := WM.pw_len _ _
    rw [e, val_on (hl p hp) (by simp) hj, val_zero]
    rcases hB p hp with ⟨l6, u⟩ | ⟨c, ec, l8⟩
    · have a := hd u
      have b := Nat.mul_le_mul_right k (gd (i := j + 1) u)
      refine Nat.le_trans (Nat.mul_le_mul l6 (show _ ≤ 3 + 3 * k by omega)) (by omega)
    · rw [ec]
      show p.1.length * (c + (List.replicate m 0).getD j 0 * k) ≤ _
      rw [e0, Nat.zero_mul, Nat.add_zero]
      omega
  · refine Nat.le_trans (wr_le (k := 18 + 54 * B) _ fun p hp' => ?_) (by have := Nat.mul_le_mul_right (18 + 54 * B) few; omega)
    have e : (wrt pt p).length = p.1.length * valF p.2 pt := WM.pw_len _ _
    rw [e]
    unfold valF
    rcases hB p hp' with ⟨l6, u⟩ | ⟨c, ec, l8⟩
    · have a := hd u
      have d := dot_le (B := 3) (c := B) p.2.tail pt (fun x hx => u x (List.mem_of_mem_tail hx)) hp
      have lt : p.2.tail.length ≤ 3 := by rw [List.length_tail, hl p hp']; omega
      have d2 : p.2.tail.length * (3 * B) ≤ 3 * (3 * B) := Nat.mul_le_mul_right _ lt
      refine Nat.le_trans (Nat.mul_le_mul l6 (show _ ≤ 3 + 9 * B by omega)) (by omega)
    · rw [ec]
      show p.1.length * (c + dot (List.replicate m 0) pt) ≤ _
      rw [dot_zero, Nat.add_zero]
      omega
theorem on_up {j k B : Nat} {pt : List Nat} (h : ∀ x ∈ pt, x ≤ B) : ∀ x ∈ onP j k pt, x ≤ B + k := fun x hx => by
  rcases List.mem_or_eq_of_mem_set hx with z | z
  · have := h x z; omega
  · have : pt.getD j 0 ≤ B := by
      rw [List.getD_eq_getElem?_getD]
      cases e : pt[j]? with
      | none => exact Nat.zero_le _
      | some y => exact h y (List.mem_of_getElem? e)
    omega
theorem onM_up {j k B : Nat} {pt : List Nat} (hk : 1 ≤ k) (h : ∀ x ∈ pt, x ≤ B) : ∀ x ∈ onM j k pt, x ≤ k * B := fun x hx => by
  rcases List.mem_or_eq_of_mem_set hx with z | z
  · have := h x z
    exact Nat.le_trans this (by have := Nat.mul_le_mul_right B hk; omega)
  · have : pt.getD j 0 ≤ B := by
      rw [List.getD_eq_getElem?_getD]
      cases e : pt[j]? with
      | none => exact Nat.zero_le _
      | some y => exact h y (List.mem_of_getElem? e)
    rw [z]
    exact Nat.mul_le_mul_left k this
theorem one_up {m : Nat} : ∀ x ∈ List.replicate m 1, x ≤ 1 := fun x hx => by rw [List.eq_of_mem_replicate hx]; exact Nat.le_refl _
theorem zero_up {m B : Nat} : ∀ x ∈ List.replicate m 0, x ≤ B := fun x hx => by rw [List.eq_of_mem_replicate hx]; exact Nat.zero_le _
theorem onM_zero {m j t k : Nat} : onM j t (onP j k (List.replicate m 0)) = onP j (t * k) (List.replicate m 0) := by
  unfold onM onP
  rw [List.set_set]
  by_cases h : j < (List.replicate m 0).length
  · have e : (List.replicate m 0).getD j 0 = 0 := by
      rw [List.getD_eq_getElem?_getD, List.getElem?_replicate]
      split <;> rfl
    rw [getD_set_self h, e, Nat.zero_add, Nat.zero_add]
  · rw [List.set_eq_of_length_le (by omega), List.set_eq_of_length_le (by omega)]
theorem isOpen_set {j v : Nat} {f : F} (h : v ≠ 0 → f.getD (j + 1) 0 ≠ 0) (o : isOpen (f.set (j + 1) v) = true) : isOpen f = true := by
  obtain ⟨x, hx, x0⟩ := isOpen_iff.mp o
  have et : (f.set (j + 1) v).tail = f.tail.set j v := by cases f <;> rfl
  rw [et] at hx
  obtain ⟨i, hi, e⟩ := List.mem_iff_getElem.mp hx
  have hi' : i < f.tail.length := by simpa using hi
  by_cases z : j = i
  · subst z
    rw [List.getElem_set_self] at e
    refine isOpen_iff.mpr ⟨f.tail[j], List.getElem_mem _, fun z => ?_⟩
    have eg : f.getD (j + 1) 0 = f.tail[j] := by
      rw [List.getD_eq_getElem?_getD, ← List.getElem?_tail, List.getElem?_eq_getElem hi']
      rfl
    exact h (by rw [e]; exact x0) (by rw [eg, z])
  · rw [List.getElem_set_ne z] at e
    exact isOpen_iff.mpr ⟨x, by rw [← e]; exact List.getElem_mem _, x0⟩
theorem meas_mul (j k : Nat) : ∀ ps : List Pn, meas (mulP j k ps) ≤ meas ps
  | [] => Nat.le_refl _
  | p :: r => by
    have ih := meas_mul j k r
    unfold mulP meas at ih ⊢
    rw [List.map_cons, List.map_cons, List.map_cons, List.sum_cons, List.sum_cons]
    refine Nat.add_le_add ?_ ih
    unfold measP
    refine Nat.mul_le_mul_left _ ?_
    have eh : (mulF j k p.2).headD 0 = p.2.headD 0 := by unfold mulF; cases p.2 <;> rfl
    show (mulF j k p.2).headD 0 + (if isOpen (mulF j k p.2) = true then 1 else 0) ≤ p.2.headD 0 + (if isOpen p.2 = true then 1 else 0)
    rw [eh]
    refine Nat.add_le_add_left ?_ _
    by_cases o : isOpen (mulF j k p.2) = true
    · rw [if_pos o, if_pos (isOpen_set (fun h z => h (by rw [z, Nat.mul_zero])) o)]
      exact Nat.le_refl _
    · rw [if_neg o]
      exact Nat.zero_le _
theorem div_one (j : Nat) {m : Nat} {ps : List Pn} (h : LenF m ps) (hj : j < m) : divP j 1 ps = ps := by
  have := mul_divP h hj (Nat.le_refl 1)
  have e : mulP j 1 ps = ps := by
    unfold mulP
    conv => rhs; rw [← List.map_id ps]
    refine List.map_congr_left fun p hp => ?_
    have := h p hp
    show (p.1, mulF j 1 p.2) = p
    unfold mulF
    rw [Nat.one_mul, set_self (by omega)]
  rw [e] at this
  exact this
theorem dvd_one {j : Nat} {ps : List Pn} : Dvd j 1 ps := fun p _ => Nat.mod_one _
theorem lenF_units {m j k : Nat} (ps : List Pn) : LenF m (K23.repl m (unitsM m j k) ps) := fun p hp => by
  obtain ⟨q, _, rfl⟩ := List.mem_map.mp hp
  exact len_insF len_unitsM
theorem wr_zero_le (m : Nat) : ∀ ps : List Pn, (NM.wr (List.replicate m 0) ps).length ≤ meas ps
  | [] => Nat.le_refl _
  | p :: r => by
    have ih := wr_zero_le m r
    unfold meas at ih ⊢
    rw [List.map_cons, List.sum_cons, NM.wr, List.length_append]
    refine Nat.add_le_add ?_ ih
    have e : (wrt (List.replicate m 0) p).length = p.1.length * valF p.2 (List.replicate m 0) := WM.pw_len _ _
    rw [e, val_zero]
    exact Nat.mul_le_mul_left _ (Nat.le_add_right _ _)
/-- the multiplied, put in for the unknown -/
theorem mk_repl {C x l : Addr} {H : Hp} {m j k : Nat} {X : List Pn} {R : Addr → Hp → Prop} (ox : OT C H x m (normL X)) (lX : LenF m X) (hj : j < m) (m3 : m ≤ 3) (hk : k ≤ 1000) (hl : FL H l (unitsM m j k)) (hm : meas X ≤ 1000) (hw : (NM.wr (onM j k (List.replicate m 1)) X).length ≤ 1000000)
    (q : ∀ u H', Same H H' → OT C H' u m (normL (mulP j k X)) → R u H') : OT C H x m (normL X) ∧ m ≤ 3 ∧ m ≤ 3 ∧ FL H l (unitsM m j k) ∧ (unitsM m j k).length = m ∧ (∀ g ∈ unitsM m j k, g.length = m + 1) ∧ (∀ g ∈ unitsM m j k, Bf g) ∧
  (∀ p ∈ normL X, Bf (insF m p.2 (unitsM m j k))) ∧ meas (K23.repl m (unitsM m j k) (normL X)) ≤ 2000 ∧ Wl m (K23.repl m (unitsM m j k) (normL X)) ∧ ∀ u H', Same H H' → OT C H' u m (normL (K23.repl m (unitsM m j k) (normL X))) → R u H' := by
  have nm := nm_normL lX
  have r1 : (List.replicate m 1).length = m := by simp
  refine ⟨ox, m3, m3, hl, by unfold unitsM; simp, len_unitsM, fun g hg n hn => ?_, bf_ins (c := 0) lX len_unitsM (by rw [val_units r1]; exact hw), ?_, ?_, fun u H' s ou => q u H' s ?_⟩
  · obtain ⟨i, _, rfl⟩ := List.mem_map.mp hg
    rcases List.mem_cons.mp hn with z | z
    · rw [z]; exact small900 (Nat.zero_le _)
    · obtain ⟨l, _, rfl⟩ := List.mem_map.mp z
      split
      · split
        · exact small900 (Nat.le_trans hk (by decide))
        · exact small900 (by decide)
      · exact small900 (by decide)
  · have a := meas_repl (m := m) (gs := unitsM m j k) len_unitsM (normL X)
    have e : (unitsM m j k).map (fun g => g.headD 0) = List.replicate m 0 := by
      unfold unitsM
      rw [List.map_map]
      refine List.ext_getElem (by simp) fun i h1 h2 => ?_
      simp
    rw [e] at a
    have b := meas_normL lX
    rw [← tot_meas nm.all] at a
    have c := wr_zero_le m (normL X)
    omega
  · unfold Wl
    rw [wr_units r1, wr_normL lX]
    exact small900 hw
  · rw [norm_same (lenF_mul lX) (lenF_units _) fun pt hp => by rw [wr_mul hp lX, wr_units hp, wr_normL lX]]
    exact ou
end K23

set_option Elab.async false
set_option linter.all false
set_option maxRecDepth 100000
set_option maxHeartbeats 8000000
namespace K23
open PySem PySem.Spec PyProof.Rows L2 CK SX NM
theorem gname_eq (i : Nat) (v : V) (σ : L2.St) (H : Hp) (Q : L2.St → Hp → Prop) : gName i v σ H Q = Q (σ.set i (some v)) H := rfl
def opF (T : List Pn) : List F := (T.filter fun p => isOpen p.2).map fun p => p.2
theorem shut_zero {j : Nat} {f : F} (h : ¬ isOpen f = true) : f.getD (j + 1) 0 = 0 := by
  by_cases z : f.getD (j + 1) 0 = 0
  · exact z
  · exfalso
    refine h (isOpen_iff.mpr ⟨f.getD (j + 1) 0, ?_, z⟩)
    rw [List.getD_eq_getElem?_getD] at z ⊢
    cases e : f[j + 1]? with
    | none => rw [e] at z; exact absurd rfl z
    | some y =>
      refine List.mem_of_getElem? (i := j) ?_
      rw [List.getElem?_tail, e]
      rfl
theorem opF_sum {j : Nat} : ∀ {T : List Pn}, (∀ p ∈ T, p.1 ≠ []) → (((opF T).map fun f => f.getD (j + 1) 0).sum = 0 ↔ (T.map fun p => p.1.length * p.2.getD (j + 1) 0).sum = 0)
  | [], _ => Iff.rfl
  | p :: r, h => by
    have ih := opF_sum (j := j) (T := r) fun q hq => h q (List.mem_cons_of_mem _ hq)
    have w1 := List.length_pos_iff.mpr (h p List.mem_cons_self)
    unfold opF at ih ⊢
    rw [List.map_cons, List.sum_cons, List.filter_cons]
    by_cases o : isOpen p.2 = true
    · rw [if_pos o, List.map_cons, List.map_cons, List.sum_cons]
      constructor
      · intro e
        have a : p.2.getD (j + 1) 0 = 0 := by omega
        have b := ih.mp (by omega)
        rw [a, b]
        rfl
      · intro e
        have b := ih.mpr (by omega)
        have a : p.1.length * p.2.getD (j + 1) 0 = 0 := by omega
        rcases Nat.mul_eq_zero.mp a with z | z
        · omega
        · rw [b, z]
    · rw [if_neg o, ih, shut_zero (j := j) o]
      simp
section
variable {P : Program} {w : World} {K : PySem.W.Frag} {mg : Str → Option Value} {base : Heap} {C : Addr}
/-- from the thinned ones on -/
theorem right_tail2 (T : Txt K mg C) (f0 : Addr) (cdv : Value) (A : Around) (outer : List Env) (s : Shared) (H0 : Hp) (E : XK) (hr : Room 13 (A.deeper (envOfC "_law_right" (C8.fnScope (topS 88)) s.heap.objs.size f0 cdv))) :
    ∃ u, PSs (cxOf C8.CX0 P w K mg base ["_law_generator_here", "_law_many", "_law_signs", "_law_pieces", "_law_at", "_law_by", "_law_times", "_law_text", "_law_grown", "_law_turn", "_law_point_here", "_law_far", "_law_told", "_law_powers", "_law_word_here", "_law_form_here", "_law_wide", "_law_back", "_law_step", "_law_deeper", "_law_spot", "_law_anew", "_law_again"] "_law_right" (C8.fnScope (topS 88)) f0 cdv A outer s H0 E).nox ((C8.fnBody (topS 88)).drop 13) u ∧
      ∀ (D : Ends) (σ : L2.St) (H : Hp) (L x wd pw : Addr) (m j b t : Nat) (ps : List Pn) (y0 y2 y8 y9 y10 y11 y12 y14 y15 y17 y18 y19 y20 y21 y22 : Option V),
        σ = [y0, some (.int (m : Nat)), y2, some (.ref L), some (.int (j : Nat)), some (.int (b : Nat)), some (.int (t : Nat)), some (.ref x), y8, y9, y10, y11, y12, some (.ref pw), y14, y15, some (.ref wd), y17, y18, y19, y20, y21, y22] → m ≤ 3 → j < m → b ≤ 5 → 1 ≤ t → t ≤ 4 →
        OT C H x m (normL ps) → RB m ps → GL H m L ps → OT C H wd m (mulP j t (normL ps)) → FL H pw (opF (normL ps)) →
        (∀ H', Same H H' → D.rt (.bl true) H') → u D σ H := by
  refine ⟨_, (pss_cons (ps_for PassesOwn.never rfl (pi_list (pe_lst (pa_cons pe_int (pa_cons pe_int (pa_cons pe_int pa_nil))))) (pg_name (i := 18) sc_law_right.nd rfl (Or.inl rfl))
    (pss_cons (ps_set (i := 12) sc_law_right.nd rfl (Or.inl rfl) (C8.pe_c (c_thinned T) hr (by decide) (by rfl) (pa_cons (pv 16) (pa_cons (pv 4) (pa_cons (pv 18) pa_nil)))))
    (pss_one (ps_if (PW.pt (pw_and (pt_cmpR op_notN (pv 12) pe_non (nomark _)) (pw_and1 (pt_cmpR op_notBl (pe_cmpR (op_eqO (m_OpenText___eq__ T) hr (by decide)) (C8.pe_c (c_replaced T) hr (by decide) (by rfl) (pa_cons (pv 12) (pa_cons (pv 1) (pa_cons (C8.pe_c (c_law_units T) hr (by decide) (by rfl) (pa_cons (pv 1) (pa_cons (pv 4) (pa_cons (pv 18) pa_nil)))) pa_nil)))) (pv 16) (nomark _)) pe_bl (nomark _)))))
    (pss_one (ps_ret pe_bl))
    pss_nil))))
    (pss_cons (ps_set (i := 19) sc_law_right.nd rfl (Or.inl rfl) (C8.pe_c (c_thinned T) hr (by decide) (by rfl) (pa_cons (C8.pe_c (c_later T) hr (by decide) (by rfl) (pa_cons (pv 16) (pa_cons (pv 4) (pa_cons pe_int pa_nil)))) (pa_cons (pv 4) (pa_cons (pv 6) pa_nil)))))
    (pss_cons (ps_if (PW.pt (pw_or (pt_cmpR op_isN (pv 19) pe_non (nomark _)) (pw_or1 (pt_cmpR op_notBl (pe_cmpR (op_eqO (m_OpenText___eq__ T) hr (by decide)) (pv 19) (C8.pe_c (c_later T) hr (by decide) (by rfl) (pa_cons (pv 7) (pa_cons (pv 4) (pa_cons (pv 6) pa_nil)))) (nomark _)) pe_bl (nomark _)))))
    (pss_one (ps_ret pe_bl))
    pss_nil)
    (pss_cons (ps_for PassesOwn.never rfl (pi_range1 (by rfl) T.m_range (pa_cons (pv 1) pa_nil)) (pg_name (i := 20) sc_law_right.nd rfl (Or.inl rfl))
    (pss_cons (ps_par (i := 21) (j := 12) (by rfl) sc_law_right.nd rfl rfl (by decide) rfl rfl (pa_cons (C8.pe_mk (n_OpenText T) hr (by decide) (by rfl) (pa_cons (pv 1) (pa_cons (pe_callTy call_list_of (by rfl) T.m_list (by decide +kernel) (pa_cons (pv 3) pa_nil)) pa_nil))) (pa_cons (C8.pe_c (c_thinned T) hr (by decide) (by rfl) (pa_cons (pv 7) (pa_cons (pv 20) (pa_cons (pv 6) pa_nil)))) pa_nil)) (by rfl))
    (pss_cons (ps_set (i := 22) sc_law_right.nd rfl (Or.inl rfl) (C8.pe_c (c_thinned T) hr (by decide) (by rfl) (pa_cons (pv 21) (pa_cons (pv 20) (pa_cons (pv 6) pa_nil)))))
    (pss_cons (ps_if (PW.pt (pw_or (pt_cmpR op_notBl (pe_cmpR (op_eqO (m_OpenText___eq__ T) hr (by decide)) (C8.pe_c (c_later T) hr (by decide) (by rfl) (pa_cons (pv 7) (pa_cons (pv 20) (pa_cons (pv 5) pa_nil)))) (C8.pe_c (c_later T) hr (by decide) (by rfl) (pa_cons (pv 21) (pa_cons (pv 20) (pa_cons (pv 5) pa_nil)))) (nomark _)) pe_bl (nomark _)) (pw_or1 (pt_cmpR op_ne (pe_cmpR op_isN (pv 12) pe_non (nomark _)) (pe_cmpR op_isN (pv 22) pe_non (nomark _)) (nomark _)))))
    (pss_one (ps_ret pe_bl))
    pss_nil)
    (pss_one (ps_if (PW.pt (pw_or (PW.pt (pw_and (pt_cmpR op_notN (pv 12) pe_non (nomark _)) (pw_and1 (pt_cmpR op_notBl (pe_cmpR (op_eqO (m_OpenText___eq__ T) hr (by decide)) (pv 12) (pv 22) (nomark _)) pe_bl (nomark _))))) (pw_or1 (pt_cmpR op_notBl (pe_cmpR (op_eqTO (m_OpenText___eq__ T) rt_mono rt_sp hr (by decide)) (C8.pe_c (c_first T) hr (by decide) (by rfl) (pa_cons (pv 7) (pa_cons (pv 20) pa_nil))) (C8.pe_c (c_first T) hr (by decide) (by rfl) (pa_cons (pv 21) (pa_cons (pv 20) pa_nil))) (nomark _)) pe_bl (nomark _)))))
    (pss_one (ps_ret pe_bl))
    pss_nil))))))
    (pss_one (ps_ret (C8.pe_c (c_law_first_right T) hr (by decide) (by rfl) (pa_cons (pv 7) (pa_cons (pv 4) (pa_cons (pv 5) (pa_cons (pe_lc (own := [("_law_form_here", 15)]) (by rfl) sc_law_right.nd (pi_list (pv 13)) (blkOk_by (N := ["_law_generator_here", "_law_many", "_law_signs", "_law_pieces", "_law_at", "_law_by", "_law_times", "_law_text", "_law_grown", "_law_turn", "_law_point_here", "_law_far", "_law_told", "_law_powers", "_law_word_here", "_law_form_here", "_law_wide", "_law_back", "_law_step", "_law_deeper", "_law_spot", "_law_anew", "_law_again"]) (sc := C8.fnScope (topS 88)) (own := [("_law_form_here", 15)]) (by decide +kernel)) (fun _ _ _ _ _ => (pg_name (i := 15) sc_law_right.nd rfl (Or.inl rfl))) (fun _ _ _ _ _ => pts_nil) (fun _ _ _ _ _ => (pe_ix ix_tupH (pv 15) (pe_op op_add (pv 4) pe_int) (fun _ _ => rfl)))) pa_nil))))))))))), ?_⟩
  intro D σ H L x wd pw m j b t ps y0 y2 y8 y9 y10 y11 y12 y14 y15 y17 y18 y19 y20 y21 y22 eσ m3 hj hb t1 t4 ox rb gl ow fp q
  subst eσ
  have lF := rb.lF
  have rT := rb.norm
  have nT := nm_normL lF
  have lT := rT.lF
  have p1 : (List.replicate m 1).length = m := by simp
  have nW : Nm m (mulP j t (normL ps)) := nm_mul t1 nT
  have lW := nW.lenF
  have eW : normL (mulP j t (normL ps)) = mulP j t (normL ps) := normL_id nW
  have mW : meas (mulP j t (normL ps)) ≤ 120 := Nat.le_trans (meas_mul j t _) rT.me
  have wW1 : (NM.wr (List.replicate m 1) (mulP j t (normL ps))).length ≤ 2000 := by
    rw [wr_mul p1 lT]
    have := rT.wB (t * 1) _ (onM_up (j := j) t1 (one_up (m := m)))
    omega
  have hWW : Wl m (mulP j t (normL ps)) := small900 (Nat.le_trans wW1 (by decide))
  have k100 : ∀ {k : Nat}, k ≤ 6 → k < 2 ^ 100 := fun {k} h => Nat.lt_of_le_of_lt h (by decide)
  -- steps
  refine ⟨by show 3 ≤ sizeLine; decide, fun Lb nLb => ⟨Lb, rfl, ⟨_, .inl (.inl upd_same)⟩, ?_⟩⟩
  have sLb := sameNew (o := .lst [V.int 2, V.int 3, V.int 4]) nLb
  refine for_list (K := K) (a := Lb) (xs := [V.int 2, V.int 3, V.int 4]) (fun i σ H' => Same (upd H Lb (.lst [V.int 2, V.int 3, V.int 4])) H' ∧ ∃ y12 y18 : Option V, σ = [y0, some (.int (m : Nat)), y2, some (.ref L), some (.int (j : Nat)), some (.int (b : Nat)), some (.int (t : Nat)), some (.ref x), y8, y9, y10, y11, y12, some (.ref pw), y14, y15, some (.ref wd), y17, y18, y19, y20, y21, y22])
    ⟨Same.refl _, _, _, rfl⟩ (fun i σ H' _ p => .inl (.inl (p.1 _ _ upd_same))) (fun i v σ H' hi pI => ?_) fun σ H' pI => ?_
  · obtain ⟨sI, y12, y18, rfl⟩ := pI
    obtain ⟨k, rfl, k1, k4⟩ : ∃ k : Nat, v = V.int (k : Nat) ∧ 1 ≤ k ∧ k ≤ 4 := by
      match i, hi with
      | 0, h => cases h; exact ⟨2, rfl, by decide, by decide⟩
      | 1, h => cases h; exact ⟨3, rfl, by decide, by decide⟩
      | 2, h => cases h; exact ⟨4, rfl, by decide, by decide⟩
      | i + 3, h => cases h
    have sH := sLb.trans sI
    have ow := ow.same sH
    refine ⟨_, rfl, _, rfl, _, rfl, wd, m, j, k, _, rfl, ow, hj, m3, lW, by omega, hWW, k1, k100 (by omega), fun z H1 dv s1 oz => ?_, fun H1 dv s1 => ?_⟩
    · dsimp only
      rw [gname_eq]
      try dsimp only
      refine if_end false (fun R q' => ?_) (fun b => (by cases b)) fun _ HB sB => ⟨(sI.trans s1).trans sB, _, _, rfl⟩
      have eD := div_mulP lW hj dv
      have lD := lenF_div (j := j) (k := k) lW
      refine ⟨_, rfl, rfl, _, rfl, iteT ?_⟩
      refine ⟨_, rfl, _, rfl, _, rfl, _, rfl, _, rfl, m, j, k, rfl, m3, Nat.lt_of_le_of_lt (show k ≤ 4 from k4) (by decide), fun l H2 s2 fl => ?_⟩
      refine ⟨z, l, m, m, _, _, rfl, mk_repl (oz.same s2) lD hj m3 (by omega) fl (Nat.le_trans (meas_div j k _) (by omega)) (by rw [← wr_mul p1 lD, eD]; omega) fun u H3 s3 ou => ?_⟩
      rw [eD, eW] at ou
      have ow := (ow.same s1).same (s2.trans s3)
      obtain ⟨d1, f1, e1⟩ := ou.at'
      obtain ⟨d2, f2, e2⟩ := ow.at'
      refine ⟨_, rfl, u, wd, d1, _, d2, _, rfl, rfl, e1, e2, u, wd, m, m, _, _, rfl, ou, ow, ⟨_, rfl⟩, ?_⟩
      rw [decide_eq_true (rfl : m = m), decide_eq_true rfl]
      refine ⟨_, _, rfl, rfl, _, rfl, ?_⟩
      exact q' _ (s2.trans s3)
    · dsimp only
      rw [gname_eq]
      try dsimp only
      refine if_end false (fun R q' => ?_) (fun b => (by cases b)) fun _ HB sB => ⟨(sI.trans s1).trans sB, _, _, rfl⟩
      refine ⟨_, rfl, rfl, _, rfl, iteF ?_⟩
      exact q' _ (Same.refl _)
  · obtain ⟨sI, y12, y18, rfl⟩ := pI
    have sH := sLb.trans sI
    have ox := ox.same sH
    have ow := ow.same sH
    have gl := gl.same sH
    have fp := fp.same sH
    have q : ∀ H'', Same H' H'' → D.rt (.bl true) H'' := fun H'' s => q H'' (sH.trans s)
    clear sI sLb nLb sH
    -- deeper
    have ow' : OT C H' wd m (normL (mulP j t (normL ps))) := by rw [eW]; exact ow
    have w01 : (NM.wr (onP j 1 (List.replicate m 0)) (mulP j t (normL ps))).length ≤ 90 + 90 * (t * 1) := by
      rw [wr_mul (by rw [onP_len]; simp) lT, onM_zero]
      exact rT.w0 j (t * 1) hj
    have w11 : (NM.wr (onP j 1 (List.replicate m 1)) (mulP j t (normL ps))).length ≤ 90 + 270 * (t * (1 + 1)) := by
      rw [wr_mul (by rw [onP_len]; simp) lT]
      exact rT.wB _ _ (onM_up t1 (on_up one_up))
    have lLt := lenF_lat (j := j) (k := t) lT
    have eN2 : normL (latP j 1 (mulP j t (normL ps))) = mulP j t (normL (latP j t (normL ps))) := by rw [lat_mul hj lT, normL_mul t1 lLt]
    have nL := nm_normL lLt
    try dsimp only
    refine ⟨_, rfl, _, rfl, wd, m, j, 1, _, rfl, mk_later (k := 1) ow' hj m3 (k100 (by decide)) lW (by omega) (by omega) fun u H1 s1 ou => ?_⟩
    rw [eN2] at ou
    have mL : meas (normL (latP j t (normL ps))) ≤ 570 := by
      have a := meas_normL lLt
      have b := meas_lat (b := t) hj lT
      have c := rT.w0 j t hj
      have d := rT.me
      omega
    have wL : (NM.wr (List.replicate m 1) (mulP j t (normL (latP j t (normL ps))))).length ≤ 90 + 270 * (t * 1 + t) := by
      rw [wr_mul p1 nL.lenF, wr_normL lLt, wr_lat hj (by rw [onM_len]; exact p1) lT]
      exact rT.wB _ _ (on_up (onM_up t1 one_up))
    have lM := lenF_mul (j := j) (k := t) nL.lenF
    refine ⟨_, rfl, _, rfl, u, m, j, t, _, rfl, ou, hj, m3, lM, Nat.le_trans (meas_mul j t _) (by omega), small900 (Nat.le_trans wL (by omega)), t1, k100 (by omega), fun z H2 dv s2 oz => ?_, fun H2 dv s2 => absurd (dvd_mul nL.lenF hj) dv⟩
    rw [mul_divP nL.lenF hj t1, normL_id nL] at oz
    have lat_norm : ∀ i k, i < m → normL (latP i k (normL ps)) = normL (latP i k ps) := fun i k hi => norm_same (lenF_lat lT) (lenF_lat lF) fun pt hp => by rw [wr_lat hi hp lT, wr_lat hi hp lF, wr_normL lF]
    rw [lat_norm j t hj] at oz
    dsimp only
    rw [gname_eq]
    try dsimp only
    have s12 := s1.trans s2
    have later_ok : ∀ (i k : Nat), i < m → k ≤ 6 → (NM.wr (onP i k (List.replicate m 0)) ps).length + meas ps ≤ 2000 ∧ (NM.wr (onP i k (List.replicate m 1)) ps).length ≤ 1000000 := fun i k hi hk => by
      have a := rb.w0 i k hi
      have b := rb.me
      have c := rb.wB _ _ (on_up (j := i) (k := k) (one_up (m := m)))
      exact ⟨by omega, by omega⟩
    refine if_dec false (fun R q' => ?_) (fun b => (by cases b)) fun _ H3 s3 => ?_
    · refine ⟨_, rfl, rfl, _, rfl, iteF ?_⟩
      refine ⟨_, rfl, _, rfl, _, rfl, _, rfl, x, m, j, t, _, rfl, mk_later (ox.same s12) hj m3 (k100 (by omega)) lF (later_ok j t hj (by omega)).1 (later_ok j t hj (by omega)).2 fun u2 H3 s3 o2 => ?_⟩
      have oz := oz.same s3
      obtain ⟨d1, f1, e1⟩ := oz.at'
      obtain ⟨d2, f2, e2⟩ := o2.at'
      refine ⟨z, u2, d1, _, d2, _, rfl, rfl, e1, e2, z, u2, m, m, _, _, rfl, oz, o2, ⟨_, rfl⟩, ?_⟩
      rw [decide_eq_true (rfl : m = m), decide_eq_true rfl]
      refine ⟨_, _, rfl, rfl, _, rfl, ?_⟩
      exact q' _ s3
    have s13 := s12.trans s3
    have ox := ox.same s13
    have gl := gl.same s13
    have fp := fp.same s13
    have q : ∀ H'', Same H3 H'' → D.rt (.bl true) H'' := fun H'' s => q H'' (s13.trans s)
    clear ow ow' ou oz s12 s3 s1 s2 s13
    -- spots
    refine ⟨_, rfl, (m : Int), rfl, by omega, by omega, ?_⟩
    refine for_it walk_range (fun i σ H' => Same H3 H' ∧ ∃ y12 y20 y21 y22 : Option V, σ = [y0, some (.int (m : Nat)), y2, some (.ref L), some (.int (j : Nat)), some (.int (b : Nat)), some (.int (t : Nat)), some (.ref x), y8, y9, y10, y11, y12, some (.ref pw), y14, y15, some (.ref wd), y17, y18, some (.ref z), y20, y21, y22])
      ⟨Same.refl _, y12, y20, y21, y22, rfl⟩ (fun _ _ _ _ _ => True.intro) (fun i v σ H5 H4 hi pI yy => ?_) fun σ H4 pI => ?_
    · obtain ⟨sI, y12, y20, y21, y22, rfl⟩ := pI
      obtain ⟨rfl, rfl⟩ := yy
      have hi : i < m := by omega
      have ei : (0 : Int) + (i : Int) = ((i : Nat) : Int) := by omega
      have ox := ox.same sI
      have gl := gl.same sI
      obtain ⟨v1, hv1, pv1⟩ := id gl.at_
      try dsimp only
      rw [gname_eq, ei]
      refine ⟨_, rfl, _, rfl, L, v1, rfl, .inl (.inl (.inl hv1)), fun La nLa => ?_⟩
      have sLa := sameNew (o := .lst v1) nLa
      have glA : GL (upd H4 La (.lst v1)) m La ps := ⟨⟨v1, upd_same, pv1.same sLa⟩, gl.len, gl.ws, gl.low, gl.bf, gl.few⟩
      refine fun an dx nx ndx nex => mk_text nx ndx nex glA m3 (Nat.le_trans rb.me (by decide)) (small900 (Nat.le_trans (rb.wB 1 _ one_up) (by decide))) fun r1 H5 s5 nr1 ot1 => ⟨rfl, ?_⟩
      have oA : OT C H5 an m (normL ps) := ⟨r1, ot1⟩
      have s45 := sLa.trans s5
      have ox := ox.same s45
      have S5 := sI.trans s45
      clear s5 s45 sLa nLa nr1 ot1 nx ndx nex glA hv1 pv1 gl sI
      by_cases dv : Dvd i t (normL ps)
      · refine ⟨_, rfl, _, rfl, _, rfl, x, m, i, t, _, rfl, ox, hi, m3, lT, Nat.le_trans rT.me (by decide), small900 (Nat.le_trans (rT.wB 1 _ one_up) (by decide)), t1, k100 (by omega), fun z1 H6 _ s6 o1 => ⟨_, _, rfl, ?_⟩, fun H6 nd s6 => absurd dv nd⟩
        refine ⟨_, rfl, _, rfl, _, rfl, an, m, i, t, _, rfl, oA.same s6, hi, m3, lT, Nat.le_trans rT.me (by decide), small900 (Nat.le_trans (rT.wB 1 _ one_up) (by decide)), t1, k100 (by omega), fun z2 H7 _ s7 o2 => ?_, fun H7 nd s7 => absurd dv nd⟩
        have o1 := o1.same s7
        have s67 := s6.trans s7
        have ox := ox.same s67
        have oA := oA.same s67
        have S7 := S5.trans s67
        clear s6 s7 s67
        dsimp only
        rw [gname_eq]
        try dsimp only
        refine if_dec false (fun R q' => ?_) (fun b => (by cases b)) fun _ HX sX => ?_
        · refine ⟨_, rfl, _, rfl, _, rfl, x, m, i, b, _, rfl, mk_later ox hi m3 (k100 (by omega)) lF (later_ok i b hi (by omega)).1 (later_ok i b hi (by omega)).2 fun u1 H8 s8 ou1 => ?_⟩
          refine ⟨_, rfl, _, rfl, _, rfl, an, m, i, b, _, rfl, mk_later (oA.same s8) hi m3 (k100 (by omega)) lF (later_ok i b hi (by omega)).1 (later_ok i b hi (by omega)).2 fun u2 H9 s9 ou2 => ?_⟩
          have ou1 := ou1.same s9
          obtain ⟨d1, f1, e1⟩ := ou1.at'
          obtain ⟨d2, f2, e2⟩ := ou2.at'
          refine ⟨u1, u2, d1, _, d2, _, rfl, rfl, e1, e2, u1, u2, m, m, _, _, rfl, ou1, ou2, ⟨_, rfl⟩, ?_⟩
          rw [decide_eq_true (rfl : m = m), decide_eq_true rfl]
          refine ⟨_, _, rfl, rfl, _, rfl, iteF ?_⟩
          have s89 := s8.trans s9
          refine ⟨_, rfl, rfl, _, rfl, rfl, rfl, _, rfl, ?_⟩
          exact q' _ s89
        have ox := ox.same sX
        have oA := oA.same sX
        have S8 := S7.trans sX
        have o1 := o1.same sX
        have o2 := o2.same sX
        refine if_end false (fun R q' => ?_) (fun b => (by cases b)) fun _ HB sB => ⟨S8.trans sB, _, _, _, _, rfl⟩
        obtain ⟨d1, f1, e1⟩ := o1.at'
        obtain ⟨d2, f2, e2⟩ := o2.at'
        refine ⟨_, rfl, rfl, _, rfl, iteT ?_⟩
        refine ⟨_, rfl, _, rfl, z1, z2, d1, _, d2, _, rfl, rfl, e1, e2, z1, z2, m, m, _, _, rfl, o1, o2, ⟨_, rfl⟩, ?_⟩
        rw [decide_eq_true (rfl : m = m), decide_eq_true rfl]
        refine ⟨_, _, rfl, rfl, _, rfl, iteF ?_⟩
        refine ⟨_, rfl, _, rfl, x, m, i, _, rfl, ox, hi, m3, nT, Nat.le_trans rT.me (by decide), small900 (Nat.le_trans (rT.wB 1 _ one_up) (by decide)), fun xa ta Xa ka H8 s8 oa hta Fa => ?_⟩
        refine ⟨_, rfl, _, rfl, an, m, i, _, rfl, oA.same s8, hi, m3, nT, Nat.le_trans rT.me (by decide), small900 (Nat.le_trans (rT.wB 1 _ one_up) (by decide)), fun xb tb Xb kb H9 s9 ob htb Fb => ?_⟩
        obtain ⟨eX, ek⟩ := Fa.uniq hi Fb
        subst eX ek
        refine ⟨⟨ta, tb, _, _, rfl, rfl, .inl (.inl (s9 _ _ hta)), .inl (.inl htb), prs_two (oa.same s9) ob⟩, fun H10 e10 => ?_⟩
        refine ⟨_, _, rfl, rfl, _, rfl, ?_⟩
        have s810 := (s8.trans s9).trans e10
        exact q' _ s810
      · refine ⟨_, rfl, _, rfl, _, rfl, x, m, i, t, _, rfl, ox, hi, m3, lT, Nat.le_trans rT.me (by decide), small900 (Nat.le_trans (rT.wB 1 _ one_up) (by decide)), t1, k100 (by omega), fun z1 H6 d s6 o1 => absurd d dv, fun H6 _ s6 => ⟨_, _, rfl, ?_⟩⟩
        refine ⟨_, rfl, _, rfl, _, rfl, an, m, i, t, _, rfl, oA.same s6, hi, m3, lT, Nat.le_trans rT.me (by decide), small900 (Nat.le_trans (rT.wB 1 _ one_up) (by decide)), t1, k100 (by omega), fun z2 H7 d s7 o2 => absurd d dv, fun H7 _ s7 => ?_⟩
        have s67 := s6.trans s7
        have ox := ox.same s67
        have oA := oA.same s67
        have S7 := S5.trans s67
        clear s6 s7 s67
        dsimp only
        rw [gname_eq]
        try dsimp only
        refine if_dec false (fun R q' => ?_) (fun b => (by cases b)) fun _ HX sX => ?_
        · refine ⟨_, rfl, _, rfl, _, rfl, x, m, i, b, _, rfl, mk_later ox hi m3 (k100 (by omega)) lF (later_ok i b hi (by omega)).1 (later_ok i b hi (by omega)).2 fun u1 H8 s8 ou1 => ?_⟩
          refine ⟨_, rfl, _, rfl, _, rfl, an, m, i, b, _, rfl, mk_later (oA.same s8) hi m3 (k100 (by omega)) lF (later_ok i b hi (by omega)).1 (later_ok i b hi (by omega)).2 fun u2 H9 s9 ou2 => ?_⟩
          have ou1 := ou1.same s9
          obtain ⟨d1, f1, e1⟩ := ou1.at'
          obtain ⟨d2, f2, e2⟩ := ou2.at'
          refine ⟨u1, u2, d1, _, d2, _, rfl, rfl, e1, e2, u1, u2, m, m, _, _, rfl, ou1, ou2, ⟨_, rfl⟩, ?_⟩
          rw [decide_eq_true (rfl : m = m), decide_eq_true rfl]
          refine ⟨_, _, rfl, rfl, _, rfl, iteF ?_⟩
          have s89 := s8.trans s9
          refine ⟨_, rfl, rfl, _, rfl, rfl, rfl, _, rfl, ?_⟩
          exact q' _ s89
        have ox := ox.same sX
        have oA := oA.same sX
        have S8 := S7.trans sX
        refine if_end false (fun R q' => ?_) (fun b => (by cases b)) fun _ HB sB => ⟨S8.trans sB, _, _, _, _, rfl⟩
        refine ⟨_, rfl, rfl, _, rfl, iteF (iteF ?_)⟩
        refine ⟨_, rfl, _, rfl, x, m, i, _, rfl, ox, hi, m3, nT, Nat.le_trans rT.me (by decide), small900 (Nat.le_trans (rT.wB 1 _ one_up) (by decide)), fun xa ta Xa ka H8 s8 oa hta Fa => ?_⟩
        refine ⟨_, rfl, _, rfl, an, m, i, _, rfl, oA.same s8, hi, m3, nT, Nat.le_trans rT.me (by decide), small900 (Nat.le_trans (rT.wB 1 _ one_up) (by decide)), fun xb tb Xb kb H9 s9 ob htb Fb => ?_⟩
        obtain ⟨eX, ek⟩ := Fa.uniq hi Fb
        subst eX ek
        refine ⟨⟨ta, tb, _, _, rfl, rfl, .inl (.inl (s9 _ _ hta)), .inl (.inl htb), prs_two (oa.same s9) ob⟩, fun H10 e10 => ?_⟩
        refine ⟨_, _, rfl, rfl, _, rfl, ?_⟩
        have s810 := (s8.trans s9).trans e10
        exact q' _ s810
    · obtain ⟨sI, y12, y20, y21, y22, rfl⟩ := pI
      have ox := ox.same sI
      obtain ⟨vs, hvs, pvs⟩ := fp.same sI
      have lv := pvs.len
      have lop : (opF (normL ps)).length ≤ 5000 := by
        have a := (nT.small rT.me).1
        unfold opF
        rw [List.length_map]
        exact Nat.le_trans (List.length_filter_le _ _) (by omega)
      have lof : ∀ f ∈ opF (normL ps), f.length = m + 1 := fun f hf => by
        obtain ⟨p, hp, rfl⟩ := List.mem_map.mp hf
        exact lT p (List.mem_filter.mp hp).1
      refine ⟨_, rfl, _, rfl, _, rfl, _, rfl, pw, rfl, ⟨_, .inl (.inl hvs)⟩, fun D1 hD => ?_⟩
      refine lcL_mapI (K := K) (a := pw) (xs := vs) (fun i => V.int (((opF (normL ps)).getD i []).getD (j + 1) 0 : Nat)) hvs (by rw [lv, sizeLine_eq]; omega) (fun i v H5 R hi s5 q' => ?_) hD fun H5 s5 hL => ?_
      · obtain ⟨fa, f, rfl, hf, hfa⟩ := pvs.get hi
        have lf := lof f (List.mem_of_getElem? hf)
        have q1 := q' H5 (Same.refl _)
        have ef : (opF (normL ps)).getD i [] = f := by rw [List.getD_eq_getElem?_getD, hf]; rfl
        rw [ef] at q1
        have eg : (natsV f)[j + 1]? = some (.int (f.getD (j + 1) 0 : Nat)) := by
          unfold natsV
          rw [List.getElem?_map, List.getD_eq_getElem?_getD, List.getElem?_eq_getElem (by omega)]
          rfl
        exact ⟨rfl, _, rfl, _, rfl, _, _, rfl, rfl, fa, _, _, _, rfl, rfl, hfa.same s5, atI_nat (j := j + 1) eg, q1⟩
      · have eL : (List.range vs.length).map (fun i => V.int (((opF (normL ps)).getD i []).getD (j + 1) 0 : Nat)) = natsV ((opF (normL ps)).map fun f => f.getD (j + 1) 0) := by
          rw [lv]
          unfold natsV
          rw [List.map_map]
          refine List.ext_getElem (by simp) fun i h1 h2 => ?_
          have hi : i < (opF (normL ps)).length := by simpa using h1
          rw [List.getElem_map, List.getElem_map, List.getElem_range, List.getD_eq_getElem?_getD (l := opF (normL ps)), List.getElem?_eq_getElem hi]
          rfl
        rw [eL] at hL
        have s45 := sI.trans s5
        refine ⟨x, D1, m, j, b, normL ps, _, rfl, ox.same s5, nT, hj, m3, Nat.lt_of_le_of_lt hb (by decide), ?_, ?_, hL, ?_, fun H6 s6 => q H6 (s45.trans s6)⟩
        · have a := rT.w0 j b hj
          have c := rT.me
          omega
        · exact Nat.le_trans (rT.wB _ _ (on_up one_up)) (by omega)
        · rw [lenP_getD lT]
          exact opF_sum fun p hp => (nT.all p hp).ne
end
end K23

set_option Elab.async false
set_option linter.all false
set_option maxRecDepth 100000
set_option maxHeartbeats 8000000
namespace K23
open PySem PySem.Spec PyProof.Rows L2 CK SX NM
theorem opF_take {T : List Pn} {i : Nat} {p : Pn} (h : T[i]? = some p) : opF (T.take (i + 1)) = opF (T.take i) ++ (if isOpen p.2 = true then [p.2] else []) := by
  unfold opF
  rw [List.take_succ, h, List.filter_append, List.map_append]
  congr 1
  show ((List.filter (fun p => isOpen p.2) [p]).map fun p => p.2) = _
  rw [List.filter_cons, List.filter_nil]
  split <;> rfl
theorem open_iff_sum {f : F} : isOpen f = decide (0 < f.tail.sum) := by
  have key : ∀ l : List Nat, (l.any fun x => decide (x ≠ 0)) = decide (0 < l.sum) := fun l => by
    induction l with
    | nil => rfl
    | cons a l ih =>
      rw [List.any_cons, ih, List.sum_cons]
      by_cases z : a = 0
      · subst z
        rw [Nat.zero_add]
        simp
      · rw [decide_eq_true z, Bool.true_or]
        exact (decide_eq_true (by omega)).symm
  exact key _
theorem opF_dvd {j t : Nat} {T : List Pn} : Dvd j t T ↔ ∀ f ∈ opF T, f.getD (j + 1) 0 % t = 0 := by
  constructor
  · intro d f hf
    obtain ⟨p, hp, rfl⟩ := List.mem_map.mp hf
    exact d p (List.mem_filter.mp hp).1
  · intro d p hp
    by_cases o : isOpen p.2 = true
    · exact d p.2 (List.mem_map.mpr ⟨p, List.mem_filter.mpr ⟨hp, o⟩, rfl⟩)
    · rw [shut_zero (j := j) o]
      exact Nat.zero_mod t
theorem join3 {a b c u : TS} {D : Ends} {σ : L2.St} {H : Hp} (Pre : L2.St → Hp → Prop) (rest : ∀ σ' H', Pre σ' H' → u D σ' H') (m : ∀ U : TS, (∀ σ' H', Pre σ' H' → U D σ' H') → tSeq a (tSeq b (tSeq c U)) D σ H) : tSeq a (tSeq b (tSeq c u)) D σ H := m u rest
theorem eqv_nil (ds : List PyData) : PyData.eqv (.list ds) (.list []) = decide (ds = []) := by
  cases ds with
  | nil => decide +kernel
  | cons d ds => rfl
theorem Fs.pick {H : Hp} {vs : List V} {fs : List F} (h : Fs H vs fs) : ∀ is : List Nat, (∀ i ∈ is, i < vs.length) → Fs H (is.map fun i => vs.getD i .non) (is.map fun i => fs.getD i [])
  | [], _ => .nil
  | i :: is, hi => by
    have l := hi i List.mem_cons_self
    obtain ⟨a, f, e, hf, hfa⟩ := h.get (List.getElem?_eq_getElem l)
    have e1 : vs.getD i .non = .ref a := by rw [List.getD_eq_getElem?_getD, List.getElem?_eq_getElem l, e]; rfl
    have e2 : fs.getD i [] = f := by rw [List.getD_eq_getElem?_getD, hf]; rfl
    rw [List.map_cons, List.map_cons, e1, e2]
    exact .cons hfa (Fs.pick h is fun i hi' => hi i (List.mem_cons_of_mem _ hi'))
section
variable {P : Program} {w : World} {K : PySem.W.Frag} {mg : Str → Option Value} {base : Heap} {C : Addr}
/-- from the text moved on on -/
theorem right_tail1 (T : Txt K mg C) (f0 : Addr) (cdv : Value) (A : Around) (outer : List Env) (s : Shared) (H0 : Hp) (E : XK) (hr : Room 13 (A.deeper (envOfC "_law_right" (C8.fnScope (topS 88)) s.heap.objs.size f0 cdv))) :
    ∃ u, PSs (cxOf C8.CX0 P w K mg base ["_law_generator_here", "_law_many", "_law_signs", "_law_pieces", "_law_at", "_law_by", "_law_times", "_law_text", "_law_grown", "_law_turn", "_law_point_here", "_law_far", "_law_told", "_law_powers", "_law_word_here", "_law_form_here", "_law_wide", "_law_back", "_law_step", "_law_deeper", "_law_spot", "_law_anew", "_law_again"] "_law_right" (C8.fnScope (topS 88)) f0 cdv A outer s H0 E).nox ((C8.fnBody (topS 88)).drop 6) u ∧
      ∀ (D : Ends) (σ : L2.St) (H : Hp) (L x gr : Addr) (m j b t : Nat) (ps : List Pn) (y0 y2 y9 y10 y11 y12 y13 y14 y15 y16 y17 y18 y19 y20 y21 y22 : Option V),
        σ = [y0, some (.int (m : Nat)), y2, some (.ref L), some (.int (j : Nat)), some (.int (b : Nat)), some (.int (t : Nat)), some (.ref x), some (.ref gr), y9, y10, y11, y12, y13, y14, y15, y16, y17, y18, y19, y20, y21, y22] → m ≤ 3 → j < m → b ≤ 5 → 1 ≤ t → t ≤ 4 →
        OT C H x m (normL ps) → OT C H gr m (normL (latP j b ps)) → RB m ps → GL H m L ps →
        (∀ H', Same H H' → D.rt (.bl true) H') → u D σ H := by
  obtain ⟨u13, hu13, tail⟩ := right_tail2 (P := P) (w := w) (base := base) T f0 cdv A outer s H0 E hr
  refine ⟨_, (pss_cons (ps_if (pt_cmpR op_notBl (pe_cmpR (op_eqO (m_OpenText___eq__ T) hr (by decide)) (C8.pe_c (c_later T) hr (by decide) (by rfl) (pa_cons (pv 8) (pa_cons (pv 4) (pa_cons pe_int pa_nil)))) (C8.pe_c (c_later T) hr (by decide) (by rfl) (pa_cons (pv 7) (pa_cons (pv 4) (pa_cons (pe_op op_add (pv 5) pe_int) pa_nil)))) (nomark _)) pe_bl (nomark _))
    (pss_one (ps_ret pe_bl))
    pss_nil)
    (pss_cons (ps_par (i := 12) (j := 13) (by rfl) sc_law_right.nd rfl rfl (by decide) rfl rfl (pa_cons (C8.pe_c (c_thinned T) hr (by decide) (by rfl) (pa_cons (pv 7) (pa_cons (pv 4) (pa_cons (pv 6) pa_nil)))) (pa_cons (pe_lc (own := [("_law_word_here", 14), ("_law_form_here", 15)]) (by rfl) sc_law_right.nd (pi_list (C8.pe_mt0 (m_OpenText_pieces T) hr (by decide) (pv 7))) (blkOk_by (N := ["_law_generator_here", "_law_many", "_law_signs", "_law_pieces", "_law_at", "_law_by", "_law_times", "_law_text", "_law_grown", "_law_turn", "_law_point_here", "_law_far", "_law_told", "_law_powers", "_law_word_here", "_law_form_here", "_law_wide", "_law_back", "_law_step", "_law_deeper", "_law_spot", "_law_anew", "_law_again"]) (sc := C8.fnScope (topS 88)) (own := [("_law_word_here", 14), ("_law_form_here", 15)]) (by decide +kernel)) (fun _ _ _ _ _ => (pg_two (K := K) (i := 14) (j := 15) rfl rfl sc_law_right.nd rfl rfl (Or.inl rfl) (Or.inl rfl))) (fun _ _ _ _ _ => (pts_one (pt_cmpR op_gt (pe_callB (cr_sumT rfl) (by rfl) T.m_sum (by decide +kernel) (pa_cons (pe_slice sl_drop (pv 15) (po_some pe_int) po_none) pa_nil)) pe_int (nomark _)))) (fun _ _ _ _ _ => (pv 15))) pa_nil)) (by rfl))
    (pss_cons (ps_if (pt_cmpR op_ne (pe_cmpR op_isN (pv 12) pe_non (nomark _)) (pe_cmpR (op_neD hr.units) (pe_lc (own := [("_law_form_here", 15)]) (by rfl) sc_law_right.nd (pi_list (pv 13)) (blkOk_by (N := ["_law_generator_here", "_law_many", "_law_signs", "_law_pieces", "_law_at", "_law_by", "_law_times", "_law_text", "_law_grown", "_law_turn", "_law_point_here", "_law_far", "_law_told", "_law_powers", "_law_word_here", "_law_form_here", "_law_wide", "_law_back", "_law_step", "_law_deeper", "_law_spot", "_law_anew", "_law_again"]) (sc := C8.fnScope (topS 88)) (own := [("_law_form_here", 15)]) (by decide +kernel)) (fun _ _ _ _ _ => (pg_name (i := 15) sc_law_right.nd rfl (Or.inl rfl))) (fun _ _ _ _ _ => (pts_one (pt_cmpR op_ne (pe_op op_modN (pe_callTy call_int1 (by rfl) T.m_int (by decide +kernel) (pa_cons (pe_ix ix_tupH (pv 15) (pe_op op_add (pv 4) pe_int) (fun _ _ => rfl)) pa_nil)) (pv 6)) pe_int (nomark _)))) (fun _ _ _ _ _ => (pv 15))) (pe_lst pa_nil) (nomark _)) (nomark _))
    (pss_one (ps_ret pe_bl))
    pss_nil)
    (pss_cons (ps_if (PW.pt (pw_and (pt_cmpR op_notN (pv 12) pe_non (nomark _)) (pw_and1 (pt_cmpR op_notBl (pe_cmpR (op_eqO (m_OpenText___eq__ T) hr (by decide)) (C8.pe_c (c_replaced T) hr (by decide) (by rfl) (pa_cons (pv 12) (pa_cons (pv 1) (pa_cons (C8.pe_c (c_law_units T) hr (by decide) (by rfl) (pa_cons (pv 1) (pa_cons (pv 4) (pa_cons (pv 6) pa_nil)))) pa_nil)))) (pv 7) (nomark _)) pe_bl (nomark _)))))
    (pss_one (ps_ret pe_bl))
    pss_nil)
    (pss_cons (ps_set (i := 16) sc_law_right.nd rfl (Or.inl rfl) (C8.pe_c (c_replaced T) hr (by decide) (by rfl) (pa_cons (pv 7) (pa_cons (pv 1) (pa_cons (C8.pe_c (c_law_units T) hr (by decide) (by rfl) (pa_cons (pv 1) (pa_cons (pv 4) (pa_cons (pv 6) pa_nil)))) pa_nil)))))
    (pss_cons (ps_set (i := 17) sc_law_right.nd rfl (Or.inl rfl) (C8.pe_c (c_thinned T) hr (by decide) (by rfl) (pa_cons (pv 16) (pa_cons (pv 4) (pa_cons (pv 6) pa_nil)))))
    (pss_cons (ps_if (PW.pt (pw_or (pt_cmpR op_isN (pv 17) pe_non (nomark _)) (pw_or (pt_cmpR op_notBl (pe_cmpR (op_eqO (m_OpenText___eq__ T) hr (by decide)) (pv 17) (pv 7) (nomark _)) pe_bl (nomark _)) (pw_or1 (pt_cmpR op_notBl (pe_cmpR (op_eqO (m_OpenText___eq__ T) hr (by decide)) (C8.pe_c (c_thinned T) hr (by decide) (by rfl) (pa_cons (pv 7) (pa_cons (pv 4) (pa_cons pe_int pa_nil)))) (pv 7) (nomark _)) pe_bl (nomark _))))))
    (pss_one (ps_ret pe_bl))
    pss_nil)
    hu13))))))), ?_⟩
  intro D σ H L x gr m j b t ps y0 y2 y9 y10 y11 y12 y13 y14 y15 y16 y17 y18 y19 y20 y21 y22 eσ m3 hj hb t1 t4 ox og rb gl q
  subst eσ
  have lF := rb.lF
  have rT := rb.norm
  have nT := nm_normL lF
  have lT := rT.lF
  have p0 : (List.replicate m 0).length = m := by simp
  have p1 : (List.replicate m 1).length = m := by simp
  have eT : normL (normL ps) = normL ps := normL_id nT
  have k100 : ∀ {k : Nat}, k ≤ 6 → k < 2 ^ 100 := fun {k} h => Nat.lt_of_le_of_lt h (by decide)
  have lL := lenF_lat (j := j) (k := b) lF
  have w01 : (NM.wr (onP j 1 (List.replicate m 0)) (latP j b ps)).length ≤ 90 + 90 * (b + 1) := by
    rw [wr_lat hj (by rw [onP_len]; exact p0) lF, on_on (by omega)]
    exact rb.w0 j (b + 1) hj
  have w11 : (NM.wr (onP j 1 (List.replicate m 1)) (latP j b ps)).length ≤ 90 + 270 * (1 + 1 + b) := by
    rw [wr_lat hj (by rw [onP_len]; exact p1) lF]
    exact rb.wB _ _ (on_up (on_up one_up))
  have mL : meas (latP j b ps) ≤ 90 + 90 * b + 120 := by
    have a := meas_lat (b := b) hj lF
    have c := rb.w0 j b hj
    have d := rb.me
    omega
  have later_ok : ∀ (i k : Nat), i < m → k ≤ 6 → (NM.wr (onP i k (List.replicate m 0)) ps).length + meas ps ≤ 2000 ∧ (NM.wr (onP i k (List.replicate m 1)) ps).length ≤ 1000000 := fun i k hi hk => by
    have a := rb.w0 i k hi
    have b := rb.me
    have c := rb.wB _ _ (on_up (j := i) (k := k) (one_up (m := m)))
    exact ⟨by omega, by omega⟩
  refine if_dec false (fun R q' => ?_) (fun b => (by cases b)) fun _ H3 s3 => ?_
  · refine ⟨_, rfl, _, rfl, gr, m, j, 1, _, rfl, mk_later (k := 1) og hj m3 (k100 (by decide)) lL (by omega) (by omega) fun u1 H1 s1 o1 => ?_⟩
    refine ⟨_, rfl, _, rfl, _, rfl, _, _, rfl, rfl, x, m, j, b + 1, _, rfl, mk_later (k := b + 1) (ox.same s1) hj m3 (k100 (by omega)) lF (later_ok j (b + 1) hj (by omega)).1 (later_ok j (b + 1) hj (by omega)).2 fun u2 H2 s2 o2 => ?_⟩
    have eN : normL (latP j 1 (latP j b ps)) = normL (latP j (b + 1) ps) := norm_same (lenF_lat lL) (lenF_lat lF) fun pt hp => by rw [wr_lat hj hp lL, wr_lat hj (by rw [onP_len]; exact hp) lF, wr_lat hj hp lF, on_on (by omega)]
    rw [eN] at o1
    have o1 := o1.same s2
    obtain ⟨d1, f1, e1⟩ := o1.at'
    obtain ⟨d2, f2, e2⟩ := o2.at'
    refine ⟨u1, u2, d1, _, d2, _, rfl, rfl, e1, e2, u1, u2, m, m, _, _, rfl, o1, o2, ⟨_, rfl⟩, ?_⟩
    rw [decide_eq_true (rfl : m = m), decide_eq_true rfl]
    refine ⟨_, _, rfl, rfl, _, rfl, ?_⟩
    exact q' _ (s1.trans s2)
  have ox := ox.same s3
  have gl := gl.same s3
  have q : ∀ H'', Same H3 H'' → D.rt (.bl true) H'' := fun H'' s => q H'' (s3.trans s)
  clear s3 og w01 w11 mL
  -- thinned, and the powers
  refine join3 (fun σ' H' => ∃ (y12 y14 y15 : Option V) (pw : Addr), σ' = [y0, some (.int (m : Nat)), y2, some (.ref L), some (.int (j : Nat)), some (.int (b : Nat)), some (.int (t : Nat)), some (.ref x), some (.ref gr), y9, y10, y11, y12, some (.ref pw), y14, y15, y16, y17, y18, y19, y20, y21, y22] ∧ Same H3 H' ∧ FL H' pw (opF (normL ps))) (fun σ' H' pre => ?_) fun U hU => ?_
  rotate_left
  · obtain ⟨r1, ⟨dx, hx⟩, gx⟩ := id ox
    by_cases dv : Dvd j t (normL ps)
    · refine ⟨_, rfl, _, rfl, _, rfl, x, m, j, t, _, rfl, ox, hj, m3, lT, Nat.le_trans rT.me (by decide), small900 (Nat.le_trans (rT.wB 1 _ one_up) (by decide)), t1, k100 (by omega), fun z1 H4 _ s4 o1 => ?_, fun H4 nd s4 => absurd dv nd⟩
      refine ⟨_, rfl, x, dx, _, rfl, s4 _ _ hx, (OF_no r1 m).1, x, m, _, rfl, ox.same s4, fun L5 H5 s5 n5 g5 => ?_⟩
      obtain ⟨vs, hvs, pvs⟩ := id g5.at_
      have lv := pvs.len
      have few := g5.few
      refine ⟨L5, rfl, ⟨_, .inl (.inl hvs)⟩, fun Da hD => ?_⟩
      refine lc_list (K := K) (a := L5) (xs := vs) (fun iq H2 => Same H5 H2 ∧ ∃ ws, H2 Da = some (.lst ws) ∧ Fs H2 ws (opF ((normL ps).take iq))) ⟨sameNew hD, [], upd_same, .nil⟩ (fun iq H2 _ p => .inl (.inl (p.1 _ _ hvs))) (fun iq yv H2 hi p => ?_) fun H6 p => ?_
      · obtain ⟨sA, ws, hws, pws⟩ := p
        obtain ⟨bq, p, rfl, hpi, pc⟩ := pvs.get hi
        have mem := List.mem_of_getElem? hpi
        obtain ⟨fa, e1, e2⟩ := pc.mono (tup_same sA)
        have e2' : H2 fa = some (.tup (natsV p.2)) := e2
        have lw := pws.len
        have lw2 : (opF ((normL ps).take iq)).length ≤ (normL ps).length := by
          unfold opF
          rw [List.length_map]
          exact Nat.le_trans (List.length_filter_le _ _) (by rw [List.length_take]; omega)
        refine ⟨bq, _, rfl, .inl (.inl e1), rfl, _, _, rfl, _, _, rfl, rfl, rfl, ?_⟩
        refine ⟨_, rfl, 1, rfl, fa, _, 1, rfl, rfl, rfl, e2', fun p2 HB sB h2 => ?_⟩
        have h2' : HB p2 = some (.tup ((p.2.tail.map fun n : Nat => ((n : Nat) : Int)).map V.int)) := by
          rw [h2, natsV_drop, List.map_map]
          cases p.2 <;> rfl
        refine ⟨p2, _, rfl, h2', _, _, rfl, rfl, _, rfl, ?_⟩
        rw [sum_nats, opF_take hpi]
        have eo := open_iff_sum (f := p.2)
        by_cases z : 0 < p.2.tail.sum
        · rw [decide_eq_true (show ((p.2.tail.sum : Nat) : Int) > 0 by omega)]
          rw [decide_eq_true z] at eo
          rw [if_pos eo]
          have hw3 := sB _ _ hws
          refine iteT ⟨_, rfl, ws, hw3, by rw [sizeLine_eq]; omega, same_upd2 hD (sA.trans sB), _, upd_same, ?_⟩
          exact ((pws.same sB).mono (tup_upd hw3)).app (.cons (tup_upd hw3 _ _ (sB _ _ e2')) .nil)
        · rw [decide_eq_false (show ¬ ((p.2.tail.sum : Nat) : Int) > 0 by omega)]
          rw [decide_eq_false z] at eo
          rw [if_neg (by rw [eo]; exact Bool.false_ne_true), List.append_nil]
          exact iteF ⟨sA.trans sB, ws, sB _ _ hws, pws.same sB⟩
      obtain ⟨s6, ws, hws, pws⟩ := p
      rw [lv, List.take_length] at pws
      refine ⟨_, _, rfl, ?_⟩
      have s46 := s5.trans s6
      have s16 := s4.trans s46
      have fl : FL H6 Da (opF (normL ps)) := ⟨ws, hws, pws⟩
      try dsimp only
      refine if_dec false (fun R q' => ?_) (fun b => (by cases b)) fun _ H7 s7 => ?_
      · refine ⟨_, rfl, rfl, ?_⟩
        have lw := pws.len
        have lw5 : ws.length ≤ 5000 := by
          rw [lw]
          unfold opF
          rw [List.length_map]
          exact Nat.le_trans (List.length_filter_le _ _) (by omega)
        refine ⟨_, rfl, Da, rfl, ⟨_, .inl (.inl hws)⟩, fun D2 hD2 => ?_⟩
        refine lcL_filt (K := K) (a := Da) (xs := ws) (fun iq => decide (((opF (normL ps)).getD iq []).getD (j + 1) 0 % t ≠ 0)) (fun iq => ws.getD iq .non) (fun H s => .inl (.inl (s _ _ hws))) (by rw [sizeLine_eq]; omega) (fun iq v HB R1 R0 hv sB q1 q0 => ?_) hD2 fun HB sB hL => ?_
        · obtain ⟨fa, f, rfl, hf, hfa⟩ := pws.get hv
          have memf := List.mem_of_getElem? hf
          have lf : f.length = m + 1 := by
            obtain ⟨p, hp, rfl⟩ := List.mem_map.mp memf
            exact lT p (List.mem_filter.mp hp).1
          have ef : (opF (normL ps)).getD iq [] = f := by rw [List.getD_eq_getElem?_getD, hf]; rfl
          have eg : (natsV f)[j + 1]? = some (.int (f.getD (j + 1) 0 : Nat)) := by
            unfold natsV
            rw [List.getElem?_map, List.getD_eq_getElem?_getD, List.getElem?_eq_getElem (by omega)]
            rfl
          have ew : ws.getD iq .non = .ref fa := by rw [List.getD_eq_getElem?_getD, hv]; rfl
          rw [ef] at q1 q0
          rw [ew] at q1
          refine ⟨rfl, _, rfl, _, rfl, _, _, rfl, rfl, fa, _, _, _, rfl, rfl, hfa.same sB, atI_nat (j := j + 1) eg, .inl ⟨_, rfl, ?_⟩⟩
          have em : (((f.getD (j + 1) 0 : Nat) : Int).fmod (t : Int)) = ((f.getD (j + 1) 0 % t : Nat) : Int) := by
            rw [Int.fmod_eq_emod_of_nonneg _ (by omega)]
            rfl
          refine ⟨_, rfl, _, _, rfl, rfl, by show (t : Int) ≠ 0; omega, ?_⟩
          dsimp only
          rw [em]
          refine ⟨rfl, _, rfl, ?_⟩
          by_cases dz : f.getD (j + 1) 0 % t = 0
          · have e : decide (V.int ((f.getD (j + 1) 0 % t : Nat) : Int) = V.int 0) = true := decide_eq_true (by rw [dz]; rfl)
            rw [e]
            exact iteF (q0 (decide_eq_false (fun h => h dz)) _ (Same.refl _))
          · have e : decide (V.int ((f.getD (j + 1) 0 % t : Nat) : Int) = V.int 0) = false := decide_eq_false (fun h => dz (by have := V.int.inj h; omega))
            rw [e]
            exact iteT ⟨_, rfl, q1 (decide_eq_true dz) _ (Same.refl _)⟩
        · refine ⟨by show 0 ≤ sizeLine; decide, fun M nM => ?_⟩
          have sM := sameNew (o := .lst []) nM
          have sQ := sB.trans sM
          have fq : FL HB D2 (((List.range ws.length).filter fun iq => decide (((opF (normL ps)).getD iq []).getD (j + 1) 0 % t ≠ 0)).map fun iq => (opF (normL ps)).getD iq []) := ⟨_, hL, (pws.same sB).pick _ fun i hi => List.mem_range.mp (List.mem_filter.mp hi).1⟩
          refine ⟨_, .list ([] : List PyData), dp_FL (fq.same sM), .lst (.inl (.inl upd_same)) .nil, shaped_forms _, shaped_nil, ?_⟩
          have ev : PyData.eqv (.list (((((List.range ws.length).filter fun iq => decide (((opF (normL ps)).getD iq []).getD (j + 1) 0 % t ≠ 0)).map fun iq => (opF (normL ps)).getD iq []).map fun f => f.map fun n : Nat => ((n : Nat) : Int)).map dI)) (.list []) = decide (∀ f ∈ opF (normL ps), f.getD (j + 1) 0 % t = 0) := by
            rw [eqv_nil]
            refine decide_eq_decide.mpr ?_
            rw [List.map_eq_nil_iff, List.map_eq_nil_iff, List.map_eq_nil_iff, List.filter_eq_nil_iff]
            constructor
            · intro h f hf
              obtain ⟨i, hi, e⟩ := List.mem_iff_getElem.mp hf
              have := h i (List.mem_range.mpr (by omega))
              rw [List.getD_eq_getElem?_getD (l := opF (normL ps)), List.getElem?_eq_getElem hi] at this
              rw [← e]
              exact Classical.byContradiction fun y => this (decide_eq_true y)
            · intro h i hi hd
              have hi := List.mem_range.mp hi
              rw [lw] at hi
              have d := of_decide_eq_true hd
              rw [List.getD_eq_getElem?_getD (l := opF (normL ps)), List.getElem?_eq_getElem hi] at d
              exact d (h _ (List.getElem_mem hi))
          rw [(decide_eq_true (opF_dvd.mp dv))] at ev
          rw [ev]
          refine ⟨rfl, _, rfl, ?_⟩
          exact q' _ sQ
      have s17 := s16.trans s7
      have fl := fl.same s7
      refine if_dec false (fun R q' => ?_) (fun b => (by cases b)) fun _ H8 s8 => ?_
      · have o1 := (o1.same s46).same s7
        have ox := ox.same s17
        refine ⟨_, rfl, rfl, _, rfl, iteT ?_⟩
        have eD := div_mulP lT hj dv
        have lD := lenF_div (j := j) (k := t) lT
        refine ⟨_, rfl, _, rfl, _, rfl, _, rfl, _, rfl, m, j, t, rfl, m3, Nat.lt_of_le_of_lt (show t ≤ 4 from t4) (by decide), fun l H9 s9 ful => ?_⟩
        refine ⟨z1, l, m, m, _, _, rfl, mk_repl (o1.same s9) lD hj m3 (by omega) ful (Nat.le_trans (meas_div j t _) (Nat.le_trans rT.me (by decide))) (by rw [← wr_mul p1 lD, eD]; exact Nat.le_trans (rT.wB 1 _ one_up) (by decide)) fun u HA sA ou => ?_⟩
        rw [eD, eT] at ou
        have ox := (ox.same s9).same sA
        obtain ⟨d1, f1, e1⟩ := ou.at'
        obtain ⟨d2, f2, e2⟩ := ox.at'
        refine ⟨_, rfl, u, x, d1, _, d2, _, rfl, rfl, e1, e2, u, x, m, m, _, _, rfl, ou, ox, ⟨_, rfl⟩, ?_⟩
        rw [decide_eq_true (rfl : m = m), decide_eq_true rfl]
        refine ⟨_, _, rfl, rfl, _, rfl, ?_⟩
        exact q' _ (s9.trans sA)
      exact hU _ _ ⟨_, _, _, _, rfl, s17.trans s8, fl.same s8⟩
    · refine ⟨_, rfl, _, rfl, _, rfl, x, m, j, t, _, rfl, ox, hj, m3, lT, Nat.le_trans rT.me (by decide), small900 (Nat.le_trans (rT.wB 1 _ one_up) (by decide)), t1, k100 (by omega), fun z1 H4 d s4 o1 => absurd d dv, fun H4 _ s4 => ?_⟩
      refine ⟨_, rfl, x, dx, _, rfl, s4 _ _ hx, (OF_no r1 m).1, x, m, _, rfl, ox.same s4, fun L5 H5 s5 n5 g5 => ?_⟩
      obtain ⟨vs, hvs, pvs⟩ := id g5.at_
      have lv := pvs.len
      have few := g5.few
      refine ⟨L5, rfl, ⟨_, .inl (.inl hvs)⟩, fun Da hD => ?_⟩
      refine lc_list (K := K) (a := L5) (xs := vs) (fun iq H2 => Same H5 H2 ∧ ∃ ws, H2 Da = some (.lst ws) ∧ Fs H2 ws (opF ((normL ps).take iq))) ⟨sameNew hD, [], upd_same, .nil⟩ (fun iq H2 _ p => .inl (.inl (p.1 _ _ hvs))) (fun iq yv H2 hi p => ?_) fun H6 p => ?_
      · obtain ⟨sA, ws, hws, pws⟩ := p
        obtain ⟨bq, p, rfl, hpi, pc⟩ := pvs.get hi
        have mem := List.mem_of_getElem? hpi
        obtain ⟨fa, e1, e2⟩ := pc.mono (tup_same sA)
        have e2' : H2 fa = some (.tup (natsV p.2)) := e2
        have lw := pws.len
        have lw2 : (opF ((normL ps).take iq)).length ≤ (normL ps).length := by
          unfold opF
          rw [List.length_map]
          exact Nat.le_trans (List.length_filter_le _ _) (by rw [List.length_take]; omega)
        refine ⟨bq, _, rfl, .inl (.inl e1), rfl, _, _, rfl, _, _, rfl, rfl, rfl, ?_⟩
        refine ⟨_, rfl, 1, rfl, fa, _, 1, rfl, rfl, rfl, e2', fun p2 HB sB h2 => ?_⟩
        have h2' : HB p2 = some (.tup ((p.2.tail.map fun n : Nat => ((n : Nat) : Int)).map V.int)) := by
          rw [h2, natsV_drop, List.map_map]
          cases p.2 <;> rfl
        refine ⟨p2, _, rfl, h2', _, _, rfl, rfl, _, rfl, ?_⟩
        rw [sum_nats, opF_take hpi]
        have eo := open_iff_sum (f := p.2)
        by_cases z : 0 < p.2.tail.sum
        · rw [decide_eq_true (show ((p.2.tail.sum : Nat) : Int) > 0 by omega)]
          rw [decide_eq_true z] at eo
          rw [if_pos eo]
          have hw3 := sB _ _ hws
          refine iteT ⟨_, rfl, ws, hw3, by rw [sizeLine_eq]; omega, same_upd2 hD (sA.trans sB), _, upd_same, ?_⟩
          exact ((pws.same sB).mono (tup_upd hw3)).app (.cons (tup_upd hw3 _ _ (sB _ _ e2')) .nil)
        · rw [decide_eq_false (show ¬ ((p.2.tail.sum : Nat) : Int) > 0 by omega)]
          rw [decide_eq_false z] at eo
          rw [if_neg (by rw [eo]; exact Bool.false_ne_true), List.append_nil]
          exact iteF ⟨sA.trans sB, ws, sB _ _ hws, pws.same sB⟩
      obtain ⟨s6, ws, hws, pws⟩ := p
      rw [lv, List.take_length] at pws
      refine ⟨_, _, rfl, ?_⟩
      have s46 := s5.trans s6
      have s16 := s4.trans s46
      have fl : FL H6 Da (opF (normL ps)) := ⟨ws, hws, pws⟩
      try dsimp only
      refine if_dec false (fun R q' => ?_) (fun b => (by cases b)) fun _ H7 s7 => ?_
      · refine ⟨_, rfl, rfl, ?_⟩
        have lw := pws.len
        have lw5 : ws.length ≤ 5000 := by
          rw [lw]
          unfold opF
          rw [List.length_map]
          exact Nat.le_trans (List.length_filter_le _ _) (by omega)
        refine ⟨_, rfl, Da, rfl, ⟨_, .inl (.inl hws)⟩, fun D2 hD2 => ?_⟩
        refine lcL_filt (K := K) (a := Da) (xs := ws) (fun iq => decide (((opF (normL ps)).getD iq []).getD (j + 1) 0 % t ≠ 0)) (fun iq => ws.getD iq .non) (fun H s => .inl (.inl (s _ _ hws))) (by rw [sizeLine_eq]; omega) (fun iq v HB R1 R0 hv sB q1 q0 => ?_) hD2 fun HB sB hL => ?_
        · obtain ⟨fa, f, rfl, hf, hfa⟩ := pws.get hv
          have memf := List.mem_of_getElem? hf
          have lf : f.length = m + 1 := by
            obtain ⟨p, hp, rfl⟩ := List.mem_map.mp memf
            exact lT p (List.mem_filter.mp hp).1
          have ef : (opF (normL ps)).getD iq [] = f := by rw [List.getD_eq_getElem?_getD, hf]; rfl
          have eg : (natsV f)[j + 1]? = some (.int (f.getD (j + 1) 0 : Nat)) := by
            unfold natsV
            rw [List.getElem?_map, List.getD_eq_getElem?_getD, List.getElem?_eq_getElem (by omega)]
            rfl
          have ew : ws.getD iq .non = .ref fa := by rw [List.getD_eq_getElem?_getD, hv]; rfl
          rw [ef] at q1 q0
          rw [ew] at q1
          refine ⟨rfl, _, rfl, _, rfl, _, _, rfl, rfl, fa, _, _, _, rfl, rfl, hfa.same sB, atI_nat (j := j + 1) eg, .inl ⟨_, rfl, ?_⟩⟩
          have em : (((f.getD (j + 1) 0 : Nat) : Int).fmod (t : Int)) = ((f.getD (j + 1) 0 % t : Nat) : Int) := by
            rw [Int.fmod_eq_emod_of_nonneg _ (by omega)]
            rfl
          refine ⟨_, rfl, _, _, rfl, rfl, by show (t : Int) ≠ 0; omega, ?_⟩
          dsimp only
          rw [em]
          refine ⟨rfl, _, rfl, ?_⟩
          by_cases dz : f.getD (j + 1) 0 % t = 0
          · have e : decide (V.int ((f.getD (j + 1) 0 % t : Nat) : Int) = V.int 0) = true := decide_eq_true (by rw [dz]; rfl)
            rw [e]
            exact iteF (q0 (decide_eq_false (fun h => h dz)) _ (Same.refl _))
          · have e : decide (V.int ((f.getD (j + 1) 0 % t : Nat) : Int) = V.int 0) = false := decide_eq_false (fun h => dz (by have := V.int.inj h; omega))
            rw [e]
            exact iteT ⟨_, rfl, q1 (decide_eq_true dz) _ (Same.refl _)⟩
        · refine ⟨by show 0 ≤ sizeLine; decide, fun M nM => ?_⟩
          have sM := sameNew (o := .lst []) nM
          have sQ := sB.trans sM
          have fq : FL HB D2 (((List.range ws.length).filter fun iq => decide (((opF (normL ps)).getD iq []).getD (j + 1) 0 % t ≠ 0)).map fun iq => (opF (normL ps)).getD iq []) := ⟨_, hL, (pws.same sB).pick _ fun i hi => List.mem_range.mp (List.mem_filter.mp hi).1⟩
          refine ⟨_, .list ([] : List PyData), dp_FL (fq.same sM), .lst (.inl (.inl upd_same)) .nil, shaped_forms _, shaped_nil, ?_⟩
          have ev : PyData.eqv (.list (((((List.range ws.length).filter fun iq => decide (((opF (normL ps)).getD iq []).getD (j + 1) 0 % t ≠ 0)).map fun iq => (opF (normL ps)).getD iq []).map fun f => f.map fun n : Nat => ((n : Nat) : Int)).map dI)) (.list []) = decide (∀ f ∈ opF (normL ps), f.getD (j + 1) 0 % t = 0) := by
            rw [eqv_nil]
            refine decide_eq_decide.mpr ?_
            rw [List.map_eq_nil_iff, List.map_eq_nil_iff, List.map_eq_nil_iff, List.filter_eq_nil_iff]
            constructor
            · intro h f hf
              obtain ⟨i, hi, e⟩ := List.mem_iff_getElem.mp hf
              have := h i (List.mem_range.mpr (by omega))
              rw [List.getD_eq_getElem?_getD (l := opF (normL ps)), List.getElem?_eq_getElem hi] at this
              rw [← e]
              exact Classical.byContradiction fun y => this (decide_eq_true y)
            · intro h i hi hd
              have hi := List.mem_range.mp hi
              rw [lw] at hi
              have d := of_decide_eq_true hd
              rw [List.getD_eq_getElem?_getD (l := opF (normL ps)), List.getElem?_eq_getElem hi] at d
              exact d (h _ (List.getElem_mem hi))
          rw [(decide_eq_false (fun h => dv (opF_dvd.mpr h)))] at ev
          rw [ev]
          refine ⟨rfl, _, rfl, ?_⟩
          exact q' _ sQ
      have s17 := s16.trans s7
      have fl := fl.same s7
      refine if_dec false (fun R q' => ?_) (fun b => (by cases b)) fun _ H8 s8 => ?_
      · refine ⟨_, rfl, rfl, _, rfl, iteF ?_⟩
        exact q' _ (Same.refl _)
      exact hU _ _ ⟨_, _, _, _, rfl, s17.trans s8, fl.same s8⟩
  obtain ⟨y12, y14, y15, pw, rfl, s4, fl⟩ := pre
  have ox := ox.same s4
  have gl := gl.same s4
  have q : ∀ H'', Same H' H'' → D.rt (.bl true) H'' := fun H'' s => q H'' (s4.trans s)
  clear s4
  have lM := lenF_mul (j := j) (k := t) lT
  have mM : meas (mulP j t (normL ps)) ≤ 120 := Nat.le_trans (meas_mul j t _) rT.me
  have wM : (NM.wr (List.replicate m 1) (mulP j t (normL ps))).length ≤ 2000 := by
    rw [wr_mul p1 lT]
    have := rT.wB (t * 1) _ (onM_up (j := j) t1 (one_up (m := m)))
    omega
  refine ⟨_, rfl, _, rfl, _, rfl, _, rfl, _, rfl, m, j, t, rfl, m3, Nat.lt_of_le_of_lt (show t ≤ 4 from t4) (by decide), fun l H1 s1 ful => ?_⟩
  refine ⟨x, l, m, m, _, _, rfl, mk_repl (ox.same s1) lF hj m3 (by omega) ful (Nat.le_trans rb.me (by decide)) (by have := rb.wB (t * 1) _ (onM_up (j := j) t1 (one_up (m := m))); omega) fun u H2 s2 ou => ?_⟩
  rw [normL_mul t1 lF] at ou
  dsimp only
  rw [gname_eq]
  try dsimp only
  refine ⟨_, rfl, _, rfl, _, rfl, u, m, j, t, _, rfl, ou, hj, m3, lM, by omega, small900 (Nat.le_trans wM (by decide)), t1, k100 (by omega), fun z H4 _ s4 oz => ?_, fun H4 nd s4 => absurd (dvd_mul lT hj) nd⟩
  rw [mul_divP lT hj t1, eT] at oz
  have s14 := (s1.trans s2).trans s4
  have ox := ox.same s14
  have ou := ou.same s4
  have gl := gl.same s14
  have fl := fl.same s14
  have q : ∀ H'', Same H4 H'' → D.rt (.bl true) H'' := fun H'' s => q H'' (s14.trans s)
  clear s14 s1 s2 s4 ful
  dsimp only
  rw [gname_eq]
  try dsimp only
  refine if_dec false (fun R q' => ?_) (fun b => (by cases b)) fun _ H5 s5 => ?_
  · refine ⟨_, rfl, rfl, _, rfl, iteF ?_⟩
    obtain ⟨d1, f1, e1⟩ := oz.at'
    obtain ⟨d2, f2, e2⟩ := ox.at'
    refine ⟨_, rfl, _, rfl, z, x, d1, _, d2, _, rfl, rfl, e1, e2, z, x, m, m, _, _, rfl, oz, ox, ⟨_, rfl⟩, ?_⟩
    rw [decide_eq_true (rfl : m = m), decide_eq_true rfl]
    refine ⟨_, _, rfl, rfl, _, rfl, iteF ?_⟩
    refine ⟨_, rfl, _, rfl, x, m, j, 1, _, rfl, ox, hj, m3, lT, Nat.le_trans rT.me (by decide), small900 (Nat.le_trans (rT.wB 1 _ one_up) (by decide)), Nat.le_refl 1, k100 (by decide), fun z2 H6 _ s6 o2 => ?_, fun H6 nd s6 => absurd dvd_one nd⟩
    rw [div_one j lT hj, eT] at o2
    have ox := ox.same s6
    obtain ⟨d1, f1, e1⟩ := o2.at'
    obtain ⟨d2, f2, e2⟩ := ox.at'
    refine ⟨_, rfl, z2, x, d1, _, d2, _, rfl, rfl, e1, e2, z2, x, m, m, _, _, rfl, o2, ox, ⟨_, rfl⟩, ?_⟩
    rw [decide_eq_true (rfl : m = m), decide_eq_true rfl]
    refine ⟨_, _, rfl, rfl, _, rfl, ?_⟩
    exact q' _ s6
  exact tail D _ H5 L x u pw m j b t ps _ _ _ _ _ _ _ _ _ _ _ _ _ _ _ rfl m3 hj hb t1 t4 (ox.same s5) rb (gl.same s5) (ou.same s5) (fl.same s5) fun H6 s6 => q H6 (s5.trans s6)
end
end K23

set_option Elab.async false
set_option linter.all false
set_option maxRecDepth 100000
set_option maxHeartbeats 8000000
namespace K23
open PySem PySem.Spec PyProof.Rows L2 CK SX NM
theorem Pcs.sameX {g : Addr} {H H' : Hp} {vs : List V} {ps : List Pn} {n : Nat} (h : Pcs H vs ps) (G : Gn n H g) (s : SameX g H H') : Pcs H' vs ps := h.mono fun a xs e => s.tup G e
theorem PL.sameX {g l : Addr} {H H' : Hp} {ps : List Pn} {n : Nat} (h : PL H l ps) (lg : l ≠ g) (G : Gn n H g) (s : SameX g H H') : PL H' l ps := by
  obtain ⟨vs, e, p⟩ := h
  exact ⟨vs, s _ _ lg e, p.sameX G s⟩
/-- what a list of pieces must be, but for where it stands -/
theorem lat_zero {m j : Nat} {ps : List Pn} (h : LenF m ps) : latP j 0 ps = ps := by
  unfold latP
  conv => rhs; rw [← List.map_id ps]
  refine List.map_congr_left fun p hp => ?_
  have l := h p hp
  obtain ⟨w, f⟩ := p
  cases f with
  | nil => simp at l
  | cons a f => simp
section
variable {P : Program} {w : World} {K : PySem.W.Frag} {mg : Str → Option Value} {base : Heap} {C : Addr}
def sp_law_right : Sp := fun vs H Q _ => ∃ g : Addr, vs = [.ref g] ∧ Gn 20000 H g ∧ ∀ H', SameX g H H' → Q (.bl true) H'
theorem c_law_right (T : Txt K mg C) : C8.Cal P w K mg base 14 "_law_right" sp_law_right [] := by
  refine calF T.d_law_right sc_law_right (fun vs H Q E h => ?_) (fun f0 cdv A outer s H vs Q E hr h => ?_)
  · obtain ⟨_, rfl, _⟩ := h; rfl
  · obtain ⟨g, rfl, G, q⟩ := h
    obtain ⟨u6, hu6, tail⟩ := right_tail1 (P := P) (w := w) (base := base) T f0 cdv A outer s H E hr
    refine ⟨_, (pss_cons (ps_par (i := 1) (j := 2) (by rfl) sc_law_right.nd rfl rfl (by decide) rfl rfl (pa_cons (pe_op op_add pe_int (C8.pe_c (c_law_random T) hr (by decide) (by rfl) (pa_cons (pv 0) (pa_cons pe_int pa_nil)))) (pa_cons (C8.pe_c (c_law_letters T) hr (by decide) (by rfl) (pa_cons (pv 0) pa_nil)) pa_nil)) (by rfl))
    (pss_cons (ps_asg (pe_tup (pa_cons (C8.pe_c (c_law_raw T) hr (by decide) (by rfl) (pa_cons (pv 0) (pa_cons (pv 1) (pa_cons (pv 2) (pa_cons (C8.pe_c (c_law_random T) hr (by decide) (by rfl) (pa_cons (pv 0) (pa_cons pe_int pa_nil))) (pa_cons pe_int pa_nil)))))) (pa_cons (C8.pe_c (c_law_random T) hr (by decide) (by rfl) (pa_cons (pv 0) (pa_cons (pv 1) pa_nil))) pa_nil))) (pg_two (K := K) (i := 3) (j := 4) rfl rfl sc_law_right.nd rfl rfl (Or.inl rfl) (Or.inr rfl)))
    (pss_cons (ps_asg (pe_tup (pa_cons (C8.pe_c (c_law_random T) hr (by decide) (by rfl) (pa_cons (pv 0) (pa_cons pe_int pa_nil))) (pa_cons (pe_op op_add pe_int (C8.pe_c (c_law_random T) hr (by decide) (by rfl) (pa_cons (pv 0) (pa_cons pe_int pa_nil)))) (pa_cons (C8.pe_mk (n_OpenText T) hr (by decide) (by rfl) (pa_cons (pv 1) (pa_cons (pe_callTy call_list_of (by rfl) T.m_list (by decide +kernel) (pa_cons (pv 3) pa_nil)) pa_nil))) pa_nil)))) (pg_tup rfl (pgs_cons (pg_name (i := 5) sc_law_right.nd rfl (Or.inl rfl)) (pgs_cons (pg_name (i := 6) sc_law_right.nd rfl (Or.inr rfl)) (pgs_cons (pg_name (i := 7) sc_law_right.nd rfl (Or.inl rfl)) pgs_nil)))))
    (pss_cons (ps_set (i := 8) sc_law_right.nd rfl (Or.inl rfl) (C8.pe_c (c_later T) hr (by decide) (by rfl) (pa_cons (pv 7) (pa_cons (pv 4) (pa_cons (pv 5) pa_nil)))))
    (pss_cons (ps_if (PW.pt (pw_or (pt_not (pt_val (pe_callB (C8.call_isC T.k_OpenText.ins) (by rfl) T.m_isinstance (by decide +kernel) (pa_cons (pv 8) (pa_cons (C8.pe_gc (v := .ref C) (by rfl) ⟨_, T.k_OpenText.mgC, rfl⟩) pa_nil))))) (pw_or (pt_cmpR op_ne (C8.pe_mt0 (m_OpenText_many T) hr (by decide) (pv 8)) (pv 1) (nomark _)) (pw_or1 (pt_cmpR op_notBl (pe_cmpR (op_eqO (m_OpenText___eq__ T) hr (by decide)) (C8.pe_c (c_later T) hr (by decide) (by rfl) (pa_cons (pv 7) (pa_cons (pv 4) (pa_cons pe_int pa_nil)))) (pv 7) (nomark _)) pe_bl (nomark _))))))
    (pss_one (ps_ret pe_bl))
    pss_nil)
    (pss_cons (ps_for PassesOwn.never rfl (pi_range1 (by rfl) T.m_range (pa_cons pe_int pa_nil)) (pg_name (i := 9) sc_law_right.nd rfl (Or.inl rfl))
    (pss_cons (ps_set (i := 10) sc_law_right.nd rfl (Or.inl rfl) (C8.pe_c (c_law_point T) hr (by decide) (by rfl) (pa_cons (pv 0) (pa_cons (pv 1) (pa_cons (pe_op op_mulW pe_int (pe_callTy call_int1 (by rfl) T.m_int (by decide +kernel) (pa_cons (pe_cmpR op_gt (pv 9) pe_int (nomark _)) pa_nil))) pa_nil)))))
    (pss_cons (ps_set (i := 11) sc_law_right.nd rfl (Or.inl rfl) (pe_op op_cat (pe_op op_cat (pe_slice sl_list (pv 10) po_none (po_some (pv 4))) (pe_lst (pa_cons (pe_op op_add (pe_ix ix_list (pv 10) (pv 4) (fun _ _ => rfl)) (pv 5)) pa_nil))) (pe_slice sl_list (pv 10) (po_some (pe_op op_add (pv 4) pe_int)) po_none)))
    (pss_one (ps_if (pt_cmpR op_ne (C8.pe_c (c_written T) hr (by decide) (by rfl) (pa_cons (pv 8) (pa_cons (pe_callTy call_list_of (by rfl) T.m_list (by decide +kernel) (pa_cons (pv 10) pa_nil)) pa_nil))) (C8.pe_c (c_law_write T) hr (by decide) (by rfl) (pa_cons (pv 3) (pa_cons (pv 11) pa_nil))) (nomark _))
    (pss_one (ps_ret pe_bl))
    pss_nil)))))
    hu6)))))), ?_⟩
    refine ⟨_, rfl, g, 3, 19999, rfl, G, by decide, by decide, fun mz H1 s1 G1 m0 m1 => ?_⟩
    obtain ⟨m, hm⟩ : ∃ m : Nat, 1 + mz = m := ⟨(1 + mz).toNat, by omega⟩
    have m3 : m ≤ 3 := by omega
    refine ⟨_, _, rfl, rfl, _, rfl, g, 19990, rfl, G1.le (by decide), fun cs H2 s2 G2 lcs lowc nd => ⟨_, _, rfl, ?_⟩⟩
    dsimp only
    rw [hm]
    have s12 := s1.trans s2
    refine ⟨_, rfl, _, rfl, _, rfl, _, rfl, g, 6, 19980, rfl, G2.le (by decide), by decide, by decide, fun cz H3 s3 G3 c0 c1 => ?_⟩
    obtain ⟨cnt, rfl⟩ : ∃ cnt : Nat, cz = cnt := ⟨cz.toNat, by omega⟩
    refine ⟨fun c => c ∈ cs, g, cs, m, cnt, 3, 18000, 3, rfl, lcs, fun c hc => hc, m3, Nat.le_refl 3, by decide, by decide, by omega, G3.le (by decide), fun L ps H4 gr G4 few dr sm => ?_⟩
    have rb : RB m ps := rb_raw dr sm (by omega) m3
    have few5 : ps.length ≤ 5 := by omega
    have G4 := G4.le (show 17000 ≤ 18000 by decide)
    refine ⟨_, rfl, _, rfl, g, m, 16990, rfl, G4.le (by decide), by omega, by omega, fun jz H5 s5 G5 j0 j1 => ⟨by show 2 ≤ sizeLine; decide, fun t1 nt1 => ?_⟩⟩
    obtain ⟨j, rfl⟩ : ∃ j : Nat, jz = j := ⟨jz.toNat, by omega⟩
    have hj : j < m := by omega
    have st1 := sameNew (o := .tup [V.ref L, .int (j : Nat)]) nt1
    refine ⟨t1, _, rfl, .inl (.inl upd_same), rfl, _, _, rfl, _, _, rfl, rfl, ?_⟩
    have gr := (gr.go G4 s5).go G5 (.of st1)
    have s15 := (s12.trans s3).trans gr.sx
    have plL := gr.pl
    have neL := gr.ne
    have G5 := G5.same st1
    generalize upd H5 t1 (.tup [V.ref L, .int (j : Nat)]) = H5 at s15 plL G5 ⊢
    clear gr s5 st1 nt1 G4 G3 s12 s3 few s1 s2 G1 G2
    refine ⟨_, rfl, g, 6, 16980, rfl, G5.le (by decide), by decide, by decide, fun bz H6 s6 G6 b0 b1 => ?_⟩
    obtain ⟨b, rfl⟩ : ∃ b : Nat, bz = b := ⟨bz.toNat, by omega⟩
    refine ⟨_, rfl, g, 4, 16970, rfl, G6.le (by decide), by decide, by decide, fun tz H7 s7 G7 t0 t1' => ⟨_, _, rfl, rfl, ?_⟩⟩
    obtain ⟨t, ht⟩ : ∃ t : Nat, 1 + tz = t := ⟨(1 + tz).toNat, by omega⟩
    have plL := (plL.sameX neL G5 s6).sameX neL G6 s7
    have S7 := (s15.trans s6).trans s7
    clear s6 s7 s15 G5 G6
    have llt : ∀ c, (fun c => c ∈ cs) c → 97 ≤ c ∧ c ≤ 122 := fun c hc => lowc c hc
    have bfs : ∀ p ∈ ps, Bf p.2 := fun p hp n hn => small900 (Nat.le_trans ((dr p hp).2.2.2 n hn) (by decide))
    have mkG : ∀ {H : Hp} {l : Addr}, PL H l ps → GL H m l ps := fun pl => ⟨pl, rb.lF, fun p hp => Nat.le_trans (dr p hp).2.1 (by decide), fun p hp => fun c hc => lowc c ((dr p hp).2.2.1 c hc), bfs, by omega⟩
    obtain ⟨v1, hv1, pv1⟩ := id plL
    refine ⟨_, rfl, _, rfl, L, v1, rfl, .inl (.inl (.inl hv1)), fun La nLa => ?_⟩
    have sLa := sameNew (o := .lst v1) nLa
    refine fun x dx nx ndx nex => mk_text nx ndx nex (mkG ⟨v1, upd_same, pv1.same sLa⟩) m3 (Nat.le_trans rb.me (by decide)) (small900 (Nat.le_trans (rb.wB 1 _ one_up) (by decide))) fun r1 H8 s8 nr1 ot1 => ⟨rfl, by show 3 ≤ sizeLine; decide, fun t3 nt3 => ?_⟩
    dsimp only
    rw [ht]
    have st3 := sameNew (o := .tup [V.int (b : Nat), V.int (t : Nat), V.ref x]) nt3
    refine ⟨t3, _, rfl, .inl (.inl upd_same), rfl, _, _, rfl, _, _, rfl, _, _, rfl, rfl, ?_⟩
    have ox : OT C H8 x m (normL ps) := ⟨r1, ot1⟩
    have ox := ox.same st3
    have s78 := (sLa.trans s8).trans st3
    have plL := plL.same s78
    have G8 := G7.same s78
    have S8 := S7.trans (.of s78)
    generalize upd H8 t3 (.tup [V.int (b : Nat), V.int (t : Nat), V.ref x]) = H8 at ox plL G8 S8 ⊢
    clear st3 nt3 nr1 ot1 nx ndx nex sLa nLa s8 s78 G7 S7 hv1 pv1
    have lF := rb.lF
    have p0 : (List.replicate m 0).length = m := by simp
    have p1 : (List.replicate m 1).length = m := by simp
    have b5 : b ≤ 5 := by omega
    have tb1 : 1 ≤ t := by omega
    have tb4 : t ≤ 4 := by omega
    have lL := lenF_lat (j := j) (k := b) lF
    have later_ok : ∀ (k : Nat), k ≤ 6 → (NM.wr (onP j k (List.replicate m 0)) ps).length + meas ps ≤ 2000 ∧ (NM.wr (onP j k (List.replicate m 1)) ps).length ≤ 1000000 := fun k hk => by
      have a := rb.w0 j k hj
      have b := rb.me
      have c := rb.wB _ _ (on_up (j := j) (k := k) (one_up (m := m)))
      exact ⟨by omega, by omega⟩
    have k100 : ∀ {k : Nat}, k ≤ 6 → k < 2 ^ 100 := fun {k} h => Nat.lt_of_le_of_lt h (by decide)
    refine ⟨_, rfl, _, rfl, _, rfl, x, m, j, b, _, rfl, mk_later ox hj m3 (k100 (by omega)) lF (later_ok b (by omega)).1 (later_ok b (by omega)).2 fun gr H9 s9 og => ?_⟩
    have ox := ox.same s9
    have plL := plL.same s9
    have G9 := G8.same s9
    have S9 := S8.trans (.of s9)
    clear s9 G8 S8
    dsimp only
    rw [gname_eq]
    try dsimp only
    refine if_dec false (fun R q' => ?_) (fun b => (by cases b)) fun _ HA sA => ?_
    · obtain ⟨r1, ⟨dy, hy⟩, gy⟩ := id og
      refine ⟨_, rfl, gr, dy, _, rfl, hy, _, rfl, iteF ?_⟩
      refine ⟨_, rfl, gr, dy, _, rfl, hy, (OF_no r1 m).2, gr, m, _, rfl, og, _, rfl, rfl, _, rfl, iteNS rfl ?_⟩
      refine ⟨_, rfl, _, rfl, x, m, j, 0, _, rfl, mk_later (k := 0) ox hj m3 (k100 (by decide)) lF (later_ok 0 (by decide)).1 (later_ok 0 (by decide)).2 fun u H1 s1 ou => ?_⟩
      rw [lat_zero lF] at ou
      have ox := ox.same s1
      obtain ⟨d1, f1, e1⟩ := ou.at'
      obtain ⟨d2, f2, e2⟩ := ox.at'
      refine ⟨_, rfl, u, x, d1, _, d2, _, rfl, rfl, e1, e2, u, x, m, m, _, _, rfl, ou, ox, ⟨_, rfl⟩, ?_⟩
      rw [decide_eq_true (rfl : m = m), decide_eq_true rfl]
      refine ⟨_, _, rfl, rfl, _, rfl, ?_⟩
      exact q' _ s1
    have ox := ox.same sA
    have og := og.same sA
    have plL := plL.same sA
    have GA := G9.same sA
    have SA := S9.trans (.of sA)
    clear sA G9 S9
    -- the points
    refine ⟨4, rfl, by decide, by decide, ?_⟩
    refine for_it walk_range (fun i σ H' => i ≤ 4 ∧ SameX g HA H' ∧ Gn (16000 - 100 * i) H' g ∧ ∃ y9 y10 y11 : Option V, σ = [some (.ref g), some (.int (m : Nat)), some (.str (S cs)), some (.ref L), some (.int (j : Nat)), some (.int (b : Nat)), some (.int (t : Nat)), some (.ref x), some (.ref gr), y9, y10, y11, none, none, none, none, none, none, none, none, none, none, none])
      ⟨by decide, .of (Same.refl _), GA.le (by decide), none, none, none, rfl⟩ (fun _ _ _ _ _ => True.intro) (fun i v σ H5 H4 hi pI yy => ?_) fun σ H4 pI => ?_
    · obtain ⟨_, sI, GI, y9, y10, y11, rfl⟩ := pI
      obtain ⟨rfl, rfl⟩ := yy
      have i4 : i < 4 := hi
      obtain ⟨mo, emo, mo2⟩ : ∃ mo : Nat, (2 : Int) * (if decide ((0 : Int) + (i : Int) > 0) = true then 1 else 0) = (mo : Nat) ∧ mo ≤ 2 := by
        by_cases z : (0 : Int) + (i : Int) > 0
        · exact ⟨2, by rw [decide_eq_true z]; rfl, Nat.le_refl 2⟩
        · exact ⟨0, by rw [decide_eq_false z]; rfl, by decide⟩
      have cm : CMulW 2 (if decide ((0 : Int) + (i : Int) > 0) = true then 1 else 0) := wide_mul (a := 3) (b := 3) (by decide) (by split <;> decide) (by decide) (by decide) (by decide)
      have og := og.sameX GA sI
      have plI := plL.sameX neL GA sI
      try dsimp only
      rw [gname_eq]
      refine ⟨_, rfl, _, rfl, _, rfl, _, _, rfl, rfl, .inr ⟨_, rfl, _, _, rfl, rfl, cm, ?_⟩⟩
      dsimp only
      rw [emo]
      refine ⟨g, m, mo, 16000 - 100 * (i + 1), rfl, GI.le (by omega), m3, Nat.lt_of_le_of_lt mo2 (by decide), fun p f H6 s6 G6 np hpf lf uf => ?_⟩
      have pg := GI.ne np
      have f2 : ∀ x ∈ f, x ≤ 2 := fun x hx => Nat.le_trans (uf x hx) mo2
      have og := og.sameX GI s6
      have plI := plI.sameX neL GI s6
      have s56 := sI.trans s6
      have lfn : (natsV f).length = m := by rw [natsV_len', lf]
      have ef : f.getD j 0 = f[j]'(by omega) := by rw [List.getD_eq_getElem?_getD, List.getElem?_eq_getElem (by omega)]; rfl
      have eg : (natsV f)[j]? = some (.int (f.getD j 0 : Nat)) := by
        unfold natsV
        rw [List.getElem?_map, List.getElem?_eq_getElem (by omega), ef]
        rfl
      -- far
      refine ⟨_, rfl, _, rfl, (j : Int), rfl, p, natsV f, rfl, .inl (.inl hpf), fun c1 n1 => ?_⟩
      rw [cut_take]
      have s1 := sameNew (o := .lst ((natsV f).take j)) n1
      refine ⟨_, rfl, _, rfl, p, _, _, _, rfl, rfl, .inl (.inl (s1 _ _ hpf)), atI_nat (j := j) eg, _, rfl, _, _, rfl, rfl, by show 1 ≤ sizeLine; decide, fun c2 n2 => ?_⟩
      have s2 := sameNew (o := .lst [V.int (((f.getD j 0 : Nat) : Int) + ((b : Nat) : Int))]) n2
      refine ⟨c1, c2, _, _, rfl, rfl, s2 _ _ upd_same, upd_same, by rw [List.length_take, sizeLine_eq]; simp; omega, fun c3 n3 => ?_⟩
      have s3 := sameNew (o := .lst ((natsV f).take j ++ [V.int (((f.getD j 0 : Nat) : Int) + ((b : Nat) : Int))])) n3
      have s13 := (s1.trans s2).trans s3
      refine ⟨_, rfl, _, rfl, _, _, rfl, rfl, (j : Int) + 1, rfl, p, natsV f, rfl, .inl (.inl (s13 _ _ hpf)), fun c4 n4 => ?_⟩
      rw [cut_drop1]
      have s4 := sameNew (o := .lst ((natsV f).drop (j + 1))) n4
      refine ⟨c3, c4, _, _, rfl, rfl, s4 _ _ upd_same, upd_same, by rw [List.length_append, List.length_take, List.length_drop, sizeLine_eq]; simp; omega, fun c5 n5 => ?_⟩
      have s5 := sameNew (o := .lst ((natsV f).take j ++ [V.int (((f.getD j 0 : Nat) : Int) + ((b : Nat) : Int))] ++ (natsV f).drop (j + 1))) n5
      have h5 := upd_same (H := upd (upd (upd (upd H6 c1 (.lst ((natsV f).take j))) c2 (.lst [V.int (((f.getD j 0 : Nat) : Int) + ((b : Nat) : Int))])) c3 (.lst ((natsV f).take j ++ [V.int (((f.getD j 0 : Nat) : Int) + ((b : Nat) : Int))]))) c4 (.lst ((natsV f).drop (j + 1)))) (a := c5) (o := .lst ((natsV f).take j ++ [V.int (((f.getD j 0 : Nat) : Int) + ((b : Nat) : Int))] ++ (natsV f).drop (j + 1)))
      have s15 := s13.trans (s4.trans s5)
      try dsimp only
      generalize upd (upd (upd (upd (upd H6 c1 (.lst ((natsV f).take j))) c2 (.lst [V.int (((f.getD j 0 : Nat) : Int) + ((b : Nat) : Int))])) c3 (.lst ((natsV f).take j ++ [V.int (((f.getD j 0 : Nat) : Int) + ((b : Nat) : Int))]))) c4 (.lst ((natsV f).drop (j + 1)))) c5 (.lst ((natsV f).take j ++ [V.int (((f.getD j 0 : Nat) : Int) + ((b : Nat) : Int))] ++ (natsV f).drop (j + 1))) = H7 at h5 s15 ⊢
      have hfar : LP H7 c5 (onP j b f) := by
        show H7 c5 = some (.lst (natsV (onP j b f)))
        rw [h5]
        unfold onP
        rw [List.set_eq_take_append_cons_drop, if_pos (by omega), natsV_app', ← natsV_take]
        show _ = some (HO.lst ((natsV f).take j ++ V.int ((f.getD j 0 + b : Nat) : Int) :: natsV (f.drop (j + 1))))
        rw [← natsV_drop, List.append_assoc]
        rfl
      clear s1 s2 s3 s4 s5 s13 n1 n2 n3 n4 n5 h5
      have hpf := s15 _ _ hpf
      have og := og.same s15
      have plI := plI.same s15
      have G7 := G6.same s15
      have S7 := s56.trans (.of s15)
      rw [gname_eq]
      try dsimp only
      have ew : NM.wr f (normL (latP j b ps)) = NM.wr (onP j b f) ps := by rw [wr_normL lL, wr_lat hj lf lF]
      have lw : (NM.wr (onP j b f) ps).length ≤ 90 + 270 * (2 + b) := rb.wB _ _ (on_up f2)
      have eW1 : (NM.wr (List.replicate m 1) (normL (latP j b ps))).length ≤ 1000000 := by
        rw [wr_normL lL, wr_lat hj p1 lF]
        exact (later_ok b (by omega)).2
      refine if_end false (fun R q' => ?_) (fun b => (by cases b)) fun _ HB sB => ⟨by omega, S7.trans (.of sB), G7.same sB, _, _, _, rfl⟩
      refine ⟨_, rfl, _, rfl, p, natsV f, rfl, .inl (.inl (.inl hpf)), fun lp nlp => ?_⟩
      have slp := sameNew (o := .lst (natsV f)) nlp
      refine ⟨gr, lp, m, _, f, rfl, og.same slp, upd_same, lf, m3, fun z hz => small900 (Nat.le_trans (f2 z hz) (by decide)), small900 eW1, fun p hp => ((nm_normL lL).all p hp).ne, by rw [ew]; omega, fun H8 s8 => ?_⟩
      have s78 := slp.trans s8
      refine ⟨_, rfl, _, rfl, L, c5, ps, onP j b f, m, rfl, plI.same s78, s78 _ _ hfar, lF, by rw [onP_len]; exact lf, m3, bfs, fun z hz => small900 (Nat.le_trans (on_up f2 z hz) (by omega)), fun p hp => Nat.le_trans (dr p hp).2.1 (by decide), by omega, by omega, fun H9 s9 => ?_⟩
      rw [ew]
      refine ⟨rfl, _, rfl, ?_⟩
      rw [decide_eq_true rfl]
      exact q' _ (s78.trans s9)
    · obtain ⟨_, sI, GI, y9, y10, y11, rfl⟩ := pI
      exact tail _ _ H4 L x gr m j b t ps _ _ _ _ _ _ _ _ _ _ _ _ _ _ _ _ rfl m3 hj b5 tb1 tb4 (ox.sameX GA sI) (og.sameX GA sI) rb (mkG (plL.sameX neL GA sI)) fun H' s' => q H' ((SA.trans sI).trans (.of s'))
end
end K23

set_option Elab.async false
set_option linter.all false
set_option maxRecDepth 100000
set_option maxHeartbeats 4000000
namespace K23
open PySem PySem.Spec PyProof.Rows L2 CK SX NM
/-- a letter some times, and once for each -/
def lonL (c : Nat) : List Pn := [([97], [c, 1])]
theorem lenF_lon (c : Nat) : LenF 1 (lonL c) := fun p hp => by rw [List.mem_singleton.mp hp]; rfl
theorem meas_lon (c : Nat) : meas (lonL c) = c + 1 := by
  unfold lonL meas
  simp only [List.map_cons, List.map_nil, List.sum_cons, List.sum_nil]
  unfold measP
  show 1 * (c + (if isOpen [c, 1] = true then 1 else 0)) + 0 = c + 1
  rw [show isOpen [c, 1] = true from rfl, if_pos rfl]
  omega
theorem wr_lon (c : Nat) (pt : List Nat) : NM.wr pt (lonL c) = WM.pw [97] (valF [c, 1] pt) := by
  unfold lonL
  rw [NM.wr, NM.wr, List.append_nil]
  rfl
theorem val_lon (c : Nat) (pt : List Nat) : valF [c, 1] pt = c + valF [0, 1] pt := by
  unfold valF
  show c + dot [1] pt = c + (0 + dot [1] pt)
  omega
theorem gl_lon {H : Hp} {l : Addr} {c : Nat} (pl : PL H l (lonL c)) (hc : c ≤ 2000) : GL H 1 l (lonL c) := by
  refine ⟨pl, lenF_lon c, fun p hp => ?_, fun p hp => ?_, fun p hp n hn => ?_, by unfold lonL; simp⟩
  · rw [List.mem_singleton.mp hp]; show 1 ≤ 2000; decide
  · rw [List.mem_singleton.mp hp]
    intro z hz
    rw [List.mem_singleton.mp hz]
    decide
  · rw [List.mem_singleton.mp hp] at hn
    rcases List.mem_cons.mp hn with z | z
    · rw [z]; exact small900 (by omega)
    · rw [List.mem_singleton.mp z]; exact small900 (by decide)
theorem wl_lon {c : Nat} (hc : c ≤ 2000) : Wl 1 (lonL c) := by
  unfold Wl
  rw [wr_lon, WM.pw_len]
  have : valF [c, 1] (List.replicate 1 1) = c + 1 := rfl
  rw [this]
  exact small900 (by show 1 * (c + 1) ≤ 1000000; omega)
theorem fst_lon : Fst 1 0 (normL (lonL 1200)) (normL (lonL 0)) 1200 := by
  have l1 := lenF_lon 1200
  have l0 := lenF_lon 0
  have n1 := nm_normL l1
  have len1 : (lenP 1 (normL (lonL 1200))).getD 1 0 = 1 := by
    rw [tot_on (k := 0) (b := 0) (by decide) n1.lenF l1 fun pt hp => by rw [onP_zero (by omega), wr_normL l1]]
    rw [lenP_getD l1]
    rfl
  have len0 : (lenP 1 (normL (lonL 1200))).getD 0 0 = 1200 := by
    have a := val_lenP n1.lenF (List.replicate 1 0)
    rw [val_zero] at a
    have e : (lenP 1 (normL (lonL 1200))).getD 0 0 = (lenP 1 (normL (lonL 1200))).headD 0 := by cases lenP 1 (normL (lonL 1200)) <;> rfl
    rw [e, a, wr_normL l1, wr_lon, WM.pw_len]
    rfl
  have big : 1200 ≤ meas (normL (lonL 1200)) := by
    have := lenP_zero n1.lenF
    rw [len0] at this
    exact this
  refine ⟨nm_normL l0, fun pt hp => ?_, ?_, fun pt => ?_, big, fun z => ?_, fun _ k' hk => ?_⟩
  · rw [wr_normL l0, wr_normL l1, wr_lon, wr_lon, val_on (m := 1) rfl hp (by decide), val_lon 1200]
    show WM.pw [97] (valF [0, 1] pt + 1 * 1200) = _
    congr 1
    omega
  · have := meas_normL l0
    rw [meas_lon] at this
    omega
  · rw [wr_normL l0, wr_normL l1, wr_lon, wr_lon, WM.pw_len, WM.pw_len, val_lon 1200]
    exact Nat.mul_le_mul_left _ (by omega)
  · rw [show 0 + 1 = 1 from rfl, len1] at z
    cases z
  · have := hk.len (by decide) n1
    rw [show 0 + 1 = 1 from rfl, len1, len0] at this
    omega
def sp_law (K : PySem.W.Frag) : Sp := fun vs H Q _ => ∃ (a : Addr) (ns : List Int), vs = [.ref a] ∧ SqL K H a (ns.map V.int) ∧ ns.length ≤ 63 ∧ ∀ H', Q (.bl true) H'
theorem law_end {l : PySem.W.OpenLaw} {w : World} {K : PySem.W.Frag} {mg : Str → Option Value} {fa C : Addr} (T : Txt K mg C) (hfa : mg "law" = some (.ref fa)) :
    ∃ fd : FuncData, (∀ (s : Shared) (v : Value), BindsTo s fd ⟨[v], []⟩ [("_law_script", v)]) ∧ ∀ base : Heap, K.In base → base.Ns mainGlobals mg → FnOk l.prog w K mg base C8.CX0 16 fa fd ["_law_script"] (sp_law K) := by
  obtain ⟨f, fd, hm, hb, hF⟩ := T.d_law.one
  have e := hfa.symm.trans hm
  cases e
  refine ⟨fd, hb, fun base _ _ => hF sc_law (fun vs H Q E h => ?_) (fun f cdv A outer s H vs Q E hr h => ?_)⟩
  · obtain ⟨_, _, rfl, _⟩ := h; rfl
  · obtain ⟨a, ns, rfl, hS, hl, q⟩ := h
    have ea : (Str.ofString "a" : Str) = S [97] := by decide +kernel
    refine ⟨_, (pss_cons (ps_set (i := 1) sc_law.nd rfl (Or.inl rfl) (C8.pe_mk (n_OpenText T) hr (by decide) (by rfl) (pa_cons pe_int (pa_cons (pe_lst (pa_cons (pe_tup (pa_cons pe_str (pa_cons (pe_tup (pa_cons pe_int (pa_cons pe_int pa_nil))) pa_nil))) pa_nil)) pa_nil))))
    (pss_cons (ps_if (pt_cmpR op_notBl (pe_cmpR (op_eqTO (m_OpenText___eq__ T) rt_mono rt_sp hr (by decide)) (C8.pe_c (c_first T) hr (by decide) (by rfl) (pa_cons (pv 1) (pa_cons pe_int pa_nil))) (pe_tup (pa_cons (C8.pe_mk (n_OpenText T) hr (by decide) (by rfl) (pa_cons pe_int (pa_cons (pe_lst (pa_cons (pe_tup (pa_cons pe_str (pa_cons (pe_tup (pa_cons pe_int (pa_cons pe_int pa_nil))) pa_nil))) pa_nil)) pa_nil))) (pa_cons pe_int pa_nil))) (nomark _)) pe_bl (nomark _))
    (pss_one (ps_ret pe_bl))
    pss_nil)
    (pss_cons (ps_for PassesOwn.never rfl (pi_range1 (by rfl) T.m_range (pa_cons pe_int pa_nil)) (pg_name (i := 2) sc_law.nd rfl (Or.inl rfl))
    (pss_one (ps_if (pt_not (pt_val (C8.pe_c (c_law_right T) hr (by decide) (by rfl) (pa_cons (C8.pe_c (c_law_generator T) hr (by decide) (by rfl) (pa_cons (pv 0) (pa_cons (pv 2) pa_nil))) pa_nil))))
    (pss_one (ps_ret pe_bl))
    pss_nil)))
    (pss_one (ps_ret pe_bl))))), ?_⟩
    have mkL : ∀ {H : Hp} {p t Lp : Addr} {c : Nat}, H p = some (.tup [V.int (c : Nat), V.int 1]) → H t = some (.tup [V.str (S [97]), .ref p]) → H Lp = some (.lst [.ref t]) → PL H Lp (lonL c) := fun h1 h2 h3 => ⟨_, h3, .one ⟨_, h2, h1⟩⟩
    refine ⟨by show 2 ≤ sizeLine; decide, fun p1 n1 => ⟨by show 2 ≤ sizeLine; decide, fun t1 nt1 => ⟨by show 1 ≤ sizeLine; decide, fun L1 nL1 => ?_⟩⟩⟩
    rw [ea] at nL1 ⊢
    have s1 := sameNew (o := .tup [V.int 1200, V.int 1]) n1
    have s2 := sameNew (o := .tup [V.str (S [97]), .ref p1]) nt1
    have s3 := sameNew (o := .lst [V.ref t1]) nL1
    have pl1 := mkL (c := 1200) (s3 _ _ (s2 _ _ upd_same)) (s3 _ _ upd_same) upd_same
    have s13 := (s1.trans s2).trans s3
    refine fun x dx nx ndx nex => mk_text nx ndx nex (gl_lon pl1 (by decide)) (by decide) (by rw [meas_lon]; decide) (wl_lon (by decide)) fun r1 H1 s4 nr1 ot1 => ⟨rfl, ?_⟩
    have ox : OT C H1 x 1 (normL (lonL 1200)) := ⟨r1, ot1⟩
    have s14 := s13.trans s4
    have hS := s14.seq hS
    clear s1 s2 s3 s4 s13 pl1 nL1 nt1 n1 nr1 ot1 nx ndx nex
    dsimp only
    rw [gname_eq]
    try dsimp only
    refine if_dec false (fun R q' => ?_) (fun b => (by cases b)) fun _ H2 s2 => ?_
    · refine ⟨_, rfl, x, 1, 0, _, rfl, ox, by decide, by decide, nm_normL (lenF_lon 1200), Nat.le_trans (meas_normL (lenF_lon 1200)) (by rw [meas_lon]; decide), wl_normL (lenF_lon 1200) (wl_lon (by decide)), fun x1 t X k H2 s2 o1 ht F => ?_⟩
      obtain ⟨eX, ek⟩ := F.uniq (by decide) fst_lon
      subst eX ek
      refine ⟨by show 2 ≤ sizeLine; decide, fun p2 n2 => ⟨by show 2 ≤ sizeLine; decide, fun t2 nt2 => ⟨by show 1 ≤ sizeLine; decide, fun L2 nL2 => ?_⟩⟩⟩
      have s5 := sameNew (o := .tup [V.int 0, V.int 1]) n2
      have s6 := sameNew (o := .tup [V.str (S [97]), .ref p2]) nt2
      have s7 := sameNew (o := .lst [V.ref t2]) nL2
      have pl2 := mkL (c := 0) (s7 _ _ (s6 _ _ upd_same)) (s7 _ _ upd_same) upd_same
      have s57 := (s5.trans s6).trans s7
      refine fun y dy ny ndy ney => mk_text ny ndy ney (gl_lon pl2 (by decide)) (by decide) (by rw [meas_lon]; decide) (wl_lon (by decide)) fun r2 H3 s8 nr2 ot2 => ⟨rfl, by show 2 ≤ sizeLine; decide, fun t3 nt3 => ?_⟩
      have oy : OT C H3 y 1 (normL (lonL 0)) := ⟨r2, ot2⟩
      have st3 := sameNew (o := .tup [V.ref y, V.int 1200]) nt3
      have s58 := (s57.trans s8).trans st3
      refine ⟨⟨t, t3, _, _, rfl, rfl, .inl (.inl (s58 _ _ ht)), .inl (.inl upd_same), prs_two (k := 1200) (o1.same s58) (oy.same st3)⟩, fun H5 e5 => ?_⟩
      refine ⟨_, _, rfl, rfl, _, rfl, ?_⟩
      exact q' _ ((s2.trans s58).trans e5)
    have hS := s2.seq hS
    have s12 := s14.trans s2
    refine ⟨3, rfl, by decide, by decide, ?_⟩
    refine for_it walk_range (fun i σ H' => Same H2 H' ∧ ∃ y1, σ = [some (.ref a), some (.ref x), y1]) ⟨Same.refl _, none, rfl⟩ (fun _ _ _ _ _ => True.intro) (fun i x σ H' H'' hi p y => ?_) fun σ H' p => ?_
    · obtain ⟨s0, y1, rfl⟩ := p
      obtain ⟨rfl, rfl⟩ := y
      have i3 : i < 3 := hi
      refine ⟨_, rfl, _, rfl, a, ns, i, by show [V.ref a, V.int (0 + (i : Int))] = _; rw [Int.zero_add], s0.seq hS, by omega, fun g H1 H2 s1 n1 s2 G2 => ?_⟩
      refine ⟨g, rfl, G2.le (by decide), fun H3 s3 => ⟨_, rfl, iteF ⟨fun b o e => ?_, _, rfl⟩⟩⟩
      have e1 := s1 _ _ (s0 b o e)
      exact s3 b o (fun z => by rw [z, n1] at e1; cases e1) (s2 _ _ e1)
    · exact q H'
end K23

open PySem PySem.W PyProof.Rows
set_option maxHeartbeats 0 in
theorem PySem.Challenge.cw_countscribe_k23_later_and_thinned_holds : PySem.Challenge.rw_countscribe_k23_later_and_thinned.Holds := by
  w_on; o_law; k_head; (case hw => w_witness2)
  k_fill
  refine L2.walk_of (l := PySem.Challenge.rw_countscribe_k23_later_and_thinned) (n := 63) (k := 16) (x := "_law_script") (CX := fun _ => C8.CX0) (sp := fun w => K23.sp_law _) rfl (by decide) rfl ⟨rfl, by decide, by decide⟩ (fun w h Y => PySem.W.kIn_of Y) ?F (fun _ _ a ns hl _ hS => ⟨a, ns, rfl, hS, hl, fun _ => rfl⟩) (fun _ _ _ _ _ h => h)
  case F =>
    intro w mg fa h KX G hmg
    refine' CK.with_cls KX "OpenText" (CK.clF_mk KX G ?a ?pg ?hd ?po ?sa ?mk ?kp ?ha ?hn ?htk ?hm) fun k_OpenText => ?_
    (case a => k_is); (case pg => k_is); (case hd => k_is); (case po => k_is); (case sa => k_is); (case mk => k_is); (case kp => k_is); (case ha => k_is); (case hn => k_is); (case htk => k_is); (case hm => k_is)
    refine' CK.with_tyc k_OpenText (CK.tyc_mk k_OpenText ?l ?e) fun t_OpenText => ?_
    (case l => k_is); (case e => rfl)
    have f_many : L2.NoAttr _ _ "_many" := CK.noA k_OpenText "_many" (by k_is)
    have f_pieces : L2.NoAttr _ _ "_pieces" := CK.noA k_OpenText "_pieces" (by k_is)
    refine' CK.with_def KX "is_whole" (K23.topS 12) ["value"] (CK.defF_mk KX G ?a ?l ?c ?k fun _ _ _ _ _ _ us hl => match us, hl with | [_], _ => rfl) fun d_is_whole => ?_
    (case a => k_is); (case l => k_is); (case c => k_is); (case k => k_is)
    refine' CK.with_def KX "is_count" (K23.topS 13) ["value"] (CK.defF_mk KX G ?a ?l ?c ?k fun _ _ _ _ _ _ us hl => match us, hl with | [_], _ => rfl) fun d_is_count => ?_
    (case a => k_is); (case l => k_is); (case c => k_is); (case k => k_is)
    refine' CK.with_def KX "is_within" (K23.topS 14) ["value", "low", "high"] (CK.defF_mk KX G ?a ?l ?c ?k fun _ _ _ _ _ _ us hl => match us, hl with | [_, _, _], _ => rfl) fun d_is_within => ?_
    (case a => k_is); (case l => k_is); (case c => k_is); (case k => k_is)
    refine' CK.with_def KX "is_lettered" (K23.topS 15) ["value", "most"] (CK.defF_mk KX G ?a ?l ?c ?k fun _ _ _ _ _ _ us hl => match us, hl with | [_, _], _ => rfl) fun d_is_lettered => ?_
    (case a => k_is); (case l => k_is); (case c => k_is); (case k => k_is)
    refine' CK.with_def KX "is_counts" (K23.topS 16) ["value", "many"] (CK.defF_mk KX G ?a ?l ?c ?k fun _ _ _ _ _ _ us hl => match us, hl with | [_, _], _ => rfl) fun d_is_counts => ?_
    (case a => k_is); (case l => k_is); (case c => k_is); (case k => k_is)
    refine' CK.with_def KX "need_count" (K23.topS 17) ["value"] (CK.defF_mk KX G ?a ?l ?c ?k fun _ _ _ _ _ _ us hl => match us, hl with | [_], _ => rfl) fun d_need_count => ?_
    (case a => k_is); (case l => k_is); (case c => k_is); (case k => k_is)
    refine' CK.with_def KX "need_within" (K23.topS 18) ["value", "low", "high"] (CK.defF_mk KX G ?a ?l ?c ?k fun _ _ _ _ _ _ us hl => match us, hl with | [_, _, _], _ => rfl) fun d_need_within => ?_
    (case a => k_is); (case l => k_is); (case c => k_is); (case k => k_is)
    refine' CK.with_def KX "need_many" (K23.topS 19) ["value"] (CK.defF_mk KX G ?a ?l ?c ?k fun _ _ _ _ _ _ us hl => match us, hl with | [_], _ => rfl) fun d_need_many => ?_
    (case a => k_is); (case l => k_is); (case c => k_is); (case k => k_is)
    refine' CK.with_def KX "need_point" (K23.topS 20) ["value", "many"] (CK.defF_mk KX G ?a ?l ?c ?k fun _ _ _ _ _ _ us hl => match us, hl with | [_, _], _ => rfl) fun d_need_point => ?_
    (case a => k_is); (case l => k_is); (case c => k_is); (case k => k_is)
    refine' CK.with_def KX "is_form_for" (K23.topS 22) ["many", "value"] (CK.defF_mk KX G ?a ?l ?c ?k fun _ _ _ _ _ _ us hl => match us, hl with | [_, _], _ => rfl) fun d_is_form_for => ?_
    (case a => k_is); (case l => k_is); (case c => k_is); (case k => k_is)
    refine' CK.with_def KX "is_forms" (K23.topS 23) ["value", "size", "many"] (CK.defF_mk KX G ?a ?l ?c ?k fun _ _ _ _ _ _ us hl => match us, hl with | [_, _, _], _ => rfl) fun d_is_forms => ?_
    (case a => k_is); (case l => k_is); (case c => k_is); (case k => k_is)
    refine' CK.with_def KX "plain_form" (K23.topS 24) ["number", "many"] (CK.defF_mk KX G ?a ?l ?c ?k fun _ _ _ _ _ _ us hl => match us, hl with | [_, _], _ => rfl) fun d_plain_form => ?_
    (case a => k_is); (case l => k_is); (case c => k_is); (case k => k_is)
    refine' CK.with_def KX "form_value" (K23.topS 25) ["form", "point"] (CK.defF_mk KX G ?a ?l ?c ?k fun _ _ _ _ _ _ us hl => match us, hl with | [_, _], _ => rfl) fun d_form_value => ?_
    (case a => k_is); (case l => k_is); (case c => k_is); (case k => k_is)
    refine' CK.with_def KX "form_sum" (K23.topS 26) ["one", "other"] (CK.defF_mk KX G ?a ?l ?c ?k fun _ _ _ _ _ _ us hl => match us, hl with | [_, _], _ => rfl) fun d_form_sum => ?_
    (case a => k_is); (case l => k_is); (case c => k_is); (case k => k_is)
    refine' CK.with_def KX "form_times" (K23.topS 27) ["number", "form"] (CK.defF_mk KX G ?a ?l ?c ?k fun _ _ _ _ _ _ us hl => match us, hl with | [_, _], _ => rfl) fun d_form_times => ?_
    (case a => k_is); (case l => k_is); (case c => k_is); (case k => k_is)
    refine' CK.with_def KX "form_inserted" (K23.topS 28) ["form", "many", "forms"] (CK.defF_mk KX G ?a ?l ?c ?k fun _ _ _ _ _ _ us hl => match us, hl with | [_, _, _], _ => rfl) fun d_form_inserted => ?_
    (case a => k_is); (case l => k_is); (case c => k_is); (case k => k_is)
    refine' CK.with_def KX "turned_word" (K23.topS 30) ["word", "by"] (CK.defF_mk KX G ?a ?l ?c ?k fun _ _ _ _ _ _ us hl => match us, hl with | [_, _], _ => rfl) fun d_turned_word => ?_
    (case a => k_is); (case l => k_is); (case c => k_is); (case k => k_is)
    refine' CK.with_def KX "stretch" (K23.topS 31) ["word", "start", "size"] (CK.defF_mk KX G ?a ?l ?c ?k fun _ _ _ _ _ _ us hl => match us, hl with | [_, _, _], _ => rfl) fun d_stretch => ?_
    (case a => k_is); (case l => k_is); (case c => k_is); (case k => k_is)
    refine' CK.with_def KX "alike_ahead" (K23.topS 32) ["one", "other"] (CK.defF_mk KX G ?a ?l ?c ?k fun _ _ _ _ _ _ us hl => match us, hl with | [_, _], _ => rfl) fun d_alike_ahead => ?_
    (case a => k_is); (case l => k_is); (case c => k_is); (case k => k_is)
    refine' CK.with_def KX "alike_behind" (K23.topS 33) ["one", "other"] (CK.defF_mk KX G ?a ?l ?c ?k fun _ _ _ _ _ _ us hl => match us, hl with | [_, _], _ => rfl) fun d_alike_behind => ?_
    (case a => k_is); (case l => k_is); (case c => k_is); (case k => k_is)
    refine' CK.with_def KX "follows" (K23.topS 34) ["word", "text"] (CK.defF_mk KX G ?a ?l ?c ?k fun _ _ _ _ _ _ us hl => match us, hl with | [_, _], _ => rfl) fun d_follows => ?_
    (case a => k_is); (case l => k_is); (case c => k_is); (case k => k_is)
    refine' CK.with_def KX "border_sizes" (K23.topS 35) ["word"] (CK.defF_mk KX G ?a ?l ?c ?k fun _ _ _ _ _ _ us hl => match us, hl with | [_], _ => rfl) fun d_border_sizes => ?_
    (case a => k_is); (case l => k_is); (case c => k_is); (case k => k_is)
    refine' CK.with_def KX "root_size" (K23.topS 36) ["word"] (CK.defF_mk KX G ?a ?l ?c ?k fun _ _ _ _ _ _ us hl => match us, hl with | [_], _ => rfl) fun d_root_size => ?_
    (case a => k_is); (case l => k_is); (case c => k_is); (case k => k_is)
    refine' CK.with_def KX "is_piece" (K23.topS 41) ["many", "value"] (CK.defF_mk KX G ?a ?l ?c ?k fun _ _ _ _ _ _ us hl => match us, hl with | [_, _], _ => rfl) fun d_is_piece => ?_
    (case a => k_is); (case l => k_is); (case c => k_is); (case k => k_is)
    refine' CK.with_def KX "is_open_form" (K23.topS 42) ["form"] (CK.defF_mk KX G ?a ?l ?c ?k fun _ _ _ _ _ _ us hl => match us, hl with | [_], _ => rfl) fun d_is_open_form => ?_
    (case a => k_is); (case l => k_is); (case c => k_is); (case k => k_is)
    refine' CK.with_def KX "is_power" (K23.topS 43) ["piece"] (CK.defF_mk KX G ?a ?l ?c ?k fun _ _ _ _ _ _ us hl => match us, hl with | [_], _ => rfl) fun d_is_power => ?_
    (case a => k_is); (case l => k_is); (case c => k_is); (case k => k_is)
    refine' CK.with_def KX "fixed_piece" (K23.topS 44) ["word", "many"] (CK.defF_mk KX G ?a ?l ?c ?k fun _ _ _ _ _ _ us hl => match us, hl with | [_, _], _ => rfl) fun d_fixed_piece => ?_
    (case a => k_is); (case l => k_is); (case c => k_is); (case k => k_is)
    refine' CK.with_def KX "measure" (K23.topS 45) ["pieces"] (CK.defF_mk KX G ?a ?l ?c ?k fun _ _ _ _ _ _ us hl => match us, hl with | [_], _ => rfl) fun d_measure => ?_
    (case a => k_is); (case l => k_is); (case c => k_is); (case k => k_is)
    refine' CK.with_def KX "normal_pieces" (K23.topS 46) ["pieces"] (CK.defF_mk KX G ?a ?l ?c ?k fun _ _ _ _ _ _ us hl => match us, hl with | [_], _ => rfl) fun d_normal_pieces => ?_
    (case a => k_is); (case l => k_is); (case c => k_is); (case k => k_is)
    refine' CK.with_def KX "put_fixed" (K23.topS 47) ["ready", "word", "many"] (CK.defF_mk KX G ?a ?l ?c ?k fun _ _ _ _ _ _ us hl => match us, hl with | [_, _, _], _ => rfl) fun d_put_fixed => ?_
    (case a => k_is); (case l => k_is); (case c => k_is); (case k => k_is)
    refine' CK.with_def KX "put_power" (K23.topS 48) ["ready", "word", "form"] (CK.defF_mk KX G ?a ?l ?c ?k fun _ _ _ _ _ _ us hl => match us, hl with | [_, _, _], _ => rfl) fun d_put_power => ?_
    (case a => k_is); (case l => k_is); (case c => k_is); (case k => k_is)
    refine' CK.with_def KX "without_start" (K23.topS 49) ["pieces", "word"] (CK.defF_mk KX G ?a ?l ?c ?k fun _ _ _ _ _ _ us hl => match us, hl with | [_, _], _ => rfl) fun d_without_start => ?_
    (case a => k_is); (case l => k_is); (case c => k_is); (case k => k_is)
    refine' CK.with_def KX "need_pieces" (K23.topS 51) ["many", "pieces"] (CK.defF_mk KX G ?a ?l ?c ?k fun _ _ _ _ _ _ us hl => match us, hl with | [_, _], _ => rfl) fun d_need_pieces => ?_
    (case a => k_is); (case l => k_is); (case c => k_is); (case k => k_is)
    refine' CK.with_def KX "need_measure" (K23.topS 52) ["total"] (CK.defF_mk KX G ?a ?l ?c ?k fun _ _ _ _ _ _ us hl => match us, hl with | [_], _ => rfl) fun d_need_measure => ?_
    (case a => k_is); (case l => k_is); (case c => k_is); (case k => k_is)
    refine' CK.with_def KX "normal" (K23.topS 53) ["many", "pieces"] (CK.defF_mk KX G ?a ?l ?c ?k fun _ _ _ _ _ _ us hl => match us, hl with | [_, _], _ => rfl) fun d_normal => ?_
    (case a => k_is); (case l => k_is); (case c => k_is); (case k => k_is)
    refine' CK.with_met k_OpenText "__init__" "OpenText.__init__" (L2.inClass (K23.topS 55) 0) ["self", "many", "pieces"] (CK.metF_mk k_OpenText _ _ _ _ ?a ?i ?l ?c ?k fun _ _ _ _ _ _ us hl => match us, hl with | [_, _, _], _ => rfl) fun d_OpenText___init__ => ?_
    (case a => k_is); (case i => k_is); (case l => k_is); (case c => k_is); (case k => k_is)
    refine' CK.with_met k_OpenText "__eq__" "OpenText.__eq__" (L2.inClass (K23.topS 55) 1) ["self", "other"] (CK.metF_mk k_OpenText _ _ _ _ ?a ?i ?l ?c ?k fun _ _ _ _ _ _ us hl => match us, hl with | [_, _], _ => rfl) fun d_OpenText___eq__ => ?_
    (case a => k_is); (case i => k_is); (case l => k_is); (case c => k_is); (case k => k_is)
    refine' CK.with_met k_OpenText "many" "OpenText.many" (L2.inClass (K23.topS 55) 2) ["self"] (CK.metF_mk k_OpenText _ _ _ _ ?a ?i ?l ?c ?k fun _ _ _ _ _ _ us hl => match us, hl with | [_], _ => rfl) fun d_OpenText_many => ?_
    (case a => k_is); (case i => k_is); (case l => k_is); (case c => k_is); (case k => k_is)
    refine' CK.with_met k_OpenText "pieces" "OpenText.pieces" (L2.inClass (K23.topS 55) 3) ["self"] (CK.metF_mk k_OpenText _ _ _ _ ?a ?i ?l ?c ?k fun _ _ _ _ _ _ us hl => match us, hl with | [_], _ => rfl) fun d_OpenText_pieces => ?_
    (case a => k_is); (case i => k_is); (case l => k_is); (case c => k_is); (case k => k_is)
    refine' CK.with_def KX "need_text" (K23.topS 56) ["value"] (CK.defF_mk KX G ?a ?l ?c ?k fun _ _ _ _ _ _ us hl => match us, hl with | [_], _ => rfl) fun d_need_text => ?_
    (case a => k_is); (case l => k_is); (case c => k_is); (case k => k_is)
    refine' CK.with_def KX "text_of" (K23.topS 57) ["many", "pieces"] (CK.defF_mk KX G ?a ?l ?c ?k fun _ _ _ _ _ _ us hl => match us, hl with | [_, _], _ => rfl) fun d_text_of => ?_
    (case a => k_is); (case l => k_is); (case c => k_is); (case k => k_is)
    refine' CK.with_def KX "counted" (K23.topS 58) ["text", "point"] (CK.defF_mk KX G ?a ?l ?c ?k fun _ _ _ _ _ _ us hl => match us, hl with | [_, _], _ => rfl) fun d_counted => ?_
    (case a => k_is); (case l => k_is); (case c => k_is); (case k => k_is)
    refine' CK.with_def KX "written" (K23.topS 59) ["text", "point"] (CK.defF_mk KX G ?a ?l ?c ?k fun _ _ _ _ _ _ us hl => match us, hl with | [_, _], _ => rfl) fun d_written => ?_
    (case a => k_is); (case l => k_is); (case c => k_is); (case k => k_is)
    refine' CK.with_def KX "word_at" (K23.topS 60) ["text", "point"] (CK.defF_mk KX G ?a ?l ?c ?k fun _ _ _ _ _ _ us hl => match us, hl with | [_, _], _ => rfl) fun d_word_at => ?_
    (case a => k_is); (case l => k_is); (case c => k_is); (case k => k_is)
    refine' CK.with_def KX "length" (K23.topS 61) ["text"] (CK.defF_mk KX G ?a ?l ?c ?k fun _ _ _ _ _ _ us hl => match us, hl with | [_], _ => rfl) fun d_length => ?_
    (case a => k_is); (case l => k_is); (case c => k_is); (case k => k_is)
    refine' CK.with_def KX "replaced" (K23.topS 62) ["text", "many", "forms"] (CK.defF_mk KX G ?a ?l ?c ?k fun _ _ _ _ _ _ us hl => match us, hl with | [_, _, _], _ => rfl) fun d_replaced => ?_
    (case a => k_is); (case l => k_is); (case c => k_is); (case k => k_is)
    refine' CK.with_def KX "need_unknown" (K23.topS 64) ["text", "at"] (CK.defF_mk KX G ?a ?l ?c ?k fun _ _ _ _ _ _ us hl => match us, hl with | [_, _], _ => rfl) fun d_need_unknown => ?_
    (case a => k_is); (case l => k_is); (case c => k_is); (case k => k_is)
    refine' CK.with_def KX "unit_form" (K23.topS 65) ["number", "many"] (CK.defF_mk KX G ?a ?l ?c ?k fun _ _ _ _ _ _ us hl => match us, hl with | [_, _], _ => rfl) fun d_unit_form => ?_
    (case a => k_is); (case l => k_is); (case c => k_is); (case k => k_is)
    refine' CK.with_def KX "later" (K23.topS 66) ["text", "at", "by"] (CK.defF_mk KX G ?a ?l ?c ?k fun _ _ _ _ _ _ us hl => match us, hl with | [_, _, _], _ => rfl) fun d_later => ?_
    (case a => k_is); (case l => k_is); (case c => k_is); (case k => k_is)
    refine' CK.with_def KX "earlier" (K23.topS 67) ["text", "at"] (CK.defF_mk KX G ?a ?l ?c ?k fun _ _ _ _ _ _ us hl => match us, hl with | [_, _], _ => rfl) fun d_earlier => ?_
    (case a => k_is); (case l => k_is); (case c => k_is); (case k => k_is)
    refine' CK.with_def KX "moved_back" (K23.topS 68) ["text", "at", "by"] (CK.defF_mk KX G ?a ?l ?c ?k fun _ _ _ _ _ _ us hl => match us, hl with | [_, _, _], _ => rfl) fun d_moved_back => ?_
    (case a => k_is); (case l => k_is); (case c => k_is); (case k => k_is)
    refine' CK.with_def KX "thinned" (K23.topS 69) ["text", "at", "by"] (CK.defF_mk KX G ?a ?l ?c ?k fun _ _ _ _ _ _ us hl => match us, hl with | [_, _, _], _ => rfl) fun d_thinned => ?_
    (case a => k_is); (case l => k_is); (case c => k_is); (case k => k_is)
    refine' CK.with_def KX "need_positive" (K23.topS 70) ["value"] (CK.defF_mk KX G ?a ?l ?c ?k fun _ _ _ _ _ _ us hl => match us, hl with | [_], _ => rfl) fun d_need_positive => ?_
    (case a => k_is); (case l => k_is); (case c => k_is); (case k => k_is)
    refine' CK.with_def KX "first" (K23.topS 71) ["text", "at"] (CK.defF_mk KX G ?a ?l ?c ?k fun _ _ _ _ _ _ us hl => match us, hl with | [_, _], _ => rfl) fun d_first => ?_
    (case a => k_is); (case l => k_is); (case c => k_is); (case k => k_is)
    refine' CK.with_def KX "_law_hash" (K23.topS 73) ["_law_seed", "_law_index"] (CK.defF_mk KX G ?a ?l ?c ?k fun _ _ _ _ _ _ us hl => match us, hl with | [_, _], _ => rfl) fun d_law_hash => ?_
    (case a => k_is); (case l => k_is); (case c => k_is); (case k => k_is)
    refine' CK.with_def KX "_law_random" (K23.topS 74) ["_law_generator_here", "_law_bound"] (CK.defF_mk KX G ?a ?l ?c ?k fun _ _ _ _ _ _ us hl => match us, hl with | [_, _], _ => rfl) fun d_law_random => ?_
    (case a => k_is); (case l => k_is); (case c => k_is); (case k => k_is)
    refine' CK.with_def KX "_law_cell" (K23.topS 75) ["_law_script", "_law_index"] (CK.defF_mk KX G ?a ?l ?c ?k fun _ _ _ _ _ _ us hl => match us, hl with | [_, _], _ => rfl) fun d_law_cell => ?_
    (case a => k_is); (case l => k_is); (case c => k_is); (case k => k_is)
    refine' CK.with_def KX "_law_generator" (K23.topS 76) ["_law_script", "_law_index"] (CK.defF_mk KX G ?a ?l ?c ?k fun _ _ _ _ _ _ us hl => match us, hl with | [_, _], _ => rfl) fun d_law_generator => ?_
    (case a => k_is); (case l => k_is); (case c => k_is); (case k => k_is)
    refine' CK.with_def KX "_law_letters" (K23.topS 77) ["_law_generator_here"] (CK.defF_mk KX G ?a ?l ?c ?k fun _ _ _ _ _ _ us hl => match us, hl with | [_], _ => rfl) fun d_law_letters => ?_
    (case a => k_is); (case l => k_is); (case c => k_is); (case k => k_is)
    refine' CK.with_def KX "_law_word" (K23.topS 78) ["_law_generator_here", "_law_signs", "_law_least", "_law_most"] (CK.defF_mk KX G ?a ?l ?c ?k fun _ _ _ _ _ _ us hl => match us, hl with | [_, _, _, _], _ => rfl) fun d_law_word => ?_
    (case a => k_is); (case l => k_is); (case c => k_is); (case k => k_is)
    refine' CK.with_def KX "_law_form" (K23.topS 79) ["_law_generator_here", "_law_many", "_law_most"] (CK.defF_mk KX G ?a ?l ?c ?k fun _ _ _ _ _ _ us hl => match us, hl with | [_, _, _], _ => rfl) fun d_law_form => ?_
    (case a => k_is); (case l => k_is); (case c => k_is); (case k => k_is)
    refine' CK.with_def KX "_law_plain" (K23.topS 80) ["_law_many", "_law_number"] (CK.defF_mk KX G ?a ?l ?c ?k fun _ _ _ _ _ _ us hl => match us, hl with | [_, _], _ => rfl) fun d_law_plain => ?_
    (case a => k_is); (case l => k_is); (case c => k_is); (case k => k_is)
    refine' CK.with_def KX "_law_value" (K23.topS 81) ["_law_form_here", "_law_point_here"] (CK.defF_mk KX G ?a ?l ?c ?k fun _ _ _ _ _ _ us hl => match us, hl with | [_, _], _ => rfl) fun d_law_value => ?_
    (case a => k_is); (case l => k_is); (case c => k_is); (case k => k_is)
    refine' CK.with_def KX "_law_write" (K23.topS 82) ["_law_pieces", "_law_point_here"] (CK.defF_mk KX G ?a ?l ?c ?k fun _ _ _ _ _ _ us hl => match us, hl with | [_, _], _ => rfl) fun d_law_write => ?_
    (case a => k_is); (case l => k_is); (case c => k_is); (case k => k_is)
    refine' CK.with_def KX "_law_point" (K23.topS 83) ["_law_generator_here", "_law_many", "_law_most"] (CK.defF_mk KX G ?a ?l ?c ?k fun _ _ _ _ _ _ us hl => match us, hl with | [_, _, _], _ => rfl) fun d_law_point => ?_
    (case a => k_is); (case l => k_is); (case c => k_is); (case k => k_is)
    refine' CK.with_def KX "_law_piece" (K23.topS 84) ["_law_generator_here", "_law_many", "_law_signs", "_law_base", "_law_most"] (CK.defF_mk KX G ?a ?l ?c ?k fun _ _ _ _ _ _ us hl => match us, hl with | [_, _, _, _, _], _ => rfl) fun d_law_piece => ?_
    (case a => k_is); (case l => k_is); (case c => k_is); (case k => k_is)
    refine' CK.with_def KX "_law_raw" (K23.topS 85) ["_law_generator_here", "_law_many", "_law_signs", "_law_count", "_law_most"] (CK.defF_mk KX G ?a ?l ?c ?k fun _ _ _ _ _ _ us hl => match us, hl with | [_, _, _, _, _], _ => rfl) fun d_law_raw => ?_
    (case a => k_is); (case l => k_is); (case c => k_is); (case k => k_is)
    refine' CK.with_def KX "_law_units" (K23.topS 86) ["_law_many", "_law_at", "_law_by"] (CK.defF_mk KX G ?a ?l ?c ?k fun _ _ _ _ _ _ us hl => match us, hl with | [_, _, _], _ => rfl) fun d_law_units => ?_
    (case a => k_is); (case l => k_is); (case c => k_is); (case k => k_is)
    refine' CK.with_def KX "_law_first_right" (K23.topS 87) ["_law_text", "_law_at", "_law_by", "_law_numbers"] (CK.defF_mk KX G ?a ?l ?c ?k fun _ _ _ _ _ _ us hl => match us, hl with | [_, _, _, _], _ => rfl) fun d_law_first_right => ?_
    (case a => k_is); (case l => k_is); (case c => k_is); (case k => k_is)
    refine' CK.with_def KX "_law_right" (K23.topS 88) ["_law_generator_here"] (CK.defF_mk KX G ?a ?l ?c ?k fun _ _ _ _ _ _ us hl => match us, hl with | [_], _ => rfl) fun d_law_right => ?_
    (case a => k_is); (case l => k_is); (case c => k_is); (case k => k_is)
    refine' CK.with_def KX "law" (K23.topS 89) ["_law_script"] (CK.defF_mk KX G ?a ?l ?c ?k fun _ _ _ _ _ _ us hl => match us, hl with | [_], _ => rfl) fun d_law => ?_
    (case a => k_is); (case l => k_is); (case c => k_is); (case k => k_is)
    have m_all : mg "all" = none := by
      refine' PySem.W.mg_none_of KX G ?z
      (case z => k_is)
    have m_any : mg "any" = none := by
      refine' PySem.W.mg_none_of KX G ?z
      (case z => k_is)
    have m_bool : mg "bool" = none := by
      refine' PySem.W.mg_none_of KX G ?z
      (case z => k_is)
    have m_enumerate : mg "enumerate" = none := by
      refine' PySem.W.mg_none_of KX G ?z
      (case z => k_is)
    have m_int : mg "int" = none := by
      refine' PySem.W.mg_none_of KX G ?z
      (case z => k_is)
    have m_isinstance : mg "isinstance" = none := by
      refine' PySem.W.mg_none_of KX G ?z
      (case z => k_is)
    have m_len : mg "len" = none := by
      refine' PySem.W.mg_none_of KX G ?z
      (case z => k_is)
    have m_list : mg "list" = none := by
      refine' PySem.W.mg_none_of KX G ?z
      (case z => k_is)
    have m_max : mg "max" = none := by
      refine' PySem.W.mg_none_of KX G ?z
      (case z => k_is)
    have m_min : mg "min" = none := by
      refine' PySem.W.mg_none_of KX G ?z
      (case z => k_is)
    have m_range : mg "range" = none := by
      refine' PySem.W.mg_none_of KX G ?z
      (case z => k_is)
    have m_reversed : mg "reversed" = none := by
      refine' PySem.W.mg_none_of KX G ?z
      (case z => k_is)
    have m_str : mg "str" = none := by
      refine' PySem.W.mg_none_of KX G ?z
      (case z => k_is)
    have m_sum : mg "sum" = none := by
      refine' PySem.W.mg_none_of KX G ?z
      (case z => k_is)
    have m_tuple : mg "tuple" = none := by
      refine' PySem.W.mg_none_of KX G ?z
      (case z => k_is)
    have m_zip : mg "zip" = none := by
      refine' PySem.W.mg_none_of KX G ?z
      (case z => k_is)
    have k_MOST_LETTERS : ∃ u, mg "MOST_LETTERS" = some u ∧ L2.RelV (.int 20000) u := by
      refine' ⟨?u_MOST_LETTERS, PySem.W.mg_of KX G ?z_MOST_LETTERS, ?r_MOST_LETTERS⟩
      (case z_MOST_LETTERS => k_is)
      all_goals exact ⟨_, rfl⟩
    have k_MOST_MEASURE : ∃ u, mg "MOST_MEASURE" = some u ∧ L2.RelV (.int 2000) u := by
      refine' ⟨?u_MOST_MEASURE, PySem.W.mg_of KX G ?z_MOST_MEASURE, ?r_MOST_MEASURE⟩
      (case z_MOST_MEASURE => k_is)
      all_goals exact ⟨_, rfl⟩
    have k_MOST_PIECES : ∃ u, mg "MOST_PIECES" = some u ∧ L2.RelV (.int 5000) u := by
      refine' ⟨?u_MOST_PIECES, PySem.W.mg_of KX G ?z_MOST_PIECES, ?r_MOST_PIECES⟩
      (case z_MOST_PIECES => k_is)
      all_goals exact ⟨_, rfl⟩
    have k_MOST_PIECE_LETTERS : ∃ u, mg "MOST_PIECE_LETTERS" = some u ∧ L2.RelV (.int 2000) u := by
      refine' ⟨?u_MOST_PIECE_LETTERS, PySem.W.mg_of KX G ?z_MOST_PIECE_LETTERS, ?r_MOST_PIECE_LETTERS⟩
      (case z_MOST_PIECE_LETTERS => k_is)
      all_goals exact ⟨_, rfl⟩
    have k_MOST_UNKNOWNS : ∃ u, mg "MOST_UNKNOWNS" = some u ∧ L2.RelV (.int 3) u := by
      refine' ⟨?u_MOST_UNKNOWNS, PySem.W.mg_of KX G ?z_MOST_UNKNOWNS, ?r_MOST_UNKNOWNS⟩
      (case z_MOST_UNKNOWNS => k_is)
      all_goals exact ⟨_, rfl⟩
    have T : K23.Txt _ mg _ := ⟨k_OpenText, t_OpenText, f_many, f_pieces, d_is_whole, d_is_count, d_is_within, d_is_lettered, d_is_counts, d_need_count, d_need_within, d_need_many, d_need_point, d_is_form_for, d_is_forms, d_plain_form, d_form_value, d_form_sum, d_form_times, d_form_inserted, d_turned_word, d_stretch, d_alike_ahead, d_alike_behind, d_follows, d_border_sizes, d_root_size, d_is_piece, d_is_open_form, d_is_power, d_fixed_piece, d_measure, d_normal_pieces, d_put_fixed, d_put_power, d_without_start, d_need_pieces, d_need_measure, d_normal, d_OpenText___init__, d_OpenText___eq__, d_OpenText_many, d_OpenText_pieces, d_need_text, d_text_of, d_counted, d_written, d_word_at, d_length, d_replaced, d_need_unknown, d_unit_form, d_later, d_earlier, d_moved_back, d_thinned, d_need_positive, d_first, d_law_hash, d_law_random, d_law_cell, d_law_generator, d_law_letters, d_law_word, d_law_form, d_law_plain, d_law_value, d_law_write, d_law_point, d_law_piece, d_law_raw, d_law_units, d_law_first_right, d_law_right, d_law, m_all, m_any, m_bool, m_enumerate, m_int, m_isinstance, m_len, m_list, m_max, m_min, m_range, m_reversed, m_str, m_sum, m_tuple, m_zip, k_MOST_LETTERS, k_MOST_MEASURE, k_MOST_PIECES, k_MOST_PIECE_LETTERS, k_MOST_UNKNOWNS⟩
    exact K23.law_end T hmg
