import PyProof.Rows.All
import Wide.All
import OpenK.AllK
import Wide.FinOn
import HandS.ForMost
import HandS.Wide
import HandS.WideBits
import HandS.TupAny
import HandS.TupMul
import HandS.IsInst
import HandS.Walk
import HandS.Style
import KE.GoesZip
import KE.GoesMore
import KE.GoesEnum
import HandS.Codes
import HandS.FStrTup
import PyProof.ListMulRoad
import PyProof.FactsAll.tuple_2
import PyProof.ReprLoop
import PyProof.ReprHeadsTuple
import PyProof.StrHeap
import PyProof.CallStr
import HandS.StrMore
import HandS.SortInts
import PyProof.Rows.StrRev
import PyProof.StrOps2
import KE.DataAny
import PyProof.ReprRoads
import HandS.Ends
import HandS.Defaults
import HandS.MakeKwOnly
import HandS.MakeKw
import HandS.Records
import PySem.Challenge.RW_countscribe_k60_vectors_and_costs
import PyProof.ReprLen
import PyProof.StrLawsRepr
set_option Elab.async false
set_option linter.all false
set_option maxRecDepth 100000
set_option maxHeartbeats 2000000
/-! rules that the layer lacks: a power of great numbers, zip over a list and a tuple in any mix -/
namespace CK
open PySem PySem.Spec PyProof.Rows L2

section
variable {X : Cx}
theorem op_powB : OpR X (binaryOp .Pow) (rI (fun i j => 0 ≤ j ∧ (Builtin.Int.intBits i : Int) * j ≤ 2 ^ 27) fun i j => .int (i ^ j.toNat)) :=
  opI fun _ _ _ _ _ _ _ c q => pow_int c.1 c.2 q
end

/-- a list, or a tuple -/
inductive Kd | L | T
def SqB (K : PySem.W.Frag) : Kd → Hp → Addr → List V → Prop
  | .L, H, a, xs => SqL K H a xs
  | .T, H, a, xs => SqT K H a xs
def HasB : Kd → Heap → Addr → Array Value → Prop
  | .L, h, a, xs => h.IsList a xs
  | .T, h, a, xs => h.IsTuple a xs
def IterB : Kd → Heap → Addr → Addr → Nat → Prop
  | .L, h, it, a, i => h.IsListIter it a i
  | .T, h, it, a, i => h.IsTupleIter it a i
def objB : Kd → Addr → Obj
  | .L, a => { cls := .type "list_iterator", data := .fields #[.ref a, .int 0 0] }
  | .T, a => { cls := .type "tuple_iterator", data := .fields #[.ref a, .int 0 0] }
theorem drawsB (k : Kd) {prog : Program} {w : World} {A : Around} (hh : A.handled = none) (it t : Addr) (ne : t ≠ it) (zs : Array Value) :
    Draws prog w A it [it, t] zs.size (fun i v => zs[i]? = some v) (fun i h => IterB k h it t i ∧ HasB k h t zs) := by
  cases k with
  | L => exact Draws.list hh it t ne zs
  | T => exact Draws.tuple hh it t ne zs
theorem beginsB (k : Kd) (t : Addr) (zs : Array Value) : Begins (.ref t) (objB k t) fun h => HasB k h t zs := by
  cases k with
  | L => exact begins_list t zs
  | T => exact begins_tuple t zs
theorem IterB.at {k : Kd} {h h' : Heap} {it a : Addr} {i : Nat} (x : IterB k h it a i) (e : ∀ o, h.get? it = some o → h'.get? it = some o) : IterB k h' it a i := by
  cases k with
  | L => exact Heap.IsListIter.at x e
  | T => exact Heap.IsTupleIter.at x e
theorem IterB.there {k : Kd} {h : Heap} {it a : Addr} {i : Nat} (x : IterB k h it a i) : ∃ o, h.get? it = some o ∧ ∀ v, o.data ≠ .cell v := by
  cases k with
  | L =>
    obtain ⟨o, e, _, d⟩ := x
    exact ⟨o, e, fun v z => by rw [d] at z; cases z⟩
  | T =>
    obtain ⟨o, e, _, d⟩ := x
    exact ⟨o, e, fun v z => by rw [d] at z; cases z⟩
theorem IterB.new {k : Kd} {h : Heap} {it a : Addr} (e : h.get? it = some (objB k a)) : IterB k h it a 0 := by
  cases k with
  | L => exact ⟨_, e, rfl, rfl⟩
  | T => exact ⟨_, e, rfl, rfl⟩
theorem SqB.get {X : Cx} {pins : List (Addr × Obj)} {σ : L2.St} {H : Hp} {s : Shared} {k : Kd} {a : Addr} {xs : List V} (I : Inv X pins σ H s) (h : SqB X.K k H a xs) :
    ∃ zs : List Value, Vals xs zs ∧ HasB k s.heap a zs.toArray ∧ a < s.heap.objs.size := by
  cases k with
  | L =>
    obtain ⟨zs, r, p, _⟩ := I.list h
    exact ⟨zs, r, p.isList, p.lt⟩
  | T =>
    obtain ⟨zs, r, p, _⟩ := I.tuple h
    exact ⟨zs, r, p, p.lt⟩
theorem SqB.inj {X : Cx} {pins : List (Addr × Obj)} {σ : L2.St} {H : Hp} {s : Shared} {k : Kd} {a : Addr} {xs ys : List V} (I : Inv X pins σ H s) (h : SqB X.K k H a xs) (h' : SqB X.K k H a ys) : xs = ys := by
  cases k with
  | L => exact I.list_inj h h'
  | T => exact I.tuple_inj h h'

/-- both as they stand at each turn, the items in new pairs -/
def ItB (K : PySem.W.Frag) (k k' : Kd) (a b : Addr) : It :=
  ⟨fun i H => ∃ (xs ys : List V) (x y : V), SqB K k H a xs ∧ SqB K k' H b ys ∧ xs[i]? = some x ∧ ys[i]? = some y,
    fun i H v H' => ∃ T x y, v = .ref T ∧ H T = none ∧ H' = upd H T (.tup [x, y]) ∧ (∀ xs, SqB K k H a xs → xs[i]? = some x) ∧ ∀ ys, SqB K k' H b ys → ys[i]? = some y,
    fun i H => ∃ xs ys : List V, SqB K k H a xs ∧ SqB K k' H b ys ∧ i ≤ xs.length ∧ i ≤ ys.length ∧ (i = xs.length ∨ i = ys.length)⟩
theorem five {z TI TO i1 i2 c : Addr} (h : c ∈ [z, TI, TO, i1, i2]) : c = z ∨ c = TI ∨ c = TO ∨ c = i1 ∨ c = i2 := by simpa using h
theorem turnB {P : Program} {w : World} {K : PySem.W.Frag} {elts : List Expr} {kk : Nat} {tp : Pos} {k k' : Kd} {a b z TI TO i1 i2 : Addr} (S : ZipSep2 z TI TO i1 i2 [i1, a] [i2, b]) (na : a ≠ i1) (nb : b ≠ i2) :
    Turn P w K (.Tuple elts kk tp) (ItB K k k' a b) [z, TI, TO, i1, i2] z
      (fun i h => IsZip h z TI TO .none ∧ IsTupOf2 h TI (.ref i1) (.ref i2) ∧ (∃ x y, IsTupOf2 h TO x y) ∧ IterB k h i1 a i ∧ IterB k' h i2 b i) where
  mem := by simp
  obj := fun i h st c hc => by
    obtain ⟨hz, hI, ⟨x, y, hO⟩, h1, h2⟩ := st
    rcases five hc with q | q | q | q | q <;> subst q
    · exact ⟨_, hz, fun v q => nomatch q⟩
    · exact ⟨_, hI, fun v q => nomatch q⟩
    · exact ⟨_, hO, fun v q => nomatch q⟩
    · exact h1.there
    · exact h2.there
  keep := fun i h h' st q => by
    obtain ⟨hz, hI, ⟨x, y, hO⟩, h1, h2⟩ := st
    exact ⟨q z (by simp) _ hz, q TI (by simp) _ hI, ⟨x, y, q TO (by simp) _ hO⟩, h1.at (q i1 (by simp)), h2.at (q i2 (by simp))⟩
  item := by
    intro X hP hw hK hc i pins s σ H E I hf st hg
    subst hP hw hK
    obtain ⟨hz, hI, ⟨x0, y0, hO⟩, h1, h2⟩ := st
    obtain ⟨xs, ys, x, y, qx, qy, hx, hy⟩ := hg
    obtain ⟨zs, r1, p1, la⟩ := SqB.get I qx
    obtain ⟨zs', r2, p2, lb⟩ := SqB.get I qy
    obtain ⟨u, hu, ru⟩ := r1.get hx
    obtain ⟨u2, hu2, ru2⟩ := r2.get hy
    have z0 : z < s.heap.objs.size := Heap.lt_size hz
    have l1 : i < zs.toArray.size := by
      obtain ⟨q, _⟩ := List.getElem?_eq_some_iff.mp hu
      simpa using q
    have l2 : i < zs'.toArray.size := by
      obtain ⟨q, _⟩ := List.getElem?_eq_some_iff.mp hu2
      simpa using q
    have hh : X.A.in1.handled = none := I.ok.hd hc
    refine wpAny_pyNext_zipD2_item S (drawsB k hh i1 a na zs.toArray) (drawsB k' hh i2 b nb zs'.toArray) hz hI hO ⟨h1, p1⟩ ⟨h2, p2⟩ l1 l2 fun x1 x2 h' tk e1 e2 z' TO' t1 t2 hT hsz hk => ?_
    have e1' : x1 = u := by
      have q : zs[i]? = some x1 := by simpa using e1
      exact Option.some.inj (q.symm.trans hu)
    have e2' : x2 = u2 := by
      have q : zs'[i]? = some x2 := by simpa using e2
      exact Option.some.inj (q.symm.trans hu2)
    subst e1' e2'
    refine ⟨_, rfl, wpAny_letOwnedTupleGo_zip (s := { s with heap := h', toks := tk }) z' fun h'' z'' sb => ?_⟩
    have hT2 : h''.get? s.heap.objs.size = some { cls := .type "tuple", data := .seq #[x1, x2] } := (sb.2 _ (Nat.ne_of_gt z0)).trans hT
    have new : ObjOk X.prog X.w (upd H s.heap.objs.size (.tup [x, y])) h'' s.heap.objs.size (.tup [x, y]) :=
      ⟨by show 2 ≤ sizeLine; decide, [x1, x2], .cons ru (.cons ru2 .nil), ⟨_, hT2, rfl, _, rfl⟩⟩
    have I1 : Inv X pins σ (upd H s.heap.objs.size (.tup [x, y])) { s with heap := h'', toks := tk } :=
      I.turnedNew (ch := [z, TI, TO, i1, i2]) (fun c o hb q => by
        have n : c ≠ z ∧ c ≠ TI ∧ c ≠ TO ∧ c ≠ i1 ∧ c ≠ i2 := by simpa using hb
        exact (sb.2 c n.1).trans (hk c o n.1 n.2.2.1 n.2.2.2.1 n.2.2.2.2 q)) hf (Nat.le_refl _) new
    refine ⟨.ref s.heap.objs.size, _, I1, rfl, ⟨_, x, y, rfl, I.hok.fresh (Nat.le_refl _), rfl, fun l hl => by rw [SqB.inj I hl qx]; exact hx, fun l hl => by rw [SqB.inj I hl qy]; exact hy⟩, ⟨z'', ?_, ⟨x1, x2, ?_⟩, ?_, ?_⟩, fun c hcm => ?_⟩
    · exact (sb.2 _ S.TIz).trans (hk _ _ S.TIz S.TITO S.TIi1 S.TIi2 hI)
    · exact (sb.2 _ S.TOz).trans TO'
    · exact t1.1.at fun o q => (sb.2 _ S.zi1.symm).trans q
    · exact t2.1.at fun o q => (sb.2 _ S.zi2.symm).trans q
    · have lt : c < s.heap.objs.size := by
        rcases five hcm with q | q | q | q | q <;> subst q
        · exact z0
        · exact Heap.lt_size hI
        · exact Heap.lt_size hO
        · obtain ⟨_, e, _⟩ := h1.there
          exact Heap.lt_size e
        · obtain ⟨_, e, _⟩ := h2.there
          exact Heap.lt_size e
      rw [upd_ne (Nat.ne_of_lt lt)]
      exact (hf c hcm).1
  done := by
    intro X hP hw hK hc i pins s σ H E I hf st hg
    subst hP hw hK
    obtain ⟨hz, hI, ⟨x0, y0, hO⟩, h1, h2⟩ := st
    obtain ⟨xs, ys, qx, qy, m1, m2, hend⟩ := hg
    obtain ⟨zs, r1, p1, la⟩ := SqB.get I qx
    obtain ⟨zs', r2, p2, lb⟩ := SqB.get I qy
    have e1 : zs.toArray.size = xs.length := by rw [List.size_toArray]; exact r1.length.symm
    have e2 : zs'.toArray.size = ys.length := by rw [List.size_toArray]; exact r2.length.symm
    have hh : X.A.in1.handled = none := I.ok.hd hc
    exact wpAny_pyNext_zipD2_end S (drawsB k hh i1 a na zs.toArray) (drawsB k' hh i2 b nb zs'.toArray) hz hI hO ⟨h1, p1⟩ ⟨h2, p2⟩ (by omega) (by omega) (by omega) fun h' tk hk =>
      ⟨rfl, I.turnedL (ch := [z, TI, TO, i1, i2]) (fun c o hb q => by
        have n : c ≠ z ∧ c ≠ TI ∧ c ≠ TO ∧ c ≠ i1 ∧ c ≠ i2 := by simpa using hb
        exact hk c o n.1 n.2.2.1 n.2.2.2.1 n.2.2.2.2 q) hf⟩
  self := fun A i s Q E st h => wpAny_pyIter_zip st.1 h

def iZipB (K : PySem.W.Frag) (ta : TA) : TI := fun σ H R => ta σ H fun vs H1 => ∃ (k k' : Kd) (a b : Addr) (xs ys : List V), vs = [.ref a, .ref b] ∧ SqB K k H1 a xs ∧ SqB K k' H1 b ys ∧ R (ItB K k k' a b) H1
theorem pi_zipB {X : Cx} {K : PySem.W.Frag} {e e2 : Expr} {ta : TA} {p pos tp : Pos} {elts : List Expr} {kk : Nat} (hK : X.K = K) (hg : Gl X "zip") (hm : X.mg "zip" = none) (ha : PA X [e, e2] ta)
    (hs : starEach [e, e2] X.env = (false, eval e X.env) :: starEach [e2] X.env := by rfl) (hpl : (backTo pos (starEach [e2] X.env)).any (·.1) = false := by rfl) :
    PI X (.Tuple elts kk tp) (.Call (.Name "zip" p) [e, e2] [] pos) (iZipB K ta) := by
  subst hK
  refine ⟨fun pins s σ H R I h => Call_ (ld_blt I hg hm PyProof.Rows.boot_zip (callWith_type1 (thn (ha.run pos pins s σ H _ I h) fun us s1 q => ?_) hs hpl))⟩
  obtain ⟨vs, H1, I1, r1, k, k', a, b, xs, ys, rfl, qx, qy, q⟩ := q
  cases r1 with
  | cons r rr =>
  cases rr with
  | cons r' rr =>
  cases rr
  cases r
  cases r'
  obtain ⟨zs, _, p1, la⟩ := SqB.get I1 qx
  obtain ⟨zs', _, p2, lb⟩ := SqB.get I1 qy
  refine zip_begins2 (beginsB k a zs.toArray) (beginsB k' b zs'.toArray) p1 p2 fun h' hz hI hO o1 o2 hsz hk => wpAny_pyIter_zip hz ?_
  have S := zip_sep2 (N := s1.heap.objs.size) (fp1 := [a]) (fp2 := [b]) (fun c hc => by rw [List.mem_singleton.mp hc]; exact la) (fun c hc => by rw [List.mem_singleton.mp hc]; exact lb)
  refine ⟨s1.heap.objs.size + 4, _, _, _, H1, rfl, I1.kept (t' := s1.toks) hk, turnB S (Nat.ne_of_lt la) (Nat.ne_of_lt (Nat.lt_succ_of_lt lb)), ⟨hz, hI, ⟨_, _, hO⟩, .new o1, .new o2⟩, fun c hc => ?_, q⟩
  have le : s1.heap.objs.size ≤ c := by
    rcases five hc with z | z | z | z | z <;> subst z <;> first | exact Nat.le_add_right _ _ | exact Nat.le_refl _
  exact I1.fpOk le (I1.hok.fresh le)
theorem walkB {K : PySem.W.Frag} {k k' : Kd} {a b : Addr} {xs ys : List V} (hl : xs.length = ys.length) :
    Walk (ItB K k k' a b) xs.length (fun H => SqB K k H a xs ∧ SqB K k' H b ys) (YPair (fun i => xs[i]?) (fun i => ys[i]?)) := by
  refine ⟨fun i H hi q => ?_, fun H q => ⟨xs, ys, q.1, q.2, Nat.le_refl _, Nat.le_of_eq hl, .inl rfl⟩, fun i H v H' _ q y => ?_⟩
  · have h2 : i < ys.length := by omega
    exact ⟨xs, ys, xs[i], ys[i], q.1, q.2, by simp [hi], by simp [h2]⟩
  · obtain ⟨T, x, z, h1, h2, h3, h4, h5⟩ := y
    exact ⟨T, x, z, h1, h2, h3, h4 xs q.1, h5 ys q.2⟩
end CK

set_option Elab.async false
set_option linter.all false
set_option maxRecDepth 100000
set_option maxHeartbeats 4000000
namespace CK
open PySem PySem.Spec PyProof.Rows L2
theorem mulFill : fillsNumberSlot (.type "tuple") "mul" = pure false :=
  PySem.fillsNumberSlot_seq (r := some (.builtin "tuple.__rmul__")) (id := "tuple.__mul__") PySem.F.slot_tuple_mul.lookup (by decide +kernel)
    PySem.F.slot_tuple_rmul.lookup (by decide +kernel)
theorem mulSeq : seqRepeat? (.type "tuple") = pure (some (.builtin "tuple.__mul__")) := by
  unfold seqRepeat?
  rw [PySem.seqSlot_of (name := "__mul__") (id := "tuple.__mul__") (T := "tuple") PySem.F.slot_tuple_mul.lookup (by decide +kernel),
    PySem.seqSlot_of (name := "__rmul__") (id := "tuple.__rmul__") (T := "tuple") PySem.F.slot_tuple_rmul.lookup (by decide +kernel)]
  rfl
theorem rmulNo (a : Int) (t : Tok) (l : Addr) (zs : Array Value) (n : Nat) (dd : Option Addr) (sl : Array (Option Value)) :
    Meets (Builtin.«int.__rmul__» ⟨[.int a t, .ref l], []⟩) (fun _ R s =>
      s.heap.get? l = some { cls := .type "tuple", dict := dd, data := .seq zs n, slots := sl } ∧ R (.ok (.ret Value.notImplemented)) s) := by
  refine Meets.of_wp fun prog w A R s h => ?_
  obtain ⟨hq, g, d, tk, o2⟩ := s
  obtain ⟨hl, h⟩ := h
  wp_walk using wpAny_loadPart' hl
  exact ⟨_, rfl, h⟩
/-- one item, no times: a new empty tuple -/
theorem mul0 (l : Addr) (v : Value) (n : Nat) (dd : Option Addr) (sl : Array (Option Value)) (u : Tok) :
    Meets (Builtin.«tuple.__mul__» ⟨[.ref l, .int 0 u], []⟩) (fun _ R s =>
      s.heap.get? l = some { cls := .type "tuple", dict := dd, data := .seq #[v] n, slots := sl } ∧
      R (.ok (.ret (Value.ref s.heap.objs.size))) { s with heap := s.heap.push { cls := Value.type "tuple", data := Data.seq #[] } }) := by
  refine Meets.of_wp fun prog w A R s h => ?_
  obtain ⟨hq, g, d, tk, o2⟩ := s
  obtain ⟨hl, h⟩ := h
  have f1 := AutoSeq1.idx_int
  wp_walk using wpAny_loadPart' hl
  exact ⟨_, rfl, h⟩
/-- one item, once: the tuple itself -/
theorem mul1 (l : Addr) (v : Value) (n : Nat) (dd : Option Addr) (sl : Array (Option Value)) (u : Tok) :
    Meets (Builtin.«tuple.__mul__» ⟨[.ref l, .int 1 u], []⟩) (fun _ R s =>
      s.heap.get? l = some { cls := .type "tuple", dict := dd, data := .seq #[v] n, slots := sl } ∧ R (.ok (.ret (Value.ref l))) s) := by
  refine Meets.of_wp fun prog w A R s h => ?_
  obtain ⟨hq, g, d, tk, o2⟩ := s
  obtain ⟨hl, h⟩ := h
  have f1 := AutoSeq1.idx_int
  have f2 : (⟨hq, g, d, tk, o2⟩ : Shared).TypeIs (.ref l) "tuple" := ⟨_, hl, rfl⟩
  wp_walk using wpAny_loadPart' hl, wpAny_typeOf f2
  exact ⟨_, rfl, h⟩
section
variable {X : Cx}
theorem sameNew {H : Hp} {p : Addr} {o : HO} (h : H p = none) : Same H (upd H p o) := fun b z e => by
  rw [upd_ne (ne_of_none e h)]
  exact e
/-- one item, k times: 0 or 1 -/
def rRep01 : R2 := fun x y H Q => ∃ (l : Addr) (k : Int) (v : V), x = .ref l ∧ y = .int k ∧ H l = some (.tup [v]) ∧ (k = 0 ∨ k = 1) ∧
  ∀ p H', Same H H' → H' p = some (.tup (List.replicate k.toNat v)) → Q (.ref p) H'
theorem op_rep01 : OpR X (binaryOp .Mult) rRep01 := by
  intro pins s σ H x y xv yv Q I rx ry h
  obtain ⟨l, k, v, rfl, rfl, hl, hk, q⟩ := h
  cases rx
  obtain ⟨t, rfl⟩ := ry
  obtain ⟨zs, r, ⟨⟨cl, dd, da, sl⟩, ho, hc, n, hd⟩, hs⟩ := I.tuple (.inl (.inl hl) : SqT X.K H l [v])
  simp only at hc hd
  subst hc hd
  cases r with
  | cons r1 r2 =>
  cases r2
  rename_i u
  rcases hk with e | e <;> subst e
  · refine wpAny_binaryOp_repeat_ref (T := "tuple") (U := "int") (by decide) ⟨_, ho, rfl⟩ (fun s' => typeIs_int s' 0 t) mulFill F.fills_int_mul F.slot_int_rmul mulSeq F.slot_int_index.lookup
      (call_meets F.slot_int_rmul (typeIs_int s 0 t) F.entry_int_rmul (F.args_int_rmul_2 _ _) (rmulNo 0 t l _ n dd sl)
        ⟨ho, rfl, ⟨_, ho, rfl⟩, call_meets F.slot_tuple_mul ⟨_, ho, rfl⟩ F.entry_tuple_mul (F.args_tuple_mul_2 _ _) (mul0 l _ n dd sl t) ⟨ho, ?_⟩⟩)
    have hn : H s.heap.objs.size = none := I.hok.fresh (Nat.le_refl _)
    refine ⟨.ref s.heap.objs.size, _, I.laid (t' := s.toks) (o := .tup []) (fun b ob q => Heap.get?_push_of_some _ q) (Nat.le_refl _) ?_, rfl, q _ _ (sameNew hn) upd_same⟩
    exact ⟨Nat.zero_le _, [], .nil, IsTup.new _ _⟩
  · exact wpAny_binaryOp_repeat_ref (T := "tuple") (U := "int") (by decide) ⟨_, ho, rfl⟩ (fun s' => typeIs_int s' 1 t) mulFill F.fills_int_mul F.slot_int_rmul mulSeq F.slot_int_index.lookup
      (call_meets F.slot_int_rmul (typeIs_int s 1 t) F.entry_int_rmul (F.args_int_rmul_2 _ _) (rmulNo 1 t l _ n dd sl)
        ⟨ho, rfl, ⟨_, ho, rfl⟩, call_meets F.slot_tuple_mul ⟨_, ho, rfl⟩ F.entry_tuple_mul (F.args_tuple_mul_2 _ _) (mul1 l _ n dd sl t)
          ⟨ho, ⟨.ref l, H, I, rfl, q l H (Same.refl H) hl⟩⟩⟩)
/-! ### str(tuple of whole numbers): some text -/
theorem reprInts {prog : Program} {w : World} : ∀ {ns : List Int} {zs : List Value}, Vals (ns.map V.int) zs → (∀ n ∈ ns, n.natAbs.log2 < 1920) → ReprAll prog w zs (ns.map fun n => (toString n : Str))
  | [], _, r, _ => by
    cases r
    exact .nil
  | n :: l, _, r, h => by
    cases r with
    | cons r1 r2 =>
    obtain ⟨t, rfl⟩ := r1
    exact .cons (ReprIs.int t (h n List.mem_cons_self)) (reprInts r2 fun z hz => h z (List.mem_cons_of_mem _ hz))
end
end CK
namespace CK
open PySem PySem.Spec PyProof.Rows L2
section
variable {X : Cx}
/-- one item, k times -/
def rRepOne (K : PySem.W.Frag) : R2 := fun x y H Q => ∃ (l : Addr) (k : Int) (v : V), x = .ref l ∧ y = .int k ∧ H l = some (.tup [v]) ∧ 0 ≤ k ∧ k ≤ 1000 ∧
  ∀ p H', Same H H' → H' p = some (.tup (List.replicate k.toNat v)) → Q (.ref p) H'
theorem flat_rep {α : Type} (v : α) : ∀ n : Nat, (List.replicate n [v]).flatten = List.replicate n v
  | 0 => rfl
  | n + 1 => by rw [List.replicate_succ, List.flatten_cons, flat_rep v n, List.replicate_succ]; rfl
theorem op_repOne : OpR X (binaryOp .Mult) (rRepOne X.K) := by
  intro pins s σ H x y xv yv Q I rx ry h
  obtain ⟨l, k, v, rfl, rfl, hl, h0, h1, q⟩ := h
  by_cases hk : k = 0 ∨ k = 1
  · exact op_rep01 pins s σ H _ _ xv yv Q I rx ry ⟨l, k, v, rfl, rfl, hl, hk, q⟩
  · refine op_repT pins s σ H _ _ xv yv Q I rx ry ⟨l, k, [v], rfl, rfl, .inl (.inl hl), List.cons_ne_nil _ _, by omega, h1, by show 1 ≤ 1000; omega, fun p hp => q p _ (sameNew hp) ?_⟩
    rw [upd_same, flat_rep]
/-- str of a tuple of whole numbers: some text -/
theorem call_str_tup {k : Nat} (hr : Room k X.A) : CallR X (.type "str") (fun xs H Q => ∃ (a : Addr) (ns : List Int), xs = [.ref a] ∧ H a = some (.tup (ns.map V.int)) ∧ ns.length ≤ 100 ∧ (∀ n ∈ ns, n.natAbs.log2 < 1920) ∧ ∀ m : Str, Q (.str m) H) := by
  intro pins s σ H xs us Q I r h
  obtain ⟨a, ns, rfl, ha, hl, hn, q⟩ := h
  obtain ⟨u, rfl, rx⟩ := vals1 r
  cases rx
  obtain ⟨zs, rv, ⟨o, ho, hc, n, hd⟩, hz⟩ := I.tuple (.inl (.inl ha) : SqT X.K H a _)
  have hu := hr.units
  have hT : ReprAll X.prog X.w zs.toArray.toList (ns.map fun n => (toString n : Str)) := by simpa using reprInts rv hn
  have hp : ∀ l : List Int, (∀ n ∈ l, n.natAbs.log2 < 1920) → piled (l.map fun n => (toString n : Str)) ≤ l.length * 1923 := by
    intro l
    induction l with
    | nil => intro _; exact Nat.le_refl _
    | cons z l ih =>
      intro h
      have a1 := int_text_length_le (a := z) (k := 1920) (by omega) (h z List.mem_cons_self)
      have a2 := ih fun n hn => h n (List.mem_cons_of_mem _ hn)
      rw [List.map_cons, piled_cons, List.length_cons]
      have a3 : ((toString z : Str)).length = (toString z).length := PySem.ofString_length _
      omega
  have h1 := fmt_text (ns.map fun n => (toString n : Str))
  have h2 := hp ns hn
  have h3 : ns.length * 1923 ≤ 192300 := by omega
  have h4 : (tupleText (ns.map fun n => (toString n : Str))).length ≤ sizeLine := by
    rw [sizeLine_eq]
    omega
  refine callType_new F.called_str (by decide) (F.typeCall_str_1 _) (F.newCall_str_1 _) (fun obj => F.args_object_init_2 obj _) F.entry_str_new
    (meets_str_new (S := fun A' R s' => A'.units + 4 < cLine ∧ s'.heap.get? a = some o ∧ ∀ (m : Str) (u tk : Tok), R (.ok (.ret (.str m u))) { s' with toks := tk }) fun prog w A' R s' h =>
      wpAny_strOf_slot rfl (by show A'.units + 1 + 1 < cLine; have := h.1; omega) ⟨o, h.2.1, hc⟩ F.slot_tuple_str F.slot_tuple_repr
        (fmt_tuple_repr h.2.1 hc hd ?_ h4 fun m u tk _ => ⟨m, u, rfl, h.2.2 m u tk⟩))
    ⟨by show X.A.units + 1 + 4 < cLine; omega, ho, fun m u tk => ⟨typeIs_str _ _ _, .str m, H, I.tok _, ⟨u, rfl⟩, q m⟩⟩
  exact by simpa using reprInts rv hn
end
end CK

set_option Elab.async false
set_option linter.all false
set_option maxRecDepth 100000
set_option maxHeartbeats 2000000
namespace CK
open PySem PySem.Spec PyProof.Rows L2
/-! ### a def as it stands behind the top, and its promise by its body -/
structure DefF (K : PySem.W.Frag) (mg : Str → Option Value) (x : Str) (st : Stmt) (ps : List Str) : Prop where
  ex : ∃ (f : Addr) (fd : FuncData), C8.Def K mg x st f fd ∧ ∀ us : List Value, us.length = ps.length → bindArgs fd ⟨us, []⟩ = pure (ps.zip us)
theorem defF_mk {K : PySem.W.Frag} {h : Heap} {mg : Str → Option Value} {x : Str} {st : Stmt} {ps : List Str} {f : Addr} {od an : Option Addr} {oc kV dc pm cd ct : Value} {sl : Array (Option Value)}
    (X : K.In h) (G : h.Ns mainGlobals mg) (a : PySem.W.nsIn K mainGlobals x = some (some (.ref f)))
    (l : K.lookup f = some ⟨oc, od, .func (PySem.W.fnOf x x (C8.fnArgs st) (C8.fnBody st) (C8.fnScope st) .none kV dc pm an cd ct), sl⟩)
    (c : PySem.W.codeIn K cd x = true) (k : PySem.W.keepIn K (.ref f) = true)
    (hb : ∀ (kV doc pm : Value) (an : Option Addr) (cdv ct : Value) (us : List Value), us.length = ps.length →
      bindArgs (PySem.W.fnOf x x (C8.fnArgs st) (C8.fnBody st) (C8.fnScope st) .none kV doc pm an cdv ct) ⟨us, []⟩ = pure (ps.zip us)) : DefF K mg x st ps :=
  ⟨f, _, ⟨⟨oc, od, .none, kV, dc, pm, an, cd, ct, sl, rfl, l, c⟩, PySem.W.mg_of X G a, k⟩, hb kV dc pm an cd ct⟩
theorem calF {P : Program} {w : World} {K : PySem.W.Frag} {mg : Str → Option Value} {base : Heap} {x : Str} {st : Stmt} {N ps : List Str} {k : Nat} {sp : Sp} (D : DefF K mg x st ps) (S : FnScope N ps (C8.fnScope st))
    (len : ∀ vs H Q E, sp vs H Q E → vs.length = ps.length)
    (hbody : ∀ (f : Addr) (cdv : Value) (A : Around) (outer : List Env) (s : Shared) (H : Hp) (vs : List V) (Q : VK) (E : XK), Room k (A.deeper (envOfC x (C8.fnScope st) s.heap.objs.size f cdv)) → sp vs H Q E →
      ∃ t, PSs (cxOf C8.CX0 P w K mg base N x (C8.fnScope st) f cdv A outer s H E).nox (C8.fnBody st) t ∧ t { nx := fun _ H' => Q .non H', rt := Q } (start N vs) H) : C8.Cal P w K mg base (k + 1) x sp [] := by
  obtain ⟨f, fd, F, b⟩ := D.ex
  exact C8.cal0 F (.all b) .nil S len (hbody f)
/-- a def of one parameter as it stands, for the law's end -/
theorem DefF.one {K : PySem.W.Frag} {mg : Str → Option Value} {x p : Str} {st : Stmt} (D : DefF K mg x st [p]) : ∃ (f : Addr) (fd : FuncData), mg x = some (.ref f) ∧ (∀ (s : Shared) (v : Value), BindsTo s fd ⟨[v], []⟩ [(p, v)]) ∧
    ∀ {P : Program} {w : World} {base : Heap} {N : List Str} {k : Nat} {sp : Sp} (S : FnScope N [p] (C8.fnScope st)) (len : ∀ vs H Q E, sp vs H Q E → vs.length = 1)
      (hbody : ∀ (f : Addr) (cdv : Value) (A : Around) (outer : List Env) (s : Shared) (H : Hp) (vs : List V) (Q : VK) (E : XK), Room k (A.deeper (envOfC x (C8.fnScope st) s.heap.objs.size f cdv)) → sp vs H Q E →
        ∃ t, PSs (cxOf C8.CX0 P w K mg base N x (C8.fnScope st) f cdv A outer s H E).nox (C8.fnBody st) t ∧ t { nx := fun _ H' => Q .non H', rt := Q } (start N vs) H), FnOk P w K mg base C8.CX0 (k + 1) f fd [p] sp := by
  obtain ⟨f, fd, F, b⟩ := D.ex
  exact ⟨f, fd, F.mgf, fun s v => .of_eq (b [v] rfl), fun S len hbody => C8.fn0 F.fn S len (hbody f)⟩

theorem with_def {K : PySem.W.Frag} {h : Heap} {mg : Str → Option Value} (_ : K.In h) (x : Str) (st : Stmt) (ps : List Str) {R : Prop} (d : DefF K mg x st ps) (r : DefF K mg x st ps → R) : R := r d
/-! ### heaps -/
/-- all that was tracked is as it was, but for g -/
def SameX (g : Addr) (H H' : Hp) : Prop := ∀ b o, b ≠ g → H b = some o → H' b = some o
theorem SameX.refl (g : Addr) (H : Hp) : SameX g H H := fun _ _ _ h => h
theorem SameX.trans {g : Addr} {H H1 H2 : Hp} (a : SameX g H H1) (b : SameX g H1 H2) : SameX g H H2 := fun c o n h => b c o n (a c o n h)
theorem SameX.of {g : Addr} {H H1 : Hp} (a : Same H H1) : SameX g H H1 := fun c o _ h => a c o h
theorem sameX_upd {g : Addr} {H : Hp} {o : HO} : SameX g H (upd H g o) := fun b z n e => by
  rw [upd_ne n]
  exact e
theorem same_upd2 {H H1 : Hp} {D : Addr} {o : HO} (hD : H D = none) (s : Same H H1) : Same H (upd H1 D o) := fun b z e => by
  rw [upd_ne (ne_of_none e hD)]
  exact s b z e

/-! ### what a value is -/
/-- the built-in type of a value that is known -/
def tnm (H : Hp) : V → String
  | .non => "NoneType"
  | .bl _ => "bool"
  | .int _ => "int"
  | .str _ => "str"
  | .ref a => match H a with
    | some (.lst _) => "list"
    | some (.tup _) => "tuple"
    | _ => "?"
  | _ => "?"
theorem tnm_tup {H : Hp} {a : Addr} {xs : List V} (h : H a = some (.tup xs)) : tnm H (.ref a) = "tuple" := by
  simp only [tnm, h]
theorem tnm_lst {H : Hp} {a : Addr} {xs : List V} (h : H a = some (.lst xs)) : tnm H (.ref a) = "list" := by
  simp only [tnm, h]
/-- a value whose type is known -/
inductive Kn (H : Hp) : V → Prop
  | non : Kn H .non
  | bl (b : Bool) : Kn H (.bl b)
  | int (i : Int) : Kn H (.int i)
  | str (x : Str) : Kn H (.str x)
  | lst {a : Addr} {xs : List V} (e : H a = some (.lst xs)) : Kn H (.ref a)
  | tup {a : Addr} {xs : List V} (e : H a = some (.tup xs)) : Kn H (.ref a)
theorem Kn.same {H H' : Hp} {v : V} (k : Kn H v) (s : Same H H') : Kn H' v := by
  cases k with
  | non => exact .non
  | bl b => exact .bl b
  | int i => exact .int i
  | str x => exact .str x
  | lst e => exact .lst (s _ _ e)
  | tup e => exact .tup (s _ _ e)
theorem Kn.ty {K : PySem.W.Frag} {H : Hp} {v : V} (k : Kn H v) : TyX K H v (.type (tnm H v)) := by
  cases k with
  | non => exact .base .non
  | bl b => exact .base (.bl b)
  | int i => exact .base (.int i)
  | str x => exact .base (.str x)
  | lst e => rw [tnm_lst e]; exact .base (.lst e)
  | tup e => rw [tnm_tup e]; exact .base (.tup e)
section
variable {X : Cx}
/-- isinstance(v, T), a known value, a built-in type -/
theorem call_isK : CallR X (.builtin "isinstance") (fun xs H Q => ∃ (v : V) (T : String) (b : Bool), xs = [v, .ty T] ∧ Kn H v ∧ kitB (tnm H v) T = some b ∧ Q (.bl b) H) := by
  intro pins s σ H xs us Q I r h
  obtain ⟨v, T, b, rfl, k, e, q⟩ := h
  exact call_isi pins s σ H _ us Q I r ⟨v, .ty T, _, _, b, rfl, .ty T, k.ty, kit_ty e, q⟩
end
/-- a whole number, no Boolean -/
def isW : V → Bool
  | .int _ => true
  | _ => false
/-- a count -/
def isC : V → Bool
  | .int i => decide (0 ≤ i)
  | _ => false
/-- isinstance(v, int) -/
def isI : V → Bool
  | .int _ => true
  | .bl _ => true
  | _ => false
def isBo : V → Bool
  | .bl _ => true
  | _ => false
def isTu (H : Hp) : V → Bool
  | .ref a => match H a with
    | some (.tup _) => true
    | _ => false
  | _ => false
def isLi (H : Hp) : V → Bool
  | .ref a => match H a with
    | some (.lst _) => true
    | _ => false
  | _ => false
theorem kit_int {H : Hp} {v : V} (k : Kn H v) : kitB (tnm H v) "int" = some (isI v) := by
  cases k with
  | non => show kitB "NoneType" "int" = some false; decide +kernel
  | bl b => show kitB "bool" "int" = some true; decide +kernel
  | int i => show kitB "int" "int" = some true; decide +kernel
  | str x => show kitB "str" "int" = some false; decide +kernel
  | lst e => rw [tnm_lst e]; show kitB "list" "int" = some false; decide +kernel
  | tup e => rw [tnm_tup e]; show kitB "tuple" "int" = some false; decide +kernel
theorem kit_bool {H : Hp} {v : V} (k : Kn H v) : kitB (tnm H v) "bool" = some (isBo v) := by
  cases k with
  | non => show kitB "NoneType" "bool" = some false; decide +kernel
  | bl b => show kitB "bool" "bool" = some true; decide +kernel
  | int i => show kitB "int" "bool" = some false; decide +kernel
  | str x => show kitB "str" "bool" = some false; decide +kernel
  | lst e => rw [tnm_lst e]; show kitB "list" "bool" = some false; decide +kernel
  | tup e => rw [tnm_tup e]; show kitB "tuple" "bool" = some false; decide +kernel
theorem kit_tuple {H : Hp} {v : V} (k : Kn H v) : kitB (tnm H v) "tuple" = some (isTu H v) := by
  cases k with
  | non => show kitB "NoneType" "tuple" = some false; decide +kernel
  | bl b => show kitB "bool" "tuple" = some false; decide +kernel
  | int i => show kitB "int" "tuple" = some false; decide +kernel
  | str x => show kitB "str" "tuple" = some false; decide +kernel
  | lst e => rw [tnm_lst e, show isTu H (.ref _) = false by simp only [isTu, e]]; decide +kernel
  | tup e => rw [tnm_tup e, show isTu H (.ref _) = true by simp only [isTu, e]]; decide +kernel
theorem kit_list {H : Hp} {v : V} (k : Kn H v) : kitB (tnm H v) "list" = some (isLi H v) := by
  cases k with
  | non => show kitB "NoneType" "list" = some false; decide +kernel
  | bl b => show kitB "bool" "list" = some false; decide +kernel
  | int i => show kitB "int" "list" = some false; decide +kernel
  | str x => show kitB "str" "list" = some false; decide +kernel
  | lst e => rw [tnm_lst e, show isLi H (.ref _) = true by simp only [isLi, e]]; decide +kernel
  | tup e => rw [tnm_tup e, show isLi H (.ref _) = false by simp only [isLi, e]]; decide +kernel
theorem isTu_tup {H : Hp} {a : Addr} {xs : List V} (e : H a = some (.tup xs)) : isTu H (.ref a) = true := by simp only [isTu, e]
theorem isLi_lst {H : Hp} {a : Addr} {xs : List V} (e : H a = some (.lst xs)) : isLi H (.ref a) = true := by simp only [isLi, e]

/-! ### comprehensions that map -/
/-- n turns, each giving f i and leaving all that was tracked -/
theorem lc_mapW {J : It} {n : Nat} {G : Hp → Prop} {Y : Nat → Hp → V → Hp → Prop} (w : Walk J n G Y) {g : TG} {te : TE} {vs : List Nat} {σ : L2.St} {H1 : Hp} {D : Addr} {Qd : Hp → Prop} (f : Nat → V) (hn : n < sizeLine)
    (hG : ∀ H, Same H1 H → G H)
    (hs : ∀ (i : Nat) (x : V) (H H' : Hp) (R : VK), i < n → Same H1 H → Y i H x H' → (∀ H'', Same H H'' → R (f i) H'') → g x (wipe σ vs) H' fun σ2 H2 => wipe σ2 vs = wipe σ vs ∧ te σ2 H2 R)
    (hD : H1 D = none) (hd : ∀ H : Hp, Same H1 H → H D = some (.lst ((List.range n).map f)) → Qd H) :
    ∃ W : Nat → Nat → Hp → Prop, (∃ m, W 0 m (upd H1 D (.lst []))) ∧ ∀ i m H, W i m H →
      (J.stop i H ∧ Qd H) ∨ (J.go i H ∧ ∃ Nx : Hp → Prop, (∀ H', Nx H' → ∃ m', m' < m ∧ W (i + 1) m' H') ∧ ∀ x H', J.yld i H x H' → g x (wipe σ vs) H' fun σ2 H2 => wipe σ2 vs = wipe σ vs ∧ tYes σ2 H2 fun b H3 =>
        if b = true then te σ2 H3 fun y H4 => ∃ acc, H4 D = some (.lst acc) ∧ acc.length < sizeLine ∧ Nx (upd H4 D (.lst (acc ++ [y]))) else Nx H3) := by
  refine lc_it w (fun i H => Same H1 H ∧ H D = some (.lst ((List.range i).map f)) ∧ i ≤ n) ⟨sameNew hD, upd_same, Nat.zero_le _⟩ (fun i H _ p => hG H p.1) (fun i x H H' hi p y => ?_) fun H p => hd H p.1 p.2.1
  have q := hs i x H H' (fun y H4 => ∃ acc, H4 D = some (.lst acc) ∧ acc.length < sizeLine ∧ (Same H1 (upd H4 D (.lst (acc ++ [y]))) ∧ upd H4 D (.lst (acc ++ [y])) D = some (.lst ((List.range (i + 1)).map f)) ∧ i + 1 ≤ n)) hi p.1 y fun H'' s => by
    refine ⟨_, s D _ p.2.1, ?_, same_upd2 hD (p.1.trans s), ?_, hi⟩
    · rw [List.length_map, List.length_range]
      omega
    · rw [upd_same, List.range_succ, List.map_append]
      rfl
  exact q
theorem range_map_get {α β : Type} (xs : List α) (f : α → β) (d : Nat → β) (h : ∀ (i : Nat) (x : α), xs[i]? = some x → d i = f x) : (List.range xs.length).map d = xs.map f := by
  refine List.ext_getElem? fun i => ?_
  by_cases hi : i < xs.length
  · rw [List.getElem?_map, List.getElem?_map, List.getElem?_range hi, List.getElem?_eq_getElem hi]
    exact congrArg some (h i _ (List.getElem?_eq_getElem hi))
  · rw [List.getElem?_eq_none (by simp; omega), List.getElem?_eq_none (by simp; omega)]
/-- over a tuple -/
theorem lcT_map {K : PySem.W.Frag} {a : Addr} {xs : List V} {j : Nat} {te : TE} {vs : List Nat} {σ : L2.St} {H1 : Hp} {D : Addr} {Qd : Hp → Prop} (f : V → V) (ha : H1 a = some (.tup xs)) (hn : xs.length < sizeLine)
    (hs : ∀ (i : Nat) (x : V) (H : Hp) (R : VK), xs[i]? = some x → Same H1 H → (∀ H', Same H H' → R (f x) H') → wipe ((wipe σ vs).set j (some x)) vs = wipe σ vs ∧ te ((wipe σ vs).set j (some x)) H R)
    (hD : H1 D = none) (hd : ∀ H : Hp, Same H1 H → H D = some (.lst (xs.map f)) → Qd H) :
    ∃ W : Nat → Nat → Hp → Prop, (∃ m, W 0 m (upd H1 D (.lst []))) ∧ ∀ i m H, W i m H →
      ((Itt K a).stop i H ∧ Qd H) ∨ ((Itt K a).go i H ∧ ∃ Nx : Hp → Prop, (∀ H', Nx H' → ∃ m', m' < m ∧ W (i + 1) m' H') ∧ ∀ x H', (Itt K a).yld i H x H' → gName j x (wipe σ vs) H' fun σ2 H2 => wipe σ2 vs = wipe σ vs ∧ tYes σ2 H2 fun b H3 =>
        if b = true then te σ2 H3 fun y H4 => ∃ acc, H4 D = some (.lst acc) ∧ acc.length < sizeLine ∧ Nx (upd H4 D (.lst (acc ++ [y]))) else Nx H3) := by
  have e : (List.range xs.length).map (fun i => f (xs.getD i .non)) = xs.map f := range_map_get xs f _ fun i x h => by rw [List.getD_eq_getElem?_getD, h]; rfl
  refine lc_mapW (walk_tup (K := K) (a := a) (xs := xs)) (fun i => f (xs.getD i .non)) hn (fun H s => .inl (.inl (s _ _ ha))) (fun i x H H' R hi s y q => ?_) hD fun H s q => hd H s (by rw [q, e])
  obtain ⟨rfl, hx⟩ := y
  refine hs i x H' R hx s fun H'' s' => ?_
  have := q H'' s'
  rw [show xs.getD i .non = x by rw [List.getD_eq_getElem?_getD, hx]; rfl] at this
  exact this
/-- over a list -/
theorem lcL_map {K : PySem.W.Frag} {a : Addr} {xs : List V} {j : Nat} {te : TE} {vs : List Nat} {σ : L2.St} {H1 : Hp} {D : Addr} {Qd : Hp → Prop} (f : V → V) (ha : H1 a = some (.lst xs)) (hn : xs.length < sizeLine)
    (hs : ∀ (i : Nat) (x : V) (H : Hp) (R : VK), xs[i]? = some x → Same H1 H → (∀ H', Same H H' → R (f x) H') → wipe ((wipe σ vs).set j (some x)) vs = wipe σ vs ∧ te ((wipe σ vs).set j (some x)) H R)
    (hD : H1 D = none) (hd : ∀ H : Hp, Same H1 H → H D = some (.lst (xs.map f)) → Qd H) :
    ∃ W : Nat → Nat → Hp → Prop, (∃ m, W 0 m (upd H1 D (.lst []))) ∧ ∀ i m H, W i m H →
      ((Itl K a).stop i H ∧ Qd H) ∨ ((Itl K a).go i H ∧ ∃ Nx : Hp → Prop, (∀ H', Nx H' → ∃ m', m' < m ∧ W (i + 1) m' H') ∧ ∀ x H', (Itl K a).yld i H x H' → gName j x (wipe σ vs) H' fun σ2 H2 => wipe σ2 vs = wipe σ vs ∧ tYes σ2 H2 fun b H3 =>
        if b = true then te σ2 H3 fun y H4 => ∃ acc, H4 D = some (.lst acc) ∧ acc.length < sizeLine ∧ Nx (upd H4 D (.lst (acc ++ [y]))) else Nx H3) := by
  have e : (List.range xs.length).map (fun i => f (xs.getD i .non)) = xs.map f := range_map_get xs f _ fun i x h => by rw [List.getD_eq_getElem?_getD, h]; rfl
  refine lc_mapW (walk_list (K := K) (a := a) (xs := xs)) (fun i => f (xs.getD i .non)) hn (fun H s => .inl (.inl (s _ _ ha))) (fun i x H H' R hi s y q => ?_) hD fun H s q => hd H s (by rw [q, e])
  obtain ⟨rfl, hx⟩ := y
  refine hs i x H' R hx s fun H'' s' => ?_
  have := q H'' s'
  rw [show xs.getD i .non = x by rw [List.getD_eq_getElem?_getD, hx]; rfl] at this
  exact this
/-- over a range -/
theorem lcR_map {lo : Int} {n : Nat} {j : Nat} {te : TE} {vs : List Nat} {σ : L2.St} {H1 : Hp} {D : Addr} {Qd : Hp → Prop} (f : Nat → V) (hn : n < sizeLine)
    (hs : ∀ (i : Nat) (H : Hp) (R : VK), i < n → Same H1 H → (∀ H', Same H H' → R (f i) H') → wipe ((wipe σ vs).set j (some (.int (lo + i)))) vs = wipe σ vs ∧ te ((wipe σ vs).set j (some (.int (lo + i)))) H R)
    (hD : H1 D = none) (hd : ∀ H : Hp, Same H1 H → H D = some (.lst ((List.range n).map f)) → Qd H) :
    ∃ W : Nat → Nat → Hp → Prop, (∃ m, W 0 m (upd H1 D (.lst []))) ∧ ∀ i m H, W i m H →
      ((Itr lo n).stop i H ∧ Qd H) ∨ ((Itr lo n).go i H ∧ ∃ Nx : Hp → Prop, (∀ H', Nx H' → ∃ m', m' < m ∧ W (i + 1) m' H') ∧ ∀ x H', (Itr lo n).yld i H x H' → gName j x (wipe σ vs) H' fun σ2 H2 => wipe σ2 vs = wipe σ vs ∧ tYes σ2 H2 fun b H3 =>
        if b = true then te σ2 H3 fun y H4 => ∃ acc, H4 D = some (.lst acc) ∧ acc.length < sizeLine ∧ Nx (upd H4 D (.lst (acc ++ [y]))) else Nx H3) := by
  refine lc_mapW (walk_range (lo := lo) (n := n)) f hn (fun H s => True.intro) (fun i x H H' R hi s y q => ?_) hD fun H s q => hd H s q
  obtain ⟨rfl, rfl⟩ := y
  exact hs i H' R hi s q
theorem range_map_zip {α β γ : Type} (xs : List α) (ys : List β) (hl : xs.length = ys.length) (f : α → β → γ) (d : Nat → γ) (h : ∀ (i : Nat) (x : α) (y : β), xs[i]? = some x → ys[i]? = some y → d i = f x y) : (List.range xs.length).map d = List.zipWith f xs ys := by
  refine List.ext_getElem? fun i => ?_
  by_cases hi : i < xs.length
  · have hi2 : i < ys.length := by omega
    rw [List.getElem?_map, List.getElem?_range hi, List.getElem?_zipWith, List.getElem?_eq_getElem hi, List.getElem?_eq_getElem hi2]
    exact congrArg some (h i _ _ (List.getElem?_eq_getElem hi) (List.getElem?_eq_getElem hi2))
  · rw [List.getElem?_eq_none (by simp; omega), List.getElem?_eq_none (by simp; omega)]
/-- over zip -/
theorem lcZ_map {K : PySem.W.Frag} {k k' : Kd} {a b : Addr} {xs ys : List V} {i1 i2 : Nat} {te : TE} {vs : List Nat} {σ : L2.St} {H1 : Hp} {D : Addr} {Qd : Hp → Prop} (f : V → V → V) (hl : xs.length = ys.length) (hn : xs.length < sizeLine)
    (ha : ∀ H, Same H1 H → SqB K k H a xs ∧ SqB K k' H b ys)
    (hs : ∀ (i : Nat) (x y : V) (H : Hp) (R : VK), xs[i]? = some x → ys[i]? = some y → Same H1 H → (∀ H', Same H H' → R (f x y) H') → wipe (((wipe σ vs).set i1 (some x)).set i2 (some y)) vs = wipe σ vs ∧ te (((wipe σ vs).set i1 (some x)).set i2 (some y)) H R)
    (hD : H1 D = none) (hd : ∀ H : Hp, Same H1 H → H D = some (.lst (List.zipWith f xs ys)) → Qd H) :
    ∃ W : Nat → Nat → Hp → Prop, (∃ m, W 0 m (upd H1 D (.lst []))) ∧ ∀ i m H, W i m H →
      ((ItB K k k' a b).stop i H ∧ Qd H) ∨ ((ItB K k k' a b).go i H ∧ ∃ Nx : Hp → Prop, (∀ H', Nx H' → ∃ m', m' < m ∧ W (i + 1) m' H') ∧ ∀ x H', (ItB K k k' a b).yld i H x H' → gTup K 2 (gCons (gName i1) (gCons (gName i2) gNil)) x (wipe σ vs) H' fun σ2 H2 => wipe σ2 vs = wipe σ vs ∧ tYes σ2 H2 fun b H3 =>
        if b = true then te σ2 H3 fun y H4 => ∃ acc, H4 D = some (.lst acc) ∧ acc.length < sizeLine ∧ Nx (upd H4 D (.lst (acc ++ [y]))) else Nx H3) := by
  have e : (List.range xs.length).map (fun i => f (xs.getD i .non) (ys.getD i .non)) = List.zipWith f xs ys := range_map_zip xs ys hl f _ fun i x y h h' => by
    rw [List.getD_eq_getElem?_getD, List.getD_eq_getElem?_getD, h, h']
    rfl
  refine lc_mapW (walkB (K := K) (k := k) (k' := k') (a := a) (b := b) hl) (fun i => f (xs.getD i .non) (ys.getD i .non)) hn ha (fun i v H H' R hi s y q => ?_) hD fun H s q => hd H s (by rw [q, e])
  obtain ⟨T, x, y, rfl, hT, rfl, hx, hy⟩ := y
  have hx : xs[i]? = some x := hx
  have hy : ys[i]? = some y := hy
  have st : Same H (upd H T (.tup [x, y])) := sameNew hT
  refine ⟨T, [x, y], rfl, .inl (.inl upd_same), rfl, x, [y], rfl, y, [], rfl, rfl, hs i x y _ R hx hy (s.trans st) fun H'' s' => ?_⟩
  have := q H'' (st.trans s')
  rw [show xs.getD i .non = x by rw [List.getD_eq_getElem?_getD, hx]; rfl, show ys.getD i .non = y by rw [List.getD_eq_getElem?_getD, hy]; rfl] at this
  exact this
end CK

set_option Elab.async false
set_option linter.all false
set_option maxRecDepth 100000
set_option maxHeartbeats 2000000
namespace CK
open PySem PySem.Spec PyProof.Rows L2
theorem cutV_drop (xs : List V) (k : Nat) : cutV xs (some (k : Int)) none = xs.drop k := by
  unfold cutV
  rw [HT.sIx_nat xs.length 0 k, HT.sIx_none]
  by_cases h : k ≤ xs.length
  · rw [Nat.min_eq_left h, List.take_of_length_le (by rw [List.length_drop]; exact Nat.le_refl _)]
  · rw [Nat.min_eq_right (by omega), List.drop_of_length_le (Nat.le_refl _), List.drop_of_length_le (by omega), List.take_nil]
theorem cutV_take (xs : List V) (k : Nat) : cutV xs none (some (k : Int)) = xs.take k := by
  unfold cutV
  rw [HT.sIx_nat xs.length xs.length k, HT.sIx_none]
  show (xs.drop 0).take (min k xs.length - 0) = xs.take k
  rw [List.drop_zero, Nat.sub_zero]
  by_cases h : k ≤ xs.length
  · rw [Nat.min_eq_left h]
  · rw [Nat.min_eq_right (by omega), List.take_of_length_le (Nat.le_refl _), List.take_of_length_le (by omega)]
section
variable {X : Cx}
/-- a, b = a pair -/
theorem pg_two {K : PySem.W.Frag} {i j : Nat} {x y : Str} {px py pos : Pos} {k : Nat} (hK : X.K = K) (hc : X.calm = true) (hN : X.N.Nodup) (hi : X.N[i]? = some x) (hj : X.N[j]? = some y) (hx : Loc X.env.scope x) (hy : Loc X.env.scope y)
    (f1 : X.fn x = true ∨ X.env.scope.names.lookup x = some .local := by first | exact .inl rfl | exact .inr rfl)
    (f2 : X.fn y = true ∨ X.env.scope.names.lookup y = some .local := by first | exact .inl rfl | exact .inr rfl) :
    PG X (.Tuple [.Name x px, .Name y py] k pos) (gTup K 2 (gCons (gName i) (gCons (gName j) gNil))) := by
  subst hK
  exact pg_tup hc (pgs_cons (pg_name hN hi hx f1) (pgs_cons (pg_name hN hj hy f2) pgs_nil))
/-- t[k:], a tuple: what is behind, wherever it stands -/
theorem sl_drop : SlR X (fun x lo hi H Q => ∃ (a : Addr) (xs : List V) (k : Nat), x = .ref a ∧ lo = some (k : Int) ∧ hi = none ∧ H a = some (.tup xs) ∧ ∀ p H', Same H H' → H' p = some (.tup (xs.drop k)) → Q (.ref p) H') := by
  intro pins s σ H x v vl vu lo hi sl Q I rx hs pl pu h
  obtain ⟨a, xs, k, rfl, rfl, rfl, ha, q⟩ := h
  refine sl_tupA pins s σ H _ v vl vu _ _ sl Q I rx hs pl pu ⟨a, xs, rfl, .inl (.inl ha), fun z => q a H (Same.refl H) ?_, fun _ p hp => q p _ (sameNew hp) (by rw [upd_same, cutV_drop])⟩
  rw [ha, ← cutV_drop xs k]
  unfold cutV
  rw [z.1, z.2, Nat.sub_zero, List.drop_zero, List.take_length]
/-- t[:k] -/
theorem sl_take : SlR X (fun x lo hi H Q => ∃ (a : Addr) (xs : List V) (k : Nat), x = .ref a ∧ lo = none ∧ hi = some (k : Int) ∧ H a = some (.tup xs) ∧ ∀ p H', Same H H' → H' p = some (.tup (xs.take k)) → Q (.ref p) H') := by
  intro pins s σ H x v vl vu lo hi sl Q I rx hs pl pu h
  obtain ⟨a, xs, k, rfl, rfl, rfl, ha, q⟩ := h
  refine sl_tupA pins s σ H _ v vl vu _ _ sl Q I rx hs pl pu ⟨a, xs, rfl, .inl (.inl ha), fun z => q a H (Same.refl H) ?_, fun _ p hp => q p _ (sameNew hp) (by rw [upd_same, cutV_take])⟩
  rw [ha, ← cutV_take xs k]
  unfold cutV
  rw [z.1, z.2, Nat.sub_zero, List.drop_zero, List.take_length]
/-- t + u, tuples -/
theorem op_catS : OpR X (binaryOp .Add) (fun x y H Q => ∃ (a b : Addr) (xs ys : List V), x = .ref a ∧ y = .ref b ∧ H a = some (.tup xs) ∧ H b = some (.tup ys) ∧ xs.length + ys.length ≤ 1000 ∧
    ∀ p H', Same H H' → H' p = some (.tup (xs ++ ys)) → Q (.ref p) H') := by
  intro pins s σ H x y v u Q I rx ry h
  obtain ⟨a, b, xs, ys, rfl, rfl, ha, hb, hl, q⟩ := h
  refine op_catA pins s σ H _ _ v u Q I rx ry ⟨a, b, xs, ys, rfl, rfl, .inl (.inl ha), .inl (.inl hb), Nat.le_of_lt (small1000 hl), fun e => ?_, fun _ e => ?_, fun _ _ p hp => q p _ (sameNew hp) upd_same⟩
  · subst e
    exact q b H (Same.refl H) hb
  · subst e
    exact q a H (Same.refl H) (by rw [List.append_nil]; exact ha)
/-- t[i], xs[i] of what is tracked (no word of the written part, so that it stands in a comprehension) -/
theorem ix_tupH : IxR X (fun x y H Q => ∃ (p : Addr) (xs : List V) (i : Int) (v : V), x = .ref p ∧ y = .int i ∧ H p = some (.tup xs) ∧ atI xs i = some v ∧ Q v H) := by
  intro ve se pins s σ H x y xv yv Q I rx ry h e
  obtain ⟨p, xs, i, v, e1, e2, hp, e3, q⟩ := h
  exact ix_tup ve se pins s σ H x y xv yv Q I rx ry ⟨p, xs, i, v, e1, e2, .inl (.inl hp), e3, q⟩ e
theorem ix_listH : IxR X (fun x y H Q => ∃ (p : Addr) (xs : List V) (i : Int) (v : V), x = .ref p ∧ y = .int i ∧ H p = some (.lst xs) ∧ atI xs i = some v ∧ Q v H) := by
  intro ve se pins s σ H x y xv yv Q I rx ry h e
  obtain ⟨p, xs, i, v, e1, e2, hp, e3, q⟩ := h
  exact ix_list ve se pins s σ H x y xv yv Q I rx ry ⟨p, xs, i, v, e1, e2, .inl (.inl hp), e3, q⟩ e
theorem cr_sumH (hc : X.calm = true) : CallR X (.builtin "sum") (fun vs H Q => ∃ (a : Addr) (ns : List Int), vs = [V.ref a] ∧ H a = some (.lst (ns.map V.int)) ∧ Q (.int ns.sum) H) := by
  intro pins s σ H xs us Q I r h
  obtain ⟨a, ns, e, ha, q⟩ := h
  exact cr_sum hc pins s σ H xs us Q I r ⟨a, ns, e, .inl (.inl ha), q⟩
theorem call_listL : CallR X (.type "list") (fun xs H Q => ∃ (p : Addr) (ys : List V), xs = [.ref p] ∧ H p = some (.lst ys) ∧ ∀ l, H l = none → Q (.ref l) (upd H l (.lst ys))) := by
  intro pins s σ H xs us Q I r h
  obtain ⟨p, ys, e, hp, q⟩ := h
  exact call_list_of pins s σ H xs us Q I r ⟨p, ys, e, .inl (.inl (.inl hp)), q⟩
/-- tuple(xs) of a list: a new tuple -/
theorem call_tupL : CallR X (.type "tuple") (fun xs H Q => ∃ (p : Addr) (ys : List V), xs = [.ref p] ∧ H p = some (.lst ys) ∧ ∀ l H', Same H H' → H' l = some (.tup ys) → Q (.ref l) H') := by
  intro pins s σ H xs us Q I r h
  obtain ⟨p, ys, rfl, hp, q⟩ := h
  exact call_tuple_of pins s σ H _ us Q I r ⟨p, ys, rfl, .inl ⟨.inl (.inl hp), fun l hl => q l _ (sameNew hl) upd_same⟩⟩
end
end CK

set_option Elab.async false
set_option linter.all false
set_option maxRecDepth 100000
set_option maxHeartbeats 2000000
/-! the laws' generator of numbers: a list of three whole numbers -/
namespace CK
open PySem PySem.Spec PyProof.Rows L2
/-- the generator at g, from which n more numbers may be drawn -/
def Gn (n : Nat) (H : Hp) (g : Addr) : Prop := ∃ a b c : Int, H g = some (.lst [.int a, .int b, .int c]) ∧ 0 ≤ a ∧ 0 ≤ b ∧ b < 2 ^ 31 ∧ 0 ≤ c ∧ c + 8 * n ≤ 2 ^ 40
theorem Gn.le {n m : Nat} {H : Hp} {g : Addr} (h : Gn n H g) (hm : m ≤ n) : Gn m H g := by
  obtain ⟨a, b, c, h1, h2, h3, h4, h5, h6⟩ := h
  exact ⟨a, b, c, h1, h2, h3, h4, h5, by omega⟩
theorem Gn.same {n : Nat} {H H' : Hp} {g : Addr} (h : Gn n H g) (s : Same H H') : Gn n H' g := by
  obtain ⟨a, b, c, h1, r⟩ := h
  exact ⟨a, b, c, s _ _ h1, r⟩
theorem Gn.at {n : Nat} {H : Hp} {g : Addr} (h : Gn n H g) : ∃ xs, H g = some (.lst xs) := by
  obtain ⟨a, b, c, h1, r⟩ := h
  exact ⟨_, h1⟩
theorem Gn.ne {n : Nat} {H : Hp} {g D : Addr} (h : Gn n H g) (hD : H D = none) : D ≠ g := fun e => by
  obtain ⟨xs, h1⟩ := h.at
  rw [e, h1] at hD
  cases hD
theorem Gn.upd {n : Nat} {H : Hp} {g D : Addr} {o : HO} (h : Gn n H g) (hD : D ≠ g) : Gn n (upd H D o) g := by
  obtain ⟨a, b, c, h1, r⟩ := h
  exact ⟨a, b, c, by rw [upd_ne (Ne.symm hD)]; exact h1, r⟩
theorem sameX_new {g : Addr} {H : Hp} {D : Addr} {o : HO} (hD : H D = none) : SameX g H (L2.upd H D o) := .of (sameNew hD)
theorem SameX.upd2 {g D : Addr} {H H1 : Hp} {o : HO} (s : SameX g H H1) (hD : H D = none) : SameX g H (L2.upd H1 D o) := fun b z n e => by
  rw [upd_ne (ne_of_none e hD)]
  exact s b z n e
theorem SameX.tup {g a : Addr} {H H' : Hp} {xs : List V} {n : Nat} (s : SameX g H H') (G : Gn n H g) (h : H a = some (.tup xs)) : H' a = some (.tup xs) := s a _ (fun e => by
  obtain ⟨ys, h1⟩ := G.at
  rw [e, h1] at h
  cases h) h
theorem ix_at {n j : Nat} (h : j < n) : ixN n (j : Int) = some j := by
  unfold ixN
  rw [if_pos (by omega), if_pos (by omega)]
  rfl
/-- a comprehension that draws: its numbers stay within most -/
theorem lcD_draw {lo : Int} {g : Addr} {n cnt j : Nat} {most : Int} {te : TE} {vs : List Nat} {σ : L2.St} {H1 : Hp} {D : Addr} {Qd : Hp → Prop} (hc : cnt < sizeLine) (hD : H1 D = none) (hg : Gn (n + cnt) H1 g)
    (hs : ∀ (i : Nat) (H : Hp) (R : VK), i < cnt → SameX g H1 H → Gn (n + (cnt - (i + 1)) + 1) H g → (∀ (r : Int) H', SameX g H H' → Gn (n + (cnt - (i + 1))) H' g → 0 ≤ r → r ≤ most → R (.int r) H') →
      wipe ((wipe σ vs).set j (some (.int (lo + i)))) vs = wipe σ vs ∧ te ((wipe σ vs).set j (some (.int (lo + i)))) H R)
    (hd : ∀ (H : Hp) (ns : List Int), SameX g H1 H → Gn n H g → H D = some (.lst (ns.map V.int)) → ns.length = cnt → (∀ x ∈ ns, 0 ≤ x ∧ x ≤ most) → Qd H) :
    ∃ W : Nat → Nat → Hp → Prop, (∃ m, W 0 m (L2.upd H1 D (.lst []))) ∧ ∀ i m H, W i m H →
      ((Itr lo cnt).stop i H ∧ Qd H) ∨ ((Itr lo cnt).go i H ∧ ∃ Nx : Hp → Prop, (∀ H', Nx H' → ∃ m', m' < m ∧ W (i + 1) m' H') ∧ ∀ x H', (Itr lo cnt).yld i H x H' → gName j x (wipe σ vs) H' fun σ2 H2 => wipe σ2 vs = wipe σ vs ∧ tYes σ2 H2 fun b H3 =>
        if b = true then te σ2 H3 fun y H4 => ∃ acc, H4 D = some (.lst acc) ∧ acc.length < sizeLine ∧ Nx (L2.upd H4 D (.lst (acc ++ [y]))) else Nx H3) := by
  have hDg := hg.ne hD
  refine lc_range (fun i H => SameX g H1 H ∧ Gn (n + (cnt - i)) H g ∧ i ≤ cnt ∧ ∃ ns : List Int, H D = some (.lst (ns.map V.int)) ∧ ns.length = i ∧ ∀ x ∈ ns, 0 ≤ x ∧ x ≤ most)
    ⟨sameX_new hD, hg.upd hDg, Nat.zero_le _, [], upd_same, rfl, fun x h => absurd h List.not_mem_nil⟩ (fun i H hi p => ?_) fun H p => ?_
  · obtain ⟨s, G, _, ns, hL, hl, hb⟩ := p
    have G1 : Gn (n + (cnt - (i + 1)) + 1) H g := by
      have e : n + (cnt - (i + 1)) + 1 = n + (cnt - i) := by omega
      rw [e]
      exact G
    refine hs i H _ hi s G1 fun r H' s' G' h0 h1 => ⟨_, s' D _ hDg hL, by rw [List.length_map]; omega, (s.trans s').upd2 hD, G'.upd hDg, hi, ns ++ [r], ?_, ?_, fun x hx => ?_⟩
    · rw [upd_same, List.map_append]
      rfl
    · rw [List.length_append, hl]
      rfl
    · rcases List.mem_append.mp hx with z | z
      · exact hb x z
      · rw [List.mem_singleton.mp z]
        exact ⟨h0, h1⟩
  · obtain ⟨s, G, _, ns, hL, hl, hb⟩ := p
    rw [Nat.sub_self] at G
    exact hd H ns s G hL hl hb
end CK

set_option Elab.async false
set_option linter.all false
set_option maxRecDepth 100000
set_option maxHeartbeats 2000000
namespace CK
open PySem PySem.Spec PyProof.Rows L2
/-! ### data that are compared -/
def dI (ns : List Int) : PyData := .tuple (ns.map PyData.int)
theorem lay_ints : ∀ ns : List Int, PyData.canLayAll0 (ns.map PyData.int) = true
  | [] => by simp [PyData.canLayAll0]
  | n :: ns => by
    rw [List.map_cons, PyData.canLayAll0, lay_ints ns]
    simp [PyData.canLay0]
theorem deep_ints : ∀ ns : List Int, PyData.depthAll (ns.map PyData.int) = 0
  | [] => by simp [PyData.depthAll]
  | n :: ns => by
    rw [List.map_cons, PyData.depthAll, deep_ints ns]
    simp [PyData.depth]
theorem lay_dI (ns : List Int) : (dI ns).canLay0 = true := by
  unfold dI
  rw [PyData.canLay0]
  exact lay_ints ns
theorem deep_dI (ns : List Int) : (dI ns).depth = 1 := by
  unfold dI
  rw [PyData.depth, deep_ints]
theorem shaped_dI (ns : List Int) : SeqAt.shaped (dI ns) = true := by
  unfold SeqAt.shaped
  rw [lay_dI, deep_dI]
  rfl
theorem lay_forms : ∀ fs : List (List Int), PyData.canLayAll0 (fs.map dI) = true
  | [] => by simp [PyData.canLayAll0]
  | f :: fs => by
    rw [List.map_cons, PyData.canLayAll0, lay_forms fs, lay_dI]
    rfl
theorem deep_forms : ∀ fs : List (List Int), PyData.depthAll (fs.map dI) ≤ 1
  | [] => by simp [PyData.depthAll]
  | f :: fs => by
    have := deep_forms fs
    rw [List.map_cons, PyData.depthAll, deep_dI]
    omega
theorem shaped_forms (fs : List (List Int)) : SeqAt.shaped (.list (fs.map dI)) = true := by
  unfold SeqAt.shaped
  rw [PyData.canLay0, lay_forms, PyData.depth]
  have := deep_forms fs
  rw [decide_eq_true (by omega)]
  rfl
section
variable {K : PySem.W.Frag} {H : Hp}
theorem dpAll_ints : ∀ ns : List Int, DpAll K H (ns.map V.int) (ns.map PyData.int)
  | [] => .nil
  | n :: ns => .cons (.int n) (dpAll_ints ns)
theorem dp_ints {a : Addr} {ns : List Int} (h : H a = some (.tup (ns.map V.int))) : Dp K H (.ref a) (dI ns) := .tup (.inl (.inl h)) (dpAll_ints ns)
end
section
variable {X : Cx}
/-- x != y, of equal data -/
theorem op_neSame (hu : X.A.units + 64 < cLine) : OpR X (compareOp .NotEq) (fun x y H Q => ∃ d, Dp X.K H x d ∧ Dp X.K H y d ∧ SeqAt.shaped d = true ∧ Q (.bl false) H) := by
  intro pins s σ H x y v u Q I rx ry h
  obtain ⟨d, h1, h2, h3, q⟩ := h
  refine op_neD hu pins s σ H x y v u Q I rx ry ⟨d, d, h1, h2, h3, h3, ?_⟩
  rw [SeqAt.eqv_refl d (SeqAt.canLay_of_shaped h3)]
  exact q
end
/-! ### comprehensions that map, by the turn's number -/
theorem lcZ_mapI {K : PySem.W.Frag} {k k' : Kd} {a b : Addr} {xs ys : List V} {i1 i2 : Nat} {te : TE} {vs : List Nat} {σ : L2.St} {H1 : Hp} {D : Addr} {Qd : Hp → Prop} (f : Nat → V) (hl : xs.length = ys.length) (hn : xs.length < sizeLine)
    (ha : ∀ H, Same H1 H → SqB K k H a xs ∧ SqB K k' H b ys)
    (hs : ∀ (i : Nat) (x y : V) (H : Hp) (R : VK), xs[i]? = some x → ys[i]? = some y → Same H1 H → (∀ H', Same H H' → R (f i) H') → wipe (((wipe σ vs).set i1 (some x)).set i2 (some y)) vs = wipe σ vs ∧ te (((wipe σ vs).set i1 (some x)).set i2 (some y)) H R)
    (hD : H1 D = none) (hd : ∀ H : Hp, Same H1 H → H D = some (.lst ((List.range xs.length).map f)) → Qd H) :
    ∃ W : Nat → Nat → Hp → Prop, (∃ m, W 0 m (upd H1 D (.lst []))) ∧ ∀ i m H, W i m H →
      ((ItB K k k' a b).stop i H ∧ Qd H) ∨ ((ItB K k k' a b).go i H ∧ ∃ Nx : Hp → Prop, (∀ H', Nx H' → ∃ m', m' < m ∧ W (i + 1) m' H') ∧ ∀ x H', (ItB K k k' a b).yld i H x H' → gTup K 2 (gCons (gName i1) (gCons (gName i2) gNil)) x (wipe σ vs) H' fun σ2 H2 => wipe σ2 vs = wipe σ vs ∧ tYes σ2 H2 fun b H3 =>
        if b = true then te σ2 H3 fun y H4 => ∃ acc, H4 D = some (.lst acc) ∧ acc.length < sizeLine ∧ Nx (upd H4 D (.lst (acc ++ [y]))) else Nx H3) := by
  refine lc_mapW (walkB (K := K) (k := k) (k' := k') (a := a) (b := b) hl) f hn ha (fun i v H H' R hi s y q => ?_) hD hd
  obtain ⟨T, x, y, rfl, hT, rfl, hx, hy⟩ := y
  have hx : xs[i]? = some x := hx
  have hy : ys[i]? = some y := hy
  have st : Same H (upd H T (.tup [x, y])) := sameNew hT
  exact ⟨T, [x, y], rfl, .inl (.inl upd_same), rfl, x, [y], rfl, y, [], rfl, rfl, hs i x y _ R hx hy (s.trans st) fun H'' s' => q H'' (st.trans s')⟩
theorem lcL_mapI {K : PySem.W.Frag} {a : Addr} {xs : List V} {j : Nat} {te : TE} {vs : List Nat} {σ : L2.St} {H1 : Hp} {D : Addr} {Qd : Hp → Prop} (f : Nat → V) (ha : H1 a = some (.lst xs)) (hn : xs.length < sizeLine)
    (hs : ∀ (i : Nat) (x : V) (H : Hp) (R : VK), xs[i]? = some x → Same H1 H → (∀ H', Same H H' → R (f i) H') → wipe ((wipe σ vs).set j (some x)) vs = wipe σ vs ∧ te ((wipe σ vs).set j (some x)) H R)
    (hD : H1 D = none) (hd : ∀ H : Hp, Same H1 H → H D = some (.lst ((List.range xs.length).map f)) → Qd H) :
    ∃ W : Nat → Nat → Hp → Prop, (∃ m, W 0 m (upd H1 D (.lst []))) ∧ ∀ i m H, W i m H →
      ((Itl K a).stop i H ∧ Qd H) ∨ ((Itl K a).go i H ∧ ∃ Nx : Hp → Prop, (∀ H', Nx H' → ∃ m', m' < m ∧ W (i + 1) m' H') ∧ ∀ x H', (Itl K a).yld i H x H' → gName j x (wipe σ vs) H' fun σ2 H2 => wipe σ2 vs = wipe σ vs ∧ tYes σ2 H2 fun b H3 =>
        if b = true then te σ2 H3 fun y H4 => ∃ acc, H4 D = some (.lst acc) ∧ acc.length < sizeLine ∧ Nx (upd H4 D (.lst (acc ++ [y]))) else Nx H3) := by
  refine lc_mapW (walk_list (K := K) (a := a) (xs := xs)) f hn (fun H s => .inl (.inl (s _ _ ha))) (fun i x H H' R hi s y q => ?_) hD hd
  obtain ⟨rfl, hx⟩ := y
  exact hs i x H' R hx s q
end CK

set_option Elab.async false
set_option linter.all false
set_option maxRecDepth 100000
set_option maxHeartbeats 2000000
/-! own classes: their facts, their methods' promises by their bodies -/
namespace CK
open PySem PySem.Spec PyProof.Rows L2
/-- a method's def as it stands behind the top -/
structure MetF (K : PySem.W.Frag) (C : Addr) (m q : Str) (st : Stmt) (ps : List Str) : Prop where
  ex : ∃ (f : Addr) (fd : FuncData), C8.Fun K m q st f fd ∧ Meth K C m f ∧ Binds K fd ps []
/-- a class as it stands -/
structure ClF (K : PySem.W.Frag) (mg : Str → Option Value) (x : Str) (C : Addr) : Prop where
  mgC : mg x = some (.ref C)
  makes : PySem.W.makesIn K C = true
  kp : PySem.W.keepIn K (.ref C) = true
  ins : C8.InsC K C
theorem metF_mk {K : PySem.W.Frag} {mg : Str → Option Value} {x : Str} {C : Addr} (_ : ClF K mg x C) (m q : Str) (st : Stmt) (ps : List Str) {f : Addr} {od an : Option Addr} {oc kV dc pm cd ct : Value} {sl : Array (Option Value)}
    (a : PySem.W.findIn K (.ref C) m = some (some (.ref f))) (i : PySem.W.isFn K (.ref f) = true)
    (l : K.lookup f = some ⟨oc, od, .func (PySem.W.fnOf m q (C8.fnArgs st) (C8.fnBody st) (C8.fnScope st) .none kV dc pm an cd ct), sl⟩)
    (c : PySem.W.codeIn K cd q = true) (k : PySem.W.keepIn K (.ref f) = true)
    (hb : ∀ (kV doc pm : Value) (an : Option Addr) (cdv ct : Value) (us : List Value), us.length = ps.length →
      bindArgs (PySem.W.fnOf m q (C8.fnArgs st) (C8.fnBody st) (C8.fnScope st) .none kV doc pm an cdv ct) ⟨us, []⟩ = pure (ps.zip us)) : MetF K C m q st ps :=
  ⟨f, _, ⟨oc, od, .none, kV, dc, pm, an, cd, ct, sl, rfl, l, c⟩, ⟨a, i, k⟩, C8.Fun.binds ⟨oc, od, .none, kV, dc, pm, an, cd, ct, sl, rfl, l, c⟩ rfl hb⟩
theorem clF_mk {K : PySem.W.Frag} {h : Heap} {mg : Str → Option Value} {x : Str} {C : Addr} (X : K.In h) (G : h.Ns mainGlobals mg)
    (a : PySem.W.nsIn K mainGlobals x = some (some (.ref C))) (pg : PySem.W.plainGet K C Str.empty = true) (hd : PySem.W.hasDictIn K C = true) (po : PySem.W.plainOver K C = true)
    (sa : PySem.W.findIn K (.ref C) "__setattr__" = some (some (.builtin "object.__setattr__"))) (mk : PySem.W.makesIn K C = true) (kp : PySem.W.keepIn K (.ref C) = true)
    (ha : PySem.W.findIn K (.ref C) "__class__" = some (some (.builtin "object.__class__"))) (hn : PySem.W.specialIn K (.builtin "object.__class__") "__get__" = some (some (.builtin "getset_descriptor.__get__")))
    (htk : PySem.W.takesIn K (.builtin "object.__class__") = some true) (hm : PySem.W.mroIn K C (.type "object") = some true) : ClF K mg x C :=
  ⟨PySem.W.mg_of X G a, mk, kp, ⟨⟨pg, hd, po, sa⟩, ha, hn, htk, hm, if_pos (beq_self_eq_true _)⟩⟩
theorem with_cls {K : PySem.W.Frag} {h : Heap} {mg : Str → Option Value} (_ : K.In h) (x : Str) {C : Addr} {R : Prop} (d : ClF K mg x C) (r : ClF K mg x C → R) : R := r d
theorem with_met {K : PySem.W.Frag} {mg : Str → Option Value} {x : Str} {C : Addr} (_ : ClF K mg x C) (m q : Str) (st : Stmt) (ps : List Str) {R : Prop} (d : MetF K C m q st ps) (r : MetF K C m q st ps → R) : R := r d
section
variable {P : Program} {w : World} {K : PySem.W.Frag} {mg : Str → Option Value} {base : Heap} {x : Str} {C : Addr}
theorem metF {m q : Str} {st : Stmt} {N ps : List Str} {k : Nat} {sp : Sp} (c : ClF K mg x C) (D : MetF K C m q st ps) (S : FnScope N ps (C8.fnScope st))
    (len : ∀ vs H Q E, sp vs H Q E → vs.length = ps.length)
    (hbody : ∀ (f : Addr) (cdv : Value) (A : Around) (outer : List Env) (s : Shared) (H : Hp) (vs : List V) (Q : VK) (E : XK), Room k (A.deeper (envOfC q (C8.fnScope st) s.heap.objs.size f cdv)) → sp vs H Q E →
      ∃ t, PSs (cxOf C8.CX0 P w K mg base N q (C8.fnScope st) f cdv A outer s H E).nox (C8.fnBody st) t ∧ t { nx := fun _ H' => Q .non H', rt := Q } (start N vs) H) : C8.Met P w K mg base (k + 1) C m sp [] := by
  obtain ⟨f, fd, F, me, b⟩ := D.ex
  exact C8.met0 c.ins.cl me F b S len (hbody f)
theorem makF {q : Str} {st : Stmt} {N ps : List Str} {k : Nat} {sp : Sp} (c : ClF K mg x C) (D : MetF K C "__init__" q st ps) (S : FnScope N ps (C8.fnScope st))
    (len : ∀ vs H Q E, sp vs H Q E → vs.length = ps.length)
    (hbody : ∀ (f : Addr) (cdv : Value) (A : Around) (outer : List Env) (s : Shared) (H : Hp) (vs : List V) (Q : VK) (E : XK), Room k (A.deeper (envOfC q (C8.fnScope st) s.heap.objs.size f cdv)) → sp vs H Q E →
      ∃ t, PSs (cxOf C8.CX0 P w K mg base N q (C8.fnScope st) f cdv A outer s H E).nox (C8.fnBody st) t ∧ t { nx := fun _ H' => Q .non H', rt := Q } (start N vs) H) : C8.Mak P w K mg base (k + 1) x C sp [] := by
  obtain ⟨f, fd, F, me, b⟩ := D.ex
  exact C8.mak0 ⟨c.makes, me.at_, me.fn, c.kp⟩ c.mgC F b .nil S len (hbody f)
end
end CK
namespace CK
open PySem L2
theorem noA {K : PySem.W.Frag} {mg : Str → Option Value} {x : Str} {C : Addr} (_ : ClF K mg x C) (f : Str) (h : PySem.W.findIn K (.ref C) f = some none) : NoAttr K C f := h
end CK

set_option Elab.async false
set_option linter.all false
set_option maxRecDepth 100000
set_option maxHeartbeats 2000000
/-! texts by their code points -/
namespace CK
open PySem PySem.Spec PyProof.Rows L2 SX
theorem rev_S (z : List Nat) : (⟨((Builtin.Str.strSliceIndices none none (-1) (S z).length).filterMap ((S z).cps[·]?)).toArray⟩ : Str) = S z.reverse := by
  refine TL.ext_tl ?_
  show ((Builtin.Str.strSliceIndices none none (-1) (S z).length).filterMap ((S z).cps[·]?)).toArray.toList = z.reverse
  rw [List.toList_toArray, S_len, picked_rev, filterMap_get, List.map_map]
  · refine List.ext_getElem (by simp) fun i h1 h2 => ?_
    have hi : i < z.length := by simpa using h1
    rw [List.getElem_map, List.getElem_range, List.getElem_reverse]
    show (S z).cps.getD (z.length - 1 - i) 0 = _
    have : z.length - 1 - i < z.length := by omega
    simp [Array.getD, S, this]
  · intro i hi
    obtain ⟨k, hk, rfl⟩ := List.mem_map.mp hi
    have := List.mem_range.mp hk
    show z.length - 1 - k < z.length
    omega
section
variable {X : Cx}
/-- s[::-1] -/
def tRevS (te : TE) : TE := fun σ H Q => te σ H fun x H1 => ∃ z : List Nat, x = .str (S z) ∧ z.length ≤ sizeLine ∧ Q (.str (S z.reverse)) H1
theorem pe_revS {e : Expr} {te : TE} {k : Nat} {p1 p2 p3 pos : Pos} (he : PE X e te) : PE X (.Subscript e (.Slice none none (some (.UnaryOp .USub (.Constant (.int 1) k p1) p2)) p3) pos) (tRevS te) := by
  refine ⟨fun pins s σ H Q I h => ?_⟩
  refine Subscript_ (thn (he.run pins s σ H _ I h) fun v s1 ⟨x, H1, I1, r1, q1⟩ => ?_)
  obtain ⟨z, ex, hz, q⟩ := q1
  subst ex
  obtain ⟨t, rfl⟩ := r1
  have hst : PO X (some (.UnaryOp .USub (.Constant (.int 1) k p1) p2)) (tPart (tUn (rU fun i => .int (-i)) (tC (.int 1)))) := po_some (pe_un un_neg pe_int)
  refine wpAny_Slice (thn (po_none.run pins s1 σ H1 (fun o H2 => o = none ∧ H2 = H1) I1 ⟨rfl, rfl⟩) fun vl s2 ⟨l, H2, I2, pl, el, e2⟩ => ?_)
  subst el e2
  refine thn (po_none.run pins s2 σ H2 (fun o H3 => o = none ∧ H3 = H2) I2 ⟨rfl, rfl⟩) fun vu s3 ⟨u, H3, I3, pu, eu, e3⟩ => ?_
  subst eu e3
  refine thn (hst.run pins s3 σ H3 (fun o H4 => o = some (-1) ∧ H4 = H3) I3 ⟨1, rfl, -1, rfl, rfl, rfl⟩) fun vs s4 ⟨o, H4, I4, ps, eo, e4⟩ => ?_
  subst eo e4
  have I5 : Inv X pins σ H4 { s4 with heap := s4.heap.push { cls := .type "slice", data := .fields #[vl, vu, vs] } } := I4.kept (t' := s4.toks) fun b ob q => Heap.get?_push_of_some _ q
  show wpAny (model X.prog X.w) X.A (subscriptTail e (.Slice none none (some (.UnaryOp .USub (.Constant (.int 1) k p1) p2)) p3) (.str (S z) t) (.ref s4.heap.objs.size)) (EP X pins σ Q) X.xe { s4 with heap := s4.heap.push { cls := .type "slice", data := .fields #[vl, vu, vs] } }
  refine tail_any (ops := [.str (S z) t, .ref s4.heap.objs.size]) (typeIs_str _ _ _) F.slot_str_getitem.lookup ?_ (by with_unfolding_all rfl)
  obtain ⟨l, rfl, el⟩ := IsPart.raw pl
  obtain ⟨u, rfl, eu⟩ := IsPart.raw pu
  obtain ⟨st, rfl, es⟩ := IsPart.raw ps
  refine wpAny_getItem_str_slice (l := l) (u := u) (st := st) ⟨_, Heap.get?_push_size _ rfl, rfl, rfl⟩ (by rw [es]; decide) ?_
  unfold sliceMade slicePicked
  rw [es, el, eu]
  have hr := rev_S z
  show Made.post (.str ⟨((Builtin.Str.strSliceIndices none none (-1) (S z).length).filterMap ((S z).cps[·]?)).toArray⟩) _ _
  rw [hr]
  exact ⟨by rw [S_len, List.length_reverse]; exact hz, .str _, H4, I5.tok _, ⟨_, rfl⟩, q⟩
/-- s * n -/
theorem foldl_arr {α : Type} : ∀ (n : Nat) (w : Array α) (acc : Array α), ((List.replicate n w).foldl (fun a b => a ++ b) acc).toList = acc.toList ++ (List.replicate n w.toList).flatten
  | 0, _, _ => by simp
  | n + 1, w, acc => by
    rw [List.replicate_succ, List.foldl_cons, foldl_arr n w (acc ++ w), List.replicate_succ, List.flatten_cons, Array.toList_append, List.append_assoc]
theorem op_repS : OpR X (binaryOp .Mult) (fun x y H Q => ∃ (z : List Nat) (n : Nat), x = .str (S z) ∧ y = .int n ∧ n ≤ 1000 ∧ z.length ≤ 1000 ∧ Q (.str (S (List.replicate n z).flatten)) H) := by
  intro pins s σ H x y v u Q I rx ry h
  obtain ⟨z, n, rfl, rfl, hn, hz, q⟩ := h
  obtain ⟨t, rfl⟩ := rx
  obtain ⟨t', rfl⟩ := ry
  have hl : (List.replicate n z).flatten.length = n * z.length := by simp
  have hm : n * z.length ≤ 1000 * 1000 := Nat.mul_le_mul hn hz
  refine P.mul_str (by simp; omega) (fun h1 h2 => ?_) (fun h1 h2 => ?_) ?_
  · rw [S_len]
    have hn0 : (0 : Int) < n := by omega
    have h3 : (1000 : Int) ≤ (2 ^ 63 - 1) / (n : Int) := by
      refine (Int.le_ediv_iff_mul_le hn0).mpr ?_
      have : (1000 : Int) * n ≤ 1000 * 1000 := Int.mul_le_mul_of_nonneg_left (by omega) (by decide)
      omega
    omega
  · rw [S_len, Int.toNat_natCast, Nat.mul_comm]
    have : n * z.length ≤ sizeLine := by rw [sizeLine_eq]; omega
    unfold Builtin.Str.tooLong
    simp
    omega
  · by_cases h1 : (n : Int) < 1
    · rw [if_pos h1]
      have e : n = 0 := by omega
      subst e
      exact ⟨by decide, .str _, H, I.tok _, ⟨_, rfl⟩, q⟩
    · rw [if_neg h1]
      by_cases h2 : ((n : Int) == 1 || (S z).length == 0) = true
      · rw [if_pos h2]
        have e : (List.replicate n z).flatten = z := by
          rw [Bool.or_eq_true, beq_iff_eq, beq_iff_eq, S_len] at h2
          rcases h2 with h2 | h2
          · have : n = 1 := by omega
            subst this
            simp
          · rw [List.length_eq_zero_iff.mp h2]
            simp
        rw [e] at q
        exact ⟨.str _, H, I, ⟨_, rfl⟩, q⟩
      · rw [if_neg h2]
        have e : (⟨(List.replicate (n : Int).toNat (S z).cps).foldl (· ++ ·) #[]⟩ : Str) = S (List.replicate n z).flatten := by
          refine TL.ext_tl ?_
          show ((List.replicate (n : Int).toNat (S z).cps).foldl (· ++ ·) #[]).toList = _
          rw [Int.toNat_natCast, foldl_arr]
          rfl
        rw [e]
        exact ⟨by rw [S_len, hl, sizeLine_eq]; omega, .str _, H, I.tok _, ⟨_, rfl⟩, q⟩
/-- a % b, a // b of natural numbers -/
theorem fmodN (k n : Nat) : Int.fmod (k : Int) (n : Int) = ((k % n : Nat) : Int) := by
  rw [Int.fmod_eq_emod_of_nonneg _ (by omega)]
  rfl
theorem op_modZ : OpR X (binaryOp .Mod) (fun x y H Q => ∃ (k n : Nat), x = .int k ∧ y = .int n ∧ n ≠ 0 ∧ Q (.int ((k % n : Nat) : Int)) H) := by
  intro pins s σ H x y v u Q I rx ry h
  obtain ⟨k, n, e1, e2, h0, q⟩ := h
  refine op_modN pins s σ H x y v u Q I rx ry ⟨_, _, e1, e2, by omega, ?_⟩
  rw [← fmodN] at q
  exact q
theorem op_fdivZ : OpR X (binaryOp .FloorDiv) (fun x y H Q => ∃ (k n : Nat), x = .int k ∧ y = .int n ∧ n ≠ 0 ∧ n < 2 ^ 29 ∧ Q (.int ((k / n : Nat) : Int)) H) := by
  intro pins s σ H x y v u Q I rx ry h
  obtain ⟨k, n, e1, e2, h0, h1, q⟩ := h
  refine op_fdivN pins s σ H x y v u Q I rx ry ⟨_, _, e1, e2, ⟨by omega, by omega⟩, ?_⟩
  have : Int.fdiv (k : Int) (n : Int) = ((k / n : Nat) : Int) := by
    rw [Int.fdiv_eq_ediv_of_nonneg _ (by omega)]
    rfl
  rw [← this] at q
  exact q
theorem op_mulZ : OpR X (binaryOp .Mult) (fun x y H Q => ∃ (k n : Nat), x = .int k ∧ y = .int n ∧ k < 2 ^ 1000 ∧ n < 2 ^ 1000 ∧ Q (.int ((k * n : Nat) : Int)) H) := by
  intro pins s σ H x y v u Q I rx ry h
  obtain ⟨k, n, e1, e2, h0, h1, q⟩ := h
  refine op_mulW pins s σ H x y v u Q I rx ry ⟨_, _, e1, e2, wide_mul (a := 1000) (b := 1000) h0 h1 (by decide) (by decide) (by decide), ?_⟩
  rw [Int.natCast_mul] at q
  exact q
/-- len of a list that is tracked (it may stand in a comprehension) -/
theorem call_lenH : CallR X (.builtin "len") (fun xs H Q => ∃ (p : Addr) (ys : List V), xs = [.ref p] ∧ H p = some (.lst ys) ∧ Q (.int (ys.length : Nat)) H) := by
  intro pins s σ H xs us Q I r h
  obtain ⟨p, ys, e, hp, q⟩ := h
  exact call_len_seq pins s σ H xs us Q I r ⟨p, ys, e, .inl (.inl (.inl hp)), q⟩
end
end CK

set_option Elab.async false
set_option linter.all false
set_option maxRecDepth 100000
set_option maxHeartbeats 2000000
/-! any of a tuple of numbers -/
namespace CK
open PySem PySem.Spec PyProof.Rows L2 SX
theorem plain_ints : ∀ ns : List Int, PyData.plainAll (ns.map PyData.int) = true
  | [] => by simp [PyData.plainAll]
  | n :: ns => by
    rw [List.map_cons, PyData.plainAll, plain_ints ns]
    simp [PyData.plain]
theorem any_ints (ns : List Nat) : ((ns.map fun n : Nat => ((n : Nat) : Int)).map PyData.int).any PyData.truthy = ns.any fun x => decide (x ≠ 0) := by
  induction ns with
  | nil => rfl
  | cons n ns ih =>
    rw [List.map_cons, List.map_cons, List.any_cons, List.any_cons, ih]
    congr 1
    show ((n : Int) != 0) = decide (n ≠ 0)
    by_cases h : n = 0
    · subst h
      rfl
    · rw [decide_eq_true h, bne_iff_ne]
      omega
section
variable {X : Cx}
theorem cr_anyN (hc : X.calm = true) : CallR X (.builtin "any") (fun vs H Q => ∃ (a : Addr) (ns : List Nat), vs = [V.ref a] ∧ H a = some (.tup (ns.map fun n : Nat => V.int (n : Nat))) ∧ Q (.bl (ns.any fun x => decide (x ≠ 0))) H) := by
  intro pins s σ H vs us Q I r h
  obtain ⟨a, ns, rfl, ha, q⟩ := h
  obtain ⟨its, rv, hT, _⟩ := I.tuple (.inl (.inl ha))
  rw [Vals.ref1 r]
  have e : (ns.map fun n : Nat => V.int (n : Nat)) = (ns.map fun n : Nat => ((n : Nat) : Int)).map V.int := by
    rw [List.map_map]
    rfl
  rw [e] at rv
  obtain ⟨as, hr⟩ := Dp.readsAll I _ _ its (dpAll_ints _) rv
  refine PySem.W.any_tuple_data (I.ok.hd hc) hT (by rw [List.toList_toArray]; exact hr) (plain_ints _) (fun x hx => ?_) fun h' tk hk => ?_
  · obtain ⟨i, _, rfl⟩ := List.mem_map.mp hx
    trivial
  · rw [any_ints]
    exact ⟨.bl _, H, I.kept (t' := tk) hk, rfl, q⟩
end
end CK
namespace CK
open PySem PySem.Spec PyProof.Rows L2 SX
section
variable {X : Cx}
/-- a whole number and a Boolean -/
theorem op_addB : OpR X (binaryOp .Add) (fun x y H Q => ∃ (i : Int) (b : Bool), x = .int i ∧ y = .bl b ∧ Q (.int (i + if b = true then (1 : Int) else 0)) H) := by
  intro pins s σ H x y v u Q I rx ry h
  obtain ⟨i, b, rfl, rfl, q⟩ := h
  obtain ⟨t, rfl⟩ := rx
  obtain rfl : u = Value.bool b := ry
  exact add_int_bool ⟨.int _, H, I.tok _, ⟨_, rfl⟩, q⟩
end
end CK
namespace CK
open PySem PySem.Spec PyProof.Rows L2 SX
theorem vals_of_get : ∀ (vs : List V) (us : List Value), us.length = vs.length → (∀ (j : Nat) (v : V) (u : Value), vs[j]? = some v → us[j]? = some u → RelV v u) → Vals vs us
  | [], [], _, _ => .nil
  | [], _ :: _, h, _ => by simp at h
  | _ :: _, [], h, _ => by simp at h
  | v :: vs, u :: us, h, g => .cons (g 0 v u rfl rfl) (vals_of_get vs us (by simpa using h) fun j a b ha hb => g (j + 1) a b (by simpa using ha) (by simpa using hb))
section
variable {X : Cx}
/-- list(text): its letters -/
theorem call_listS (hc : X.calm = true) : CallR X (.type "list") (fun xs H Q => ∃ z : List Nat, xs = [.str (S z)] ∧ z.length ≤ 1000000 ∧ ∀ l, H l = none → Q (.ref l) (upd H l (.lst (z.map fun c => V.str (S [c]))))) := by
  intro pins s σ H xs us Q I r h
  obtain ⟨z, rfl, hz, q⟩ := h
  obtain ⟨u, rfl, rx⟩ := vals1 r
  obtain ⟨t, rfl⟩ := rx
  have sz : (S z).cps.size = z.length := S_len z
  refine call_list_str (I.ok.hd hc) (S z) t (fun h' tk acc' c' hk hS hacc => ?_) (by rw [sz, sizeLine_eq]; omega)
  refine ⟨.ref s.heap.objs.size, upd H s.heap.objs.size (.lst (z.map fun c => V.str (S [c]))), I.laid (t' := tk) hk (Nat.le_refl _) ?_, rfl, q _ (I.hok.fresh (Nat.le_refl _))⟩
  refine ⟨by rw [List.length_map, sizeLine_eq]; omega, acc'.toList, c', vals_of_get _ _ (by rw [List.length_map, Array.length_toList, hacc.1, sz]) fun j v u hv hu => ?_, by simpa using hS⟩
  obtain ⟨c, tt, hc', rfl⟩ := hacc.2 j u (by simpa using hu)
  rw [List.getElem?_map] at hv
  have e : z[j]? = some c := by
    have : (S z).cps[j]? = some c := hc'
    simpa [S] using this
  rw [e] at hv
  cases hv
  exact ⟨tt, rfl⟩
end
end CK
namespace CK
open PySem PySem.Spec PyProof.Rows L2 SX
section
variable {X : Cx} {o e : Expr} {es : List Expr} {to : TE} {t : TA} {name : Str} {apos cpos : Pos} {T id : String} {r : V → List V → Hp → VK → Prop}
/-- a built-in's method, where the written part is told apart (it may stand in a comprehension) -/
theorem pe_bmB {K : PySem.W.Frag} (hK : X.K = K) (pa : PlainAttrs T) (slot : Slot T name id) (hty : typeOf (.builtin id) = pure (.type "method_descriptor")) (hm : MtR X id r) (ho : PE X o to) (ha : PA X (e :: es) t)
    (hb : attributeBase o name X.env (eval o X.env) = eval o X.env := by rfl)
    (hf : ((backTo cpos (starEach (e :: es) X.env)).all (fun x => !x.1) && (backToKw cpos (keywordEach [] X.env)).all (fun x => x.1.isSome) && decide ((e :: es).length + ([] : List Keyword).length + (if ([] : List Keyword).isEmpty then 0 else 1) < 30)) = true := by rfl)
    (hl : (apos.endLine == cpos.line) = true := by rfl) (hs : starEach (e :: es) X.env = (false, eval e X.env) :: starEach es X.env := by rfl) (hp : (backTo cpos (starEach es X.env)).any (·.1) = false := by rfl) :
    PE X (.Call (.Attribute o name apos) (e :: es) [] cpos) (tBM K T r to t) := by
  subst hK
  exact pe_bm pa slot hty hm ho ha hb hf hl hs hp
end
end CK

set_option Elab.async false
set_option linter.all false
set_option maxRecDepth 100000
set_option maxHeartbeats 2000000
/-! defs that are called with no repr under way; repr of data -/
namespace CK
open PySem PySem.Spec PyProof.Rows L2
/-- what a def promises where no repr is under way -/
structure FnG (P : Program) (w : World) (K : PySem.W.Frag) (mg : Str → Option Value) (base : Heap) (k : Nat) (f : Addr) (fd : FuncData) (ps : List Str) (sp : Sp) : Prop where
  len : ∀ vs H Q E, sp vs H Q E → vs.length = ps.length
  go : ∀ (A : Around) (outer : List Env) (z : Shared) (H : Hp) (args : Args) (us : List Value) (vs : List V) (Q : VK) (E : XK), Room k A → A.guards = some [] → Env0 P w K mg base A outer z H → BindsTo z fd args (ps.zip us) →
    Vals vs us → sp vs H Q E → codeAny (model P w) A (.call (.ref f) args) (CR C8.CX0 outer P w H z Q E) z
theorem FnG.of {P : Program} {w : World} {K : PySem.W.Frag} {mg : Str → Option Value} {base : Heap} {k : Nat} {f : Addr} {fd : FuncData} {ps : List Str} {sp : Sp} (F : FnOk P w K mg base C8.CX0 k f fd ps sp) : FnG P w K mg base k f fd ps sp :=
  ⟨F.len, fun A outer z H args us vs Q E hr _ e0 hb r h => F.run A outer z H args us vs Q E hr e0 hb r h⟩
theorem fnG_of {P : Program} {w : World} {K : PySem.W.Frag} {mg : Str → Option Value} {base : Heap} {k : Nat} {f : Addr} {x : Str} {st : Stmt} {fd : FuncData} {N ps : List Str} {sp : Sp} (F : C8.Fun K x x st f fd) (S : FnScope N ps (C8.fnScope st))
    (len : ∀ vs H Q E, sp vs H Q E → vs.length = ps.length)
    (body : ∀ (cdv : Value) (A : Around) (outer : List Env) (z : Shared) (H : Hp) (vs : List V) (Q : VK) (E : XK), Room k (A.deeper (envOfC x (C8.fnScope st) z.heap.objs.size f cdv)) → A.guards = some [] → sp vs H Q E →
      ∃ t, PSs (cxOf C8.CX0 P w K mg base N x (C8.fnScope st) f cdv A outer z H E).nox (C8.fnBody st) t ∧ t { nx := fun _ H' => Q .non H', rt := Q } (start N vs) H) : FnG P w K mg base (k + 1) f fd ps sp := by
  obtain ⟨_, _, _, _, _, _, _, cdv, _, _, rfl, lk, hc⟩ := F.ex
  refine ⟨len, fun A outer z H args us vs Q E room gd en bnd va want => ?_⟩
  have ln := len _ _ _ _ want
  have up : ∀ b o, base.get? b = some o → z.heap.get? b = some o := fun b o e => (en.bs b o e).1
  have inK : K.In z.heap := en.mod.kin.keeps up
  have kinds : ∀ y ∈ ps.zip us, (C8.fnScope st).names.lookup y.1 = some .local ∨ ((C8.fnScope st).names.lookup y.1 = some .cell ∧ ((cellsFrom (z.heap.objs.size + 1) (C8.fnScope st).names []).lookup y.1).isSome = true) := by
    intro y hy
    have := S.par y.1 (List.of_mem_zip (a := y.1) (b := y.2) hy).1
    cases this with
    | inl a => exact .inl a
    | inr a => exact .inr ⟨a, PySem.W.cellsFrom_some _ _ _ (.inl a)⟩
  refine codeAny_call_function room.depth (inK _ _ lk) rfl S.co S.gen rfl (PySem.W.codeRec_of inK hc) (bnd _ _ _ _ (wpAny_newFunctionEnv_cells S.kind kinds fun env he z1 call => ?_))
  subst he
  refine ⟨(en.mod.nolimit.keeps up).keeps call.toInCall.keep, codeAny_func ?_⟩
  obtain ⟨t, ht, ok⟩ := body cdv A outer z H vs Q E (room.deeper _) gd want
  refine wpAny_mono (ht.nox.run [] z1 (start N vs) H _ (inv_start S room.hd en ln va call) ok) (fun fl z' got => ?_) fun e z' got => got
  have last : ∀ {σ' : L2.St} {H' : Hp} {v : V} {u : Value}, Inv (cxOf C8.CX0 P w K mg base N x (C8.fnScope st) f cdv A outer z H E) [] σ' H' z' → RelV v u → Q v H' → CE outer P w H z Q u z' :=
    fun {_ H' v _} J a b => ⟨v, H', J.os, J.bare, J.base, J.hok, a, b⟩
  cases fl with
  | ret u =>
    obtain ⟨v, _, H', J, a, b⟩ := got
    exact last J a b
  | next =>
    obtain ⟨_, H', J, b⟩ := got
    exact last (v := V.non) (u := Value.none) J rfl b
  | brk => exact got.choose_spec.choose_spec.2.elim
  | cont => exact got.choose_spec.choose_spec.2.elim
/-- a def by its name -/
structure CalG (P : Program) (w : World) (K : PySem.W.Frag) (mg : Str → Option Value) (base : Heap) (k : Nat) (x : Str) (sp : Sp) : Prop where
  ex : ∃ (f : Addr) (fd : FuncData) (ps : List Str), FnG P w K mg base k f fd ps sp ∧ mg x = some (.ref f) ∧ PySem.W.keepIn K (.ref f) = true ∧ Binds K fd ps []
theorem calG {P : Program} {w : World} {K : PySem.W.Frag} {mg : Str → Option Value} {base : Heap} {x : Str} {st : Stmt} {N ps : List Str} {k : Nat} {sp : Sp} (D : DefF K mg x st ps) (S : FnScope N ps (C8.fnScope st))
    (len : ∀ vs H Q E, sp vs H Q E → vs.length = ps.length)
    (body : ∀ (f : Addr) (cdv : Value) (A : Around) (outer : List Env) (z : Shared) (H : Hp) (vs : List V) (Q : VK) (E : XK), Room k (A.deeper (envOfC x (C8.fnScope st) z.heap.objs.size f cdv)) → A.guards = some [] → sp vs H Q E →
      ∃ t, PSs (cxOf C8.CX0 P w K mg base N x (C8.fnScope st) f cdv A outer z H E).nox (C8.fnBody st) t ∧ t { nx := fun _ H' => Q .non H', rt := Q } (start N vs) H) : CalG P w K mg base (k + 1) x sp := by
  obtain ⟨f, fd, F, b⟩ := D.ex
  exact ⟨f, fd, ps, fnG_of F.fn S len (body f), F.mgf, F.kp, .all b⟩
section
variable {X : Cx} {k j : Nat} {x : Str} {sp : Sp} {p pos : Pos} {e : Expr} {es : List Expr} {t : TA}
theorem run_fnG {pins : List (Addr × Obj)} {σ : L2.St} {H : Hp} {z : Shared} {Q : VK} {us : List Value} {vs : List V} {f : Addr} {fd : FuncData} {ps : List Str} (F : FnG X.prog X.w X.K X.mg X.base k f fd ps sp) (room : Room k X.A) (gd : X.A.guards = some [])
    (b : Binds X.K fd ps []) (I : Inv X pins σ H z) (r : Vals vs us) (h : sp (vs ++ []) H Q E0) : wpAny (model X.prog X.w) X.A (call (.ref f) us) (EP X pins σ Q) X.xe z := by
  rw [List.append_nil] at h
  have ll : (us ++ []).length = ps.length := by
    rw [List.append_nil, ← r.length]
    exact F.len _ _ _ _ h
  have bb := b z us I.kIn ll
  rw [List.append_nil] at bb
  refine wpAny_call (codeAny_mono (F.go X.A X.stack z H ⟨us, []⟩ us vs Q E0 room gd I.env0 bb r h) fun res z' got => ?_)
  match res, got with
  | .ok (.ret u), got => exact I.after got
  | .error e, got => exact pass0 pins σ H z e z' I got
theorem pe_cG (c : CalG X.prog X.w X.K X.mg X.base k x sp) (hr : Room j X.A) (gd : X.A.guards = some []) (hk : k ≤ j) (hg : Gl X x) (ha : PA X (e :: es) t)
    (hdb : (x == ("__debug__" : Str)) = false := by decide) (he : starEach (e :: es) X.env = (false, eval e X.env) :: starEach es X.env := by rfl) (hpl : (backTo pos (starEach es X.env)).any (·.1) = false := by rfl) :
    PE X (.Call (.Name x p) (e :: es) [] pos) (tCall sp [] E0 t) := by
  obtain ⟨f, fd, ps, F, hm, kp, b⟩ := c.ex
  refine ⟨fun pins s σ H Q I h => wpAny_Call_Name_kw (ld_glob I hg hm ?_ hdb)⟩
  exact PySem.W.callWith_K (h₀ := X.base) I.ok.mod.kin kp (thn (ha.run pos pins s σ H _ I h) fun us s1 ⟨vs, H1, I1, r, q⟩ => ⟨I1.kIn, run_fnG F (hr.mono hk) gd b I1 r q⟩) he hpl
theorem pe_cG0 (c : CalG X.prog X.w X.K X.mg X.base k x sp) (hr : Room j X.A) (gd : X.A.guards = some []) (hk : k ≤ j) (hg : Gl X x)
    (hdb : (x == ("__debug__" : Str)) = false := by decide) :
    PE X (.Call (.Name x p) [] [] pos) (tCall sp [] E0 tNil) := by
  obtain ⟨f, fd, ps, F, hm, kp, b⟩ := c.ex
  refine ⟨fun pins s σ H Q I h => wpAny_Call_Name_kw (ld_glob I hg hm ?_ hdb)⟩
  exact PySem.W.callWith_K0 I.kIn kp (run_fnG (us := []) F (hr.mono hk) gd b I .nil h)
/-- repr of data -/
theorem call_repr (hr : Room j X.A) (gd : X.A.guards = some []) : CallR X (.builtin "repr") (fun xs H Q => ∃ (v : V) (d : PyData), xs = [v] ∧ Dp X.K H v d ∧ d.showable = true ∧ d.hasDict = false ∧ d.depth ≤ 60 ∧ d.shown.length ≤ sizeLine ∧ Q (.str d.shown) H) := by
  intro pins s σ H xs us Q I r h
  obtain ⟨v, d, rfl, dp, hs, hd, hdep, hz, q⟩ := h
  obtain ⟨u, rfl, rx⟩ := vals1 r
  obtain ⟨as, rd⟩ := Dp.reads I d v u dp rx
  have hu := hr.units
  have fin : ∀ (a : Addr) (d : PyData), Reads s.heap (.ref a) d as → d.showable = true → d.hasDict = false → d.depth ≤ 60 → d.shown.length ≤ sizeLine → Q (.str d.shown) H →
      wpAny (model X.prog X.w) X.A (call (.builtin "repr") [.ref a]) (EP X pins σ Q) X.xe s := fun a d rd hs hd hdep hz q =>
    repr_of_reads' rd hs (PyData.noDict_hsm hd) gd (by omega) (fun _ _ e => e) (fun h' u tk hk => ⟨.str _, H, I.kept (t' := tk) hk, ⟨u, rfl⟩, q⟩) hz
  cases rd with
  | none => exact PySem.P.repr_of_none ⟨.str _, H, I.tok _, ⟨_, rfl⟩, by simpa only [PyData.shown] using q⟩
  | bool b => exact PySem.P.repr_of_bool ⟨.str _, H, I.tok _, ⟨_, rfl⟩, by simpa only [PyData.shown] using q⟩
  | int i t => exact PySem.P.repr_of_int (by simpa [PyData.showable] using hs) ⟨.str _, H, I.tok _, ⟨_, rfl⟩, by simpa only [PyData.shown] using q⟩
  | str y t => exact PySem.P.repr_of_str ⟨.str _, H, I.tok _, ⟨_, rfl⟩, by simpa only [PyData.shown] using q⟩ (by simpa only [PyData.shown] using hz)
  | list a b c e => exact fin _ _ (.list a b c e) hs hd hdep hz q
  | tuple a b c e => exact fin _ _ (.tuple a b c e) hs hd hdep hz q
  | dict a b c e g => exact fin _ _ (.dict a b c e g) hs hd hdep hz q
end
end CK

set_option Elab.async false
set_option linter.all false
set_option maxRecDepth 100000
set_option maxHeartbeats 2000000
/-! comprehensions with a test; equality of data made of whole numbers -/
namespace CK
open PySem PySem.Spec PyProof.Rows L2
/-- n turns, each kept if b i, giving f i, leaving all that was tracked -/
theorem lc_filtW {J : It} {n : Nat} {G : Hp → Prop} {Y : Nat → Hp → V → Hp → Prop} (w : Walk J n G Y) {g : TG} {tt : TT} {te : TE} {vs : List Nat} {σ : L2.St} {H1 : Hp} {D : Addr} {Qd : Hp → Prop} (b : Nat → Bool) (f : Nat → V) (hn : n < sizeLine)
    (hG : ∀ H, Same H1 H → G H)
    (hs : ∀ (i : Nat) (x : V) (H H' : Hp) (R : VK) (R0 : Hp → Prop), i < n → Same H1 H → Y i H x H' → (b i = true → ∀ H'', Same H H'' → R (f i) H'') → (b i = false → ∀ H'', Same H H'' → R0 H'') →
      g x (wipe σ vs) H' fun σ2 H2 => wipe σ2 vs = wipe σ vs ∧ tt σ2 H2 fun c H3 => if c = true then te σ2 H3 R else R0 H3)
    (hD : H1 D = none) (hd : ∀ H : Hp, Same H1 H → H D = some (.lst (((List.range n).filter b).map f)) → Qd H) :
    ∃ W : Nat → Nat → Hp → Prop, (∃ m, W 0 m (upd H1 D (.lst []))) ∧ ∀ i m H, W i m H →
      (J.stop i H ∧ Qd H) ∨ (J.go i H ∧ ∃ Nx : Hp → Prop, (∀ H', Nx H' → ∃ m', m' < m ∧ W (i + 1) m' H') ∧ ∀ x H', J.yld i H x H' → g x (wipe σ vs) H' fun σ2 H2 => wipe σ2 vs = wipe σ vs ∧ tt σ2 H2 fun b H3 =>
        if b = true then te σ2 H3 fun y H4 => ∃ acc, H4 D = some (.lst acc) ∧ acc.length < sizeLine ∧ Nx (upd H4 D (.lst (acc ++ [y]))) else Nx H3) := by
  refine lc_it w (fun i H => Same H1 H ∧ H D = some (.lst (((List.range i).filter b).map f)) ∧ i ≤ n) ⟨sameNew hD, upd_same, Nat.zero_le _⟩ (fun i H _ p => hG H p.1) (fun i x H H' hi p y => ?_) fun H p => hd H p.1 p.2.1
  refine hs i x H H' _ _ hi p.1 y (fun hb H'' s => ?_) fun hb H'' s => ?_
  · refine ⟨_, s D _ p.2.1, ?_, same_upd2 hD (p.1.trans s), ?_, hi⟩
    · have := List.length_filter_le b (List.range i)
      rw [List.length_range] at this
      rw [List.length_map]
      omega
    · rw [upd_same, List.range_succ, List.filter_append, List.map_append, List.filter_cons_of_pos hb]
      rfl
  · refine ⟨p.1.trans s, ?_, hi⟩
    rw [s D _ p.2.1, List.range_succ, List.filter_append, List.filter_cons_of_neg (by rw [hb]; exact Bool.false_ne_true), List.filter_nil, List.append_nil]
theorem filt_nil (b : Nat → Bool) (f : Nat → V) (n : Nat) : ((List.range n).filter b).map f = [] ↔ ∀ i, i < n → b i = false := by
  rw [List.map_eq_nil_iff, List.filter_eq_nil_iff]
  constructor
  · intro h i hi
    have := h i (List.mem_range.mpr hi)
    simpa using this
  · intro h i hi
    rw [h i (List.mem_range.mp hi)]
    exact Bool.false_ne_true
/-- over zip -/
theorem lcZ_filt {K : PySem.W.Frag} {k k' : Kd} {a c : Addr} {xs ys : List V} {i1 i2 : Nat} {tt : TT} {te : TE} {vs : List Nat} {σ : L2.St} {H1 : Hp} {D : Addr} {Qd : Hp → Prop} (b : Nat → Bool) (f : Nat → V) (hl : xs.length = ys.length) (hn : xs.length < sizeLine)
    (ha : ∀ H, Same H1 H → SqB K k H a xs ∧ SqB K k' H c ys)
    (hs : ∀ (i : Nat) (x y : V) (H : Hp) (R : VK) (R0 : Hp → Prop), xs[i]? = some x → ys[i]? = some y → Same H1 H → (b i = true → ∀ H', Same H H' → R (f i) H') → (b i = false → ∀ H', Same H H' → R0 H') →
      wipe (((wipe σ vs).set i1 (some x)).set i2 (some y)) vs = wipe σ vs ∧ tt (((wipe σ vs).set i1 (some x)).set i2 (some y)) H fun c H3 => if c = true then te (((wipe σ vs).set i1 (some x)).set i2 (some y)) H3 R else R0 H3)
    (hD : H1 D = none) (hd : ∀ H : Hp, Same H1 H → H D = some (.lst (((List.range xs.length).filter b).map f)) → Qd H) :
    ∃ W : Nat → Nat → Hp → Prop, (∃ m, W 0 m (upd H1 D (.lst []))) ∧ ∀ i m H, W i m H →
      ((ItB K k k' a c).stop i H ∧ Qd H) ∨ ((ItB K k k' a c).go i H ∧ ∃ Nx : Hp → Prop, (∀ H', Nx H' → ∃ m', m' < m ∧ W (i + 1) m' H') ∧ ∀ x H', (ItB K k k' a c).yld i H x H' → gTup K 2 (gCons (gName i1) (gCons (gName i2) gNil)) x (wipe σ vs) H' fun σ2 H2 => wipe σ2 vs = wipe σ vs ∧ tt σ2 H2 fun b H3 =>
        if b = true then te σ2 H3 fun y H4 => ∃ acc, H4 D = some (.lst acc) ∧ acc.length < sizeLine ∧ Nx (upd H4 D (.lst (acc ++ [y]))) else Nx H3) := by
  refine lc_filtW (walkB (K := K) (k := k) (k' := k') (a := a) (b := c) hl) b f hn ha (fun i v H H' R R0 hi s y q q0 => ?_) hD hd
  obtain ⟨T, x, y, rfl, hT, rfl, hx, hy⟩ := y
  have hx : xs[i]? = some x := hx
  have hy : ys[i]? = some y := hy
  have st : Same H (upd H T (.tup [x, y])) := sameNew hT
  exact ⟨T, [x, y], rfl, .inl (.inl upd_same), rfl, x, [y], rfl, y, [], rfl, rfl, hs i x y _ R R0 hx hy (s.trans st) (fun hb H'' s' => q hb H'' (st.trans s')) fun hb H'' s' => q0 hb H'' (st.trans s')⟩
/-- over a list -/
theorem lcL_filt {K : PySem.W.Frag} {a : Addr} {xs : List V} {j : Nat} {tt : TT} {te : TE} {vs : List Nat} {σ : L2.St} {H1 : Hp} {D : Addr} {Qd : Hp → Prop} (b : Nat → Bool) (f : Nat → V) (ha : ∀ H, Same H1 H → SqL K H a xs) (hn : xs.length < sizeLine)
    (hs : ∀ (i : Nat) (x : V) (H : Hp) (R : VK) (R0 : Hp → Prop), xs[i]? = some x → Same H1 H → (b i = true → ∀ H', Same H H' → R (f i) H') → (b i = false → ∀ H', Same H H' → R0 H') →
      wipe ((wipe σ vs).set j (some x)) vs = wipe σ vs ∧ tt ((wipe σ vs).set j (some x)) H fun c H3 => if c = true then te ((wipe σ vs).set j (some x)) H3 R else R0 H3)
    (hD : H1 D = none) (hd : ∀ H : Hp, Same H1 H → H D = some (.lst (((List.range xs.length).filter b).map f)) → Qd H) :
    ∃ W : Nat → Nat → Hp → Prop, (∃ m, W 0 m (upd H1 D (.lst []))) ∧ ∀ i m H, W i m H →
      ((Itl K a).stop i H ∧ Qd H) ∨ ((Itl K a).go i H ∧ ∃ Nx : Hp → Prop, (∀ H', Nx H' → ∃ m', m' < m ∧ W (i + 1) m' H') ∧ ∀ x H', (Itl K a).yld i H x H' → gName j x (wipe σ vs) H' fun σ2 H2 => wipe σ2 vs = wipe σ vs ∧ tt σ2 H2 fun b H3 =>
        if b = true then te σ2 H3 fun y H4 => ∃ acc, H4 D = some (.lst acc) ∧ acc.length < sizeLine ∧ Nx (upd H4 D (.lst (acc ++ [y]))) else Nx H3) := by
  refine lc_filtW (walk_list (K := K) (a := a) (xs := xs)) b f hn ha (fun i v H H' R R0 hi s y q q0 => ?_) hD hd
  obtain ⟨rfl, hx⟩ := y
  exact hs i v H' R R0 hx s q q0
/-- over a tuple -/
theorem lcT_filt {K : PySem.W.Frag} {a : Addr} {xs : List V} {j : Nat} {tt : TT} {te : TE} {vs : List Nat} {σ : L2.St} {H1 : Hp} {D : Addr} {Qd : Hp → Prop} (b : Nat → Bool) (f : Nat → V) (ha : ∀ H, Same H1 H → SqT K H a xs) (hn : xs.length < sizeLine)
    (hs : ∀ (i : Nat) (x : V) (H : Hp) (R : VK) (R0 : Hp → Prop), xs[i]? = some x → Same H1 H → (b i = true → ∀ H', Same H H' → R (f i) H') → (b i = false → ∀ H', Same H H' → R0 H') →
      wipe ((wipe σ vs).set j (some x)) vs = wipe σ vs ∧ tt ((wipe σ vs).set j (some x)) H fun c H3 => if c = true then te ((wipe σ vs).set j (some x)) H3 R else R0 H3)
    (hD : H1 D = none) (hd : ∀ H : Hp, Same H1 H → H D = some (.lst (((List.range xs.length).filter b).map f)) → Qd H) :
    ∃ W : Nat → Nat → Hp → Prop, (∃ m, W 0 m (upd H1 D (.lst []))) ∧ ∀ i m H, W i m H →
      ((Itt K a).stop i H ∧ Qd H) ∨ ((Itt K a).go i H ∧ ∃ Nx : Hp → Prop, (∀ H', Nx H' → ∃ m', m' < m ∧ W (i + 1) m' H') ∧ ∀ x H', (Itt K a).yld i H x H' → gName j x (wipe σ vs) H' fun σ2 H2 => wipe σ2 vs = wipe σ vs ∧ tt σ2 H2 fun b H3 =>
        if b = true then te σ2 H3 fun y H4 => ∃ acc, H4 D = some (.lst acc) ∧ acc.length < sizeLine ∧ Nx (upd H4 D (.lst (acc ++ [y]))) else Nx H3) := by
  refine lc_filtW (walk_tup (K := K) (a := a) (xs := xs)) b f hn ha (fun i v H H' R R0 hi s y q q0 => ?_) hD hd
  obtain ⟨rfl, hx⟩ := y
  exact hs i v H' R R0 hx s q q0
/-- a tuple of the module's own -/
theorem tupF {K : PySem.W.Frag} {h : Heap} {mg : Str → Option Value} {x : Str} {f : Addr} {o : Obj} {its : Array Value} {n : Nat} {xs : List V} (X : K.In h) (G : h.Ns mainGlobals mg) (a : PySem.W.nsIn K mainGlobals x = some (some (.ref f))) (l : K.lookup f = some o)
    (hc : o.cls = .type "tuple") (hd : o.data = .seq its n) (hs : its.size ≤ sizeLine) (hv : Vals xs its.toList) : ∃ a, mg x = some (.ref a) ∧ ∀ H, SqT K H a xs :=
  ⟨f, PySem.W.mg_of X G a, fun H => .inr ⟨o, its, n, l, hc, hd, hs, hv⟩⟩
abbrev TupF (K : PySem.W.Frag) (mg : Str → Option Value) (x : Str) (xs : List V) : Prop := ∃ a, mg x = some (.ref a) ∧ ∀ H, SqT K H a xs
theorem with_tup {K : PySem.W.Frag} {h : Heap} {mg : Str → Option Value} (_ : K.In h) (x : Str) (xs : List V) {R : Prop} (d : TupF K mg x xs) (r : TupF K mg x xs → R) : R := r d
/-! data of whole numbers -/
theorem eqvAll_ints : ∀ f g : List Int, PyData.eqvAll (f.map PyData.int) (g.map PyData.int) = decide (f = g)
  | [], [] => by simp [PyData.eqvAll]
  | [], _ :: _ => by simp [PyData.eqvAll]
  | _ :: _, [] => by simp [PyData.eqvAll]
  | x :: f, y :: g => by
    rw [List.map_cons, List.map_cons, PyData.eqvAll, eqvAll_ints f g]
    simp [PyData.eqv, Bool.beq_eq_decide_eq]
theorem eqv_dI (f g : List Int) : PyData.eqv (dI f) (dI g) = decide (f = g) := by
  unfold dI
  simp only [PyData.eqv, eqvAll_ints]
def dLI (ns : List Int) : PyData := .list (ns.map PyData.int)
theorem eqv_dLI (f g : List Int) : PyData.eqv (dLI f) (dLI g) = decide (f = g) := by
  unfold dLI
  simp only [PyData.eqv, eqvAll_ints]
theorem shaped_dLI (ns : List Int) : SeqAt.shaped (dLI ns) = true := by
  unfold SeqAt.shaped dLI
  rw [PyData.canLay0, lay_ints, PyData.depth, deep_ints]
  decide
theorem dp_lints {K : PySem.W.Frag} {H : Hp} {a : Addr} {ns : List Int} (h : H a = some (.lst (ns.map V.int))) : Dp K H (.ref a) (dLI ns) := .lst (.inl (.inl h)) (dpAll_ints ns)
/-! repr of whole numbers -/
theorem shown_ints : ∀ ns : List Int, (∀ n ∈ ns, n.natAbs.log2 < 1920) → PyData.showableAll (ns.map PyData.int) = true
  | [], _ => by simp [PyData.showableAll]
  | n :: ns, h => by
    rw [List.map_cons, PyData.showableAll, shown_ints ns fun z hz => h z (List.mem_cons_of_mem _ hz)]
    simp [PyData.showable, h n List.mem_cons_self]
theorem noDict_ints : ∀ ns : List Int, PyData.hasDictAll (ns.map PyData.int) = false
  | [] => by simp [PyData.hasDictAll]
  | n :: ns => by
    rw [List.map_cons, PyData.hasDictAll, noDict_ints ns]
    simp [PyData.hasDict]
theorem piled_ints : ∀ ns : List Int, (∀ n ∈ ns, n.natAbs.log2 < 1920) → piled (PyData.shownAll (ns.map PyData.int)) ≤ ns.length * 1923
  | [], _ => Nat.zero_le _
  | n :: ns, h => by
    have a1 := int_text_length_le (a := n) (k := 1920) (by omega) (h n List.mem_cons_self)
    have a2 := piled_ints ns fun z hz => h z (List.mem_cons_of_mem _ hz)
    have a3 : ((toString n : Str)).length = (toString n).length := PySem.ofString_length _
    have e : PyData.shown (.int n) = (toString n : Str) := by simp only [PyData.shown]
    rw [List.map_cons, PyData.shownAll, piled_cons, List.length_cons, e]
    omega
theorem show_dI {ns : List Int} (h : ∀ n ∈ ns, n.natAbs.log2 < 1920) (hl : ns.length ≤ 100) : (dI ns).showable = true ∧ (dI ns).hasDict = false ∧ (dI ns).depth ≤ 60 ∧ (dI ns).shown.length ≤ sizeLine := by
  refine ⟨?_, ?_, by rw [deep_dI]; decide, ?_⟩
  · unfold dI
    rw [PyData.showable]
    exact shown_ints ns h
  · unfold dI
    rw [PyData.hasDict]
    exact noDict_ints ns
  · unfold dI
    rw [PyData.shown]
    have := fmt_text (PyData.shownAll (ns.map PyData.int))
    have := piled_ints ns h
    have : ns.length * 1923 ≤ 100 * 1923 := Nat.mul_le_mul_right _ hl
    rw [sizeLine_eq]
    omega
theorem log_lt {n : Int} (h : n.natAbs < 2 ^ 1900) : n.natAbs.log2 < 1920 := by
  by_cases z : n.natAbs = 0
  · rw [z]
    decide
  · have := (Nat.log2_lt z).mpr h
    omega
end CK

set_option Elab.async false
set_option linter.all false
set_option maxRecDepth 100000
set_option maxHeartbeats 2000000
/-! statements in order, tests that may end the call -/
namespace CK
open PySem PySem.Spec PyProof.Rows L2
theorem seq_cut {t u : TS} {D : Ends} {σ : L2.St} {H : Hp} (Mid : L2.St → Hp → Prop) (h1 : ∀ K : L2.St → Hp → Prop, (∀ σ' H', Mid σ' H' → K σ' H') → t { D with nx := K } σ H) (h2 : ∀ σ' H', Mid σ' H' → u D σ' H') : tSeq t u D σ H := h1 _ h2
/-- a test whose answer is b: what is within, and what follows -/
theorem if_dec {c : TT} {t u : TS} {D : Ends} {σ : L2.St} {H : Hp} (b : Bool) (h : ∀ R : Bool → Hp → Prop, (∀ H', Same H H' → R b H') → c σ H R)
    (yes : b = true → ∀ H', Same H H' → t { D with nx := fun σ' H'' => u D σ' H'' } σ H') (no : b = false → ∀ H', Same H H' → u D σ H') : tSeq (tIfS c t tNext) u D σ H :=
  h _ fun H' s => by
    cases b with
    | true => exact iteT (yes rfl H' s)
    | false => exact iteF (no rfl H' s)
/-- the last test of a block -/
theorem if_end {c : TT} {t u : TS} {D : Ends} {σ : L2.St} {H : Hp} (b : Bool) (h : ∀ R : Bool → Hp → Prop, (∀ H', Same H H' → R b H') → c σ H R)
    (yes : b = true → ∀ H', Same H H' → t D σ H') (no : b = false → ∀ H', Same H H' → u D σ H') : tIfS c t u D σ H :=
  h _ fun H' s => by
    cases b with
    | true => exact iteT (yes rfl H' s)
    | false => exact iteF (no rfl H' s)
theorem if_not {c : TT} {t u : TS} {D : Ends} {σ : L2.St} {H : Hp} (h : ∀ R : Bool → Hp → Prop, (∀ H', Same H H' → R false H') → c σ H R) (r : ∀ H', Same H H' → u D σ H') : tSeq (tIfS c t tNext) u D σ H :=
  h _ fun H' s => iteF (r H' s)
theorem yes_if {σ : L2.St} {H : Hp} {A B : Hp → Prop} (h : A H) : tYes σ H fun b H3 => if b = true then A H3 else B H3 := by
  show (if true = true then A H else B H)
  exact if_pos rfl ▸ h
end CK

set_option Elab.async false
set_option linter.all false
set_option maxRecDepth 100000
set_option maxHeartbeats 2000000
/-! sum of a tuple of numbers -/
namespace CK
open PySem PySem.Spec PyProof.Rows L2 SX
section
variable {prog : Program} {w : World} {A : Around} {E : Value → Shared → Prop} {s : Shared} {l : Addr} {xs : Array (Int × Tok)}
theorem sum_tupG {Q : Value → Shared → Prop} (hh : A.handled = none) (hl : s.heap.IsTuple l (intItems xs))
    (h : ∀ h' tk t', (∀ b o, s.heap.get? b = some o → h'.get? b = some o) → Q (.int (preSum (numAt xs) xs.size) t') { s with heap := h', toks := tk }) :
    wpAny (model prog w) A (call (.builtin "sum") [.ref l]) Q E s := by
  have hlt : l < s.heap.objs.size := by obtain ⟨_, e, _⟩ := hl; exact Heap.lt_size e
  refine call_sum_walkG (wpAny_pyIter_tuple hl ?_)
  refine ⟨_, _, _, _, _, _, numAt xs, rfl, Walks.tuple (A := A.in1) hh _ l (Nat.ne_of_lt hlt) (intItems xs), ⟨⟨_, Heap.get?_push_size _ rfl, rfl, rfl⟩, hl.push _⟩, fun b hb => ?_, (fun _ _ => intItems_at), fun h' tk t' hk => ?_⟩
  · show b < (s.heap.push _).objs.size
    rw [Heap.size_push]
    rcases List.mem_cons.mp hb with rfl | hb
    · exact Nat.lt_succ_self _
    · rcases List.mem_cons.mp hb with rfl | hb
      · exact Nat.lt_succ_of_lt hlt
      · cases hb
  · have := h h' tk t' fun b o e => by
      refine hk b o (fun hm => ?_) (Heap.get?_push_of_some _ e)
      have := List.mem_singleton.mp hm
      have hb := Heap.lt_size e
      rw [this] at hb
      exact absurd hb (Nat.lt_irrefl _)
    simpa [intItems] using this
end
section
variable {X : Cx}
theorem cr_sumT (hc : X.calm = true) : CallR X (.builtin "sum") (fun vs H Q => ∃ (a : Addr) (ns : List Int), vs = [V.ref a] ∧ H a = some (.tup (ns.map V.int)) ∧ Q (.int ns.sum) H) := by
  intro pins s σ H vs us Q I r h
  obtain ⟨a, ns, rfl, ha, q⟩ := h
  obtain ⟨its, rv, hl, _⟩ := I.tuple (.inl (.inl ha))
  rw [Vals.ref1 r]
  have hi := rv.ints
  obtain ⟨xs, e⟩ := hi.allInts.items
  have hn : numsOf (intItems xs).toList = ns := by rw [← e]; exact hi.numsOf
  rw [nums_intItems] at hn
  have hl' : s.heap.IsTuple a (intItems xs) := by rw [← e]; exact hl
  refine sum_tupG (I.ok.hd hc) hl' fun h' tk t' hk => ?_
  have es : preSum (numAt xs) xs.size = ns.sum := by rw [preSum_eq, List.take_of_length_le (by simp), hn]
  rw [es]
  exact ⟨.int _, H, I.kept (t' := tk) hk, ⟨_, rfl⟩, q⟩
end
end CK

set_option Elab.async false
set_option linter.all false
set_option maxRecDepth 100000
set_option maxHeartbeats 2000000
/-! defs, methods and classes with defaults, called with keywords alone or with fewer arguments -/
namespace CK
open PySem PySem.Spec PyProof.Rows L2
/-- a def with defaults as it stands -/
structure DefD (K : PySem.W.Frag) (mg : Str → Option Value) (x : Str) (st : Stmt) (dvs : List V) (kws : List (Str × V)) : Prop where
  ex : ∃ (f : Addr) (fd : FuncData), FunD K x x (C8.fnArgs st) (C8.fnBody st) (C8.fnScope st) dvs kws f fd ∧ mg x = some (.ref f)
/-- a method with defaults -/
structure MetD (K : PySem.W.Frag) (C : Addr) (m q : Str) (st : Stmt) (dvs : List V) (kws : List (Str × V)) : Prop where
  ex : ∃ (f : Addr) (fd : FuncData), FunD K m q (C8.fnArgs st) (C8.fnBody st) (C8.fnScope st) dvs kws f fd ∧ Meth K C m f
theorem fun_of {K : PySem.W.Frag} {x q : Str} {st : Stmt} {dvs : List V} {kws : List (Str × V)} {f : Addr} {fd : FuncData} (F : FunD K x q (C8.fnArgs st) (C8.fnBody st) (C8.fnScope st) dvs kws f fd) : C8.Fun K x q st f fd := by
  obtain ⟨oc, od, dV, kV, doc, pm, an, cdv, ct, osl, rfl, lk, hcd, _, _⟩ := F.ex
  exact ⟨oc, od, dV, kV, doc, pm, an, cdv, ct, osl, rfl, lk, hcd⟩
theorem defD_mk {K : PySem.W.Frag} {h : Heap} {mg : Str → Option Value} (x : Str) (st : Stmt) (dvs : List V) (kws : List (Str × V)) {f : Addr} {od an : Option Addr} {oc dV kV dc pm cd ct : Value} {sl : Array (Option Value)}
    (X : K.In h) (G : h.Ns mainGlobals mg) (a : PySem.W.nsIn K mainGlobals x = some (some (.ref f)))
    (l : K.lookup f = some ⟨oc, od, .func (PySem.W.fnOf x x (C8.fnArgs st) (C8.fnBody st) (C8.fnScope st) dV kV dc pm an cd ct), sl⟩)
    (c : PySem.W.codeIn K cd x = true) (k : PySem.W.keepIn K (.ref f) = true) (dd : DflV K dV dvs) (kk : KwdV K kV kws) : DefD K mg x st dvs kws :=
  ⟨f, _, ⟨⟨oc, od, dV, kV, dc, pm, an, cd, ct, sl, rfl, l, c, dd, kk⟩, k⟩, PySem.W.mg_of X G a⟩
theorem metD_mk {K : PySem.W.Frag} {mg : Str → Option Value} {x : Str} {C : Addr} (_ : ClF K mg x C) (m q : Str) (st : Stmt) (dvs : List V) (kws : List (Str × V)) {f : Addr} {od an : Option Addr} {oc dV kV dc pm cd ct : Value} {sl : Array (Option Value)}
    (a : PySem.W.findIn K (.ref C) m = some (some (.ref f))) (i : PySem.W.isFn K (.ref f) = true)
    (l : K.lookup f = some ⟨oc, od, .func (PySem.W.fnOf m q (C8.fnArgs st) (C8.fnBody st) (C8.fnScope st) dV kV dc pm an cd ct), sl⟩)
    (c : PySem.W.codeIn K cd q = true) (k : PySem.W.keepIn K (.ref f) = true) (dd : DflV K dV dvs) (kk : KwdV K kV kws) : MetD K C m q st dvs kws :=
  ⟨f, _, ⟨⟨oc, od, dV, kV, dc, pm, an, cd, ct, sl, rfl, l, c, dd, kk⟩, k⟩, ⟨a, i, k⟩⟩
theorem with_defD {K : PySem.W.Frag} {h : Heap} {mg : Str → Option Value} (_ : K.In h) (x : Str) (st : Stmt) (dvs : List V) (kws : List (Str × V)) {R : Prop} (d : DefD K mg x st dvs kws) (r : DefD K mg x st dvs kws → R) : R := r d
theorem with_metD {K : PySem.W.Frag} {mg : Str → Option Value} {x : Str} {C : Addr} (_ : ClF K mg x C) (m q : Str) (st : Stmt) (dvs : List V) (kws : List (Str × V)) {R : Prop} (d : MetD K C m q st dvs kws) (r : MetD K C m q st dvs kws → R) : R := r d
/-- keyword-only defaults, one by one -/
theorem kwd_nil {K : PySem.W.Frag} {kV : Value} : KwdV K kV [] := .inl rfl
theorem kwd_cons {K : PySem.W.Frag} {D : Addr} {x : Str} {v : V} {u : Value} {kws : List (Str × V)} (h : PySem.W.nsIn K D x = some (some u)) (r : RelV v u) (t : KwdV K (.ref D) kws) : KwdV K (.ref D) ((x, v) :: kws) := by
  refine .inr ⟨D, rfl, fun q hq => ?_⟩
  rcases List.mem_cons.mp hq with rfl | hq
  · exact ⟨u, h, r⟩
  · rcases t with rfl | ⟨D', e, t⟩
    · cases hq
    · cases e
      exact t q hq
theorem dfl_nil {K : PySem.W.Frag} : DflV K .none [] := .inl ⟨rfl, rfl⟩
theorem dfl_one {K : PySem.W.Frag} {T : Addr} {o : Obj} {v : V} {u : Value} {n : Nat} (l : K.lookup T = some o) (d : o.data = .seq #[u] n) (r : RelV v u) : DflV K (.ref T) [v] := .inr ⟨List.cons_ne_nil _ _, T, o, [u], n, rfl, l, d, .cons r .nil⟩
theorem FunD.kbindsN {K : PySem.W.Frag} {x qual : Str} {params : Arguments} {body : List Stmt} {scope : Scope} {f : Addr} {fd : FuncData} {ps : List Str} (F : FunD K x qual params body scope [] [] f fd) (n : Nat) (ks : List Str) (g : {α : Type} → List α → List α → List α)
    (hrel : ∀ {vs zs : List V} {us ws : List Value}, Vals vs us → Vals zs ws → Vals (g vs zs) (g us ws))
    (h : ∀ (kV doc pm : Value) (an : Option Addr) (cdv ct : Value) (us ws : List Value), us.length = n → ws.length = ks.length → bindArgs (PySem.W.fnOf x qual params body scope .none kV doc pm an cdv ct) ⟨us, ks.zip ws⟩ = pure (ps.zip (g us ws))) :
    KBn K fd ps n ks (fun us ws => g us ws) (fun vs zs => g vs zs) := by
  obtain ⟨oc, od, dV, kV, doc, pm, an, cdv, ct, osl, rfl, lk, hcd, hD, hK⟩ := F.ex
  rcases hD with ⟨_, rfl⟩ | ⟨e, _⟩
  · exact ⟨fun s us ws X l1 l2 => .of_eq (h kV doc pm an cdv ct us ws l1 l2), fun r1 r2 => hrel r1 r2⟩
  · exact absurd rfl e
/-! ### calls -/
structure CalN (P : Program) (w : World) (K : PySem.W.Frag) (mg : Str → Option Value) (base : Heap) (k : Nat) (x : Str) (ks : List Str) (sp : Sp) (gV : List V → List V → List V) : Prop where
  ex : ∃ (f : Addr) (fd : FuncData) (ps : List Str) (g : List Value → List Value → List Value), FnOk P w K mg base C8.CX0 k f fd ps sp ∧ mg x = some (.ref f) ∧ PySem.W.keepIn K (.ref f) = true ∧ KBn K fd ps 0 ks g gV
structure MakN (P : Program) (w : World) (K : PySem.W.Frag) (mg : Str → Option Value) (base : Heap) (k : Nat) (x : Str) (C : Addr) (ks : List Str) (sp : Sp) (gV : List V → List V → List V) : Prop where
  ex : ∃ (f : Addr) (fd : FuncData) (ps : List Str) (g : List Value → List Value → List Value), Mk K C f ∧ FnOk P w K mg base C8.CX0 k f fd ps sp ∧ mg x = some (.ref C) ∧ KBn K fd ps 1 ks g gV
structure MetN (P : Program) (w : World) (K : PySem.W.Frag) (mg : Str → Option Value) (base : Heap) (k : Nat) (C : Addr) (m : Str) (ks : List Str) (sp : Sp) (gV : List V → List V → List V) : Prop where
  ex : ∃ (f : Addr) (fd : FuncData) (ps : List Str) (g : List Value → List Value → List Value), Cls K C ∧ Meth K C m f ∧ FnOk P w K mg base C8.CX0 k f fd ps sp ∧ KBn K fd ps 1 ks g gV
def tMethN (C : Addr) (m : Str) (n : Nat) (sp : Sp) (gV : List V → List V → List V) (E : XK) (ta : TE) (tk : TA) : TE := fun σ H Q => ta σ H fun x H1 => ∃ a dx fs, x = .ref a ∧ H1 a = some (.ins C dx fs) ∧ fs.lookup m = none ∧
  tk σ H1 fun zs H2 => zs.length = n ∧ sp (gV [.ref a] zs) H2 Q E
section
variable {X : Cx} {k j : Nat} {C : Addr} {x m : Str} {sp : Sp} {dvs : List V} {p pos apos : Pos} {o : Expr} {kws : List Keyword} {ks : List Str} {ta : TE} {tk : TA} {gV : List V → List V → List V}
theorem pe_cN (c : CalN X.prog X.w X.K X.mg X.base k x ks sp gV) (hr : Room j X.A) (hk : k ≤ j) (hg : Gl X x) (hkw : PK X kws tk)
    (hall : (backToKw pos (keywordEach kws X.env)).all (·.1.isSome) = true := by rfl) (hks : (backToKw pos (keywordEach kws X.env)).filterMap (·.1) = ks := by rfl) (hdb : (x == ("__debug__" : Str)) = false := by decide)
    (hpl : ((backTo pos (starEach [] X.env)).any (·.1) || (backToKw pos (keywordEach kws X.env)).any (·.1.isNone)) = false := by rfl) :
    PE X (.Call (.Name x p) [] kws pos) (tCallN 0 ks.length sp gV C8.E0 tNil tk) := by
  obtain ⟨f, fd, ps, g, F, hm, kp, hb⟩ := c.ex
  refine ⟨fun pins s σ H Q I h => ?_⟩
  refine wpAny_Call_Name_kw (ld_glob I hg hm ?_ hdb)
  refine PySem.W.callWith_KW0 (h₀ := X.base) I.ok.mod.kin kp hall ?_ hpl
  refine thn (hkw.run pos pins s σ H _ I h) fun ws s2 ⟨zs, H2, I2, rz, l1, l2, q2⟩ => ⟨I2.kIn, ?_⟩
  rw [hks]
  exact run_fnN (us := []) (vs := []) F (hr.mono hk) hb C8.pass0 I2 .nil rz rfl l2 q2
theorem pe_mkN (c : MakN X.prog X.w X.K X.mg X.base k x C ks sp gV) (hr : Room j X.A) (hk : k + 1 ≤ j) (hg : Gl X x) (hkw : PK X kws tk)
    (hall : (backToKw pos (keywordEach kws X.env)).all (·.1.isSome) = true := by rfl) (hks : (backToKw pos (keywordEach kws X.env)).filterMap (·.1) = ks := by rfl) (hdb : (x == ("__debug__" : Str)) = false := by decide)
    (hpl : ((backTo pos (starEach [] X.env)).any (·.1) || (backToKw pos (keywordEach kws X.env)).any (·.1.isNone)) = false := by rfl) :
    PE X (.Call (.Name x p) [] kws pos) (tMakeK C 0 ks.length sp gV C8.E0 tNil tk) := by
  obtain ⟨f, fd, ps, g, M, F, hm, hb⟩ := c.ex
  exact pe_makeK0 M F (hr.mono hk) hg hm hb C8.pass0 hkw hall hks hdb hpl
theorem pe_mk0 (c : C8.Mak X.prog X.w X.K X.mg X.base k x C sp dvs) (hr : Room j X.A) (hk : k + 1 ≤ j) (hg : Gl X x)
    (hdb : (x == ("__debug__" : Str)) = false := by decide) : PE X (.Call (.Name x p) [] [] pos) (tMake C sp dvs C8.E0 tNil) := by
  obtain ⟨f, fd, ps, ds, M, F, hm, b, d⟩ := c.ex
  exact pe_make0 M F (hr.mono hk) hg hm b d C8.pass0 hdb
theorem pe_mtN {pl : Sem Bool} (c : MetN X.prog X.w X.K X.mg X.base k C m ks sp gV) (hr : Room j X.A) (hk : k ≤ j) (he : PE X o ta) (hkw : PK X kws tk)
    (hall : (backToKw pos (keywordEach kws X.env)).all (·.1.isSome) = true := by rfl) (hks : (backToKw pos (keywordEach kws X.env)).filterMap (·.1) = ks := by rfl)
    (hpl : ((backTo pos (starEach [] X.env)).any (·.1) || (backToKw pos (keywordEach kws X.env)).any (·.1.isNone)) = false := by rfl)
    (ht : eval (.Call (.Attribute o m apos) [] kws pos) X.env = (do
      let ov ← eval o X.env
      standAt apos.atName
      let (f, first) ← holding [ov] (getMethod ov m pl)
      callWith pos f first (backTo pos (starEach [] X.env)) (backToKw pos (keywordEach kws X.env))) := by rfl) :
    PE X (.Call (.Attribute o m apos) [] kws pos) (tMethN C m ks.length sp gV C8.E0 ta tk) := by
  obtain ⟨f, fd, ps, g, hc, hm, F, hb⟩ := c.ex
  refine ⟨fun pins s σ H Q I h => ?_⟩
  refine PySem.W.methodCall_KW (pl := pl) (thn (he.run pins s σ H _ I h) fun u s1 ⟨x, H1, I1, rx, a, dx, fs, ex, ea, l, q⟩ => ?_) ht
  subst ex
  obtain rfl : u = Value.ref a := rx
  refine getmeth_ok I1 ea hc hm l ?_
  refine PySem.W.callWith_KW0 (first := [.ref a]) (h₀ := X.base) I.ok.mod.kin hm.kp hall ?_ hpl
  refine thn (hkw.run pos pins s1 σ H1 _ I1 q) fun ws s2 ⟨zs, H2, I2, rz, l2, q2⟩ => ⟨I2.kIn, ?_⟩
  rw [hks]
  exact run_fnN (us := [.ref a]) (vs := [.ref a]) F (hr.mono hk) hb C8.pass0 I2 (.cons rfl .nil) rz rfl l2 q2
end
end CK

set_option Elab.async false
set_option linter.all false
set_option maxRecDepth 100000
set_option maxHeartbeats 2000000
/-! a whole number as a test (within a comprehension) -/
namespace CK
open PySem PySem.Spec PyProof.Rows L2
theorem tr_int {X : Cx} : TruR X (fun v H Q => ∃ i : Int, v = .int i ∧ Q (i != 0) H) := by
  intro pins s σ H x v Q I rx h
  obtain ⟨i, rfl, q⟩ := h
  exact tru_ok pins s σ H _ v Q I rx ⟨i != 0, rfl, q⟩
def tTruI (t : TE) : TT := fun σ H Q => t σ H fun x H' => ∃ i : Int, x = .int i ∧ Q (i != 0) H'
theorem pt_truI {X : Cx} {a : Expr} {ta : TE} (ha : PE X a ta) (he : ∀ whole, isTrue a X.env whole = (do let v ← whole; standAt a.pos; holding [v] (truthy v))) : PT X a (tTruI ta) := pt_truthR ha tr_int he
end CK

set_option Elab.async false
set_option linter.all false
set_option maxRecDepth 100000
set_option maxHeartbeats 2000000
/-! the law's end, where no repr is under way -/
namespace CK
open PySem PySem.Spec PyProof.Rows L2
theorem DefF.oneG {K : PySem.W.Frag} {mg : Str → Option Value} {x p : Str} {st : Stmt} (D : DefF K mg x st [p]) : ∃ (f : Addr) (fd : FuncData), mg x = some (.ref f) ∧ (∀ (s : Shared) (v : Value), BindsTo s fd ⟨[v], []⟩ [(p, v)]) ∧
    ∀ {P : Program} {w : World} {base : Heap} {N : List Str} {k : Nat} {sp : Sp} (S : FnScope N [p] (C8.fnScope st)) (len : ∀ vs H Q E, sp vs H Q E → vs.length = 1)
      (body : ∀ (cdv : Value) (A : Around) (outer : List Env) (z : Shared) (H : Hp) (vs : List V) (Q : VK) (E : XK), Room k (A.deeper (envOfC x (C8.fnScope st) z.heap.objs.size f cdv)) → A.guards = some [] → sp vs H Q E →
        ∃ t, PSs (cxOf C8.CX0 P w K mg base N x (C8.fnScope st) f cdv A outer z H E).nox (C8.fnBody st) t ∧ t { nx := fun _ H' => Q .non H', rt := Q } (start N vs) H), FnG P w K mg base (k + 1) f fd [p] sp := by
  obtain ⟨f, fd, F, b⟩ := D.ex
  exact ⟨f, fd, F.mgf, fun s v => .of_eq (b [v] rfl), fun S len body => fnG_of F.fn S len body⟩
section
variable {P : Program} {w : World} {K : PySem.W.Frag} {mg mb : Str → Option Value} {k : Nat} {fa a : Addr} {fd : FuncData} {x : Str} {sp : Sp} {z : Shared} {vs : List Value} {ns : List Int}
/-- from an abstract heap H that tracks the script at most -/
theorem callG_at (inK : K.In z.heap) (gl : z.heap.Ns mainGlobals mg) (bl : z.heap.Ns builtinsNs mb) (bb : ∀ x : Str, x ≠ "__name__" → mb x = bootBuiltins x) (lim : z.heap.NoLimit) (gens : z.gens = #[])
    (scr : z.heap.get? a = some { cls := .type "list", data := .seq vs.toArray }) (room : Room k callerA)
    (F : ∀ base : Heap, K.In base → base.Ns mainGlobals mg → FnG P w K mg base k fa fd [x] sp) (bind : ∀ (s : Shared) (u : Value), BindsTo s fd ⟨[u], []⟩ [(x, u)])
    (H : Hp) (only : Only H) (want : sp [.ref a] H (fun v _ => v = .bl true) fun _ _ _ => False) (hok : HOk P w H z.heap) (alone : ∀ b, H b ≠ none → b = a) (apart : H a ≠ none → K.lookup a = none) :
    codeAny (model P w) callerA (.call (.ref fa) ⟨[.ref a], []⟩) (fun r s' => r = .ok (.ret (.bool true)) ∧ OldK z.heap s'.heap ∧ s'.os = z.os ∧ AllBare s'.gens) z := by
  have isA : ∀ {b : Addr} {u : HO}, H b = some u → b = a := fun {b u} e => alone b fun n => by rw [n] at e; cases e
  have hid : ∀ {b : Addr} {m : Str → Option Value}, z.heap.Ns b m → (hidT z.heap H).Ns b m := by
    intro b m h
    obtain ⟨o, es, ep, e, dt, rest⟩ := h
    refine ⟨o, es, ep, hidT_get e ?_, dt, rest⟩
    match q : H b with
    | none => rfl
    | some u =>
      rw [isA q, scr] at e
      cases e
      exact absurd dt (fun y => by cases y)
  have inB : K.In (hidT z.heap H) := by
    intro b o e
    refine hidT_get (inK b o e) ?_
    match q : H b with
    | none => rfl
    | some u =>
      have ba := isA q
      subst ba
      rw [apart (by rw [q]; exact fun y => by cases y)] at e
      exact absurd e (fun y => by cases y)
  obtain ⟨mc, l1, l2⟩ := lim
  have md : Mod K mg (hidT z.heap H) := ⟨inB, hid gl, ⟨mb, hid bl, bb⟩, ⟨mc, hid l1, l2⟩⟩
  have en : Env0 P w K mg (hidT z.heap H) callerA [] z H :=
    { frames := rfl, mod := md, bs := fun b o e => of_hidT e, bsz := Nat.le_of_eq (hidT_size _ _), funs := trivial, frf := fun b hb => absurd (show b ∈ ([] : List Addr) from hb) List.not_mem_nil, hok := hok, bare := .of_eq gens }
  refine codeAny_mono ((F _ inB (hid gl)).go callerA [] z H ⟨[.ref a], []⟩ [.ref a] [.ref a] _ _ room rfl en (bind z (.ref a)) (.cons rfl .nil) want) fun r s' got => ?_
  match r, got with
  | .ok (.ret u), got =>
    obtain ⟨v, H', os, bare, un, hok', rv, q⟩ := got
    have q : v = .bl true := q
    subst q
    have eu : u = Value.bool true := rv
    subst eu
    refine ⟨rfl, OldK.of_keep fun b o e => ?_, os, bare⟩
    match q : H b with
    | none => exact un.keep b o e q (fun y => absurd (show b ∈ ([] : List Addr) from y) List.not_mem_nil) List.not_mem_nil
    | some u =>
      obtain y | ⟨ob, xs, y⟩ := only b
      · exact absurd (q.symm.trans y) (fun y => by cases y)
      · have o1 := (hok b _ y).1
        have o2 := (hok' b _ (un.frzs b ob _ y)).1
        rw [e] at o1
        rw [Option.some.inj o1]
        exact o2
  | .error e, got => exact absurd got (fun y => nomatch y)
theorem callG (inK : K.In z.heap) (gl : z.heap.Ns mainGlobals mg) (bl : z.heap.Ns builtinsNs mb) (bb : ∀ x : Str, x ≠ "__name__" → mb x = bootBuiltins x) (lim : z.heap.NoLimit) (gens : z.gens = #[])
    (scr : z.heap.get? a = some { cls := .type "list", data := .seq vs.toArray }) (nums : IntsAre vs ns) (len : ns.length ≤ sizeLine) (room : Room k callerA)
    (F : ∀ base : Heap, K.In base → base.Ns mainGlobals mg → FnG P w K mg base k fa fd [x] sp) (bind : ∀ (s : Shared) (u : Value), BindsTo s fd ⟨[u], []⟩ [(x, u)])
    (want : ∀ H : Hp, Only H → SqL K H a (ns.map V.int) → sp [.ref a] H (fun v _ => v = .bl true) fun _ _ _ => False) :
    codeAny (model P w) callerA (.call (.ref fa) ⟨[.ref a], []⟩) (fun r s' => r = .ok (.ret (.bool true)) ∧ OldK z.heap s'.heap ∧ s'.os = z.os ∧ AllBare s'.gens) z := by
  have vals := vals_ints nums
  match look : K.lookup a with
  | some o =>
    have e := inK a o look
    rw [scr] at e
    obtain rfl := Option.some.inj e
    refine callG_at inK gl bl bb lim gens scr room F bind (fun _ => none) (fun _ => .inl rfl) (want _ (fun _ => .inl rfl) (.inr ?_)) (fun b u y => absurd y (fun q => by cases q)) (fun b y => absurd rfl y) (fun y => absurd rfl y)
    exact ⟨_, vs.toArray, _, look, rfl, rfl, rfl, by rw [List.size_toArray, nums.length]; exact len, by simpa using vals⟩
  | none =>
    have at_ : ∀ b, (if b = a then some (HO.frz { cls := .type "list", data := .seq vs.toArray } (.lst (ns.map V.int))) else none) ≠ none → b = a := fun b y => by
      by_cases e : b = a
      · exact e
      · rw [if_neg e] at y
        exact absurd rfl y
    have only : Only fun b => if b = a then some (HO.frz { cls := .type "list", data := .seq vs.toArray } (.lst (ns.map V.int))) else none := fun b => by
      by_cases e : b = a
      · exact .inr ⟨_, _, if_pos e⟩
      · exact .inl (if_neg e)
    refine callG_at inK gl bl bb lim gens scr room F bind _ only (want _ only (.inl (.inr ⟨_, if_pos rfl⟩))) (fun b u y => ?_) at_ fun _ => look
    have e := at_ b (fun q => by have := q.symm.trans y; cases this)
    subst e
    have y' := (if_pos rfl).symm.trans y
    obtain rfl := Option.some.inj y'
    exact ⟨scr, by rw [List.length_map]; exact len, vs, _, vals, scr⟩
end
/-- what k_head leaves, from the law's promise -/
theorem walkG {l : PySem.W.OpenLaw} {n k : Nat} {q : Program} {loose : List Str} {XP : (Str → Option Value) → Heap → Prop} {YP : World → Heap → Prop} {d : DefRec} {K : Params → PySem.W.Frag} {sp : World → Sp} {x : Str}
    (most : l.most = some n) (small : n ≤ sizeLine) (plain : d.params.defaults = []) (room : Room k callerA) (inK : ∀ (w : World) (h : Heap), YP w h → (K w.params).In h)
    (F : ∀ (w : World) (mg : Str → Option Value) (fa : Addr) (h : Heap), (K w.params).In h → h.Ns mainGlobals mg → mg d.name = some (.ref fa) → ∃ fd : FuncData,
      (∀ (s : Shared) (u : Value), BindsTo s fd ⟨[u], []⟩ [(x, u)]) ∧ ∀ base : Heap, (K w.params).In base → base.Ns mainGlobals mg → FnG l.prog w (K w.params) mg base k fa fd [x] (sp w))
    (want : ∀ (w : World) (H : Hp) (a : Addr) (ns : List Int), ns.length ≤ n → Only H → SqL (K w.params) H a (ns.map V.int) → sp w [.ref a] H (fun v _ => v = .bl true) fun _ _ _ => False) :
    PySem.W.WalkO q loose XP YP l.row.toRowW d [] (fun f vs => PySem.call f vs) := by
  refine Att.attach_call most plain fun w _ z mg mb fa _ _ _ _ a vs ns G Y _ _ _ hmg scr nums hl gens => ?_
  have h1 := inK w _ Y
  obtain ⟨fd, bind, hF⟩ := F w mg fa _ h1 G.T.g hmg
  exact callG h1 G.T.g G.T.b G.T.builtins G.T.nolimit gens scr nums (Nat.le_trans hl small) room hF bind fun H hO hS => want w H a ns hl hO hS
end CK

set_option Elab.async false
set_option linter.all false
set_option maxRecDepth 100000
set_option maxHeartbeats 2000000
/-! a tuple of one item, k times, k of at least -1 -/
namespace CK
open PySem PySem.Spec PyProof.Rows L2 SX
theorem mulM1 (l : Addr) (v : Value) (n : Nat) (dd : Option Addr) (sl : Array (Option Value)) (u : Tok) :
    Meets (Builtin.«tuple.__mul__» ⟨[.ref l, .int (-1) u], []⟩) (fun _ R s =>
      s.heap.get? l = some { cls := .type "tuple", dict := dd, data := .seq #[v] n, slots := sl } ∧
      R (.ok (.ret (Value.ref s.heap.objs.size))) { s with heap := s.heap.push { cls := Value.type "tuple", data := Data.seq #[] } }) := by
  refine Meets.of_wp fun prog w A R s h => ?_
  obtain ⟨hq, g, d, tk, o2⟩ := s
  obtain ⟨hl, h⟩ := h
  have f1 := AutoSeq1.idx_int
  wp_walk using wpAny_loadPart' hl
  exact ⟨_, rfl, h⟩
section
variable {X : Cx}
theorem op_repOneZ : OpR X (binaryOp .Mult) (fun x y H Q => ∃ (l : Addr) (k : Int) (v : V), x = .ref l ∧ y = .int k ∧ H l = some (.tup [v]) ∧ -1 ≤ k ∧ k ≤ 1000 ∧
    ∀ p H', Same H H' → H' p = some (.tup (List.replicate k.toNat v)) → Q (.ref p) H') := by
  intro pins s σ H x y xv yv Q I rx ry h
  obtain ⟨l, k, v, rfl, rfl, hl, h0, h1, q⟩ := h
  by_cases hk : k = -1
  · subst hk
    cases rx
    obtain ⟨t, rfl⟩ := ry
    obtain ⟨zs, r, ⟨⟨cl, dd, da, sl⟩, ho, hc, n, hd⟩, hs⟩ := I.tuple (.inl (.inl hl) : SqT X.K H l [v])
    simp only at hc hd
    subst hc hd
    cases r with
    | cons r1 r2 =>
    cases r2
    rename_i u
    refine wpAny_binaryOp_repeat_ref (T := "tuple") (U := "int") (by decide) ⟨_, ho, rfl⟩ (fun s' => typeIs_int s' (-1) t) mulFill F.fills_int_mul F.slot_int_rmul mulSeq F.slot_int_index.lookup
      (call_meets F.slot_int_rmul (typeIs_int s (-1) t) F.entry_int_rmul (F.args_int_rmul_2 _ _) (rmulNo (-1) t l _ n dd sl)
        ⟨ho, rfl, ⟨_, ho, rfl⟩, call_meets F.slot_tuple_mul ⟨_, ho, rfl⟩ F.entry_tuple_mul (F.args_tuple_mul_2 _ _) (mulM1 l _ n dd sl t) ⟨ho, ?_⟩⟩)
    have hn : H s.heap.objs.size = none := I.hok.fresh (Nat.le_refl _)
    refine ⟨.ref s.heap.objs.size, _, I.laid (t' := s.toks) (o := .tup []) (fun b ob q => Heap.get?_push_of_some _ q) (Nat.le_refl _) ?_, rfl, q _ _ (sameNew hn) upd_same⟩
    exact ⟨Nat.zero_le _, [], .nil, IsTup.new _ _⟩
  · exact op_repOne pins s σ H _ _ xv yv Q I rx ry ⟨l, k, v, rfl, rfl, hl, by omega, h1, q⟩
end
end CK

set_option Elab.async false
set_option linter.all false
set_option maxRecDepth 100000
set_option maxHeartbeats 4000000
namespace K60
open PySem PySem.Spec PyProof.Rows L2 CK
def topS (i : Nat) : Stmt := PySem.Challenge.pw_countscribe_k60_vectors_and_costs.main.body.getD i (.Pass ⟨0, 0, 0, 0⟩)
theorem sc_is_whole : FnScope ["value"] ["value"] (C8.fnScope (topS 10)) := C8.fnScope_by (by decide +kernel)
theorem sc_is_count : FnScope ["value"] ["value"] (C8.fnScope (topS 11)) := C8.fnScope_by (by decide +kernel)
theorem sc_is_within : FnScope ["value", "low", "high"] ["value", "low", "high"] (C8.fnScope (topS 12)) := C8.fnScope_by (by decide +kernel)
theorem sc_is_lettered : FnScope ["value", "most"] ["value", "most"] (C8.fnScope (topS 13)) := C8.fnScope_by (by decide +kernel)
theorem sc_need_within : FnScope ["value", "low", "high"] ["value", "low", "high"] (C8.fnScope (topS 14)) := C8.fnScope_by (by decide +kernel)
theorem sc_need_many : FnScope ["value"] ["value"] (C8.fnScope (topS 15)) := C8.fnScope_by (by decide +kernel)
theorem sc_is_form_for : FnScope ["many", "value", "number"] ["many", "value"] (C8.fnScope (topS 17)) := C8.fnScope_by (by decide +kernel)
theorem sc_is_piece : FnScope ["many", "value"] ["many", "value"] (C8.fnScope (topS 22)) := C8.fnScope_by (by decide +kernel)
theorem sc_is_open_form : FnScope ["form"] ["form"] (C8.fnScope (topS 23)) := C8.fnScope_by (by decide +kernel)
theorem sc_fixed_piece : FnScope ["word", "many"] ["word", "many"] (C8.fnScope (topS 24)) := C8.fnScope_by (by decide +kernel)
theorem sc_measure : FnScope ["pieces", "word", "form"] ["pieces"] (C8.fnScope (topS 25)) := C8.fnScope_by (by decide +kernel)
theorem sc_need_pieces : FnScope ["many", "pieces", "item"] ["many", "pieces"] (C8.fnScope (topS 27)) := C8.fnScope_by (by decide +kernel)
theorem sc_need_measure : FnScope ["total"] ["total"] (C8.fnScope (topS 28)) := C8.fnScope_by (by decide +kernel)
theorem sc_Prices___init__ : FnScope ["self", "letter", "sign", "unknown", "number", "price"] ["self", "letter", "sign", "unknown", "number"] (C8.fnScope (inClass (topS 31) 0)) := C8.fnScope_by (by decide +kernel)
theorem sc_Prices_of : FnScope ["self", "vector", "letters", "signs", "unknowns", "numbers"] ["self", "vector"] (C8.fnScope (inClass (topS 31) 1)) := C8.fnScope_by (by decide +kernel)
theorem sc_need_vector : FnScope ["value", "number"] ["value"] (C8.fnScope (topS 32)) := C8.fnScope_by (by decide +kernel)
theorem sc_chosen_prices : FnScope ["value"] ["value"] (C8.fnScope (topS 33)) := C8.fnScope_by (by decide +kernel)
theorem sc_piece_vector : FnScope ["piece", "word", "form", "number"] ["piece"] (C8.fnScope (topS 34)) := C8.fnScope_by (by decide +kernel)
theorem sc_vector_sum : FnScope ["one", "other", "left", "right"] ["one", "other"] (C8.fnScope (topS 35)) := C8.fnScope_by (by decide +kernel)
theorem sc_vector : FnScope ["many", "pieces"] ["many", "pieces"] (C8.fnScope (topS 36)) := C8.fnScope_by (by decide +kernel)
theorem sc_vector_of : FnScope ["pieces", "total", "piece"] ["pieces"] (C8.fnScope (topS 37)) := C8.fnScope_by (by decide +kernel)
theorem sc_cost : FnScope ["many", "pieces", "prices", "total"] ["many", "pieces", "prices"] (C8.fnScope (topS 38)) := C8.fnScope_by (by decide +kernel)
theorem sc_law_hash : FnScope ["_law_seed", "_law_index", "_law_mixed"] ["_law_seed", "_law_index"] (C8.fnScope (topS 40)) := C8.fnScope_by (by decide +kernel)
theorem sc_law_random : FnScope ["_law_generator_here", "_law_bound", "_law_drawn", "_law_turn"] ["_law_generator_here", "_law_bound"] (C8.fnScope (topS 41)) := C8.fnScope_by (by decide +kernel)
theorem sc_law_cell : FnScope ["_law_script", "_law_index"] ["_law_script", "_law_index"] (C8.fnScope (topS 42)) := C8.fnScope_by (by decide +kernel)
theorem sc_law_generator : FnScope ["_law_script", "_law_index", "_law_seed"] ["_law_script", "_law_index"] (C8.fnScope (topS 43)) := C8.fnScope_by (by decide +kernel)
theorem sc_law_letters : FnScope ["_law_generator_here", "_law_left", "_law_turn"] ["_law_generator_here"] (C8.fnScope (topS 44)) := C8.fnScope_by (by decide +kernel)
theorem sc_law_word : FnScope ["_law_generator_here", "_law_signs", "_law_least", "_law_most", "_law_many", "_law_turn"] ["_law_generator_here", "_law_signs", "_law_least", "_law_most"] (C8.fnScope (topS 45)) := C8.fnScope_by (by decide +kernel)
theorem sc_law_number : FnScope ["_law_generator_here", "_law_great", "_law_way"] ["_law_generator_here", "_law_great"] (C8.fnScope (topS 46)) := C8.fnScope_by (by decide +kernel)
theorem sc_law_form : FnScope ["_law_generator_here", "_law_many", "_law_most", "_law_great", "_law_turn"] ["_law_generator_here", "_law_many", "_law_most", "_law_great"] (C8.fnScope (topS 47)) := C8.fnScope_by (by decide +kernel)
theorem sc_law_piece : FnScope ["_law_generator_here", "_law_many", "_law_signs", "_law_base", "_law_great", "_law_way", "_law_turn", "_law_one", "_law_word_here"] ["_law_generator_here", "_law_many", "_law_signs", "_law_base", "_law_great"] (C8.fnScope (topS 48)) := C8.fnScope_by (by decide +kernel)
theorem sc_law_raw : FnScope ["_law_generator_here", "_law_many", "_law_signs", "_law_most", "_law_great", "_law_base", "_law_found", "_law_turn"] ["_law_generator_here", "_law_many", "_law_signs", "_law_most", "_law_great"] (C8.fnScope (topS 49)) := C8.fnScope_by (by decide +kernel)
theorem sc_law_vector : FnScope ["_law_pieces", "_law_letters_here", "_law_signs", "_law_unknowns", "_law_numbers", "_law_word_here", "_law_form_here", "_law_number_here"] ["_law_pieces"] (C8.fnScope (topS 50)) := C8.fnScope_by (by decide +kernel)
theorem sc_law_four : FnScope ["_law_generator_here", "_law_most", "_law_turn"] ["_law_generator_here"] (C8.fnScope (topS 51)) := C8.fnScope_by (by decide +kernel)
theorem sc_law_cost : FnScope ["_law_four_here", "_law_told", "_law_price", "_law_number_here"] ["_law_four_here", "_law_told"] (C8.fnScope (topS 52)) := C8.fnScope_by (by decide +kernel)
theorem sc_law_prices : FnScope ["_law_four_here"] ["_law_four_here"] (C8.fnScope (topS 53)) := C8.fnScope_by (by decide +kernel)
theorem sc_law_vector_right : FnScope ["_law_many", "_law_pieces", "_law_kept", "_law_told", "_law_part"] ["_law_many", "_law_pieces"] (C8.fnScope (topS 54)) := C8.fnScope_by (by decide +kernel)
theorem sc_law_named_right : FnScope ["_law_four_here", "_law_drawn", "_law_at", "_law_some", "_law_prices_here"] ["_law_four_here", "_law_drawn"] (C8.fnScope (topS 55)) := C8.fnScope_by (by decide +kernel)
theorem sc_law_one_object_right : FnScope ["_law_many", "_law_one", "_law_other", "_law_four_here", "_law_drawn", "_law_second", "_law_prices_here", "_law_kept", "_law_told", "_law_pieces"] ["_law_many", "_law_one", "_law_other", "_law_four_here", "_law_drawn", "_law_second"] (C8.fnScope (topS 56)) := C8.fnScope_by (by decide +kernel)
theorem sc_law : FnScope ["_law_script", "_law_generator_here", "_law_many", "_law_signs", "_law_one", "_law_other", "_law_times", "_law_four_here", "_law_drawn", "_law_turn", "_law_second", "_law_due", "_law_prices_here", "_law_grown", "_law_low", "_law_high", "_law_known"] ["_law_script"] (C8.fnScope (topS 57)) := C8.fnScope_by (by decide +kernel)
structure Txt (K : PySem.W.Frag) (mg : Str → Option Value) (C : Addr) : Prop where
  k_Prices : ClF K mg "Prices" C
  f_letter : NoAttr K C "letter"
  f_number : NoAttr K C "number"
  f_sign : NoAttr K C "sign"
  f_unknown : NoAttr K C "unknown"
  d_is_whole : DefF K mg "is_whole" (topS 10) ["value"]
  d_is_count : DefF K mg "is_count" (topS 11) ["value"]
  d_is_within : DefF K mg "is_within" (topS 12) ["value", "low", "high"]
  d_is_lettered : DefF K mg "is_lettered" (topS 13) ["value", "most"]
  d_need_within : DefF K mg "need_within" (topS 14) ["value", "low", "high"]
  d_need_many : DefF K mg "need_many" (topS 15) ["value"]
  d_is_form_for : DefF K mg "is_form_for" (topS 17) ["many", "value"]
  d_is_piece : DefF K mg "is_piece" (topS 22) ["many", "value"]
  d_is_open_form : DefF K mg "is_open_form" (topS 23) ["form"]
  d_fixed_piece : DefF K mg "fixed_piece" (topS 24) ["word", "many"]
  d_measure : DefF K mg "measure" (topS 25) ["pieces"]
  d_need_pieces : DefF K mg "need_pieces" (topS 27) ["many", "pieces"]
  d_need_measure : DefF K mg "need_measure" (topS 28) ["total"]
  d_Prices___init__ : MetD K C "__init__" "Prices.__init__" (inClass (topS 31) 0) [] [("letter", .int 1), ("sign", .int 1), ("unknown", .int 1), ("number", .int 1)]
  d_Prices_of : MetD K C "of" "Prices.of" (inClass (topS 31) 1) [] []
  d_need_vector : DefF K mg "need_vector" (topS 32) ["value"]
  d_chosen_prices : DefF K mg "chosen_prices" (topS 33) ["value"]
  d_piece_vector : DefF K mg "piece_vector" (topS 34) ["piece"]
  d_vector_sum : DefF K mg "vector_sum" (topS 35) ["one", "other"]
  d_vector : DefD K mg "vector" (topS 36) [] []
  d_vector_of : DefF K mg "vector_of" (topS 37) ["pieces"]
  d_cost : DefD K mg "cost" (topS 38) [.non] []
  d_law_hash : DefF K mg "_law_hash" (topS 40) ["_law_seed", "_law_index"]
  d_law_random : DefF K mg "_law_random" (topS 41) ["_law_generator_here", "_law_bound"]
  d_law_cell : DefF K mg "_law_cell" (topS 42) ["_law_script", "_law_index"]
  d_law_generator : DefF K mg "_law_generator" (topS 43) ["_law_script", "_law_index"]
  d_law_letters : DefF K mg "_law_letters" (topS 44) ["_law_generator_here"]
  d_law_word : DefF K mg "_law_word" (topS 45) ["_law_generator_here", "_law_signs", "_law_least", "_law_most"]
  d_law_number : DefF K mg "_law_number" (topS 46) ["_law_generator_here", "_law_great"]
  d_law_form : DefF K mg "_law_form" (topS 47) ["_law_generator_here", "_law_many", "_law_most", "_law_great"]
  d_law_piece : DefF K mg "_law_piece" (topS 48) ["_law_generator_here", "_law_many", "_law_signs", "_law_base", "_law_great"]
  d_law_raw : DefF K mg "_law_raw" (topS 49) ["_law_generator_here", "_law_many", "_law_signs", "_law_most", "_law_great"]
  d_law_vector : DefF K mg "_law_vector" (topS 50) ["_law_pieces"]
  d_law_four : DefF K mg "_law_four" (topS 51) ["_law_generator_here"]
  d_law_cost : DefF K mg "_law_cost" (topS 52) ["_law_four_here", "_law_told"]
  d_law_prices : DefF K mg "_law_prices" (topS 53) ["_law_four_here"]
  d_law_vector_right : DefF K mg "_law_vector_right" (topS 54) ["_law_many", "_law_pieces"]
  d_law_named_right : DefF K mg "_law_named_right" (topS 55) ["_law_four_here", "_law_drawn"]
  d_law_one_object_right : DefF K mg "_law_one_object_right" (topS 56) ["_law_many", "_law_one", "_law_other", "_law_four_here", "_law_drawn", "_law_second"]
  d_law : DefF K mg "law" (topS 57) ["_law_script"]
  m_all : mg "all" = none
  m_any : mg "any" = none
  m_bool : mg "bool" = none
  m_int : mg "int" = none
  m_isinstance : mg "isinstance" = none
  m_len : mg "len" = none
  m_list : mg "list" = none
  m_max : mg "max" = none
  m_range : mg "range" = none
  m_repr : mg "repr" = none
  m_str : mg "str" = none
  m_sum : mg "sum" = none
  m_tuple : mg "tuple" = none
  m_zip : mg "zip" = none
  k_MOST_MEASURE : ∃ u, mg "MOST_MEASURE" = some u ∧ RelV (.int 2000) u
  k_MOST_PIECES : ∃ u, mg "MOST_PIECES" = some u ∧ RelV (.int 5000) u
  k_MOST_PIECE_LETTERS : ∃ u, mg "MOST_PIECE_LETTERS" = some u ∧ RelV (.int 2000) u
  k_MOST_UNKNOWNS : ∃ u, mg "MOST_UNKNOWNS" = some u ∧ RelV (.int 3) u
  k_VECTOR_SIZE : ∃ u, mg "VECTOR_SIZE" = some u ∧ RelV (.int 4) u
end K60

set_option linter.all false
/-! words as lists of numbers: beginnings, borders, periods, powers, roots -/
namespace WM
abbrev W := List Nat
/-! ### beginnings in common -/
def lcp : W → W → Nat
  | x :: xs, y :: ys => if x = y then lcp xs ys + 1 else 0
  | _, _ => 0
theorem lcp_le : ∀ a b : W, lcp a b ≤ a.length ∧ lcp a b ≤ b.length
  | [], b => by simp [lcp]
  | _ :: _, [] => by simp [lcp]
  | x :: xs, y :: ys => by
    have := lcp_le xs ys
    unfold lcp
    split <;> simp <;> omega
theorem lcp_take : ∀ (a b : W) (k : Nat), k ≤ lcp a b → a.take k = b.take k
  | _, _, 0, _ => by simp
  | [], b, k + 1, h => by simp [lcp] at h
  | _ :: _, [], k + 1, h => by simp [lcp] at h
  | x :: xs, y :: ys, k + 1, h => by
    unfold lcp at h
    split at h
    · rename_i e
      subst e
      rw [List.take_succ_cons, List.take_succ_cons, lcp_take xs ys k (by omega)]
    · omega
theorem le_lcp : ∀ (a b : W) (k : Nat), k ≤ a.length → k ≤ b.length → a.take k = b.take k → k ≤ lcp a b
  | _, _, 0, _, _, _ => Nat.zero_le _
  | [], b, k + 1, h, _, _ => by simp at h
  | _ :: _, [], k + 1, _, h, _ => by simp at h
  | x :: xs, y :: ys, k + 1, h1, h2, h => by
    rw [List.take_succ_cons, List.take_succ_cons] at h
    injection h with e1 e2
    subst e1
    have := le_lcp xs ys k (by simpa using h1) (by simpa using h2) e2
    unfold lcp
    rw [if_pos rfl]
    omega
theorem lcp_iff {a b : W} {k : Nat} (h1 : k ≤ a.length) (h2 : k ≤ b.length) : a.take k = b.take k ↔ k ≤ lcp a b := ⟨le_lcp a b k h1 h2, lcp_take a b k⟩

/-! ### periods and borders -/
/-- letters that stand p apart are the same -/
def Per (p : Nat) (w : W) : Prop := ∀ i, i + p < w.length → w[i]? = w[i + p]?
/-- the first b letters are the last b -/
def Bor (b : Nat) (w : W) : Prop := b ≤ w.length ∧ ∀ i, i < b → w[i]? = w[w.length - b + i]?
instance (b : Nat) (w : W) : Decidable (Bor b w) := by unfold Bor; exact inferInstance
theorem bor_per {b : Nat} {w : W} (h : Bor b w) : Per (w.length - b) w := fun i hi => by
  rw [h.2 i (by have := h.1; omega), Nat.add_comm i]
theorem per_bor {p : Nat} {w : W} (hp : p ≤ w.length) (h : Per p w) : Bor (w.length - p) w := by
  refine ⟨Nat.sub_le _ _, fun i hi => ?_⟩
  rw [h i (by omega)]
  congr 1
  omega
theorem per_zero (w : W) : Per 0 w := fun i _ => rfl
theorem per_len {p : Nat} {w : W} (h : w.length ≤ p) : Per p w := fun i hi => by omega
theorem per_take {p k : Nat} {w : W} (h : Per p w) : Per p (w.take k) := fun i hi => by
  rw [List.length_take] at hi
  rw [List.getElem?_take_of_lt (by omega), List.getElem?_take_of_lt (by omega)]
  exact h i (by omega)
theorem per_mul {p : Nat} {w : W} (h : Per p w) : ∀ (k i : Nat), i + p * k < w.length → w[i]? = w[i + p * k]?
  | 0, i, _ => by simp
  | k + 1, i, hi => by
    rw [Nat.mul_succ] at hi ⊢
    rw [per_mul h k i (by omega), h (i + p * k) (by omega)]
    congr 1
    omega
/-- Fine and Wilf's, the weak form -/
theorem per_sub {p q : Nat} {w : W} (hpq : p ≤ q) (hp : Per p w) (hq : Per q w) (hl : p + q ≤ w.length) : Per (q - p) w := fun i hi => by
  by_cases h : i + q < w.length
  · rw [hq i h]
    have := hp (i + (q - p)) (by omega)
    rw [this]
    congr 1
    omega
  · have h1 : p ≤ i := by omega
    have a := hp (i - p) (by omega)
    have b := hq (i - p) (by omega)
    rw [show i - p + p = i by omega] at a
    rw [show i - p + q = i + (q - p) by omega] at b
    rw [← a, b]
theorem fine_wilf : ∀ (n p q : Nat) (w : W), p + q ≤ n → Per p w → Per q w → p + q ≤ w.length → Per (Nat.gcd p q) w
  | 0, p, q, w, hn, hp, hq, _ => by
    have e1 : p = 0 := by omega
    have e2 : q = 0 := by omega
    subst e1 e2
    exact hp
  | n + 1, p, q, w, hn, hp, hq, hl => by
    by_cases p0 : p = 0
    · subst p0
      rw [Nat.gcd_zero_left]
      exact hq
    by_cases q0 : q = 0
    · subst q0
      rw [Nat.gcd_zero_right]
      exact hp
    by_cases h : p ≤ q
    · have := fine_wilf n p (q - p) w (by omega) hp (per_sub h hp hq hl) (by omega)
      rw [Nat.gcd_sub_self_right h] at this
      exact this
    · have := fine_wilf n (p - q) q w (by omega) (per_sub (by omega) hq hp (by omega)) hq (by omega)
      rw [Nat.gcd_sub_self_left (by omega)] at this
      exact this
theorem per_gcd {p q : Nat} {w : W} (hp : Per p w) (hq : Per q w) (hl : p + q ≤ w.length) : Per (Nat.gcd p q) w := fine_wilf _ p q w (Nat.le_refl _) hp hq hl

/-! ### the longest border -/
def lbF (w : W) : Nat → Nat
  | 0 => 0
  | b + 1 => if Bor (b + 1) w then b + 1 else lbF w b
/-- how long the longest border is, besides the word itself -/
def lb (w : W) : Nat := lbF w (w.length - 1)
theorem bor_zero (w : W) : Bor 0 w := ⟨Nat.zero_le _, fun i h => by omega⟩
theorem lbF_bor (w : W) : ∀ b, Bor (lbF w b) w ∧ lbF w b ≤ b
  | 0 => ⟨bor_zero w, Nat.le_refl _⟩
  | b + 1 => by
    unfold lbF
    split
    · rename_i h
      exact ⟨h, Nat.le_refl _⟩
    · have := lbF_bor w b
      exact ⟨this.1, by omega⟩
theorem lbF_max (w : W) : ∀ b c, c ≤ b → Bor c w → c ≤ lbF w b
  | 0, c, h, _ => by omega
  | b + 1, c, h, hc => by
    unfold lbF
    split
    · omega
    · rename_i hn
      by_cases e : c = b + 1
      · subst e
        exact absurd hc hn
      · exact lbF_max w b c (by omega) hc
theorem lb_bor (w : W) : Bor (lb w) w := (lbF_bor w _).1
theorem lb_lt {w : W} (h : w ≠ []) : lb w < w.length := by
  have := (lbF_bor w (w.length - 1)).2
  have := List.length_pos_iff.mpr h
  unfold lb
  omega
theorem lb_max {w : W} {c : Nat} (h : c < w.length) (hc : Bor c w) : c ≤ lb w := lbF_max w _ c (by omega) hc
/-- a border of a border is a border; a shorter border is one of the longer -/
theorem bor_take {w : W} {b c : Nat} (hb : Bor b w) (hc : c ≤ b) : Bor c w ↔ Bor c (w.take b) := by
  have l : (w.take b).length = b := by rw [List.length_take]; have := hb.1; omega
  constructor
  · intro h
    refine ⟨by rw [l]; exact hc, fun i hi => ?_⟩
    rw [l, List.getElem?_take_of_lt (by omega), List.getElem?_take_of_lt (by omega), h.2 i hi, hb.2 (b - c + i) (by omega)]
    congr 1
    have := hb.1
    omega
  · intro h
    refine ⟨Nat.le_trans hc hb.1, fun i hi => ?_⟩
    have := h.2 i hi
    rw [l, List.getElem?_take_of_lt (by omega), List.getElem?_take_of_lt (by omega)] at this
    rw [this, hb.2 (b - c + i) (by omega)]
    congr 1
    have := hb.1
    omega
/-- a border, one letter longer -/
theorem bor_succ {w : W} {n b : Nat} (hn : n < w.length) (hb : b < n) : Bor (b + 1) (w.take (n + 1)) ↔ Bor b (w.take n) ∧ w[b]? = w[n]? := by
  have l1 : (w.take (n + 1)).length = n + 1 := by rw [List.length_take]; omega
  have l0 : (w.take n).length = n := by rw [List.length_take]; omega
  constructor
  · intro h
    refine ⟨⟨by omega, fun i hi => ?_⟩, ?_⟩
    · have := h.2 i (by omega)
      rw [l1, List.getElem?_take_of_lt (by omega), List.getElem?_take_of_lt (by omega)] at this
      rw [l0, List.getElem?_take_of_lt (by omega), List.getElem?_take_of_lt (by omega), this]
      congr 1
      omega
    · have := h.2 b (by omega)
      rw [l1, List.getElem?_take_of_lt (by omega), List.getElem?_take_of_lt (by omega)] at this
      rw [this]
      congr 1
      omega
  · rintro ⟨h, e⟩
    refine ⟨by omega, fun i hi => ?_⟩
    rw [l1, List.getElem?_take_of_lt (by omega), List.getElem?_take_of_lt (by omega)]
    by_cases z : i < b
    · have := h.2 i z
      rw [l0, List.getElem?_take_of_lt (by omega), List.getElem?_take_of_lt (by omega)] at this
      rw [this]
      congr 1
      omega
    · have e1 : i = b := by omega
      subst e1
      rw [e]
      congr 1
      omega
/-- the walk down the borders: the state at a turn of the inner loop -/
def Cand (w : W) (n s : Nat) : Prop := s < n ∧ Bor s (w.take n) ∧ ∀ b, b < n → Bor b (w.take n) → w[b]? = w[n]? → b ≤ s
theorem cand_start {w : W} {n : Nat} (hn : n ≤ w.length) (h0 : 0 < n) : Cand w n (lb (w.take n)) := by
  have l0 : (w.take n).length = n := by rw [List.length_take]; omega
  have ne : w.take n ≠ [] := fun z => by rw [z] at l0; simp at l0; omega
  refine ⟨by have := lb_lt ne; omega, lb_bor _, fun b hb h _ => lb_max (by omega) h⟩
theorem cand_down {w : W} {n s : Nat} (hn : n ≤ w.length) (h : Cand w n s) (hs : 0 < s) (hd : w[s]? ≠ w[n]?) : Cand w n (lb (w.take s)) := by
  obtain ⟨h1, h2, h3⟩ := h
  have ls : (w.take s).length = s := by rw [List.length_take]; omega
  have ne : w.take s ≠ [] := fun z => by rw [z] at ls; simp at ls; omega
  have lt := lb_lt ne
  have tt : (w.take n).take s = w.take s := by rw [List.take_take]; congr 1; omega
  have bs : Bor (lb (w.take s)) (w.take n) := by
    rw [bor_take h2 (by omega), tt]
    exact lb_bor _
  refine ⟨by omega, bs, fun b hb hB e => ?_⟩
  have le := h3 b hb hB e
  have ne2 : b ≠ s := fun z => hd (by rw [← z]; exact e)
  have : Bor b (w.take s) := by
    rw [← tt, ← bor_take h2 (by omega)]
    exact hB
  exact lb_max (by omega) this
theorem cand_hit {w : W} {n s : Nat} (hn : n < w.length) (h : Cand w n s) (e : w[s]? = w[n]?) : lb (w.take (n + 1)) = s + 1 := by
  obtain ⟨h1, h2, h3⟩ := h
  have l1 : (w.take (n + 1)).length = n + 1 := by rw [List.length_take]; omega
  have ne : w.take (n + 1) ≠ [] := fun z => by rw [z] at l1; simp at l1
  have hB : Bor (s + 1) (w.take (n + 1)) := (bor_succ hn h1).mpr ⟨h2, e⟩
  have le := lb_max (by omega) hB
  have lt := lb_lt ne
  have lB := lb_bor (w.take (n + 1))
  generalize lb (w.take (n + 1)) = x at le lt lB ⊢
  cases x with
  | zero => omega
  | succ x =>
    obtain ⟨a, b⟩ := (bor_succ hn (by omega)).mp lB
    have := h3 x (by omega) a b
    omega
theorem cand_miss {w : W} {n : Nat} (hn : n < w.length) (h : Cand w n 0) (e : w[0]? ≠ w[n]?) : lb (w.take (n + 1)) = 0 := by
  obtain ⟨h1, h2, h3⟩ := h
  have l1 : (w.take (n + 1)).length = n + 1 := by rw [List.length_take]; omega
  have ne : w.take (n + 1) ≠ [] := fun z => by rw [z] at l1; simp at l1
  have lt := lb_lt ne
  have lB := lb_bor (w.take (n + 1))
  generalize lb (w.take (n + 1)) = x at lt lB ⊢
  cases x with
  | zero => rfl
  | succ x =>
    obtain ⟨a, b⟩ := (bor_succ hn (by omega)).mp lB
    have := h3 x (by omega) a b
    have z : x = 0 := by omega
    subst z
    exact absurd b e
theorem lb_one {w : W} : lb (w.take 1) = 0 := by
  cases w with
  | nil => simp [lb, lbF]
  | cons x r => simp [lb, lbF]

/-! ### powers and roots -/
/-- w taken k times -/
def pw (w : W) (k : Nat) : W := (List.replicate k w).flatten
theorem pw_succ (w : W) (k : Nat) : pw w (k + 1) = w ++ pw w k := by unfold pw; rw [List.replicate_succ, List.flatten_cons]
theorem pw_zero (w : W) : pw w 0 = [] := rfl
theorem pw_len (w : W) : ∀ k, (pw w k).length = w.length * k
  | 0 => by simp [pw_zero]
  | k + 1 => by rw [pw_succ, List.length_append, pw_len w k, Nat.mul_succ, Nat.add_comm]
theorem pw_add (w : W) : ∀ a b, pw w (a + b) = pw w a ++ pw w b
  | 0, b => by rw [Nat.zero_add, pw_zero, List.nil_append]
  | a + 1, b => by rw [show a + 1 + b = a + b + 1 by omega, pw_succ, pw_add w a b, pw_succ, List.append_assoc]
theorem pw_get {w : W} (h : w ≠ []) : ∀ (k i : Nat), i < w.length * k → (pw w k)[i]? = w[i % w.length]?
  | 0, i, hi => by simp at hi
  | k + 1, i, hi => by
    have n0 := List.length_pos_iff.mpr h
    rw [pw_succ]
    by_cases z : i < w.length
    · rw [List.getElem?_append_left z, Nat.mod_eq_of_lt z]
    · have hm : w.length * (k + 1) = w.length * k + w.length := Nat.mul_succ ..
      rw [List.getElem?_append_right (by omega), pw_get h k _ (by omega), Nat.mod_eq_sub_mod (show i ≥ w.length by omega)]
/-- a word with a period that divides its length is a power -/
theorem per_pw {w : W} {d : Nat} (hd : 0 < d) (hp : Per d w) (hv : d ∣ w.length) : w = pw (w.take d) (w.length / d) := by
  obtain ⟨k, hk⟩ := hv
  by_cases k0 : k = 0
  · subst k0
    rw [Nat.mul_zero] at hk
    rw [List.length_eq_zero_iff.mp hk]
    simp [pw]
  have dl : d ≤ w.length := by rw [hk]; exact Nat.le_mul_of_pos_right d (by omega)
  have lt : (w.take d).length = d := by rw [List.length_take]; omega
  have ne : w.take d ≠ [] := fun z => by rw [z] at lt; simp at lt; omega
  have ek : w.length / d = k := by rw [hk]; exact Nat.mul_div_cancel_left k hd
  rw [ek]
  refine List.ext_getElem? fun i => ?_
  by_cases hi : i < w.length
  · rw [pw_get ne k i (by rw [lt, ← hk]; exact hi), lt, List.getElem?_take_of_lt (Nat.mod_lt i hd)]
    have := per_mul hp (i / d) (i % d) (by rw [Nat.mod_add_div]; exact hi)
    rw [this, Nat.mod_add_div]
  · rw [List.getElem?_eq_none (by omega), List.getElem?_eq_none (by rw [pw_len, lt, ← hk]; omega)]
theorem pw_per {u : W} (h : u ≠ []) (k : Nat) : Per u.length (pw u k) := fun i hi => by
  rw [pw_len] at hi
  rw [pw_get h k i (by omega), pw_get h k _ hi, Nat.add_mod_right]
/-- not empty, and no shorter word taken several times -/
def Prim (w : W) : Prop := w ≠ [] ∧ ∀ d, 0 < d → d ∣ w.length → Per d w → d = w.length
theorem prim_pw {w u : W} {k : Nat} (h : Prim w) (e : w = pw u k) : k = 1 ∧ u = w := by
  have une : u ≠ [] := fun z => by
    subst z
    apply h.1
    rw [e]
    simp [pw]
  have l : w.length = u.length * k := by rw [e, pw_len]
  have := h.2 u.length (List.length_pos_iff.mpr une) ⟨k, l⟩ (by rw [e]; exact pw_per une k)
  have n0 := List.length_pos_iff.mpr une
  have k1 : k = 1 := by
    rw [this] at l
    have : w.length * 1 = w.length * k := by omega
    exact (Nat.eq_of_mul_eq_mul_left (by omega) this).symm
  subst k1
  exact ⟨rfl, by rw [e, pw_succ, pw_zero, List.append_nil]⟩
/-- the root's length, as the program finds it -/
def rootN (w : W) : Nat := if w.length % (w.length - lb w) = 0 then w.length - lb w else w.length
theorem rootN_dvd (w : W) : rootN w ∣ w.length := by
  unfold rootN
  split
  · rename_i h
    exact Nat.dvd_of_mod_eq_zero h
  · exact Nat.dvd_refl _
theorem rootN_pos {w : W} (h : w ≠ []) : 0 < rootN w := by
  have := lb_lt h
  have := List.length_pos_iff.mpr h
  unfold rootN
  split <;> omega
theorem rootN_le {w : W} (h : w ≠ []) : rootN w ≤ w.length := Nat.le_of_dvd (List.length_pos_iff.mpr h) (rootN_dvd w)
theorem rootN_per (w : W) : Per (rootN w) w := by
  unfold rootN
  split
  · exact bor_per (lb_bor w)
  · exact per_len (Nat.le_refl _)
/-- no period is less than the program's step -/
theorem step_least {w : W} {p : Nat} (hp : 0 < p) (hl : p ≤ w.length) (h : Per p w) : w.length - lb w ≤ p := by
  have := lb_max (c := w.length - p) (by omega) (per_bor hl h)
  omega
/-- a period of the word that divides its length is a multiple of the root's -/
theorem root_div {w : W} (hw : w ≠ []) {d : Nat} (hd : 0 < d) (hv : d ∣ w.length) (h : Per d w) : rootN w ∣ d := by
  have n0 := List.length_pos_iff.mpr hw
  have dl := Nat.le_of_dvd n0 hv
  have lt := lb_lt hw
  have s := step_least hd dl h
  by_cases e : d = w.length
  · rw [e]
    exact rootN_dvd w
  · have two : d + d ≤ w.length := by
      obtain ⟨k, hk⟩ := hv
      have : k ≠ 0 := fun z => by subst z; omega
      have : k ≠ 1 := fun z => by subst z; omega
      have : d * 2 ≤ d * k := Nat.mul_le_mul_left d (by omega)
      omega
    have g := per_gcd (bor_per (lb_bor w)) h (by omega)
    have gp : 0 < Nat.gcd (w.length - lb w) d := Nat.gcd_pos_of_pos_right _ hd
    have g1 := step_least gp (Nat.le_trans (Nat.gcd_le_right _ hd) dl) g
    have g2 : Nat.gcd (w.length - lb w) d ∣ w.length - lb w := Nat.gcd_dvd_left _ _
    have g3 : Nat.gcd (w.length - lb w) d = w.length - lb w := Nat.le_antisymm (Nat.le_of_dvd (by omega) g2) g1
    have g4 : w.length - lb w ∣ d := by rw [← g3]; exact Nat.gcd_dvd_right _ _
    have : w.length % (w.length - lb w) = 0 := Nat.mod_eq_zero_of_dvd (Nat.dvd_trans g4 hv)
    unfold rootN
    rw [if_pos this]
    exact g4
theorem root_prim {w : W} (hw : w ≠ []) : Prim (w.take (rootN w)) := by
  have r0 := rootN_pos hw
  have rl := rootN_le hw
  have l : (w.take (rootN w)).length = rootN w := by rw [List.length_take]; omega
  refine ⟨fun z => by rw [z] at l; simp at l; omega, fun d hd hv h => ?_⟩
  rw [l] at hv ⊢
  -- a period of the root that divides it is one of the word
  have hw' : Per d w := fun i hi => by
    have mul : ∀ j, j < w.length → w[j]? = w[j % rootN w]? := fun j hj => by
      have := per_mul (rootN_per w) (j / rootN w) (j % rootN w) (by rw [Nat.mod_add_div]; exact hj)
      rw [Nat.mod_add_div] at this
      exact this.symm
    have inner : ∀ j, j < rootN w → w[j]? = w[j % d]? := fun j hj => by
      have := per_mul h (j / d) (j % d) (by rw [Nat.mod_add_div, l]; exact hj)
      rw [Nat.mod_add_div, List.getElem?_take_of_lt hj, List.getElem?_take_of_lt (by have := Nat.mod_le j d; omega)] at this
      exact this.symm
    rw [mul i (by omega), mul (i + d) hi, inner _ (Nat.mod_lt _ r0), inner ((i + d) % rootN w) (Nat.mod_lt _ r0)]
    congr 1
    rw [Nat.mod_mod_of_dvd _ hv, Nat.mod_mod_of_dvd _ hv, Nat.add_mod_right]
  exact Nat.dvd_antisymm hv (root_div hw hd (Nat.dvd_trans hv (rootN_dvd w)) hw')
theorem root_pw {w : W} (hw : w ≠ []) : w = pw (w.take (rootN w)) (w.length / rootN w) := per_pw (rootN_pos hw) (rootN_per w) (rootN_dvd w)
end WM

set_option linter.all false
set_option maxRecDepth 100000
namespace NM
open WM
/-! ### the last letters of a word taken without end; rotations -/
theorem mod_of {a b L x y : Nat} (h : a + L * x = b + L * y) : a % L = b % L := by
  rw [← Nat.add_mul_mod_self_left a L x, h, Nat.add_mul_mod_self_left]
def rotR (u : W) (k : Nat) : W := u.drop (u.length - k % u.length) ++ u.take (u.length - k % u.length)
def tailE (u : W) (k : Nat) : W := u.drop (u.length - k % u.length) ++ pw u (k / u.length)
theorem tailE_len {u : W} (h : u ≠ []) (k : Nat) : (tailE u k).length = k := by
  have n0 := List.length_pos_iff.mpr h
  have := Nat.mod_lt k n0
  have := Nat.mod_add_div k u.length
  unfold tailE
  rw [List.length_append, List.length_drop, pw_len]
  omega
theorem tailE_get {u : W} (h : u ≠ []) {k i : Nat} (hi : i < k) : (tailE u k)[i]? = u[(i + (u.length - k % u.length)) % u.length]? := by
  have n0 := List.length_pos_iff.mpr h
  have hm := Nat.mod_lt k n0
  have hd := Nat.mod_add_div k u.length
  unfold tailE
  by_cases z : i < k % u.length
  · rw [List.getElem?_append_left (by rw [List.length_drop]; omega), List.getElem?_drop, Nat.mod_eq_of_lt (show i + (u.length - k % u.length) < u.length by omega), Nat.add_comm]
  · rw [List.getElem?_append_right (by rw [List.length_drop]; omega), List.length_drop, pw_get h _ _ (by omega)]
    congr 1
    exact mod_of (x := 1) (y := 0) (by omega)
theorem tailE_drop {u : W} (h : u ≠ []) {n k : Nat} (hk : k ≤ n) : (tailE u n).drop (n - k) = tailE u k := by
  have n0 := List.length_pos_iff.mpr h
  refine List.ext_getElem? fun i => ?_
  by_cases hi : i < k
  · rw [List.getElem?_drop, tailE_get h (by omega), tailE_get h hi]
    congr 1
    have h1 := Nat.mod_add_div n u.length
    have h2 := Nat.mod_add_div k u.length
    have h3 := Nat.mod_lt n n0
    have h4 := Nat.mod_lt k n0
    exact mod_of (x := k / u.length) (y := n / u.length) (by omega)
  · rw [List.getElem?_eq_none (by rw [List.length_drop, tailE_len h]; omega), List.getElem?_eq_none (by rw [tailE_len h]; omega)]
theorem pw_comm (p s : W) : ∀ j, pw (s ++ p) j ++ s = s ++ pw (p ++ s) j
  | 0 => by simp [pw]
  | j + 1 => by
    rw [pw_succ, pw_succ, List.append_assoc, pw_comm p s j]
    simp [List.append_assoc]
theorem rotR_split (u : W) (k : Nat) : rotR u k = u.drop (u.length - k % u.length) ++ u.take (u.length - k % u.length) := rfl
theorem rotR_len (u : W) (k : Nat) : (rotR u k).length = u.length := by
  unfold rotR
  rw [List.length_append, List.length_drop, List.length_take]
  omega
/-- what is moved behind a power, and the power turned -/
theorem move_pw (u : W) (k j : Nat) : pw (rotR u k) j ++ tailE u k = tailE u k ++ pw u j := by
  have e : u.take (u.length - k % u.length) ++ u.drop (u.length - k % u.length) = u := List.take_append_drop _ _
  unfold tailE rotR
  rw [← List.append_assoc, pw_comm, e, List.append_assoc, ← pw_add, List.append_assoc, ← pw_add, Nat.add_comm]
theorem rotR_get {u : W} (h : u ≠ []) (k : Nat) {i : Nat} (hi : i < u.length) : (rotR u k)[i]? = u[(i + (u.length - k % u.length)) % u.length]? := by
  have n0 := List.length_pos_iff.mpr h
  have hm := Nat.mod_lt k n0
  unfold rotR
  by_cases z : i < k % u.length
  · rw [List.getElem?_append_left (by rw [List.length_drop]; omega), List.getElem?_drop, Nat.mod_eq_of_lt (show i + (u.length - k % u.length) < u.length by omega), Nat.add_comm]
  · rw [List.getElem?_append_right (by rw [List.length_drop]; omega), List.length_drop, List.getElem?_take_of_lt (by omega)]
    congr 1
    rw [show i - (u.length - (u.length - k % u.length)) = i - k % u.length by omega]
    have := mod_of (a := i + (u.length - k % u.length)) (b := i - k % u.length) (L := u.length) (x := 0) (y := 1) (by omega)
    rw [this, Nat.mod_eq_of_lt (show i - k % u.length < u.length by omega)]
theorem rotR_ne {u : W} (h : u ≠ []) (k : Nat) : rotR u k ≠ [] := fun z => by
  have := rotR_len u k
  rw [z] at this
  exact h (List.length_eq_zero_iff.mp this.symm)
theorem rotR_zero (u : W) : rotR u 0 = u := by
  unfold rotR
  simp
theorem last_get {w : W} (h : w ≠ []) : w.getLast? = w[w.length - 1]? := List.getLast?_eq_getElem? ..
/-- the last letter of the turned word is the letter ahead of what was moved -/
theorem rotR_last {u : W} (h : u ≠ []) {n k : Nat} (hk : k < n) : (rotR u k).getLast? = (tailE u n)[n - k - 1]? := by
  have n0 := List.length_pos_iff.mpr h
  rw [last_get (rotR_ne h k), rotR_len, rotR_get h k (by omega), tailE_get h (by omega)]
  congr 1
  have h1 := Nat.mod_add_div n u.length
  have h2 := Nat.mod_add_div k u.length
  have h3 := Nat.mod_lt n n0
  have h4 := Nat.mod_lt k n0
  exact mod_of (x := n / u.length) (y := k / u.length + 1) (by rw [Nat.mul_add]; omega)
theorem per_at {d : Nat} {w : W} (hd : 0 < d) (h : Per d w) {i : Nat} (hi : i < w.length) : w[i]? = w[i % d]? := by
  have := per_mul h (i / d) (i % d) (by rw [Nat.mod_add_div]; exact hi)
  rw [Nat.mod_add_div] at this
  exact this.symm
theorem prim_rotR {u : W} (h : Prim u) (k : Nat) : Prim (rotR u k) := by
  have ne := h.1
  have n0 := List.length_pos_iff.mpr ne
  refine ⟨rotR_ne ne k, fun d hd hv hp => ?_⟩
  rw [rotR_len] at hv ⊢
  refine h.2 d hd hv fun i hi => ?_
  -- letter i of u stands in the turned word at the place i + k
  have at_ : ∀ j, j < u.length → u[j]? = (rotR u k)[(j + k) % u.length]? := fun j hj => by
    rw [rotR_get ne k (Nat.mod_lt _ n0)]
    congr 1
    have h1 := Nat.mod_add_div (j + k) u.length
    have h2 := Nat.mod_add_div k u.length
    have h4 := Nat.mod_lt k n0
    have := mod_of (a := (j + k) % u.length + (u.length - k % u.length)) (b := j) (L := u.length) (x := (j + k) / u.length) (y := k / u.length + 1) (by rw [Nat.mul_add]; omega)
    rw [this, Nat.mod_eq_of_lt hj]
  have l := rotR_len u k
  rw [at_ i (by omega), at_ (i + d) hi, per_at hd hp (by rw [l]; exact Nat.mod_lt _ n0), per_at hd hp (i := (i + d + k) % u.length) (by rw [l]; exact Nat.mod_lt _ n0)]
  congr 1
  rw [Nat.mod_mod_of_dvd _ hv, Nat.mod_mod_of_dvd _ hv, show i + d + k = i + k + d by omega, Nat.add_mod_right]
/-! ### how many letters are moved -/
def movedE (ahead u : W) : Nat := lcp ahead.reverse (tailE u ahead.length).reverse
theorem movedE_le (ahead u : W) : movedE ahead u ≤ ahead.length := by
  have := (lcp_le ahead.reverse (tailE u ahead.length).reverse).1
  rw [List.length_reverse] at this
  exact this
theorem moved_drop {ahead u : W} (h : u ≠ []) : ahead.drop (ahead.length - movedE ahead u) = tailE u (movedE ahead u) := by
  have hle := movedE_le ahead u
  have e := lcp_take ahead.reverse (tailE u ahead.length).reverse _ (Nat.le_refl _)
  rw [List.take_reverse, List.take_reverse] at e
  have e2 := List.reverse_inj.mp e
  rw [tailE_len h] at e2
  rw [← tailE_drop h hle]
  exact e2
theorem lcp_next : ∀ (a b : W), lcp a b < a.length → lcp a b < b.length → a[lcp a b]? ≠ b[lcp a b]?
  | [], b, h, _ => by simp at h
  | _ :: _, [], _, h => by simp at h
  | x :: xs, y :: ys, h1, h2 => by
    unfold lcp at h1 h2 ⊢
    by_cases e : x = y
    · rw [if_pos e] at h1 h2 ⊢
      rw [List.getElem?_cons_succ, List.getElem?_cons_succ]
      exact lcp_next xs ys (by simpa using h1) (by simpa using h2)
    · rw [if_neg e]
      simp [e]
theorem moved_next {ahead u : W} (h : u ≠ []) (hk : movedE ahead u < ahead.length) : (ahead.take (ahead.length - movedE ahead u)).getLast? ≠ (rotR u (movedE ahead u)).getLast? := by
  rw [rotR_last h hk, List.getLast?_eq_getElem?, List.length_take, Nat.min_eq_left (by omega), List.getElem?_take_of_lt (by omega)]
  have := lcp_next ahead.reverse (tailE u ahead.length).reverse (by rw [List.length_reverse]; exact hk) (by rw [List.length_reverse, tailE_len h]; exact hk)
  rw [List.getElem?_reverse (by exact hk), List.getElem?_reverse (by rw [tailE_len h]; exact hk), tailE_len h] at this
  have e : ahead.length - movedE ahead u - 1 = ahead.length - 1 - movedE ahead u := by omega
  rw [e]
  exact this
theorem moved_zero {ahead u : W} (h : u ≠ []) (ha : ahead ≠ []) (hl : ahead.getLast? ≠ u.getLast?) : movedE ahead u = 0 := by
  have n0 := List.length_pos_iff.mpr ha
  have u0 := List.length_pos_iff.mpr h
  by_cases z : movedE ahead u = 0
  · exact z
  exfalso
  apply hl
  have e := moved_drop (ahead := ahead) h
  have hle := movedE_le ahead u
  rw [List.getLast?_eq_getElem?, List.getLast?_eq_getElem?]
  have h1 : (ahead.drop (ahead.length - movedE ahead u))[movedE ahead u - 1]? = (tailE u (movedE ahead u))[movedE ahead u - 1]? := by rw [e]
  rw [List.getElem?_drop, tailE_get h (by omega)] at h1
  rw [show ahead.length - 1 = ahead.length - movedE ahead u + (movedE ahead u - 1) by omega, h1]
  congr 1
  have h2 := Nat.mod_add_div (movedE ahead u) u.length
  have h4 := Nat.mod_lt (movedE ahead u) u0
  have := mod_of (a := movedE ahead u - 1 + (u.length - movedE ahead u % u.length)) (b := u.length - 1) (L := u.length) (x := 0) (y := movedE ahead u / u.length) (by omega)
  rw [this, Nat.mod_eq_of_lt (show u.length - 1 < u.length by omega)]
end NM

set_option linter.all false
set_option maxRecDepth 100000
/-! normal lists of pieces: the program's steps as functions, and what they keep -/
namespace NM
open WM
abbrev F := List Nat
abbrev Pn := W × F
def isOpen (f : F) : Bool := f.tail.any fun x => decide (x ≠ 0)
def isPow (p : Pn) : Bool := decide (p.2.headD 0 = 0)
def one1 (m : Nat) : F := 1 :: List.replicate m 0
def fixP (w : W) (m : Nat) : Pn := (w, one1 m)
def addF (f g : F) : F := List.zipWith (fun x y => x + y) f g
def timesF (k : Nat) (f : F) : F := f.map fun x => k * x
def joinF (acc : List Pn) (w : W) (m : Nat) : List Pn :=
  match acc.getLast? with
  | some q => if isPow q then (if w = [] then acc else acc ++ [fixP w m]) else (if q.1 ++ w = [] then acc.dropLast else acc.dropLast ++ [fixP (q.1 ++ w) m])
  | none => if w = [] then acc else acc ++ [fixP w m]
/-- a power, behind what is no fixed piece -/
def pushP (acc : List Pn) (u : W) (f : F) : List Pn :=
  match acc.getLast? with
  | some q => if isPow q ∧ q.1 = u then acc.dropLast ++ [(u, addF q.2 f)] else acc ++ [(u, f)]
  | none => acc ++ [(u, f)]
def putP (acc : List Pn) (u : W) (f : F) : List Pn :=
  match acc.getLast? with
  | some q => if isPow q then joinF (pushP acc u f) [] (f.length - 1)
    else joinF (pushP (joinF acc.dropLast (q.1.take (q.1.length - movedE q.1 u)) (f.length - 1)) (rotR u (movedE q.1 u)) f) (q.1.drop (q.1.length - movedE q.1 u)) (f.length - 1)
  | none => joinF (pushP acc u f) [] (f.length - 1)
def stepA (acc : List Pn) (p : Pn) : List Pn := if p.1 ≠ [] ∧ isOpen p.2 then putP acc (p.1.take (rootN p.1)) (timesF (p.1.length / rootN p.1) (0 :: p.2.tail)) else acc
def stepB (acc : List Pn) (p : Pn) : List Pn := if p.1 ≠ [] ∧ p.2.headD 0 ≠ 0 then joinF acc (pw p.1 (p.2.headD 0)) (p.2.length - 1) else acc
def stepN (acc : List Pn) (p : Pn) : List Pn := stepB (stepA acc p) p
def normL (ps : List Pn) : List Pn := ps.foldl stepN []

/-! ### what is written at a point -/
def dot : List Nat → List Nat → Nat
  | x :: xs, y :: ys => x * y + dot xs ys
  | _, _ => 0
def valF (f : F) (pt : List Nat) : Nat := f.headD 0 + dot f.tail pt
def wrt (pt : List Nat) (p : Pn) : W := pw p.1 (valF p.2 pt)
def wr (pt : List Nat) : List Pn → W
  | [] => []
  | p :: r => wrt pt p ++ wr pt r
theorem wr_app (pt : List Nat) : ∀ a b, wr pt (a ++ b) = wr pt a ++ wr pt b
  | [], b => rfl
  | p :: r, b => by rw [List.cons_append, wr, wr, wr_app pt r b, List.append_assoc]
theorem wr_one (pt : List Nat) (p : Pn) : wr pt [p] = wrt pt p := by rw [wr, wr, List.append_nil]
theorem dot_zero : ∀ (m : Nat) (pt : List Nat), dot (List.replicate m 0) pt = 0
  | 0, _ => by simp [dot]
  | m + 1, [] => by simp [dot, List.replicate_succ]
  | m + 1, y :: ys => by rw [List.replicate_succ, dot, dot_zero m ys]; simp
theorem val_one (m : Nat) (pt : List Nat) : valF (one1 m) pt = 1 := by
  unfold valF one1
  simp [dot_zero]
theorem pw_one (w : W) : pw w 1 = w := by rw [pw_succ, pw_zero, List.append_nil]
theorem wrt_fix (pt : List Nat) (w : W) (m : Nat) : wrt pt (fixP w m) = w := by
  unfold wrt fixP
  rw [val_one, pw_one]
theorem last_split {α : Type} {l : List α} {q : α} (h : l.getLast? = some q) : l = l.dropLast ++ [q] := by
  obtain ⟨ne, e⟩ := List.getLast?_eq_some_iff.mp h
  subst e
  simp
theorem dot_add : ∀ (f g pt : List Nat), f.length = g.length → dot (List.zipWith (fun x y => x + y) f g) pt = dot f pt + dot g pt
  | [], [], _, _ => by simp [dot]
  | _ :: _, [], _, h => by simp at h
  | [], _ :: _, _, h => by simp at h
  | x :: f, y :: g, [], _ => by simp [dot]
  | x :: f, y :: g, z :: pt, h => by
    rw [List.zipWith_cons_cons, dot, dot, dot, dot_add f g pt (by simpa using h), Nat.add_mul]
    omega
theorem val_add {f g : F} (pt : List Nat) (h : f.length = g.length) : valF (addF f g) pt = valF f pt + valF g pt := by
  cases f with
  | nil =>
    cases g with
    | nil => simp [valF, addF, dot]
    | cons _ _ => simp at h
  | cons x f =>
    cases g with
    | nil => simp at h
    | cons y g =>
      unfold valF addF
      rw [List.zipWith_cons_cons]
      simp only [List.headD_cons, List.tail_cons]
      rw [dot_add f g pt (by simpa using h)]
      omega
theorem dot_times (k : Nat) : ∀ (f pt : List Nat), dot (f.map fun x => k * x) pt = k * dot f pt
  | [], _ => by simp [dot]
  | x :: f, [] => by simp [dot]
  | x :: f, y :: pt => by rw [List.map_cons, dot, dot, dot_times k f pt, Nat.mul_add, Nat.mul_assoc]
theorem val_times (k : Nat) (f : F) (pt : List Nat) : valF (timesF k f) pt = k * valF f pt := by
  cases f with
  | nil => simp [valF, timesF, dot]
  | cons x f =>
    unfold valF timesF
    rw [List.map_cons]
    simp only [List.headD_cons, List.tail_cons]
    rw [dot_times, Nat.mul_add]
/-- forms as they stand in a list for m unknowns -/
def LenF (m : Nat) (ps : List Pn) : Prop := ∀ p ∈ ps, p.2.length = m + 1
/-- the fixed pieces have the form of one -/
def FixOk (m : Nat) (ps : List Pn) : Prop := ∀ p ∈ ps, isPow p = false → p.2 = one1 m
theorem isPow_fix (w : W) (m : Nat) : isPow (fixP w m) = false := rfl
theorem wr_joinF {acc : List Pn} {m : Nat} (h : FixOk m acc) (w : W) (pt : List Nat) : wr pt (joinF acc w m) = wr pt acc ++ w := by
  unfold joinF
  split
  · next q hq =>
    have e := last_split hq
    have mem : q ∈ acc := List.mem_of_getLast? hq
    split
    · split
      · next z => rw [z, List.append_nil]
      · rw [wr_app, wr_one, wrt_fix]
    · next np =>
      have f1 := h q mem (by simpa using np)
      have wq : wrt pt q = q.1 := by unfold wrt; rw [f1, val_one, pw_one]
      have ew : wr pt acc = wr pt acc.dropLast ++ q.1 := by
        conv => lhs; rw [e]
        rw [wr_app, wr_one, wq]
      split
      · next z =>
        rw [ew]
        have z1 := (List.append_eq_nil_iff.mp z).1
        have z2 := (List.append_eq_nil_iff.mp z).2
        rw [z1, z2, List.append_nil, List.append_nil]
      · rw [wr_app, wr_one, wrt_fix, ew, List.append_assoc]
  · split
    · next z => rw [z, List.append_nil]
    · rw [wr_app, wr_one, wrt_fix]
theorem wr_pushP {acc : List Pn} {m : Nat} (h : LenF m acc) {u : W} {f : F} (hf : f.length = m + 1) (pt : List Nat) : wr pt (pushP acc u f) = wr pt acc ++ wrt pt (u, f) := by
  unfold pushP
  split
  · next q hq =>
    have e := last_split hq
    have mem : q ∈ acc := List.mem_of_getLast? hq
    split
    · next z =>
      have ew : wr pt acc = wr pt acc.dropLast ++ wrt pt q := by
        conv => lhs; rw [e]
        rw [wr_app, wr_one]
      rw [wr_app, wr_one, ew, List.append_assoc]
      congr 1
      show pw u (valF (addF q.2 f) pt) = pw q.1 (valF q.2 pt) ++ pw u (valF f pt)
      rw [val_add pt (by rw [h q mem, hf]), pw_add, z.2]
    · rw [wr_app, wr_one]
  · rw [wr_app, wr_one]

/-! ### the fold's facts -/
theorem get_dropLast {α : Type} {l : List α} {i : Nat} {x : α} (h : l.dropLast[i]? = some x) : l[i]? = some x := by
  rw [List.getElem?_dropLast] at h
  split at h
  · exact h
  · cases h
theorem mem_dropLast {α : Type} {l : List α} {x : α} (h : x ∈ l.dropLast) : x ∈ l := List.dropLast_subset _ h
structure NormP (m : Nat) (p : Pn) : Prop where
  ne : p.1 ≠ []
  len : p.2.length = m + 1
  fix : isPow p = false → p.2 = one1 m
  pow : isPow p = true → Prim p.1 ∧ isOpen p.2 = true
structure Adj (p q : Pn) : Prop where
  fix : isPow p = false → isPow q = true ∧ p.1.getLast? ≠ q.1.getLast?
  pow : isPow p = true → isPow q = true → p.1 ≠ q.1
structure Nm (m : Nat) (ps : List Pn) : Prop where
  all : ∀ p ∈ ps, NormP m p
  adj : ∀ i p q, ps[i]? = some p → ps[i + 1]? = some q → Adj p q
theorem Nm.nil {m : Nat} : Nm m [] := ⟨fun p h => absurd h List.not_mem_nil, fun i p q h => by simp at h⟩
theorem Nm.init {m : Nat} {l : List Pn} (h : Nm m l) : Nm m l.dropLast :=
  ⟨fun p hp => h.all p (mem_dropLast hp), fun i p q hp hq => h.adj i p q (get_dropLast hp) (get_dropLast hq)⟩
theorem Nm.snoc {m : Nat} {l : List Pn} {p : Pn} (h : Nm m l) (hp : NormP m p) (ha : ∀ q, l.getLast? = some q → Adj q p) : Nm m (l ++ [p]) := by
  refine ⟨fun q hq => ?_, fun i a b hi hj => ?_⟩
  · rcases List.mem_append.mp hq with z | z
    · exact h.all q z
    · rw [List.mem_singleton.mp z]
      exact hp
  · by_cases z : i + 1 < l.length
    · rw [List.getElem?_append_left (by omega)] at hi
      rw [List.getElem?_append_left z] at hj
      exact h.adj i a b hi hj
    · by_cases y : i + 1 = l.length
      · rw [List.getElem?_append_left (by omega)] at hi
        rw [List.getElem?_append_right (by omega), y, Nat.sub_self] at hj
        cases hj
        refine ha a ?_
        rw [List.getLast?_eq_getElem?, ← hi]
        congr 1
        omega
      · rw [List.getElem?_append_right (by omega), List.getElem?_eq_none (by simp; omega)] at hj
        cases hj
/-- the piece ahead of the last one -/
theorem Nm.pre {m : Nat} {l : List Pn} {p q : Pn} (h : Nm m l) (hp : l.getLast? = some p) (hq : l.dropLast.getLast? = some q) : Adj q p := by
  rw [List.getLast?_eq_getElem?] at hp hq
  have hq' := get_dropLast hq
  rw [List.length_dropLast] at hq'
  have hl := (List.getElem?_eq_some_iff.mp hq).1
  rw [List.length_dropLast] at hl
  refine h.adj (l.length - 1 - 1) q p hq' ?_
  rw [← hp]
  congr 1
  omega
theorem fixP_norm {m : Nat} {w : W} (h : w ≠ []) : NormP m (fixP w m) := ⟨h, by simp [fixP, one1], fun _ => rfl, fun z => by cases z⟩
/-- a fixed word behind a normal list -/
theorem nm_joinF {m : Nat} {acc : List Pn} (h : Nm m acc) (w : W) : Nm m (joinF acc w m) := by
  unfold joinF
  split
  · next q hq =>
    split
    · next pq =>
      split
      · exact h
      · next ne =>
        refine h.snoc (fixP_norm ne) fun q' hq' => ?_
        rw [hq] at hq'
        cases hq'
        exact ⟨fun z => (by rw [pq] at z; cases z), fun _ z => (by cases z)⟩
    · next pq =>
      split
      · exact h.init
      · next ne =>
        refine h.init.snoc (fixP_norm ne) fun q' hq' => ?_
        have a := h.pre hq hq'
        have pq' : isPow q = false := by simpa using pq
        exact ⟨fun z => (by have := (a.fix z).1; rw [pq'] at this; cases this), fun _ z => (by cases z)⟩
  · next hn =>
    split
    · exact h
    · next ne =>
      refine h.snoc (fixP_norm ne) fun q' hq' => ?_
      rw [hn] at hq'
      cases hq'
theorem isOpen_iff {f : F} : isOpen f = true ↔ ∃ x ∈ f.tail, x ≠ 0 := by
  unfold isOpen
  rw [List.any_eq_true]
  constructor
  · rintro ⟨x, hx, h⟩
    exact ⟨x, hx, by simpa using h⟩
  · rintro ⟨x, hx, h⟩
    exact ⟨x, hx, by simpa using h⟩
theorem open_add {f g : F} (hl : f.length = g.length) (h : isOpen g = true) : isOpen (addF f g) = true := by
  obtain ⟨x, hx, h0⟩ := isOpen_iff.mp h
  refine isOpen_iff.mpr ?_
  cases f with
  | nil =>
    cases g with
    | nil => cases hx
    | cons _ _ => simp at hl
  | cons a f =>
    cases g with
    | nil => simp at hl
    | cons b g =>
      obtain ⟨i, hi⟩ := List.getElem?_of_mem (show x ∈ g from hx)
      have hi2 := (List.getElem?_eq_some_iff.mp hi).1
      have hf : i < f.length := by simp at hl; omega
      refine ⟨f[i] + x, ?_, by omega⟩
      refine List.mem_of_getElem? (i := i) ?_
      show (List.zipWith (fun x y => x + y) f g)[i]? = _
      rw [List.getElem?_zipWith, List.getElem?_eq_getElem hf, hi]
theorem len_add {f g : F} (hl : f.length = g.length) : (addF f g).length = g.length := by
  unfold addF
  rw [List.length_zipWith]
  omega
theorem head_add {f g : F} (hl : f.length = g.length) (h1 : f.headD 0 = 0) (h2 : g.headD 0 = 0) : (addF f g).headD 0 = 0 := by
  cases f with
  | nil => simp [addF]
  | cons a f =>
    cases g with
    | nil => simp at hl
    | cons b g =>
      simp only [List.headD_cons] at h1 h2
      show a + b = 0
      omega
theorem pow_norm {m : Nat} {u : W} {f : F} (hu : Prim u) (hl : f.length = m + 1) (h0 : f.headD 0 = 0) (ho : isOpen f = true) : NormP m (u, f) ∧ isPow (u, f) = true := by
  have e : isPow (u, f) = true := decide_eq_true h0
  exact ⟨⟨hu.1, hl, fun z => (by rw [e] at z; cases z), fun _ => ⟨hu, ho⟩⟩, e⟩
/-- a power behind what does not end with its last letter -/
theorem nm_pushP {m : Nat} {acc : List Pn} (h : Nm m acc) {u : W} {f : F} (hu : Prim u) (hl : f.length = m + 1) (h0 : f.headD 0 = 0) (ho : isOpen f = true)
    (hx : ∀ q, acc.getLast? = some q → isPow q = false → q.1.getLast? ≠ u.getLast?) : Nm m (pushP acc u f) ∧ ∃ g, (pushP acc u f).getLast? = some (u, g) ∧ isPow (u, g) = true := by
  obtain ⟨np, pp⟩ := pow_norm hu hl h0 ho
  unfold pushP
  split
  · next q hq =>
    have mq := h.all q (List.mem_of_getLast? hq)
    split
    · next z =>
      obtain ⟨z1, z2⟩ := z
      have lq : q.2.length = f.length := by rw [mq.len, hl]
      have hq0 : q.2.headD 0 = 0 := of_decide_eq_true z1
      obtain ⟨np2, pp2⟩ := pow_norm (m := m) (f := addF q.2 f) hu (by rw [len_add lq, hl]) (head_add lq hq0 h0) (open_add lq ho)
      refine ⟨h.init.snoc np2 fun q' hq' => ?_, _, by simp, pp2⟩
      have a := h.pre hq hq'
      exact ⟨fun y => ⟨pp2, by have := (a.fix y).2; rw [z2] at this; exact this⟩, fun y _ => by have := a.pow y z1; rw [z2] at this; exact this⟩
    · next z =>
      refine ⟨h.snoc np fun q' hq' => ?_, _, by simp, pp⟩
      rw [hq] at hq'
      cases hq'
      exact ⟨fun y => ⟨pp, hx q hq y⟩, fun y _ e => z ⟨y, e⟩⟩
  · next hn =>
    refine ⟨h.snoc np fun q' hq' => ?_, _, by simp, pp⟩
    rw [hn] at hq'
    cases hq'
theorem joinF_nil {acc : List Pn} {q : Pn} {m : Nat} (h : acc.getLast? = some q) (hp : isPow q = true) : joinF acc [] m = acc := by
  unfold joinF
  rw [h]
  simp [hp]
theorem nm_putP {m : Nat} {acc : List Pn} (h : Nm m acc) {u : W} {f : F} (hu : Prim u) (hl : f.length = m + 1) (h0 : f.headD 0 = 0) (ho : isOpen f = true) : Nm m (putP acc u f) := by
  have em : f.length - 1 = m := by omega
  unfold putP
  rw [em]
  split
  · next q hq =>
    split
    · next pq =>
      exact nm_joinF (nm_pushP h hu hl h0 ho fun q' hq' z => by rw [hq] at hq'; cases hq'; rw [pq] at z; cases z).1 _
    · next pq =>
      have pq' : isPow q = false := by simpa using pq
      refine nm_joinF (nm_pushP (nm_joinF h.init _) (prim_rotR hu _) hl h0 ho fun q' hq' z => ?_).1 _
      by_cases e : q.1.take (q.1.length - movedE q.1 u) = []
      · -- nothing is left of the fixed piece: what is ahead is a power
        exfalso
        rw [e] at hq'
        have : joinF acc.dropLast [] m = acc.dropLast := by
          cases hd : acc.dropLast.getLast? with
          | none =>
            unfold joinF
            rw [hd]
            simp
          | some r =>
            have a := h.pre hq hd
            have pr : isPow r = true := by
              cases y : isPow r with
              | true => rfl
              | false =>
                have := (a.fix y).1
                rw [pq'] at this
                cases this
            exact joinF_nil hd pr
        rw [this] at hq'
        have a := h.pre hq hq'
        have := (a.fix z).1
        rw [pq'] at this
        cases this
      · have lt : movedE q.1 u < q.1.length := by
          have := List.length_pos_iff.mpr e
          rw [List.length_take] at this
          omega
        have eq : joinF acc.dropLast (q.1.take (q.1.length - movedE q.1 u)) m = acc.dropLast ++ [fixP (q.1.take (q.1.length - movedE q.1 u)) m] := by
          unfold joinF
          split
          · next r hr =>
            have a := h.pre hq hr
            have pr : isPow r = true := by
              cases y : isPow r with
              | true => rfl
              | false =>
                have := (a.fix y).1
                rw [pq'] at this
                cases this
            rw [if_pos pr, if_neg e]
          · rw [if_neg e]
        rw [eq] at hq'
        rw [List.getLast?_append] at hq'
        cases hq'
        exact moved_next hu.1 lt
  · next hn =>
    exact nm_joinF (nm_pushP h hu hl h0 ho fun q' hq' => by rw [hn] at hq'; cases hq').1 _
theorem open_times {k : Nat} (hk : 0 < k) {f : F} (h : isOpen f = true) : isOpen (timesF k (0 :: f.tail)) = true := by
  obtain ⟨x, hx, h0⟩ := isOpen_iff.mp h
  refine isOpen_iff.mpr ⟨k * x, List.mem_map.mpr ⟨x, hx, rfl⟩, ?_⟩
  have := Nat.mul_pos hk (Nat.pos_of_ne_zero h0)
  omega
theorem root_times {w : W} (h : w ≠ []) : 0 < w.length / rootN w := Nat.div_pos (rootN_le h) (rootN_pos h)
theorem nm_stepA {m : Nat} {acc : List Pn} (h : Nm m acc) {p : Pn} (hl : p.2.length = m + 1) : Nm m (stepA acc p) := by
  unfold stepA
  split
  · next z =>
    refine nm_putP h (root_prim z.1) ?_ ?_ (open_times (root_times z.1) z.2)
    · unfold timesF
      simp [hl]
    · simp [timesF]
  · exact h
theorem nm_stepB {m : Nat} {acc : List Pn} (h : Nm m acc) {p : Pn} (hl : p.2.length = m + 1) : Nm m (stepB acc p) := by
  unfold stepB
  split
  · have e : p.2.length - 1 = m := by omega
    rw [e]
    exact nm_joinF h _
  · exact h
theorem nm_fold {m : Nat} : ∀ (ps acc : List Pn), Nm m acc → LenF m ps → Nm m (ps.foldl stepN acc)
  | [], _, h, _ => h
  | p :: r, acc, h, hl => nm_fold r _ (nm_stepB (nm_stepA h (hl p List.mem_cons_self)) (hl p List.mem_cons_self)) fun q hq => hl q (List.mem_cons_of_mem _ hq)
theorem nm_normL {m : Nat} {ps : List Pn} (h : LenF m ps) : Nm m (normL ps) := nm_fold ps [] .nil h
theorem Nm.lenF {m : Nat} {ps : List Pn} (h : Nm m ps) : LenF m ps := fun p hp => (h.all p hp).len
theorem Nm.fixOk {m : Nat} {ps : List Pn} (h : Nm m ps) : FixOk m ps := fun p hp => (h.all p hp).fix
/-! ### what is written stays -/
theorem wr_putP {m : Nat} {acc : List Pn} (h : Nm m acc) {u : W} {f : F} (hu : Prim u) (hl : f.length = m + 1) (h0 : f.headD 0 = 0) (ho : isOpen f = true) (pt : List Nat) : wr pt (putP acc u f) = wr pt acc ++ wrt pt (u, f) := by
  have em : f.length - 1 = m := by omega
  have one : ∀ {acc : List Pn}, Nm m acc → (∀ q, acc.getLast? = some q → isPow q = true) → wr pt (joinF (pushP acc u f) [] m) = wr pt acc ++ wrt pt (u, f) := fun {acc} h hp => by
    obtain ⟨n, g, hg, pg⟩ := nm_pushP h hu hl h0 ho fun q' hq' z => by rw [hp q' hq'] at z; cases z
    rw [joinF_nil hg pg, wr_pushP h.lenF hl]
  unfold putP
  rw [em]
  split
  · next q hq =>
    split
    · next pq => exact one h fun q' hq' => by rw [hq] at hq'; cases hq'; exact pq
    · next pq =>
      have pq' : isPow q = false := by simpa using pq
      have e := last_split hq
      have mq := h.all q (List.mem_of_getLast? hq)
      have wq : wrt pt q = q.1 := by unfold wrt; rw [mq.fix pq', val_one, pw_one]
      have n1 := nm_joinF h.init (q.1.take (q.1.length - movedE q.1 u)) (m := m)
      have n2 : Nm m (putP acc u f) := nm_putP h hu hl h0 ho
      have l2 : FixOk m (pushP (joinF acc.dropLast (q.1.take (q.1.length - movedE q.1 u)) m) (rotR u (movedE q.1 u)) f) := by
        intro p hp z
        unfold pushP at hp
        have pr : isPow (rotR u (movedE q.1 u), f) = true := decide_eq_true h0
        split at hp
        · next r hr =>
          split at hp
          · next y =>
            rcases List.mem_append.mp hp with x | x
            · exact n1.fixOk p (mem_dropLast x) z
            · rw [List.mem_singleton.mp x] at z
              have : isPow (rotR u (movedE q.1 u), addF r.2 f) = true := decide_eq_true (head_add (by rw [n1.lenF r (List.mem_of_getLast? hr), hl]) (of_decide_eq_true y.1) h0)
              rw [this] at z
              cases z
          · rcases List.mem_append.mp hp with x | x
            · exact n1.fixOk p x z
            · rw [List.mem_singleton.mp x, pr] at z
              cases z
        · rcases List.mem_append.mp hp with x | x
          · exact n1.fixOk p x z
          · rw [List.mem_singleton.mp x, pr] at z
            cases z
      rw [wr_joinF l2, wr_pushP n1.lenF hl, wr_joinF h.init.fixOk]
      have ew : wr pt acc = wr pt acc.dropLast ++ q.1 := by
        conv => lhs; rw [e]
        rw [wr_app, wr_one, wq]
      rw [ew, moved_drop hu.1]
      have mv := move_pw u (movedE q.1 u) (valF f pt)
      rw [List.append_assoc, List.append_assoc, List.append_assoc]
      congr 1
      show q.1.take _ ++ (pw (rotR u (movedE q.1 u)) (valF f pt) ++ tailE u (movedE q.1 u)) = q.1 ++ pw u (valF f pt)
      rw [mv, ← moved_drop hu.1, ← List.append_assoc, List.take_append_drop]
  · next hn => exact one h fun q' hq' => by rw [hn] at hq'; cases hq'
theorem pw_mul (w : W) (a : Nat) : ∀ b, pw (pw w a) b = pw w (a * b)
  | 0 => by simp [pw]
  | b + 1 => by rw [pw_succ, pw_mul w a b, ← pw_add, Nat.mul_succ, Nat.add_comm]
theorem pw_nil (n : Nat) : pw [] n = [] := List.length_eq_zero_iff.mp (by rw [pw_len]; simp)
theorem val_split (f : F) (pt : List Nat) : valF f pt = valF (0 :: f.tail) pt + f.headD 0 := by
  unfold valF
  simp
  omega
theorem dot_closed : ∀ {f : List Nat}, (∀ x ∈ f, x = 0) → ∀ pt : List Nat, dot f pt = 0
  | [], _, _ => by simp [dot]
  | x :: f, h, [] => by simp [dot]
  | x :: f, h, y :: pt => by
    rw [dot, dot_closed (fun z hz => h z (List.mem_cons_of_mem _ hz)) pt, h x List.mem_cons_self]
    simp
theorem wr_stepN {m : Nat} {acc : List Pn} (h : Nm m acc) {p : Pn} (hl : p.2.length = m + 1) (pt : List Nat) : wr pt (stepN acc p) = wr pt acc ++ wrt pt p := by
  have hA := nm_stepA h hl
  have wA : wr pt (stepA acc p) = wr pt acc ++ pw p.1 (valF (0 :: p.2.tail) pt) := by
    unfold stepA
    split
    · next z =>
      have lt : (timesF (p.1.length / rootN p.1) (0 :: p.2.tail)).length = m + 1 := by unfold timesF; simp [hl]
      rw [wr_putP h (root_prim z.1) lt (by simp [timesF]) (open_times (root_times z.1) z.2)]
      congr 1
      show pw (p.1.take (rootN p.1)) (valF (timesF _ _) pt) = _
      rw [val_times, ← pw_mul, ← root_pw z.1]
    · next z =>
      by_cases ne : p.1 = []
      · rw [ne, pw_nil, List.append_nil]
      · have hc : ∀ x ∈ p.2.tail, x = 0 := fun x hx => Classical.byContradiction fun y => z ⟨ne, isOpen_iff.mpr ⟨x, hx, y⟩⟩
        rw [show valF (0 :: p.2.tail) pt = 0 by unfold valF; simp [dot_closed hc], pw_zero, List.append_nil]
  have wB : wr pt (stepB (stepA acc p) p) = wr pt (stepA acc p) ++ pw p.1 (p.2.headD 0) := by
    unfold stepB
    split
    · have e : p.2.length - 1 = m := by omega
      rw [e, wr_joinF hA.fixOk]
    · next z =>
      by_cases ne : p.1 = []
      · rw [ne, pw_nil, List.append_nil]
      · have : p.2.headD 0 = 0 := Classical.byContradiction fun y => z ⟨ne, y⟩
        rw [this, pw_zero, List.append_nil]
  unfold stepN
  rw [wB, wA, List.append_assoc, ← pw_add, ← val_split]
  rfl
theorem wr_fold {m : Nat} (pt : List Nat) : ∀ (ps acc : List Pn), Nm m acc → LenF m ps → wr pt (ps.foldl stepN acc) = wr pt acc ++ wr pt ps
  | [], acc, _, _ => by simp [wr]
  | p :: r, acc, h, hl => by
    have lp := hl p List.mem_cons_self
    rw [List.foldl_cons, show stepN acc p = stepB (stepA acc p) p from rfl, wr_fold pt r _ (nm_stepB (nm_stepA h lp) lp) (fun q hq => hl q (List.mem_cons_of_mem _ hq)), show stepB (stepA acc p) p = stepN acc p from rfl, wr_stepN h lp, List.append_assoc]
    rfl
/-- the normal list writes the same -/
theorem wr_normL {m : Nat} {ps : List Pn} (h : LenF m ps) (pt : List Nat) : wr pt (normL ps) = wr pt ps := wr_fold pt ps [] .nil h
end NM

set_option linter.all false
set_option maxRecDepth 100000
namespace NM
open WM
/-! ### the measure -/
def measP (p : Pn) : Nat := p.1.length * (p.2.headD 0 + (if isOpen p.2 then 1 else 0))
def meas (ps : List Pn) : Nat := (ps.map measP).sum
theorem meas_app (a b : List Pn) : meas (a ++ b) = meas a + meas b := by unfold meas; rw [List.map_append, List.sum_append]
theorem meas_one (p : Pn) : meas [p] = measP p := by simp [meas]
theorem open_one (m : Nat) : isOpen (one1 m) = false := by
  unfold isOpen one1
  rw [List.any_eq_false]
  intro x hx
  have := List.eq_of_mem_replicate (show x ∈ List.replicate m 0 from hx)
  simp [this]
theorem measP_fix (w : W) (m : Nat) : measP (fixP w m) = w.length := by
  unfold measP fixP
  simp only [open_one]
  simp [one1]
theorem meas_last {l : List Pn} {q : Pn} (h : l.getLast? = some q) : meas l = meas l.dropLast + measP q := by
  conv => lhs; rw [last_split h]
  rw [meas_app, meas_one]
theorem meas_joinF {m : Nat} {acc : List Pn} (h : FixOk m acc) (w : W) : meas (joinF acc w m) = meas acc + w.length := by
  unfold joinF
  split
  · next q hq =>
    split
    · split
      · next z => rw [z]; rfl
      · rw [meas_app, meas_one, measP_fix]
    · next np =>
      have f1 := h q (List.mem_of_getLast? hq) (by simpa using np)
      have mq : measP q = q.1.length := by
        have : q = fixP q.1 m := by unfold fixP; rw [← f1]
        conv => lhs; rw [this]
        rw [measP_fix]
      have ml := meas_last hq
      split
      · next z =>
        have z1 := congrArg List.length z
        rw [List.length_append, List.length_nil] at z1
        omega
      · rw [meas_app, meas_one, measP_fix, List.length_append]
        omega
  · split
    · next z => rw [z]; rfl
    · rw [meas_app, meas_one, measP_fix]
theorem measP_pow {u : W} {f : F} (h0 : f.headD 0 = 0) : measP (u, f) ≤ u.length := by
  unfold measP
  simp only [h0, Nat.zero_add]
  split
  · rw [Nat.mul_one]
    exact Nat.le_refl _
  · rw [Nat.mul_zero]
    exact Nat.zero_le _
theorem meas_pushP {acc : List Pn} {u : W} {f : F} (h0 : f.headD 0 = 0) (hx : ∀ q, acc.getLast? = some q → isPow q = true → q.1 = u → (addF q.2 f).headD 0 = 0 ∧ u.length ≤ measP q) : meas (pushP acc u f) ≤ meas acc + u.length := by
  unfold pushP
  split
  · next q hq =>
    have ml := meas_last hq
    split
    · next z =>
      obtain ⟨a, b⟩ := hx q hq z.1 z.2
      have := measP_pow (u := u) a
      rw [meas_app, meas_one]
      omega
    · have := measP_pow (u := u) h0
      rw [meas_app, meas_one]
      omega
  · have := measP_pow (u := u) h0
    rw [meas_app, meas_one]
    omega
theorem measP_le {m : Nat} {q : Pn} (h : NormP m q) : q.1.length ≤ measP q := by
  unfold measP
  cases e : isPow q with
  | false =>
    rw [h.fix e]
    simp [one1]
    exact Nat.le_mul_of_pos_right _ (by omega)
  | true =>
    rw [if_pos (h.pow e).2]
    exact Nat.le_mul_of_pos_right _ (by omega)
theorem meas_pushN {m : Nat} {acc : List Pn} (h : Nm m acc) {u : W} {f : F} (hl : f.length = m + 1) (h0 : f.headD 0 = 0) : meas (pushP acc u f) ≤ meas acc + u.length :=
  meas_pushP h0 fun q hq pq e => by
    have nq := h.all q (List.mem_of_getLast? hq)
    refine ⟨head_add (by rw [nq.len, hl]) (of_decide_eq_true pq) h0, ?_⟩
    rw [← e]
    exact measP_le nq
theorem fix_pushP {m : Nat} {acc : List Pn} (h : Nm m acc) {u : W} {f : F} (hl : f.length = m + 1) (h0 : f.headD 0 = 0) : FixOk m (pushP acc u f) := by
  intro p hp z
  unfold pushP at hp
  have pr : isPow (u, f) = true := decide_eq_true h0
  split at hp
  · next r hr =>
    split at hp
    · next y =>
      rcases List.mem_append.mp hp with x | x
      · exact h.fixOk p (mem_dropLast x) z
      · rw [List.mem_singleton.mp x] at z
        have : isPow (u, addF r.2 f) = true := decide_eq_true (head_add (by rw [h.lenF r (List.mem_of_getLast? hr), hl]) (of_decide_eq_true y.1) h0)
        rw [this] at z
        cases z
    · rcases List.mem_append.mp hp with x | x
      · exact h.fixOk p x z
      · rw [List.mem_singleton.mp x, pr] at z
        cases z
  · rcases List.mem_append.mp hp with x | x
    · exact h.fixOk p x z
    · rw [List.mem_singleton.mp x, pr] at z
      cases z
theorem meas_putP {m : Nat} {acc : List Pn} (h : Nm m acc) {u : W} {f : F} (hl : f.length = m + 1) (h0 : f.headD 0 = 0) : meas (putP acc u f) ≤ meas acc + u.length := by
  have em : f.length - 1 = m := by omega
  have one : ∀ {acc : List Pn}, Nm m acc → meas (joinF (pushP acc u f) [] m) ≤ meas acc + u.length := fun {acc} h => by
    rw [meas_joinF (fix_pushP h hl h0)]
    exact meas_pushN h hl h0
  unfold putP
  rw [em]
  split
  · next q hq =>
    split
    · exact one h
    · next pq =>
      have pq' : isPow q = false := by simpa using pq
      have mq := h.all q (List.mem_of_getLast? hq)
      have e : measP q = q.1.length := by
        have : q = fixP q.1 m := by unfold fixP; rw [← mq.fix pq']
        conv => lhs; rw [this]
        rw [measP_fix]
      have ml := meas_last hq
      have n1 := nm_joinF h.init (q.1.take (q.1.length - movedE q.1 u)) (m := m)
      rw [meas_joinF (fix_pushP n1 hl h0)]
      have a := meas_pushN n1 (u := rotR u (movedE q.1 u)) hl h0
      rw [meas_joinF h.init.fixOk, List.length_take, rotR_len] at a
      rw [List.length_drop]
      have := movedE_le q.1 u
      omega
  · exact one h
theorem meas_stepN {m : Nat} {acc : List Pn} (h : Nm m acc) {p : Pn} (hl : p.2.length = m + 1) : meas (stepN acc p) ≤ meas acc + measP p := by
  have hA := nm_stepA h hl
  have a : meas (stepA acc p) ≤ meas acc + p.1.length * (if isOpen p.2 then 1 else 0) := by
    unfold stepA
    split
    · next z =>
      have lt : (timesF (p.1.length / rootN p.1) (0 :: p.2.tail)).length = m + 1 := by unfold timesF; simp [hl]
      have := meas_putP h (u := p.1.take (rootN p.1)) lt (by simp [timesF])
      rw [if_pos z.2]
      rw [List.length_take] at this
      omega
    · omega
  have b : meas (stepB (stepA acc p) p) ≤ meas (stepA acc p) + p.1.length * p.2.headD 0 := by
    unfold stepB
    split
    · have e : p.2.length - 1 = m := by omega
      rw [e, meas_joinF hA.fixOk, pw_len]
      exact Nat.le_refl _
    · omega
  unfold stepN measP
  rw [Nat.mul_add]
  omega
theorem meas_fold {m : Nat} : ∀ (ps acc : List Pn), Nm m acc → LenF m ps → meas (ps.foldl stepN acc) ≤ meas acc + meas ps
  | [], acc, _, _ => by simp [meas]
  | p :: r, acc, h, hl => by
    have lp := hl p List.mem_cons_self
    have a := meas_stepN h lp
    have b := meas_fold r (stepN acc p) (nm_stepB (nm_stepA h lp) lp) fun q hq => hl q (List.mem_cons_of_mem _ hq)
    rw [List.foldl_cons]
    have : meas (p :: r) = measP p + meas r := by simp [meas]
    omega
theorem meas_normL {m : Nat} {ps : List Pn} (h : LenF m ps) : meas (normL ps) ≤ meas ps := by
  have := meas_fold ps [] (Nm.nil (m := m)) h
  unfold normL
  have e : meas [] = 0 := rfl
  omega
/-! ### a normal list stays -/
theorem joinF_app {m : Nat} {acc : List Pn} {w : W} (hw : w ≠ []) (h : ∀ q, acc.getLast? = some q → isPow q = true) : joinF acc w m = acc ++ [fixP w m] := by
  unfold joinF
  split
  · next q hq => rw [if_pos (h q hq), if_neg hw]
  · rw [if_neg hw]
theorem pushP_app {acc : List Pn} {u : W} {f : F} (h : ∀ q, acc.getLast? = some q → ¬ (isPow q = true ∧ q.1 = u)) : pushP acc u f = acc ++ [(u, f)] := by
  unfold pushP
  split
  · next q hq => rw [if_neg (h q hq)]
  · rfl
theorem prim_root {w : W} (h : Prim w) : rootN w = w.length := h.2 _ (rootN_pos h.1) (rootN_dvd w) (rootN_per w)
theorem times_one {f : F} (h : f.headD 0 = 0) (hl : 0 < f.length) : timesF 1 (0 :: f.tail) = f := by
  cases f with
  | nil => simp at hl
  | cons a f =>
    simp only [List.headD_cons] at h
    subst h
    simp [timesF]
theorem step_fix {m : Nat} {l : List Pn} {p : Pn} (h : Nm m l) (hp : NormP m p) (ha : ∀ q, l.getLast? = some q → Adj q p) : stepN l p = l ++ [p] := by
  cases e : isPow p with
  | false =>
    have f1 := hp.fix e
    have ep : fixP p.1 m = p := by unfold fixP; rw [← f1]
    have no : isOpen p.2 = false := by rw [f1, open_one]
    have h1 : p.2.headD 0 = 1 := by rw [f1]; rfl
    have eA : stepA l p = l := by
      unfold stepA
      rw [if_neg fun z => by rw [no] at z; exact Bool.false_ne_true z.2]
    unfold stepN
    rw [eA]
    unfold stepB
    rw [if_pos ⟨hp.ne, by rw [h1]; decide⟩, h1, pw_one, show p.2.length - 1 = m by rw [hp.len]; rfl, joinF_app hp.ne fun q hq => ?_, ep]
    cases y : isPow q with
    | true => rfl
    | false =>
      have := ((ha q hq).fix y).1
      rw [e] at this
      cases this
  | true =>
    obtain ⟨pr, op⟩ := hp.pow e
    have h0 : p.2.headD 0 = 0 := of_decide_eq_true e
    have n0 := List.length_pos_iff.mpr hp.ne
    have eA : stepA l p = putP l p.1 p.2 := by
      unfold stepA
      rw [if_pos ⟨hp.ne, op⟩, prim_root pr, List.take_length, Nat.div_self n0, times_one h0 (by rw [hp.len]; omega)]
    have eB : ∀ acc, stepB acc p = acc := fun acc => by
      unfold stepB
      rw [if_neg fun z => z.2 h0]
    have last : ∀ l : List Pn, (l ++ [p]).getLast? = some p := fun l => by simp
    unfold stepN
    rw [eB, eA]
    unfold putP
    rw [show p.2.length - 1 = m by rw [hp.len]; rfl]
    split
    · next q hq =>
      have a := ha q hq
      split
      · next pq =>
        rw [pushP_app fun q' hq' => by rw [hq] at hq'; cases hq'; exact fun z => a.pow pq e z.2]
        exact joinF_nil (last l) e
      · next pq =>
        have pq' : isPow q = false := by simpa using pq
        have mq := h.all q (List.mem_of_getLast? hq)
        have mz : movedE q.1 p.1 = 0 := moved_zero hp.ne mq.ne (a.fix pq').2
        have el : joinF l.dropLast q.1 m = l := by
          rw [joinF_app mq.ne fun r hr => ?_]
          · have : fixP q.1 m = q := by unfold fixP; rw [← mq.fix pq']
            rw [this]
            exact (last_split hq).symm
          · have b := h.pre hq hr
            cases y : isPow r with
            | true => rfl
            | false =>
              have := (b.fix y).1
              rw [pq'] at this
              cases this
        rw [mz, Nat.sub_zero, List.take_length, List.drop_length, rotR_zero, el, pushP_app fun q' hq' => by rw [hq] at hq'; cases hq'; exact fun z => pq z.1]
        exact joinF_nil (last l) e
    · next hn =>
      rw [pushP_app fun q' hq' => by rw [hn] at hq'; cases hq']
      exact joinF_nil (last l) e
theorem Nm.take {m : Nat} {l : List Pn} (h : Nm m l) (i : Nat) : Nm m (l.take i) := by
  refine ⟨fun p hp => h.all p (List.mem_of_mem_take hp), fun j p q hj hq => ?_⟩
  rw [List.getElem?_take] at hj hq
  split at hq
  · split at hj
    · exact h.adj j p q hj hq
    · cases hj
  · cases hq
theorem normL_take {m : Nat} {ps : List Pn} (h : Nm m ps) : ∀ i, i ≤ ps.length → normL (ps.take i) = ps.take i
  | 0, _ => by simp [normL]
  | i + 1, hi => by
    have hp := List.getElem?_eq_getElem (show i < ps.length by omega)
    generalize ps[i] = p at hp
    have e : ps.take (i + 1) = ps.take i ++ [p] := by rw [List.take_succ, hp]; rfl
    rw [e]
    unfold normL
    rw [List.foldl_append]
    have := normL_take h i (by omega)
    unfold normL at this
    rw [this]
    refine step_fix (h.take i) (h.all p (List.mem_of_getElem? hp)) fun q hq => ?_
    rw [List.getLast?_eq_getElem?, List.length_take, Nat.min_eq_left (by omega)] at hq
    rw [List.getElem?_take] at hq
    split at hq
    · refine h.adj (i - 1) q p hq ?_
      rw [show i - 1 + 1 = i by omega]
      exact hp
    · cases hq
/-- a normal list is its own -/
theorem normL_id {m : Nat} {ps : List Pn} (h : Nm m ps) : normL ps = ps := by
  have := normL_take h ps.length (Nat.le_refl _)
  rw [List.take_length] at this
  exact this
end NM

set_option Elab.async false
set_option linter.all false
set_option maxRecDepth 100000
set_option maxHeartbeats 2000000
namespace K60
open PySem PySem.Spec PyProof.Rows L2 CK SX NM
/-! ### letters -/
def Low (w : List Nat) : Prop := ∀ c ∈ w, 97 ≤ c ∧ c ≤ 122
theorem low_cases {c : Nat} (h : 97 ≤ c ∧ c ≤ 122) : Unicode.isAlpha c = true ∧ Unicode.isLower c = true ∧ (Unicode.isUpper c || Unicode.isTitle c) = false := by
  have : c ∈ List.range' 97 26 := by
    rw [List.mem_range']
    exact ⟨c - 97, by omega, by omega⟩
  have all : (List.range' 97 26).all (fun c => Unicode.isAlpha c && Unicode.isLower c && !(Unicode.isUpper c || Unicode.isTitle c)) = true := by decide +kernel
  have := List.all_eq_true.mp all c this
  simp only [Bool.and_eq_true, Bool.not_eq_true'] at this
  exact ⟨this.1.1, this.1.2, this.2⟩
theorem low_ascii {w : List Nat} (h : Low w) : Txt.isascii (S w) = true := by
  unfold Txt.isascii
  rw [← Array.all_toList, List.all_eq_true]
  exact fun c hc => decide_eq_true (by have := h c hc; omega)
theorem low_alpha {w : List Nat} (h : Low w) (ne : w ≠ []) : Txt.isalpha (S w) = true := by
  unfold Txt.isalpha
  rw [← Array.all_toList, S_len, decide_eq_true (List.length_pos_iff.mpr ne), Bool.true_and, List.all_eq_true]
  exact fun c hc => (low_cases (h c hc)).1
theorem low_lower {w : List Nat} (h : Low w) (ne : w ≠ []) : Txt.islower (S w) = true := by
  unfold Txt.islower
  rw [← Array.any_toList, ← Array.any_toList, Bool.and_eq_true]
  constructor
  · obtain ⟨c, hc⟩ := List.exists_mem_of_ne_nil w ne
    exact List.any_eq_true.mpr ⟨c, hc, (low_cases (h c hc)).2.1⟩
  · rw [Bool.not_eq_true', List.any_eq_false]
    exact fun c hc => by rw [(low_cases (h c hc)).2.2]; exact Bool.false_ne_true
section
variable {P : Program} {w : World} {K : PySem.W.Frag} {mg : Str → Option Value} {base : Heap} {C : Addr}
/-! ### checks -/
def sp_is_whole : Sp := fun vs H Q _ => ∃ v, vs = [v] ∧ Kn H v ∧ Q (.bl (isW v)) H
theorem c_is_whole (T : Txt K mg C) : C8.Cal P w K mg base 1 "is_whole" sp_is_whole [] := by
  refine calF T.d_is_whole sc_is_whole (fun vs H Q E h => ?_) (fun f cdv A outer s H vs Q E hr h => ?_)
  · obtain ⟨v, rfl, _⟩ := h; rfl
  · obtain ⟨v, rfl, k, q⟩ := h
    refine ⟨_, (pss_one (ps_ret (pe_and (pe_callB call_isK (by rfl) T.m_isinstance (by decide +kernel) (pa_cons (pv 0) (pa_cons (pe_bltn (v := .ty "int") (by rfl) T.m_int (by decide +kernel) rfl) pa_nil))) (pe_one (pe_not (pe_callB call_isK (by rfl) T.m_isinstance (by decide +kernel) (pa_cons (pv 0) (pa_cons (pe_bltn (v := .ty "bool") (by rfl) T.m_bool (by decide +kernel) rfl) pa_nil)))))))), ?_⟩
    refine ⟨v, rfl, v, "int", _, rfl, k, kit_int k, _, rfl, ite2 (fun e => ?_) (fun e => ?_)⟩
    · refine ⟨v, rfl, v, "bool", _, rfl, k, kit_bool k, _, rfl, ?_⟩
      rw [show (!isBo v) = isW v by cases v <;> first | rfl | (exact absurd e Bool.false_ne_true)]
      exact q
    · rw [show false = isW v by cases v <;> first | rfl | (exact absurd rfl e)]
      exact q
def sp_is_count : Sp := fun vs H Q _ => ∃ v, vs = [v] ∧ Kn H v ∧ Q (.bl (isC v)) H
theorem c_is_count (T : Txt K mg C) : C8.Cal P w K mg base 2 "is_count" sp_is_count [] := by
  refine calF T.d_is_count sc_is_count (fun vs H Q E h => ?_) (fun f cdv A outer s H vs Q E hr h => ?_)
  · obtain ⟨v, rfl, _⟩ := h; rfl
  · obtain ⟨v, rfl, k, q⟩ := h
    refine ⟨_, (pss_one (ps_ret (pe_and (C8.pe_c (c_is_whole T) hr (by decide) (by rfl) (pa_cons (pv 0) pa_nil)) (pe_one (pe_cmpR op_ge (pv 0) pe_int (nomark _)))))), ?_⟩
    refine ⟨v, rfl, v, rfl, k, _, rfl, ite2 (fun e => ?_) (fun e => ?_)⟩
    · cases v <;> first | (exact absurd e Bool.false_ne_true) | exact ⟨_, rfl, _, 0, rfl, rfl, q⟩
    · rw [show false = isC v by cases v <;> first | rfl | (exact absurd rfl e)]
      exact q
def sp_is_within : Sp := fun vs H Q _ => ∃ i lo hi : Int, vs = [.int i, .int lo, .int hi] ∧ Q (.bl (decide (lo ≤ i) && decide (i ≤ hi))) H
theorem c_is_within (T : Txt K mg C) : C8.Cal P w K mg base 2 "is_within" sp_is_within [] := by
  refine calF T.d_is_within sc_is_within (fun vs H Q E h => ?_) (fun f cdv A outer s H vs Q E hr h => ?_)
  · obtain ⟨i, lo, hi, rfl, _⟩ := h; rfl
  · obtain ⟨i, lo, hi, rfl, q⟩ := h
    refine ⟨_, (pss_one (ps_ret (pe_and (C8.pe_c (c_is_whole T) hr (by decide) (by rfl) (pa_cons (pv 0) pa_nil)) (pe_one (pe_chain op_le op_le (pv 1) (pv 0) (pv 2)))))), ?_⟩
    refine ⟨.int i, rfl, .int i, rfl, .int i, _, rfl, iteT ?_⟩
    refine ⟨_, rfl, _, rfl, lo, i, rfl, rfl, _, rfl, ite2 (fun e => ?_) (fun e => ?_)⟩
    · refine ⟨_, rfl, i, hi, rfl, rfl, ?_⟩
      rw [e, Bool.true_and] at q
      exact q
    · rw [Bool.not_eq_true] at e
      rw [e, Bool.false_and] at q
      exact q
def sp_need_within : Sp := fun vs H Q _ => ∃ i lo hi : Int, vs = [.int i, .int lo, .int hi] ∧ lo ≤ i ∧ i ≤ hi ∧ Q .non H
theorem c_need_within (T : Txt K mg C) : C8.Cal P w K mg base 3 "need_within" sp_need_within [] := by
  refine calF T.d_need_within sc_need_within (fun vs H Q E h => ?_) (fun f cdv A outer s H vs Q E hr h => ?_)
  · obtain ⟨i, lo, hi, rfl, _⟩ := h; rfl
  · obtain ⟨i, lo, hi, rfl, h1, h2, q⟩ := h
    refine ⟨_, (pss_one (ps_if (pt_not (pt_val (C8.pe_c (c_is_within T) hr (by decide) (by rfl) (pa_cons (pv 0) (pa_cons (pv 1) (pa_cons (pv 2) pa_nil))))))
    (pss_one ps_never)
    pss_nil)), ?_⟩
    refine ⟨_, rfl, _, rfl, _, rfl, i, lo, hi, rfl, _, rfl, ?_⟩
    rw [decide_eq_true h1, decide_eq_true h2]
    exact iteF q
theorem len_line {w : List Nat} (h : w.length ≤ 1000000) : (S w).length ≤ sizeLine := by rw [S_len, sizeLine_eq]; omega
def sp_is_lettered : Sp := fun vs H Q _ => ∃ (z : List Nat) (m : Nat), vs = [.str (S z), .int m] ∧ z.length ≤ 1000000 ∧ Low z ∧ Q (.bl (decide (z.length ≤ m))) H
theorem S_nil {z : List Nat} (h : (S z : Str) = "") : z = [] := by
  have := congrArg Str.length h
  rw [S_len] at this
  exact List.length_eq_zero_iff.mp this
theorem c_is_lettered (T : Txt K mg C) : C8.Cal P w K mg base 1 "is_lettered" sp_is_lettered [] := by
  refine calF T.d_is_lettered sc_is_lettered (fun vs H Q E h => ?_) (fun f cdv A outer s H vs Q E hr h => ?_)
  · obtain ⟨_, _, rfl, _⟩ := h; rfl
  · obtain ⟨z, m, rfl, hl, lw, q⟩ := h
    refine ⟨_, (pss_cons (ps_if (PW.pt (pw_or (pt_not (pt_val (pe_callB call_isK (by rfl) T.m_isinstance (by decide +kernel) (pa_cons (pv 0) (pa_cons (pe_bltn (v := .ty "str") (by rfl) T.m_str (by decide +kernel) rfl) pa_nil))))) (pw_or1 (pt_cmpR op_gt (pe_callB call_len_str (by rfl) T.m_len (by decide +kernel) (pa_cons (pv 0) pa_nil)) (pv 1) (nomark _)))))
    (pss_one (ps_ret pe_bl))
    pss_nil)
    (pss_one (ps_ret (pe_or (pe_cmpR op_eq (pv 0) pe_str (nomark _)) (pe_one (pe_and (pe_m0 PySem.F.slot_str_isascii PySem.F.type_str_isascii mt_isascii (pv 0)) (pe_and (pe_m0 PySem.F.slot_str_isalpha PySem.F.type_str_isalpha mt_isalpha (pv 0)) (pe_one (pe_m0 PySem.F.slot_str_islower PySem.F.type_str_islower mt_islower (pv 0)))))))))), ?_⟩
    refine ⟨_, rfl, .str (S z), "str", true, rfl, .str _, by show kitB "str" "str" = some true; decide +kernel, _, rfl, iteF ?_⟩
    refine ⟨_, rfl, S z, rfl, len_line hl, _, rfl, _, m, rfl, rfl, _, rfl, ?_⟩
    rw [S_len]
    by_cases hm : ¬ z.length ≤ m
    · rw [decide_eq_false hm] at q
      rw [decide_eq_true (show (z.length : Int) > m by omega)]
      exact iteT q
    rw [decide_eq_true (show z.length ≤ m by omega)] at q
    rw [decide_eq_false (show ¬ (z.length : Int) > m by omega)]
    refine iteF ⟨_, rfl, rfl, _, rfl, ite2 (fun e => q) fun e => ?_⟩
    have ne : z ≠ [] := fun y => e (by rw [y]; decide +kernel)
    refine ⟨_, rfl, ⟨_, rfl⟩, _, rfl, rfl, trivial, _, rfl, ?_⟩
    rw [low_ascii lw]
    refine iteT ⟨_, rfl, ⟨_, rfl⟩, _, rfl, rfl, trivial, _, rfl, ?_⟩
    rw [low_alpha lw ne]
    refine iteT ⟨_, rfl, ⟨_, rfl⟩, _, rfl, rfl, trivial, ?_⟩
    rw [low_lower lw ne]
    exact q
def sp_need_many : Sp := fun vs H Q _ => ∃ i : Int, vs = [.int i] ∧ 0 ≤ i ∧ i ≤ 3 ∧ Q .non H
theorem c_need_many (T : Txt K mg C) : C8.Cal P w K mg base 4 "need_many" sp_need_many [] := by
  refine calF T.d_need_many sc_need_many (fun vs H Q E h => ?_) (fun f cdv A outer s H vs Q E hr h => ?_)
  · obtain ⟨v, rfl, _⟩ := h; rfl
  · obtain ⟨i, rfl, h1, h2, q⟩ := h
    refine ⟨_, (pss_one (ps_expr (C8.pe_c (c_need_within T) hr (by decide) (by rfl) (pa_cons (pv 0) (pa_cons pe_int (pa_cons (C8.pe_gc (by rfl) T.k_MOST_UNKNOWNS) pa_nil)))))), ?_⟩
    exact ⟨_, rfl, i, 0, 3, rfl, h1, h2, q⟩
/-- what is_form_for says of a value -/
def formB (H : Hp) (m : Int) : V → Bool
  | .ref a => match H a with
    | some (.tup xs) => decide ((xs.length : Int) = m + 1) && xs.all isC
    | _ => false
  | _ => false
theorem formB_tup {H : Hp} {m : Int} {a : Addr} {xs : List V} (h : H a = some (.tup xs)) : formB H m (.ref a) = (decide ((xs.length : Int) = m + 1) && xs.all isC) := by simp only [formB, h]
def sp_is_form_for : Sp := fun vs H Q _ => ∃ (m : Int) (v : V), vs = [.int m, v] ∧ Kn H v ∧ (∀ a xs, v = .ref a → H a = some (.tup xs) → xs.length < sizeLine ∧ ∀ x ∈ xs, Kn H x) ∧ ∀ H', Same H H' → Q (.bl (formB H m v)) H'
theorem c_is_form_for (T : Txt K mg C) : C8.Cal P w K mg base 3 "is_form_for" sp_is_form_for [] := by
  refine calF T.d_is_form_for sc_is_form_for (fun vs H Q E h => ?_) (fun f cdv A outer s H vs Q E hr h => ?_)
  · obtain ⟨_, _, rfl, _⟩ := h; rfl
  · obtain ⟨m, v, rfl, kn, ht, q⟩ := h
    refine ⟨_, (pss_one (ps_ret (pe_and (pe_callB call_isK (by rfl) T.m_isinstance (by decide +kernel) (pa_cons (pv 1) (pa_cons (pe_bltn (v := .ty "tuple") (by rfl) T.m_tuple (by decide +kernel) rfl) pa_nil))) (pe_and (pe_cmpR op_eq (pe_callB call_len_seq (by rfl) T.m_len (by decide +kernel) (pa_cons (pv 1) pa_nil)) (pe_op op_add (pv 0) pe_int) (nomark _)) (pe_one (pe_callB (cr_all rfl) (by rfl) T.m_all (by decide +kernel) (pa_cons (pe_lc (own := [("number", 2)]) (by rfl) sc_is_form_for.nd (pi_tup (pv 1)) (blkOk_by (N := ["many", "value", "number"]) (sc := C8.fnScope (topS 17)) (own := [("number", 2)]) (by decide +kernel)) (fun _ _ _ _ _ => (pg_name (i := 2) sc_is_form_for.nd rfl (Or.inl rfl))) (fun _ _ _ _ _ => pts_nil) (fun _ _ _ _ _ => (C8.pe_c (c_is_count T) hr (by decide) (by rfl) (pa_cons (pv 2) pa_nil)))) pa_nil))))))), ?_⟩
    refine ⟨_, rfl, v, "tuple", _, rfl, kn, kit_tuple kn, _, rfl, ite2 (fun e => ?_) (fun e => ?_)⟩
    · cases kn <;> first | (exact absurd e Bool.false_ne_true) | skip
      · rename_i a xs ha
        simp only [isTu, ha] at e
        exact absurd e (by decide)
      · rename_i a xs ha
        obtain ⟨hl, hk⟩ := ht a xs rfl ha
        rw [formB_tup ha] at q
        refine ⟨_, rfl, a, xs, rfl, .inr (.inl (.inl ha)), _, rfl, _, _, rfl, rfl, rfl, _, rfl, ite2 (fun e => ?_) (fun e => ?_)⟩
        · have e' : (xs.length : Int) = m + 1 := V.int.inj (of_decide_eq_true e)
          rw [decide_eq_true e', Bool.true_and] at q
          refine ⟨_, rfl, a, rfl, ⟨xs, .inl (.inl ha)⟩, ?_⟩
          refine fun D hD => lcT_map (fun x => .bl (isC x)) ha hl (fun i x H' R hx s q' => ?_) hD fun H' s hL => ?_
          · exact ⟨rfl, x, rfl, x, rfl, (hk x (List.mem_of_getElem? hx)).same s, q' _ (Same.refl _)⟩
          refine ⟨D, xs.map isC, rfl, .inl (.inl (by rw [hL, List.map_map]; rfl)), ?_⟩
          rw [List.all_map]
          exact q H' s
        · have e' : ¬ (xs.length : Int) = m + 1 := fun z => e (by rw [z]; exact decide_eq_true rfl)
          rw [decide_eq_false e', Bool.false_and] at q
          exact q H (Same.refl _)
    · rw [show formB H m v = false by
        cases kn <;> first | rfl | skip
        · rename_i a xs ha
          simp only [formB, ha]
        · rename_i a xs ha
          exact absurd (isTu_tup ha) e] at q
      exact q H (Same.refl _)

theorem kn_nats {H : Hp} {ns : List Nat} : ∀ x ∈ ns.map (fun n : Nat => V.int (n : Nat)), Kn H x := fun x hx => by
  obtain ⟨i, _, rfl⟩ := List.mem_map.mp hx
  exact .int _
/-- a form in the heap -/
def FT (H : Hp) (a : Addr) (f : F) : Prop := H a = some (.tup (f.map fun n : Nat => V.int (n : Nat)))
theorem FT.same {H H' : Hp} {a : Addr} {f : F} (h : FT H a f) (s : Same H H') : FT H' a f := s _ _ h
theorem formB_FT {H : Hp} {m : Nat} {a : Addr} {f : F} (h : FT H a f) (hl : f.length = m + 1) : formB H m (.ref a) = true := by
  rw [formB_tup h, List.length_map, hl, decide_eq_true (show ((m + 1 : Nat) : Int) = (m : Int) + 1 by omega), Bool.true_and, List.all_map, List.all_eq_true]
  exact fun x hx => decide_eq_true (show (0 : Int) ≤ ((x : Nat) : Int) by omega)
end
end K60

set_option Elab.async false
set_option linter.all false
set_option maxRecDepth 100000
set_option maxHeartbeats 4000000
namespace K60
open PySem PySem.Spec PyProof.Rows L2 CK SX NM
theorem re_st {t : TS} {D : Ends} {σ σ' : L2.St} {H : Hp} (e : σ = σ') (h : t D σ' H) : t D σ H := by
  subst e
  exact h
theorem slice_mid {a : List Nat} {i j : Nat} (h : i ≤ j) (hj : j ≤ a.length) : Txt.slice (S a) (some (i : Int)) (some (j : Int)) = S ((a.drop i).take (j - i)) := by
  have e := beq_iff_eq.mp (slice_closesL (x := S a) (i := (i : Int)) (j := (j : Int)) (by omega) (by omega) (by rw [S_len]; omega))
  refine e.trans (TL.ext_tl ?_)
  show (a.drop (i : Int).toNat).take ((j : Int) - (i : Int)).toNat = (a.drop i).take (j - i)
  congr 1
  omega
theorem lcp_mid {a b : WM.W} {lo mid : Nat} (h1 : lo ≤ WM.lcp a b) (h2 : lo ≤ mid) (ha : mid ≤ a.length) (hb : mid ≤ b.length) :
    (a.drop lo).take (mid - lo) = (b.drop lo).take (mid - lo) ↔ mid ≤ WM.lcp a b := by
  have sp : ∀ z : WM.W, z.take mid = z.take lo ++ (z.drop lo).take (mid - lo) := fun z => by
    have : mid = lo + (mid - lo) := by omega
    conv => lhs; rw [this]
    rw [List.take_add]
  rw [← WM.lcp_iff ha hb, sp a, sp b, WM.lcp_take a b lo h1]
  constructor
  · intro h
    rw [h]
  · intro h
    exact List.append_cancel_left h
section
variable {X : Cx}
/-- s * n, up to a million letters -/
theorem op_repM : OpR X (binaryOp .Mult) (fun x y H Q => ∃ (z : List Nat) (n : Nat), x = .str (S z) ∧ y = .int n ∧ n ≤ 1000000 ∧ z.length ≤ 1000000 ∧ n * z.length ≤ 1000000 ∧ Q (.str (S (List.replicate n z).flatten)) H) := by
  intro pins s σ H x y v u Q I rx ry h
  obtain ⟨z, n, rfl, rfl, hn, hz, hm, q⟩ := h
  obtain ⟨t, rfl⟩ := rx
  obtain ⟨t', rfl⟩ := ry
  have hl : (List.replicate n z).flatten.length = n * z.length := by simp
  refine P.mul_str (by simp; omega) (fun h1 h2 => ?_) (fun h1 h2 => ?_) ?_
  · rw [S_len]
    have hn0 : (0 : Int) < n := by omega
    have h3 : (1000000 : Int) ≤ (2 ^ 63 - 1) / (n : Int) := by
      refine (Int.le_ediv_iff_mul_le hn0).mpr ?_
      have : (1000000 : Int) * n ≤ 1000000 * 1000000 := Int.mul_le_mul_of_nonneg_left (by omega) (by decide)
      omega
    omega
  · rw [S_len, Int.toNat_natCast, Nat.mul_comm]
    have : n * z.length ≤ sizeLine := by rw [sizeLine_eq]; omega
    unfold Builtin.Str.tooLong
    simp
    omega
  · by_cases h1 : (n : Int) < 1
    · rw [if_pos h1]
      have e : n = 0 := by omega
      subst e
      exact ⟨by decide, .str _, H, I.tok _, ⟨_, rfl⟩, q⟩
    · rw [if_neg h1]
      by_cases h2 : ((n : Int) == 1 || (S z).length == 0) = true
      · rw [if_pos h2]
        have e : (List.replicate n z).flatten = z := by
          rw [Bool.or_eq_true, beq_iff_eq, beq_iff_eq, S_len] at h2
          rcases h2 with h2 | h2
          · have : n = 1 := by omega
            subst this
            simp
          · rw [List.length_eq_zero_iff.mp h2]
            simp
        rw [e] at q
        exact ⟨.str _, H, I, ⟨_, rfl⟩, q⟩
      · rw [if_neg h2]
        have e : (⟨(List.replicate (n : Int).toNat (S z).cps).foldl (· ++ ·) #[]⟩ : Str) = S (List.replicate n z).flatten := by
          refine TL.ext_tl ?_
          show ((List.replicate (n : Int).toNat (S z).cps).foldl (· ++ ·) #[]).toList = _
          rw [Int.toNat_natCast, foldl_arr]
          rfl
        rw [e]
        exact ⟨by rw [S_len, hl, sizeLine_eq]; omega, .str _, H, I.tok _, ⟨_, rfl⟩, q⟩
end
section
variable {P : Program} {w : World} {K : PySem.W.Frag} {mg : Str → Option Value} {base : Heap} {C : Addr}
/-! ### words -/
theorem fmodZ (i : Int) {n : Nat} (h : n ≠ 0) : ∃ k : Nat, i.fmod (n : Int) = k ∧ k < n := by
  have h0 : 0 ≤ i.fmod (n : Int) := Int.fmod_nonneg_of_pos i (by omega)
  have h1 : i.fmod (n : Int) < n := Int.fmod_lt_of_pos i (by omega)
  exact ⟨(i.fmod n).toNat, by omega, by omega⟩
def rotZ (z : List Nat) (i : Int) : List Nat := z.drop (i.fmod (z.length : Int)).toNat ++ z.take (i.fmod (z.length : Int)).toNat
theorem fmod_neg (k : Nat) {n : Nat} (h : 0 < n) : (-(k : Int)).fmod (n : Int) = (((n - k % n) % n : Nat) : Int) := by
  have hm := Nat.mod_lt k h
  have hd := Nat.mod_add_div k n
  rw [Int.fmod_eq_emod_of_nonneg _ (by omega)]
  have e : (-(k : Int)) = ((n - k % n : Nat) : Int) + (n : Int) * (-((k / n : Nat) : Int) - 1) := by
    have : ((n - k % n : Nat) : Int) = (n : Int) - ((k % n : Nat) : Int) := by omega
    rw [this]
    have h2 : (k : Int) = ((k % n : Nat) : Int) + (n : Int) * ((k / n : Nat) : Int) := by
      have := congrArg (fun z : Nat => (z : Int)) hd
      simp only [Int.natCast_add, Int.natCast_mul] at this
      exact this.symm
    rw [Int.mul_sub, Int.mul_neg, Int.mul_one]
    omega
  rw [e, Int.add_mul_emod_self_left]
  rfl
theorem rotZ_neg {z : List Nat} (h : z ≠ []) (k : Nat) : rotZ z (-(k : Int)) = rotR z k := by
  have n0 := List.length_pos_iff.mpr h
  unfold rotZ rotR
  rw [fmod_neg k n0, Int.toNat_natCast]
  by_cases e : k % z.length = 0
  · rw [e, Nat.sub_zero, Nat.mod_self]
    simp
  · have hm := Nat.mod_lt k n0
    rw [Nat.mod_eq_of_lt (show z.length - k % z.length < z.length by omega)]
end
end K60

set_option Elab.async false
set_option linter.all false
set_option maxRecDepth 100000
set_option maxHeartbeats 4000000
namespace K60
open PySem PySem.Spec PyProof.Rows L2 CK SX NM
/-- the borders' sizes, up to the place i -/
def szL (z : List Nat) (i : Nat) : List Nat := (List.range z.length).map fun j => if j ≤ i then WM.lb (z.take (j + 1)) else 0
theorem szL_len (z : List Nat) (i : Nat) : (szL z i).length = z.length := by simp [szL]
theorem szL_get {z : List Nat} {i j : Nat} (h : j ≤ i) (hj : j < z.length) : (szL z i)[j]? = some (WM.lb (z.take (j + 1))) := by
  unfold szL
  rw [List.getElem?_map, List.getElem?_range hj]
  simp [h]
theorem szL_zero {z : List Nat} (h : z ≠ []) : szL z 0 = List.replicate z.length 0 := by
  refine List.ext_getElem? fun j => ?_
  unfold szL
  by_cases hj : j < z.length
  · rw [List.getElem?_map, List.getElem?_range hj, List.getElem?_replicate, if_pos hj]
    simp only [Option.map_some]
    split
    · rename_i e
      have : j = 0 := by omega
      subst this
      rw [WM.lb_one]
    · rfl
  · rw [List.getElem?_eq_none (by simp; omega), List.getElem?_eq_none (by simp; omega)]
theorem szL_set {z : List Nat} {i : Nat} (h : i + 1 < z.length) : (szL z i).set (i + 1) (WM.lb (z.take (i + 2))) = szL z (i + 1) := by
  refine List.ext_getElem? fun j => ?_
  by_cases hj : j < z.length
  · rw [List.getElem?_set]
    unfold szL
    by_cases e : i + 1 = j
    · subst e
      rw [if_pos rfl, if_pos (by simp; omega), List.getElem?_map, List.getElem?_range hj]
      simp
    · rw [if_neg e, List.getElem?_map, List.getElem?_map, List.getElem?_range hj]
      simp only [Option.map_some]
      congr 1
      by_cases a : j ≤ i
      · rw [if_pos a, if_pos (by omega)]
      · rw [if_neg a, if_neg (by omega)]
  · rw [List.getElem?_eq_none (by simp [szL]; omega), List.getElem?_eq_none (by simp [szL]; omega)]
def natsV (ns : List Nat) : List V := ns.map fun n : Nat => V.int (n : Nat)
theorem natsV_get {ns : List Nat} {i n : Nat} (h : ns[i]? = some n) : (natsV ns)[i]? = some (.int (n : Nat)) := by
  unfold natsV
  rw [List.getElem?_map, h]
  rfl
theorem natsV_set (ns : List Nat) (i n : Nat) : (natsV ns).set i (.int (n : Nat)) = natsV (ns.set i n) := by
  unfold natsV
  rw [List.map_set]
theorem natsV_len (ns : List Nat) : (natsV ns).length = ns.length := by simp [natsV]
section
variable {P : Program} {w : World} {K : PySem.W.Frag} {mg : Str → Option Value} {base : Heap} {C : Addr}
/-! ### forms -/
theorem get_nat {xs : List Nat} {i : Nat} {v : V} (h : (xs.map fun n : Nat => V.int (n : Nat))[i]? = some v) : ∃ z, z ∈ xs ∧ xs[i]? = some z ∧ v = .int (z : Nat) := by
  rw [List.getElem?_map] at h
  cases e : xs[i]? with
  | none => rw [e] at h; cases h
  | some z =>
    rw [e] at h
    exact ⟨z, List.mem_of_getElem? e, rfl, (Option.some.inj h).symm⟩
def vAdd : V → V → V
  | .int i, .int j => .int (i + j)
  | _, _ => .non
theorem zip_addN : ∀ (xs ys : List Nat), List.zipWith vAdd (xs.map fun n : Nat => V.int (n : Nat)) (ys.map fun n : Nat => V.int (n : Nat)) = (addF xs ys).map fun n : Nat => V.int (n : Nat)
  | [], _ => by simp [addF]
  | _ :: _, [] => by simp [addF]
  | x :: xs, y :: ys => by
    show V.int ((x : Int) + (y : Int)) :: _ = V.int ((x + y : Nat) : Int) :: _
    rw [zip_addN xs ys]
    rfl
theorem small5 {n : Nat} (h : n ≤ 5) : n < sizeLine := small1000 (by omega)
def Bf (f : F) : Prop := ∀ n ∈ f, n < 2 ^ 900
end
end K60

set_option Elab.async false
set_option linter.all false
set_option maxRecDepth 100000
set_option maxHeartbeats 4000000
namespace K60
open PySem PySem.Spec PyProof.Rows L2 CK SX NM
/-! ### pieces in the heap -/
def PC (H : Hp) (a : Addr) (p : Pn) : Prop := ∃ fa, H a = some (.tup [.str (S p.1), .ref fa]) ∧ FT H fa p.2
theorem PC.mono {H H' : Hp} {a : Addr} {p : Pn} (h : PC H a p) (s : ∀ a xs, H a = some (.tup xs) → H' a = some (.tup xs)) : PC H' a p := by
  obtain ⟨fa, h1, h2⟩ := h
  exact ⟨fa, s _ _ h1, s _ _ h2⟩
inductive Pcs (H : Hp) : List V → List Pn → Prop
  | nil : Pcs H [] []
  | cons {a : Addr} {vs : List V} {p : Pn} {ps : List Pn} : PC H a p → Pcs H vs ps → Pcs H (.ref a :: vs) (p :: ps)
theorem Pcs.mono {H H' : Hp} {vs : List V} {ps : List Pn} (h : Pcs H vs ps) (s : ∀ a xs, H a = some (.tup xs) → H' a = some (.tup xs)) : Pcs H' vs ps := by
  induction h with
  | nil => exact .nil
  | cons e _ ih => exact .cons (e.mono s) ih
theorem tup_same {H H' : Hp} (s : Same H H') : ∀ a xs, H a = some (.tup xs) → H' a = some (.tup xs) := fun a xs e => s _ _ e
theorem tup_upd {H : Hp} {l : Addr} {xs ys : List V} (hl : H l = some (.lst xs)) : ∀ a zs, H a = some (.tup zs) → (upd H l (.lst ys)) a = some (.tup zs) := fun a zs e => by
  rw [upd_ne (fun z => by rw [z, hl] at e; cases e)]
  exact e
theorem tup_sameX {l : Addr} {H H' : Hp} {xs : List V} (hl : H l = some (.lst xs)) (s : SameX l H H') : ∀ a zs, H a = some (.tup zs) → H' a = some (.tup zs) := fun a zs e =>
  s _ _ (fun z => by rw [z, hl] at e; cases e) e
theorem Pcs.same {H H' : Hp} {vs : List V} {ps : List Pn} (h : Pcs H vs ps) (s : Same H H') : Pcs H' vs ps := h.mono (tup_same s)
theorem Pcs.upd {H : Hp} {vs : List V} {ps : List Pn} {l : Addr} {xs ys : List V} (h : Pcs H vs ps) (hl : H l = some (.lst xs)) : Pcs (upd H l (.lst ys)) vs ps := h.mono (tup_upd hl)
theorem Pcs.len {H : Hp} {vs : List V} {ps : List Pn} (h : Pcs H vs ps) : vs.length = ps.length := by
  induction h with
  | nil => rfl
  | cons _ _ ih => simp [ih]
theorem Pcs.app {H : Hp} {vs us : List V} {ps qs : List Pn} (h : Pcs H vs ps) (g : Pcs H us qs) : Pcs H (vs ++ us) (ps ++ qs) := by
  induction h with
  | nil => exact g
  | cons e _ ih => exact .cons e ih
theorem Pcs.get {H : Hp} {vs : List V} {ps : List Pn} (h : Pcs H vs ps) {i : Nat} {v : V} (hi : vs[i]? = some v) : ∃ a p, v = .ref a ∧ ps[i]? = some p ∧ PC H a p := by
  induction h generalizing i with
  | nil => simp at hi
  | cons e _ ih =>
    cases i with
    | zero =>
      cases hi
      exact ⟨_, _, rfl, rfl, e⟩
    | succ i => exact ih hi
theorem Pcs.init {H : Hp} {vs : List V} {ps : List Pn} (h : Pcs H vs ps) : Pcs H vs.dropLast ps.dropLast := by
  induction h with
  | nil => exact .nil
  | cons e h ih =>
    cases h with
    | nil => exact .nil
    | cons e2 h2 => exact .cons e ih
theorem Pcs.one {H : Hp} {a : Addr} {p : Pn} (e : PC H a p) : Pcs H [.ref a] [p] := .cons e .nil
def PL (H : Hp) (l : Addr) (ps : List Pn) : Prop := ∃ vs, H l = some (.lst vs) ∧ Pcs H vs ps
theorem PL.same {H H' : Hp} {l : Addr} {ps : List Pn} (h : PL H l ps) (s : Same H H') : PL H' l ps := by
  obtain ⟨vs, e, p⟩ := h
  exact ⟨vs, s _ _ e, p.same s⟩
theorem last_at {vs : List V} {v : V} (h : vs[vs.length - 1]? = some v) : atI vs (-1) = some v := by
  have := (List.getElem?_eq_some_iff.mp h).1
  unfold atI ixN
  rw [if_neg (by omega), if_pos (by omega)]
  show vs[((-1 : Int) + vs.length).toNat]? = _
  rw [show ((-1 : Int) + vs.length).toNat = vs.length - 1 by omega]
  exact h
theorem head_get {f : F} {m : Nat} (h : f.length = m + 1) : (f.map fun n : Nat => V.int (n : Nat))[0]? = some (.int ((f.headD 0 : Nat) : Int)) := by
  cases f with
  | nil => simp at h
  | cons a f => rfl
theorem nat_dec (a b : Nat) : decide (V.int (a : Nat) = V.int (b : Nat)) = decide (a = b) := by
  by_cases h : a = b
  · rw [h, decide_eq_true rfl, decide_eq_true rfl]
  · rw [decide_eq_false h, decide_eq_false (fun z => h (by have := V.int.inj z; omega))]
theorem not_empty {α : Type} {l : List α} {q : α} (h : l.getLast? = some q) : (!l.isEmpty) = true := by
  cases l with
  | nil => cases h
  | cons _ _ => rfl
section
variable {P : Program} {w : World} {K : PySem.W.Frag} {mg : Str → Option Value} {base : Heap} {C : Addr}
def sp_open : Sp := fun vs H Q _ => ∃ (a : Addr) (f : F), vs = [.ref a] ∧ FT H a f ∧ ∀ H', Same H H' → Q (.bl (isOpen f)) H'
theorem c_is_open_form (T : Txt K mg C) : C8.Cal P w K mg base 1 "is_open_form" sp_open [] := by
  refine calF T.d_is_open_form sc_is_open_form (fun vs H Q E h => ?_) (fun f cdv A outer s H vs Q E hr h => ?_)
  · obtain ⟨_, _, rfl, _⟩ := h; rfl
  · obtain ⟨a, f, rfl, ha, q⟩ := h
    refine ⟨_, (pss_one (ps_ret (pe_callB (cr_anyN rfl) (by rfl) T.m_any (by decide +kernel) (pa_cons (pe_slice sl_drop (pv 0) (po_some pe_int) po_none) pa_nil)))), ?_⟩
    refine ⟨_, rfl, 1, rfl, a, _, 1, rfl, rfl, rfl, ha, fun p1 H1 s1 h1 => ⟨p1, f.tail, rfl, ?_, q H1 s1⟩⟩
    rw [h1, ← List.map_drop]
    cases f <;> rfl
def sp_fixed : Sp := fun vs H Q _ => ∃ (z : List Nat) (m : Nat), vs = [.str (S z), .int m] ∧ m ≤ 3 ∧ ∀ p H', Same H H' → PC H' p (fixP z m) → Q (.ref p) H'
theorem c_fixed_piece (T : Txt K mg C) : C8.Cal P w K mg base 1 "fixed_piece" sp_fixed [] := by
  refine calF T.d_fixed_piece sc_fixed_piece (fun vs H Q E h => ?_) (fun f cdv A outer s H vs Q E hr h => ?_)
  · obtain ⟨_, _, rfl, _⟩ := h; rfl
  · obtain ⟨z, m, rfl, hm, q⟩ := h
    refine ⟨_, (pss_one (ps_ret (pe_tup (pa_cons (pv 0) (pa_cons (pe_op op_catS (pe_tup (pa_cons pe_int pa_nil)) (pe_op op_repOne (pe_tup (pa_cons pe_int pa_nil)) (pv 1))) pa_nil))))), ?_⟩
    refine ⟨_, rfl, by show 1 ≤ sizeLine; decide, fun t1 n1 => ⟨by decide, fun t2 n2 => ⟨_, rfl, t2, _, _, rfl, rfl, upd_same, by omega, by omega, fun p H' s hp => ?_⟩⟩⟩
    have e1 : H' t1 = some (.tup [.int 1]) := s _ _ (by rw [upd_ne (ne_of_none upd_same n2)]; exact upd_same)
    refine ⟨t1, p, _, _, rfl, rfl, e1, hp, by simp; omega, fun p2 H2 s2 h2 => ⟨by show 2 ≤ sizeLine; decide, fun t ht => ?_⟩⟩
    refine q t _ ((((sameNew n1).trans (sameNew n2)).trans (s.trans s2)).trans (sameNew ht)) ⟨p2, upd_same, ?_⟩
    refine sameNew ht _ _ ?_
    rw [h2]
    unfold fixP one1
    simp
theorem tru_word {K : PySem.W.Frag} {H : Hp} {z : List Nat} (h : z.length ≤ 1000000) : TruV K (.str (S z)) H (decide (z ≠ [])) := by
  refine ⟨len_line h, ?_⟩
  rw [S_len]
  by_cases e : z = []
  · subst e; rfl
  · have := List.length_pos_iff.mpr e
    rw [decide_eq_true e]
    symm
    rw [bne_iff_ne]
    omega
theorem SameX.updL {l : Addr} {H H1 : Hp} {o : HO} (s : SameX l H H1) : SameX l H (upd H1 l o) := fun b x hb e => by
  rw [upd_ne hb]
  exact s b x hb e

end
end K60

set_option Elab.async false
set_option linter.all false
set_option maxRecDepth 100000
set_option maxHeartbeats 4000000
namespace K60
open PySem PySem.Spec PyProof.Rows L2 CK SX NM
def Ws (B : Nat) (ps : List Pn) : Prop := ∀ p ∈ ps, p.1.length ≤ B
theorem mem_joinF {acc : List Pn} {z : WM.W} {m : Nat} {p : Pn} (h : p ∈ joinF acc z m) : p ∈ acc ∨ p = fixP z m ∨ ∃ q ∈ acc, p = fixP (q.1 ++ z) m := by
  unfold joinF at h
  split at h
  · next q hq =>
    have mq := List.mem_of_getLast? hq
    split at h
    · split at h
      · exact .inl h
      · rcases List.mem_append.mp h with x | x
        · exact .inl x
        · exact .inr (.inl (List.mem_singleton.mp x))
    · split at h
      · exact .inl (mem_dropLast h)
      · rcases List.mem_append.mp h with x | x
        · exact .inl (mem_dropLast x)
        · exact .inr (.inr ⟨q, mq, List.mem_singleton.mp x⟩)
  · split at h
    · exact .inl h
    · rcases List.mem_append.mp h with x | x
      · exact .inl x
      · exact .inr (.inl (List.mem_singleton.mp x))
theorem len_one1 (m : Nat) : (one1 m).length = m + 1 := by simp [one1]
theorem lenF_joinF {acc : List Pn} {z : WM.W} {m : Nat} (h : LenF m acc) : LenF m (joinF acc z m) := fun p hp => by
  rcases mem_joinF hp with x | x | ⟨q, _, x⟩
  · exact h p x
  · rw [x]; exact len_one1 m
  · rw [x]; exact len_one1 m
theorem ws_joinF {acc : List Pn} {z : WM.W} {m B : Nat} (h : Ws B acc) (hz : z.length ≤ B) : Ws (2 * B) (joinF acc z m) := fun p hp => by
  rcases mem_joinF hp with x | x | ⟨q, hq, x⟩
  · have := h p x
    omega
  · rw [x]
    show z.length ≤ 2 * B
    omega
  · rw [x]
    show (q.1 ++ z).length ≤ 2 * B
    have := h q hq
    rw [List.length_append]
    omega
theorem len_joinF (acc : List Pn) (z : WM.W) (m : Nat) : (joinF acc z m).length ≤ acc.length + 1 := by
  unfold joinF
  split
  · split
    · split <;> simp
    · split <;> simp
      omega
  · split <;> simp
section
variable {P : Program} {w : World} {K : PySem.W.Frag} {mg : Str → Option Value} {base : Heap} {C : Addr}

end
end K60

set_option Elab.async false
set_option linter.all false
set_option maxRecDepth 100000
set_option maxHeartbeats 4000000
namespace K60
open PySem PySem.Spec PyProof.Rows L2 CK SX NM
/-- what holds between two statements -/
theorem cut_seq {t u : TS} {D : Ends} {σ : L2.St} {H : Hp} (Mid : L2.St → Hp → Prop) (h1 : ∀ K : L2.St → Hp → Prop, (∀ σ' H', Mid σ' H' → K σ' H') → t { D with nx := K } σ H) (h2 : ∀ σ' H', Mid σ' H' → u D σ' H') : tSeq t u D σ H := h1 _ h2
theorem meas_cons (p : Pn) (r : List Pn) : meas (p :: r) = measP p + meas r := by simp [meas]
theorem le_meas : ∀ {l : List Pn} {p : Pn}, p ∈ l → measP p ≤ meas l
  | [], _, h => absurd h List.not_mem_nil
  | q :: r, p, h => by
    rw [meas_cons]
    rcases List.mem_cons.mp h with x | x
    · rw [x]; omega
    · have := le_meas x
      omega
theorem len_meas : ∀ {l : List Pn}, (∀ p ∈ l, 1 ≤ measP p) → l.length ≤ meas l
  | [], _ => Nat.zero_le _
  | p :: r, h => by
    have a := len_meas fun q hq => h q (List.mem_cons_of_mem _ hq)
    have b := h p List.mem_cons_self
    rw [meas_cons, List.length_cons]
    omega
theorem _root_.NM.Nm.small {m B : Nat} {l : List Pn} (h : Nm m l) (hb : meas l ≤ B) : l.length ≤ B ∧ Ws B l := by
  refine ⟨Nat.le_trans (len_meas fun p hp => ?_) hb, fun p hp => Nat.le_trans (measP_le (h.all p hp)) (Nat.le_trans (le_meas hp) hb)⟩
  exact Nat.le_trans (List.length_pos_iff.mpr (h.all p hp).ne) (measP_le (h.all p hp))
theorem nm_stepA' {m : Nat} {acc : List Pn} {p : Pn} (h : Nm m acc) (hl : p.2.length = m + 1) : Nm m (stepA acc p) ∧ meas (stepA acc p) ≤ meas acc + p.1.length := by
  refine ⟨nm_stepA h hl, ?_⟩
  unfold stepA
  split
  · next z =>
    have lt : (timesF (p.1.length / WM.rootN p.1) (0 :: p.2.tail)).length = m + 1 := by unfold timesF; simp [hl]
    have := meas_putP h (u := p.1.take (WM.rootN p.1)) lt (by simp [timesF])
    rw [List.length_take] at this
    omega
  · omega
theorem meas_take_step {ps : List Pn} {m i : Nat} {p : Pn} (h : LenF m ps) (hp : ps[i]? = some p) : meas ((ps.take i).foldl stepN []) + measP p ≤ meas ps := by
  have a := meas_fold (ps.take i) [] (Nm.nil (m := m)) fun q hq => h q (List.mem_of_mem_take hq)
  have e : meas ([] : List Pn) = 0 := rfl
  have hi := (List.getElem?_eq_some_iff.mp hp).1
  have s : ps = ps.take i ++ (p :: ps.drop (i + 1)) := by
    conv => lhs; rw [← List.take_append_drop i ps]
    rw [← List.getElem_cons_drop hi, (List.getElem?_eq_some_iff.mp hp).2]
  have b : meas ps = meas (ps.take i) + (measP p + meas (ps.drop (i + 1))) := by
    conv => lhs; rw [s]
    rw [meas_app, meas_cons]
  omega
section
variable {P : Program} {w : World} {K : PySem.W.Frag} {mg : Str → Option Value} {base : Heap} {C : Addr}
end
end K60

set_option Elab.async false
set_option linter.all false
set_option maxRecDepth 100000
set_option maxHeartbeats 4000000
namespace K60
open PySem PySem.Spec PyProof.Rows L2 CK SX NM
/-! ### pieces as data -/
def dF (f : F) : PyData := .tuple (f.map fun n : Nat => PyData.int (n : Nat))
def dP (p : Pn) : PyData := .tuple [.str (S p.1), dF p.2]
theorem eqvAll_nats : ∀ f g : F, PyData.eqvAll (f.map fun n : Nat => PyData.int (n : Nat)) (g.map fun n : Nat => PyData.int (n : Nat)) = decide (f = g)
  | [], [] => by simp [PyData.eqvAll]
  | [], _ :: _ => by simp [PyData.eqvAll]
  | _ :: _, [] => by simp [PyData.eqvAll]
  | x :: f, y :: g => by
    rw [List.map_cons, List.map_cons, PyData.eqvAll, eqvAll_nats f g]
    simp [PyData.eqv, Bool.beq_eq_decide_eq]
    by_cases h : x = y
    · subst h
      simp
    · have h' : ¬ ((x : Int) = (y : Int)) := by omega
      simp [h, h']
theorem eqv_dP (p q : Pn) : PyData.eqv (dP p) (dP q) = decide (p = q) := by
  obtain ⟨a, f⟩ := p
  obtain ⟨b, g⟩ := q
  unfold dP dF
  simp only [PyData.eqv, PyData.eqvAll, eqvAll_nats, Bool.and_true]
  have e : (S a == S b) = decide (a = b) := S_beq_eq
  simp only [e]
  by_cases h1 : a = b <;> by_cases h2 : f = g <;> simp [h1, h2]
theorem eqvAll_dP : ∀ a b : List Pn, PyData.eqvAll (a.map dP) (b.map dP) = decide (a = b)
  | [], [] => by simp [PyData.eqvAll]
  | [], _ :: _ => by simp [PyData.eqvAll]
  | _ :: _, [] => by simp [PyData.eqvAll]
  | x :: f, y :: g => by
    rw [List.map_cons, List.map_cons, PyData.eqvAll, eqvAll_dP f g, eqv_dP]
    by_cases h : x = y <;> simp [h]
theorem eqv_dPs (a b : List Pn) : PyData.eqv (.list (a.map dP)) (.list (b.map dP)) = decide (a = b) := by
  rw [← eqvAll_dP]
  simp [PyData.eqv]
theorem str_low {w : List Nat} (h : Low w) : PyData.strOk (S w) = true := by
  unfold PyData.strOk
  rw [← Array.all_toList, List.all_eq_true]
  exact fun c hc => decide_eq_true (by have := h c hc; omega)
theorem lay_nats : ∀ f : F, PyData.canLayAll0 (f.map fun n : Nat => PyData.int (n : Nat)) = true
  | [] => by simp [PyData.canLayAll0]
  | n :: ns => by
    rw [List.map_cons, PyData.canLayAll0, lay_nats ns]
    simp [PyData.canLay0]
theorem deep_nats : ∀ f : F, PyData.depthAll (f.map fun n : Nat => PyData.int (n : Nat)) = 0
  | [] => by simp [PyData.depthAll]
  | n :: ns => by
    rw [List.map_cons, PyData.depthAll, deep_nats ns]
    simp [PyData.depth]
theorem lay_dP {p : Pn} (h : Low p.1) : (dP p).canLay0 = true := by simp [dP, dF, PyData.canLay0, PyData.canLayAll0, str_low h, lay_nats]
theorem deep_dP (p : Pn) : (dP p).depth = 2 := by simp [dP, dF, PyData.depth, PyData.depthAll, deep_nats]
theorem lay_dPs : ∀ ps : List Pn, (∀ p ∈ ps, Low p.1) → PyData.canLayAll0 (ps.map dP) = true
  | [], _ => by simp [PyData.canLayAll0]
  | p :: r, h => by
    rw [List.map_cons, PyData.canLayAll0, lay_dPs r fun q hq => h q (List.mem_cons_of_mem _ hq), lay_dP (h p List.mem_cons_self)]
    rfl
theorem deep_dPs : ∀ ps : List Pn, PyData.depthAll (ps.map dP) ≤ 2
  | [] => by simp [PyData.depthAll]
  | p :: r => by
    have := deep_dPs r
    rw [List.map_cons, PyData.depthAll, deep_dP]
    omega
theorem shaped_dPs {ps : List Pn} (h : ∀ p ∈ ps, Low p.1) : SeqAt.shaped (.list (ps.map dP)) = true := by
  unfold SeqAt.shaped
  rw [PyData.canLay0, lay_dPs ps h, PyData.depth]
  have := deep_dPs ps
  rw [decide_eq_true (by omega)]
  rfl
section
variable {K : PySem.W.Frag} {H : Hp}
theorem dpAll_nats : ∀ f : F, DpAll K H (f.map fun n : Nat => V.int (n : Nat)) (f.map fun n : Nat => PyData.int (n : Nat))
  | [] => .nil
  | n :: ns => .cons (.int _) (dpAll_nats ns)
theorem dp_FT {a : Addr} {f : F} (h : FT H a f) : Dp K H (.ref a) (dF f) := .tup (.inl (.inl h)) (dpAll_nats f)
theorem dp_PC {a : Addr} {p : Pn} (h : PC H a p) : Dp K H (.ref a) (dP p) := by
  obtain ⟨fa, h1, h2⟩ := h
  exact .tup (.inl (.inl h1)) (.cons (.str _) (.cons (dp_FT h2) .nil))
theorem dpAll_Pcs {vs : List V} {ps : List Pn} (h : Pcs H vs ps) : DpAll K H vs (ps.map dP) := by
  induction h with
  | nil => exact .nil
  | cons e _ ih => exact .cons (dp_PC e) ih
theorem dp_PL {l : Addr} {ps : List Pn} (h : PL H l ps) : Dp K H (.ref l) (.list (ps.map dP)) := by
  obtain ⟨vs, e, p⟩ := h
  exact .lst (.inl (.inl e)) (dpAll_Pcs p)
end
/-! ### letters stay letters -/
def LowP (ps : List Pn) : Prop := ∀ p ∈ ps, Low p.1
theorem low_app {a b : List Nat} (h : Low a) (g : Low b) : Low (a ++ b) := fun c hc => (List.mem_append.mp hc).elim (h c) (g c)
theorem low_take {a : List Nat} (h : Low a) (n : Nat) : Low (a.take n) := fun c hc => h c (List.mem_of_mem_take hc)
theorem low_drop {a : List Nat} (h : Low a) (n : Nat) : Low (a.drop n) := fun c hc => h c (List.mem_of_mem_drop hc)
theorem low_pw {a : List Nat} (h : Low a) : ∀ n, Low (WM.pw a n)
  | 0 => fun c hc => absurd hc List.not_mem_nil
  | n + 1 => by rw [WM.pw_succ]; exact low_app h (low_pw h n)
theorem low_rotR {u : List Nat} (h : Low u) (k : Nat) : Low (rotR u k) := low_app (low_drop h _) (low_take h _)
theorem lowP_joinF {acc : List Pn} {z : WM.W} {m : Nat} (h : LowP acc) (hz : Low z) : LowP (joinF acc z m) := fun p hp => by
  rcases mem_joinF hp with x | x | ⟨q, hq, x⟩
  · exact h p x
  · rw [x]; exact hz
  · rw [x]; exact low_app (h q hq) hz
theorem lowP_pushP {acc : List Pn} {u : WM.W} {f : F} (h : LowP acc) (hu : Low u) : LowP (pushP acc u f) := fun p hp => by
  unfold pushP at hp
  split at hp
  · split at hp
    · rcases List.mem_append.mp hp with x | x
      · exact h p (mem_dropLast x)
      · rw [List.mem_singleton.mp x]; exact hu
    · rcases List.mem_append.mp hp with x | x
      · exact h p x
      · rw [List.mem_singleton.mp x]; exact hu
  · rcases List.mem_append.mp hp with x | x
    · exact h p x
    · rw [List.mem_singleton.mp x]; exact hu
theorem low_nil : Low [] := fun c hc => absurd hc List.not_mem_nil
theorem lowP_putP {acc : List Pn} {u : WM.W} {f : F} (h : LowP acc) (hu : Low u) : LowP (putP acc u f) := by
  unfold putP
  split
  · next q hq =>
    split
    · exact lowP_joinF (lowP_pushP h hu) low_nil
    · have lq := h q (List.mem_of_getLast? hq)
      exact lowP_joinF (lowP_pushP (lowP_joinF (fun p hp => h p (mem_dropLast hp)) (low_take lq _)) (low_rotR hu _)) (low_drop lq _)
  · exact lowP_joinF (lowP_pushP h hu) low_nil
theorem lowP_fold : ∀ (ps acc : List Pn), LowP acc → LowP ps → LowP (ps.foldl stepN acc)
  | [], _, h, _ => h
  | p :: r, acc, h, hp => lowP_fold r _ (by
      have lp := hp p List.mem_cons_self
      have hA : LowP (stepA acc p) := by
        unfold stepA
        split
        · exact lowP_putP h (low_take lp _)
        · exact h
      show LowP (stepB (stepA acc p) p)
      unfold stepB
      split
      · exact lowP_joinF hA (low_pw lp _)
      · exact hA) fun q hq => hp q (List.mem_cons_of_mem _ hq)
theorem lowP_normL {ps : List Pn} (h : LowP ps) : LowP (normL ps) := lowP_fold ps [] (fun p hp => absurd hp List.not_mem_nil) h
end K60

set_option Elab.async false
set_option linter.all false
set_option maxRecDepth 100000
set_option maxHeartbeats 4000000
namespace K60
open PySem PySem.Spec PyProof.Rows L2 CK SX NM
theorem sum_meas : ∀ ps : List Pn, (ps.map fun p => ((measP p : Nat) : Int)).sum = ((meas ps : Nat) : Int)
  | [] => rfl
  | p :: r => by
    rw [List.map_cons, List.sum_cons, sum_meas r, meas_cons, Int.natCast_add]
/-- a value that is a piece, or one of the wrong ones that are met -/
inductive PV (H : Hp) (m : Nat) : V → Bool → Prop
  | good {a : Addr} {p : Pn} : PC H a p → p.2.length = m + 1 → p.1.length ≤ 2000 → Low p.1 → PV H m (.ref a) true
  | non : PV H m .non false
  | lst {a : Addr} {xs : List V} : H a = some (.lst xs) → PV H m (.ref a) false
  | long {a fa : Addr} {z : List Nat} : H a = some (.tup [.str (S z), .ref fa]) → 2000 < z.length → z.length ≤ 1000000 → Low z → PV H m (.ref a) false
theorem PV.same {H H' : Hp} {m : Nat} {v : V} {b : Bool} (h : PV H m v b) (s : Same H H') : PV H' m v b := by
  cases h with
  | good h1 h2 h3 h4 => exact .good (h1.mono (tup_same s)) h2 h3 h4
  | non => exact .non
  | lst h => exact .lst (s _ _ h)
  | long h1 h2 h3 h4 => exact .long (s _ _ h1) h2 h3 h4
section
variable {P : Program} {w : World} {K : PySem.W.Frag} {mg : Str → Option Value} {base : Heap} {C : Addr}
def sp_is_piece : Sp := fun vs H Q _ => ∃ (m : Nat) (v : V) (b : Bool), vs = [.int m, v] ∧ m ≤ 3 ∧ PV H m v b ∧ ∀ H', Same H H' → Q (.bl b) H'
theorem c_is_piece (T : Txt K mg C) : C8.Cal P w K mg base 4 "is_piece" sp_is_piece [] := by
  refine calF T.d_is_piece sc_is_piece (fun vs H Q E h => ?_) (fun f cdv A outer s H vs Q E hr h => ?_)
  · obtain ⟨_, _, _, rfl, _⟩ := h; rfl
  · obtain ⟨m, v, b, rfl, m3, hv, q⟩ := h
    refine ⟨_, (pss_cons (ps_if (PW.pt (pw_or (pt_not (pt_val (pe_callB call_isK (by rfl) T.m_isinstance (by decide +kernel) (pa_cons (pv 1) (pa_cons (pe_bltn (v := .ty "tuple") (by rfl) T.m_tuple (by decide +kernel) rfl) pa_nil))))) (pw_or1 (pt_cmpR op_ne (pe_callB call_len_seq (by rfl) T.m_len (by decide +kernel) (pa_cons (pv 1) pa_nil)) pe_int (nomark _)))))
    (pss_one (ps_ret pe_bl))
    pss_nil)
    (pss_one (ps_ret (pe_and (C8.pe_c (c_is_lettered T) hr (by decide) (by rfl) (pa_cons (pe_ix ix_tup (pv 1) pe_int (fun _ _ => rfl)) (pa_cons (C8.pe_gc (by rfl) T.k_MOST_PIECE_LETTERS) pa_nil))) (pe_one (C8.pe_c (c_is_form_for T) hr (by decide) (by rfl) (pa_cons (pv 0) (pa_cons (pe_ix ix_tup (pv 1) pe_int (fun _ _ => rfl)) pa_nil)))))))), ?_⟩
    cases hv with
    | non => exact ⟨_, rfl, .non, "tuple", _, rfl, .non, kit_tuple .non, _, rfl, iteT (q H (Same.refl _))⟩
    | lst h =>
      rename_i a xs
      have kn : Kn H (.ref a) := .lst h
      refine ⟨_, rfl, .ref a, "tuple", _, rfl, kn, kit_tuple kn, _, rfl, ?_⟩
      rw [show isTu H (.ref a) = false by simp only [isTu, h]]
      exact iteT (q H (Same.refl _))
    | long h1 h2 h3 h4 =>
      rename_i a fa z
      have kn : Kn H (.ref a) := .tup h1
      refine ⟨_, rfl, .ref a, "tuple", _, rfl, kn, kit_tuple kn, _, rfl, ?_⟩
      rw [isTu_tup h1]
      refine iteF ⟨_, rfl, a, _, rfl, .inr (.inl (.inl h1)), rfl, _, rfl, iteF ?_⟩
      refine ⟨_, rfl, a, _, 0, _, rfl, rfl, .inl (.inl h1), atI_nat (j := 0) rfl, z, 2000, rfl, h3, h4, _, rfl, ?_⟩
      rw [decide_eq_false (by omega)]
      exact iteF (q H (Same.refl _))
    | good h1 h2 h3 h4 =>
      rename_i a p
      obtain ⟨fa, e1, e2⟩ := h1
      have kn : Kn H (.ref a) := .tup e1
      refine ⟨_, rfl, .ref a, "tuple", _, rfl, kn, kit_tuple kn, _, rfl, ?_⟩
      rw [isTu_tup e1]
      refine iteF ⟨_, rfl, a, _, rfl, .inr (.inl (.inl e1)), rfl, _, rfl, iteF ?_⟩
      refine ⟨_, rfl, a, _, 0, _, rfl, rfl, .inl (.inl e1), atI_nat (j := 0) rfl, p.1, 2000, rfl, by omega, h4, _, rfl, ?_⟩
      rw [decide_eq_true (show p.1.length ≤ 2000 from h3)]
      refine iteT ⟨_, rfl, _, rfl, a, _, 1, _, rfl, rfl, .inl (.inl e1), atI_nat (j := 1) rfl, (m : Int), .ref fa, rfl, .tup e2, fun b xs eb hb => ?_, fun H1 s1 => ?_⟩
      · cases eb
        have := hb.symm.trans e2
        cases this
        exact ⟨small1000 (by rw [List.length_map, h2]; omega), kn_nats⟩
      · rw [formB_FT e2 h2]
        exact q H1 s1
def sp_measure : Sp := fun vs H Q _ => ∃ (l : Addr) (ps : List Pn) (m : Nat), vs = [.ref l] ∧ PL H l ps ∧ LenF m ps ∧ Ws 1000000 ps ∧ (∀ p ∈ ps, Bf p.2) ∧ ps.length ≤ 1000000 ∧ ∀ H', Same H H' → Q (.int (meas ps : Nat)) H'
theorem c_measure (T : Txt K mg C) : C8.Cal P w K mg base 2 "measure" sp_measure [] := by
  refine calF T.d_measure sc_measure (fun vs H Q E h => ?_) (fun f cdv A outer s H vs Q E hr h => ?_)
  · obtain ⟨_, _, _, rfl, _⟩ := h; rfl
  · obtain ⟨l, ps, m, rfl, ⟨vs, hl, hp⟩, lF, ws, bf, hlen, q⟩ := h
    have len := hp.len
    refine ⟨_, (pss_one (ps_ret (pe_callB (cr_sum rfl) (by rfl) T.m_sum (by decide +kernel) (pa_cons (pe_lc (own := [("word", 1), ("form", 2)]) (by rfl) sc_measure.nd (pi_list (pv 0)) (blkOk_by (N := ["pieces", "word", "form"]) (sc := C8.fnScope (topS 25)) (own := [("word", 1), ("form", 2)]) (by decide +kernel)) (fun _ _ _ _ _ => (pg_two (K := K) (i := 1) (j := 2) rfl rfl sc_measure.nd rfl rfl (Or.inl rfl) (Or.inl rfl))) (fun _ _ _ _ _ => pts_nil) (fun _ _ _ _ _ => (pe_op op_mulZ (pe_callB call_len_str (by rfl) T.m_len (by decide +kernel) (pa_cons (pv 1) pa_nil)) (pe_op op_addB (pe_ix ix_tupH (pv 2) pe_int (fun _ _ => rfl)) (C8.pe_c (c_is_open_form T) hr (by decide) (by rfl) (pa_cons (pv 2) pa_nil)))))) pa_nil)))), ?_⟩
    refine ⟨_, rfl, l, rfl, ⟨_, .inl (.inl hl)⟩, fun D hD => ?_⟩
    refine lc_list (K := K) (a := l) (xs := vs) (fun i H1 => Same H H1 ∧ H1 D = some (.lst ((ps.take i).map fun p => V.int ((measP p : Nat) : Int)))) ⟨sameNew hD, by rw [upd_same]; rfl⟩ (fun i H1 _ p => .inl (.inl (p.1 _ _ hl))) (fun i y H1 hi p => ?_) fun H1 p => ?_
    · obtain ⟨s1, hD1⟩ := p
      obtain ⟨a, p, rfl, hpi, pc⟩ := hp.get hi
      have mem := List.mem_of_getElem? hpi
      have hii := (List.getElem?_eq_some_iff.mp hpi).1
      have lp := lF p mem
      have wp := ws p mem
      obtain ⟨fa, e1, e2⟩ := pc.mono (tup_same s1)
      have bh : p.2.headD 0 < 2 ^ 900 := by
        cases e : p.2 with
        | nil => rw [e] at lp; simp at lp
        | cons x f => exact bf p mem x (by rw [e]; exact List.mem_cons_self)
      refine ⟨a, _, rfl, .inl (.inl e1), rfl, _, _, rfl, _, _, rfl, rfl, rfl, ?_⟩
      refine ⟨_, rfl, S p.1, rfl, len_line (by omega), _, rfl, fa, _, 0, _, rfl, rfl, e2, atI_nat (j := 0) (head_get lp), _, rfl, fa, p.2, rfl, e2, fun H2 s2 => ?_⟩
      refine ⟨_, _, rfl, rfl, p.1.length, p.2.headD 0 + (if isOpen p.2 then 1 else 0), congrArg (fun n : Nat => V.int n) (S_len _), congrArg V.int (by split <;> simp), by omega, by split <;> omega, _, s2 _ _ hD1, ?_, same_upd2 hD (s1.trans s2), ?_⟩
      · rw [List.length_map, List.length_take, sizeLine_eq]
        omega
      · rw [upd_same, List.take_succ, hpi]
        simp [measP]
    · obtain ⟨s1, hD1⟩ := p
      rw [len, List.take_length] at hD1
      refine ⟨D, ps.map fun p => ((measP p : Nat) : Int), rfl, .inl (.inl (by rw [hD1, List.map_map]; rfl)), ?_⟩
      rw [sum_meas]
      exact q _ s1
end
end K60

set_option Elab.async false
set_option linter.all false
set_option maxRecDepth 100000
set_option maxHeartbeats 4000000
namespace K60
open PySem PySem.Spec PyProof.Rows L2 CK SX NM
/-- a list of pieces, as the program lets it -/
structure GL (H : Hp) (m : Nat) (l : Addr) (ps : List Pn) : Prop where
  at_ : PL H l ps
  len : LenF m ps
  ws : Ws 2000 ps
  low : LowP ps
  bf : ∀ p ∈ ps, Bf p.2
  few : ps.length ≤ 5000
theorem GL.same {H H' : Hp} {m : Nat} {l : Addr} {ps : List Pn} (h : GL H m l ps) (s : Same H H') : GL H' m l ps := ⟨h.at_.same s, h.len, h.ws, h.low, h.bf, h.few⟩
inductive PLV (H : Hp) (m : Nat) : V → Bool → Prop
  | tup {a : Addr} {xs : List V} : H a = some (.tup xs) → PLV H m (.ref a) false
  | bad {l : Addr} {vs : List V} {bs : List Bool} : H l = some (.lst vs) → vs.length ≤ 5000 → bs.length = vs.length → (∀ (i : Nat) (v : V) (b : Bool), vs[i]? = some v → bs[i]? = some b → PV H m v b) → bs.all id = false → PLV H m (.ref l) false
  | good {l : Addr} {ps : List Pn} : GL H m l ps → PLV H m (.ref l) (decide (meas ps ≤ 2000))
theorem small1000000 {n : Nat} (h : n ≤ 1000000) : n < sizeLine := by rw [sizeLine_eq]; omega
theorem range_bools (bs : List Bool) : (List.range bs.length).map (fun i => V.bl (bs.getD i false)) = bs.map V.bl := by
  refine List.ext_getElem? fun i => ?_
  by_cases h : i < bs.length
  · rw [List.getElem?_map, List.getElem?_range h, List.getElem?_map, List.getElem?_eq_getElem h]
    show some (V.bl (bs.getD i false)) = some (V.bl bs[i])
    rw [List.getD_eq_getElem?_getD, List.getElem?_eq_getElem h]
    rfl
  · rw [List.getElem?_eq_none (by simp; omega), List.getElem?_eq_none (by simp; omega)]
section
variable {P : Program} {w : World} {K : PySem.W.Frag} {mg : Str → Option Value} {base : Heap} {C : Addr}
def sp_need_measure : Sp := fun vs H Q _ => ∃ (n : Nat), vs = [.int n] ∧ n ≤ 2000 ∧ Q .non H
theorem c_need_measure (T : Txt K mg C) : C8.Cal P w K mg base 1 "need_measure" sp_need_measure [] := by
  refine calF T.d_need_measure sc_need_measure (fun vs H Q E h => ?_) (fun f cdv A outer s H vs Q E hr h => ?_)
  · obtain ⟨_, rfl, _⟩ := h; rfl
  · obtain ⟨n, rfl, hn, q⟩ := h
    refine ⟨_, (pss_one (ps_if (pt_cmpR op_gt (pv 0) (C8.pe_gc (by rfl) T.k_MOST_MEASURE) (nomark _))
    (pss_one ps_never)
    pss_nil)), ?_⟩
    refine ⟨_, rfl, _, 2000, rfl, rfl, _, rfl, ?_⟩
    rw [decide_eq_false (by omega)]
    exact iteF q
def sp_need_pieces : Sp := fun vs H Q _ => ∃ (m : Nat) (l : Addr) (ps : List Pn), vs = [.int m, .ref l] ∧ m ≤ 3 ∧ GL H m l ps ∧ meas ps ≤ 2000 ∧ ∀ H', Same H H' → Q .non H'
theorem c_need_pieces (T : Txt K mg C) : C8.Cal P w K mg base 5 "need_pieces" sp_need_pieces [] := by
  refine calF T.d_need_pieces sc_need_pieces (fun vs H Q E h => ?_) (fun f cdv A outer s H vs Q E hr h => ?_)
  · obtain ⟨_, _, _, rfl, _⟩ := h; rfl
  · obtain ⟨m, l, ps, rfl, m3, g, hme, q⟩ := h
    obtain ⟨vs, h1, hp⟩ := id g.at_
    have lv := hp.len
    have hf := g.few
    have kn : Kn H (.ref l) := .lst h1
    refine ⟨_, (pss_cons (ps_expr (C8.pe_c (c_need_many T) hr (by decide) (by rfl) (pa_cons (pv 0) pa_nil)))
    (pss_cons (ps_if (PW.pt (pw_or (pt_not (pt_val (pe_callB call_isK (by rfl) T.m_isinstance (by decide +kernel) (pa_cons (pv 1) (pa_cons (pe_bltn (v := .ty "list") (by rfl) T.m_list (by decide +kernel) rfl) pa_nil))))) (pw_or1 (pt_cmpR op_gt (pe_callB call_len_seq (by rfl) T.m_len (by decide +kernel) (pa_cons (pv 1) pa_nil)) (C8.pe_gc (by rfl) T.k_MOST_PIECES) (nomark _)))))
    (pss_one ps_never)
    pss_nil)
    (pss_cons (ps_for PassesOwn.never rfl (pi_list (pv 1)) (pg_name (i := 2) sc_need_pieces.nd rfl (Or.inl rfl))
    (pss_one (ps_if (pt_not (pt_val (C8.pe_c (c_is_piece T) hr (by decide) (by rfl) (pa_cons (pv 0) (pa_cons (pv 2) pa_nil)))))
    (pss_one ps_never)
    pss_nil)))
    (pss_one (ps_expr (C8.pe_c (c_need_measure T) hr (by decide) (by rfl) (pa_cons (C8.pe_c (c_measure T) hr (by decide) (by rfl) (pa_cons (pv 1) pa_nil)) pa_nil))))))), ?_⟩
    refine ⟨_, rfl, m, rfl, by omega, by omega, ?_⟩
    refine ⟨_, rfl, .ref l, "list", _, rfl, kn, kit_list kn, _, rfl, ?_⟩
    rw [isLi_lst h1]
    refine iteF ⟨_, rfl, l, _, rfl, .inl (.inl (.inl h1)), _, 5000, rfl, rfl, _, rfl, ?_⟩
    rw [decide_eq_false (by omega)]
    refine iteF ?_
    refine ⟨_, rfl, l, rfl, ⟨_, .inl (.inl h1)⟩, for_list (K := K) (a := l) (xs := vs) (fun i σ H' => Same H H' ∧ ∃ y2, σ = [some (.int m), some (.ref l), y2]) ⟨Same.refl _, none, rfl⟩ (fun i σ H' _ p => .inl (.inl (p.1 _ _ h1))) (fun i y σ H' hi p => ?_) (fun σ H' p => ?_)⟩
    · obtain ⟨s1, y2, rfl⟩ := p
      obtain ⟨a, p, rfl, hpi, pc⟩ := hp.get hi
      have mem := List.mem_of_getElem? hpi
      exact ⟨_, rfl, _, rfl, m, _, true, rfl, m3, .good (pc.mono (tup_same s1)) (g.len p mem) (g.ws p mem) (g.low p mem), fun H2 s2 => ⟨_, rfl, iteF ⟨s1.trans s2, _, rfl⟩⟩⟩
    · obtain ⟨s1, y2, rfl⟩ := p
      exact ⟨_, rfl, l, ps, m, rfl, g.at_.same s1, g.len, fun p hp => by have := g.ws p hp; omega, g.bf, by omega, fun H2 s2 => ⟨meas ps, rfl, hme, q H2 (s1.trans s2)⟩⟩
end
end K60

set_option Elab.async false
set_option linter.all false
set_option maxRecDepth 100000
set_option maxHeartbeats 4000000
namespace K60
open PySem PySem.Spec PyProof.Rows L2 CK SX NM
section
variable {P : Program} {w : World} {K : PySem.W.Frag} {mg : Str → Option Value} {base : Heap} {C : Addr}
/-! ### the law's own defs -/
theorem fm0 {i j : Int} (h : 0 < j) : 0 ≤ i.fmod j := Int.fmod_nonneg_of_pos i h
theorem fm1 {i j : Int} (h : 0 < j) : i.fmod j < j := Int.fmod_lt_of_pos i h
theorem ab {i : Int} {k : Nat} (h0 : 0 ≤ i) (h : i < 2 ^ k) : i.natAbs < 2 ^ k := by
  have e : ((2 ^ k : Nat) : Int) = 2 ^ k := by simp
  omega
def sp_hash : Sp := fun vs H Q _ => ∃ s i : Int, vs = [.int s, .int i] ∧ 0 ≤ s ∧ s < 2 ^ 31 ∧ 0 ≤ i ∧ i < 2 ^ 41 ∧ ∀ r : Int, 0 ≤ r → r < 2 ^ 31 → Q (.int r) H
theorem c_law_hash (T : Txt K mg C) : C8.Cal P w K mg base 1 "_law_hash" sp_hash [] := by
  refine calF T.d_law_hash sc_law_hash (fun vs H Q E h => ?_) (fun f cdv A outer s H vs Q E hr h => ?_)
  · obtain ⟨_, _, rfl, _⟩ := h; rfl
  · obtain ⟨z, i, rfl, h0, h1, h2, h3, q⟩ := h
    refine ⟨_, (pss_cons (ps_set (i := 2) sc_law_hash.nd rfl (Or.inl rfl) (pe_op op_modN (pe_callTy call_int1 (by rfl) T.m_int (by decide +kernel) (pa_cons (pe_op op_add (pe_op op_add (pe_op op_add (pe_op op_mulW (pv 0) pe_int) (pe_op op_mulW (pe_op op_mulW pe_int (pv 1)) (pv 1))) (pe_op op_mulW pe_int (pv 1))) pe_int) pa_nil)) pe_int))
    (pss_cons (ps_set (i := 2) sc_law_hash.nd rfl (Or.inl rfl) (pe_op op_modN (pe_callTy call_int1 (by rfl) T.m_int (by decide +kernel) (pa_cons (pe_op op_add (pe_op op_add (pe_op op_mulW (pv 2) (pv 2)) (pe_op op_mulW pe_int (pv 1))) pe_int) pa_nil)) pe_int))
    (pss_one (ps_ret (pe_op op_modN (pe_callTy call_int1 (by rfl) T.m_int (by decide +kernel) (pa_cons (pe_op op_mulW (pv 2) pe_int) pa_nil)) pe_int))))), ?_⟩
    have a1 : z.natAbs < 2 ^ 100 := ab h0 (by omega)
    have a2 : i.natAbs < 2 ^ 100 := ab h2 (by omega)
    have a3 : ((27644437 : Int)).natAbs < 2 ^ 100 := by decide
    have a4 := wide_lt a3 a2
    refine ⟨_, rfl, z, _, rfl, rfl, wide_mul a1 (show ((1140671 : Int)).natAbs < 2 ^ 100 by decide) (by decide) (by decide) (by decide), ?_⟩
    refine ⟨_, rfl, _, i, rfl, rfl, wide_mul a3 a2 (by decide) (by decide) (by decide), _, rfl, _, i, rfl, rfl, wide_mul a4 a2 (by decide) (by decide) (by decide), _, _, rfl, rfl, ?_⟩
    refine ⟨_, rfl, _, i, rfl, rfl, wide_mul (show ((131 : Int)).natAbs < 2 ^ 100 by decide) a2 (by decide) (by decide) (by decide), _, _, rfl, rfl, _, _, rfl, rfl, .inl ⟨_, rfl, _, _, rfl, rfl, (by decide : (2147483629 : Int) ≠ 0), ?_⟩⟩
    obtain ⟨m, hm⟩ : ∃ m, (z * 1140671 + 27644437 * i * i + 131 * i + 19).fmod 2147483629 = m := ⟨_, rfl⟩
    have m0 : 0 ≤ m := by rw [← hm]; exact fm0 (by decide)
    have m1 : m < 2147483629 := by rw [← hm]; exact fm1 (by decide)
    have a5 : m.natAbs < 2 ^ 100 := ab m0 (by omega)
    refine ⟨_, rfl, _, rfl, m, m, congrArg V.int hm, congrArg V.int hm, wide_mul a5 a5 (by decide) (by decide) (by decide), ?_⟩
    refine ⟨_, rfl, _, i, rfl, rfl, wide_mul (show ((62089 : Int)).natAbs < 2 ^ 100 by decide) a2 (by decide) (by decide) (by decide), _, _, rfl, rfl, _, _, rfl, rfl, .inl ⟨_, rfl, _, _, rfl, rfl, (by decide : (2147483587 : Int) ≠ 0), ?_⟩⟩
    obtain ⟨k, hk⟩ : ∃ k, (m * m + 62089 * i + 32416187).fmod 2147483587 = k := ⟨_, rfl⟩
    have k0 : 0 ≤ k := by rw [← hk]; exact fm0 (by decide)
    have k1 : k < 2147483587 := by rw [← hk]; exact fm1 (by decide)
    have a6 : k.natAbs < 2 ^ 100 := ab k0 (by omega)
    refine ⟨_, rfl, k, _, congrArg V.int hk, rfl, wide_mul a6 (show ((48271 : Int)).natAbs < 2 ^ 100 by decide) (by decide) (by decide) (by decide), .inl ⟨_, rfl, _, _, rfl, rfl, (by decide : (2147483647 : Int) ≠ 0), ?_⟩⟩
    exact q _ (fm0 (by decide)) (Int.lt_trans (fm1 (by decide)) (by decide))
def sp_random : Sp := fun vs H Q _ => ∃ (g : Addr) (b : Int) (n : Nat), vs = [.ref g, .int b] ∧ Gn (n + 1) H g ∧ 1 ≤ b ∧ b < 2 ^ 200 ∧ ∀ (r : Int) H', SameX g H H' → Gn n H' g → 0 ≤ r → r < b → Q (.int r) H'
theorem pow32 (i : Nat) : (2 : Int) ^ (32 * (i + 1)) = 2 ^ (32 * i) * 4294967296 := by
  rw [Nat.mul_add, Int.pow_add]
  rfl
theorem pow_ge1 (i : Nat) : (1 : Int) ≤ 2 ^ i := by
  have := Int.pow_pos (n := 2) (m := i) (by decide)
  omega
theorem c_law_random (T : Txt K mg C) : C8.Cal P w K mg base 2 "_law_random" sp_random [] := by
  refine calF T.d_law_random sc_law_random (fun vs H Q E h => ?_) (fun f cdv A outer s H vs Q E hr h => ?_)
  · obtain ⟨_, _, _, rfl, _⟩ := h; rfl
  · obtain ⟨g, b, n, rfl, G, hb, hb2, q⟩ := h
    refine ⟨_, (pss_cons (ps_if (pt_cmpR op_gt (pe_ix ix_list (pv 0) pe_int (fun _ _ => rfl)) pe_int (nomark _))
    (pss_cons (ps_set (i := 2) sc_law_random.nd rfl (Or.inl rfl) (pe_op op_modN (pe_callTy call_int1 (by rfl) T.m_int (by decide +kernel) (pa_cons (pe_ix ix_list (pv 0) pe_int (fun _ _ => rfl)) pa_nil)) (pv 1)))
    (pss_cons (ps_asg (pe_op op_fdivW (pe_ix ix_list (pv 0) pe_int (fun _ _ => rfl)) (pv 1)) (pg_sub (pv 0) pe_int set_list))
    (pss_one (ps_ret (pv 2)))))
    pss_nil)
    (pss_cons (ps_set (i := 2) sc_law_random.nd rfl (Or.inl rfl) pe_int)
    (pss_cons (ps_for PassesOwn.never rfl (pi_range1 (by rfl) T.m_range (pa_cons (pe_op op_add pe_int (pe_op op_fdivW (pe_bits (pv 1)) pe_int)) pa_nil)) (pg_name (i := 3) sc_law_random.nd rfl (Or.inl rfl))
    (pss_cons (ps_asg (pe_op op_add (pe_ix ix_list (pv 0) pe_int (fun _ _ => rfl)) pe_int) (pg_sub (pv 0) pe_int set_list))
    (pss_one (ps_set (i := 2) sc_law_random.nd rfl (Or.inl rfl) (pe_op op_add (pe_op op_mulW (pv 2) pe_int) (C8.pe_c (c_law_hash T) hr (by decide) (by rfl) (pa_cons (pe_ix ix_list (pv 0) pe_int (fun _ _ => rfl)) (pa_cons (pe_ix ix_list (pv 0) pe_int (fun _ _ => rfl)) pa_nil))))))))
    (pss_one (ps_ret (pe_op op_modN (pe_callTy call_int1 (by rfl) T.m_int (by decide +kernel) (pa_cons (pv 2) pa_nil)) (pv 1))))))), ?_⟩
    obtain ⟨x, y, c, hg, x0, y0, y1, c0, c1⟩ := G
    refine ⟨_, rfl, g, _, 0, .int x, rfl, rfl, .inl (.inl hg), atI_nat (j := 0) rfl, x, 0, rfl, rfl, _, rfl, ite2 (fun e => ?_) (fun e => ?_)⟩
    · -- a digit
      refine ⟨_, rfl, g, _, 0, .int x, rfl, rfl, .inl (.inl hg), atI_nat (j := 0) rfl, .inl ⟨x, rfl, _, rfl, x, b, rfl, rfl, by omega, ?_⟩⟩
      refine ⟨_, rfl, g, _, 0, .int x, rfl, rfl, .inl (.inl hg), atI_nat (j := 0) rfl, _, rfl, x, b, rfl, rfl, wide_div (b := 200) (by omega) (ab (by omega) hb2) (by decide) (by decide), _, rfl, g, _, 0, 0, rfl, rfl, hg, rfl, ?_⟩
      exact ⟨_, rfl, q _ _ sameX_upd ⟨x / b, y, c, upd_same, Int.ediv_nonneg x0 (by omega), y0, y1, c0, by omega⟩ (fm0 (by omega)) (fm1 (by omega))⟩
    · -- by the hash
      have ib : Builtin.Int.intBits b ≤ 200 := intBits_le (ab (by omega) hb2)
      have tn : (1 + ((Builtin.Int.intBits b : Nat) : Int) / 30).toNat ≤ 7 := by omega
      refine ⟨_, rfl, b, rfl, _, _, rfl, rfl, wide_div (b := 200) (by decide) (by decide) (by decide) (by decide), _, _, rfl, rfl, _, rfl, by omega, by omega, ?_⟩
      refine for_it walk_range (fun i σ H3 => ∃ (d : Int) (y3 : Option V) (c3 : Int), σ = [some (.ref g), some (.int b), some (.int d), y3] ∧ SameX g H H3 ∧ H3 g = some (.lst [.int x, .int y, .int c3]) ∧ c3 = c + i ∧ 0 ≤ d ∧ d < 2 ^ (32 * i) ∧ i ≤ 7)
        ⟨0, none, c, rfl, .refl _ _, hg, by simp, Int.le_refl _, by decide, by decide⟩ (fun _ _ _ _ _ => True.intro) (fun i v σ H3 H4 hi p yy => ?_) fun σ H3 p => ?_
      · obtain ⟨d, y3, c3, rfl, s3, g3, ec, d0, d1, i7⟩ := p
        obtain ⟨rfl, rfl⟩ := yy
        have i6 : i ≤ 6 := by omega
        have u1 : (upd H4 g (.lst [.int x, .int y, .int (c3 + 1)])) g = some (.lst [.int x, .int y, .int (c3 + 1)]) := upd_same
        refine ⟨_, rfl, g, _, 2, .int c3, rfl, rfl, .inl (.inl g3), atI_nat (j := 2) rfl, _, _, rfl, rfl, _, rfl, g, _, 2, 2, rfl, rfl, g3, rfl, ?_⟩
        have ad : d.natAbs < 2 ^ (32 * i + 1) := ab d0 (Int.lt_of_lt_of_le d1 (by rw [Int.pow_succ]; have := pow_ge1 (32 * i); omega))
        refine ⟨_, rfl, d, _, rfl, rfl, wide_mul ad (show ((2147483587 : Int)).natAbs < 2 ^ 100 by decide) (by omega) (by decide) (by omega), ?_⟩
        refine ⟨_, rfl, g, _, 1, .int y, rfl, rfl, .inl (.inl u1), atI_nat (j := 1) rfl, _, rfl, g, _, 2, .int (c3 + 1), rfl, rfl, .inl (.inl u1), atI_nat (j := 2) rfl, y, c3 + 1, rfl, y0, y1, by omega, by omega, fun r r0 r1 => ⟨_, _, rfl, rfl, ?_⟩⟩
        refine ⟨_, _, c3 + 1, rfl, fun z o nz e => by rw [upd_ne nz]; exact s3 z o nz e, u1, by omega, by have : 0 ≤ d * 2147483587 := Int.mul_nonneg d0 (by decide); omega, ?_, by omega⟩
        rw [pow32]
        have := pow_ge1 (32 * i)
        omega
      · obtain ⟨d, y3, c3, rfl, s3, g3, ec, d0, d1, i7⟩ := p
        refine ⟨_, rfl, .inl ⟨d, rfl, _, rfl, d, b, rfl, rfl, by omega, ?_⟩⟩
        exact q _ _ s3 ⟨x, y, c3, g3, x0, y0, y1, by omega, by omega⟩ (fm0 (by omega)) (fm1 (by omega))
def sp_cell (K : PySem.W.Frag) : Sp := fun vs H Q _ => ∃ (a : Addr) (ns : List Int) (i : Nat), vs = [.ref a, .int i] ∧ SqL K H a (ns.map V.int) ∧ ∀ (r : Int) H', Same H H' → Q (.int r) H'
theorem c_law_cell (T : Txt K mg C) : C8.Cal P w K mg base 1 "_law_cell" (sp_cell K) [] := by
  refine calF T.d_law_cell sc_law_cell (fun vs H Q E h => ?_) (fun f cdv A outer s H vs Q E hr h => ?_)
  · obtain ⟨_, _, _, rfl, _⟩ := h; rfl
  · obtain ⟨a, ns, i, rfl, ha, q⟩ := h
    refine ⟨_, (pss_cons (ps_if (pt_cmpR op_lt (pv 1) (pe_callB call_len_seq (by rfl) T.m_len (by decide +kernel) (pa_cons (pv 0) pa_nil)) (nomark _))
    (pss_one (ps_ret (pe_ix ix_list (pv 0) (pv 1) (fun _ _ => rfl))))
    pss_nil)
    (pss_one (ps_ret (pe_op op_modN (pe_callB (cr_sum rfl) (by rfl) T.m_sum (by decide +kernel) (pa_cons (pe_slice sl_list (pv 0) po_none (po_some pe_int)) pa_nil)) pe_int)))), ?_⟩
    refine ⟨_, rfl, _, rfl, a, _, rfl, .inl ha, _, _, rfl, rfl, _, rfl, ite2 (fun e => ?_) (fun e => ?_)⟩
    · have e' := of_decide_eq_true e
      rw [List.length_map] at e'
      have hi : i < ns.length := by omega
      refine ⟨_, rfl, _, rfl, a, _, i, .int ns[i], rfl, rfl, ha, atI_nat ?_, q _ H (Same.refl _)⟩
      rw [List.getElem?_map, List.getElem?_eq_getElem hi]
      rfl
    · refine ⟨_, rfl, 1, rfl, a, _, rfl, ha, fun p hp => ?_⟩
      refine ⟨p, ns.take 1, rfl, .inl (.inl ?_), _, _, rfl, rfl, (by decide : (1000003 : Int) ≠ 0), q _ _ (sameNew hp)⟩
      rw [upd_same, show ((1 : Int)) = ((1 : Nat) : Int) from rfl, cutV_take, List.map_take]
def sp_generator (K : PySem.W.Frag) : Sp := fun vs H Q _ => ∃ (a : Addr) (ns : List Int) (i : Nat), vs = [.ref a, .int i] ∧ SqL K H a (ns.map V.int) ∧ i ≤ 10 ∧ ∀ g H1 H', Same H H1 → H1 g = none → Same H1 H' → Gn 100000 H' g → Q (.ref g) H'
theorem c_law_generator (T : Txt K mg C) : C8.Cal P w K mg base 2 "_law_generator" (sp_generator K) [] := by
  refine calF T.d_law_generator sc_law_generator (fun vs H Q E h => ?_) (fun f cdv A outer s H vs Q E hr h => ?_)
  · obtain ⟨_, _, _, rfl, _⟩ := h; rfl
  · obtain ⟨a, ns, i, rfl, ha, hi, q⟩ := h
    refine ⟨_, (pss_cons (ps_set (i := 2) sc_law_generator.nd rfl (Or.inl rfl) (C8.pe_c (c_law_cell T) hr (by decide) (by rfl) (pa_cons (pv 0) (pa_cons (pv 1) pa_nil))))
    (pss_one (ps_ret (pe_lst (pa_cons (pe_op op_modN (pe_callTy call_int1 (by rfl) T.m_int (by decide +kernel) (pa_cons (pe_callB (call_max2 rfl) (by rfl) T.m_max (by decide +kernel) (pa_cons (pe_op op_sub (pv 2) (pe_op op_powB pe_int pe_int)) (pa_cons pe_int pa_nil))) pa_nil)) (pe_op op_powB (pe_op op_powB pe_int pe_int) pe_int)) (pa_cons (pe_op op_modN (pe_callTy call_int1 (by rfl) T.m_int (by decide +kernel) (pa_cons (pv 2) pa_nil)) pe_int) (pa_cons (pe_op op_mulW pe_int (pv 1)) pa_nil))))))), ?_⟩
    refine ⟨_, rfl, _, rfl, a, ns, i, rfl, ha, fun r H1 s1 => ?_⟩
    refine ⟨_, rfl, _, _, rfl, rfl, ⟨by decide, by decide⟩, _, _, rfl, rfl, _, _, rfl, .inl ⟨_, rfl, _, _, rfl, rfl, ⟨by decide, by decide⟩, _, _, rfl, rfl, ⟨by decide, by decide⟩, _, _, rfl, rfl, (by decide : ((10 : Int) ^ Int.toNat 60) ^ Int.toNat 10 ≠ 0), ?_⟩⟩
    refine ⟨_, rfl, .inl ⟨_, rfl, _, _, rfl, rfl, (by decide : (2147483647 : Int) ≠ 0), ?_⟩⟩
    refine ⟨_, rfl, _, _, rfl, rfl, wide_mul (show ((1000 : Int)).natAbs < 2 ^ 100 by decide) (show ((i : Int)).natAbs < 2 ^ 100 by omega) (by decide) (by decide) (by decide), by show 3 ≤ sizeLine; decide, fun g hg => ?_⟩
    refine q g H1 _ s1 hg (sameNew hg) ⟨_, _, _, upd_same, fm0 (by decide), fm0 (by decide), Int.lt_trans (fm1 (by decide)) (by decide), by omega, by omega⟩
end
end K60

set_option Elab.async false
set_option linter.all false
set_option maxRecDepth 100000
set_option maxHeartbeats 4000000
namespace K60
open PySem PySem.Spec PyProof.Rows L2 CK SX NM
/-- a comprehension over a range that draws: what its items are is told by Pz -/
theorem lcP_draw {lo : Int} {g : Addr} {n cnt j : Nat} (Pz : V → Prop) {te : TE} {vs : List Nat} {σ : L2.St} {H1 : Hp} {D : Addr} {Qd : Hp → Prop} (hc : cnt < sizeLine) (hD : H1 D = none) (hg : Gn (n + cnt) H1 g)
    (hs : ∀ (i : Nat) (H : Hp) (R : VK), i < cnt → SameX g H1 H → Gn (n + (cnt - (i + 1)) + 1) H g → (∀ (r : V) H', SameX g H H' → Gn (n + (cnt - (i + 1))) H' g → Pz r → R r H') →
      wipe ((wipe σ vs).set j (some (.int (lo + i)))) vs = wipe σ vs ∧ te ((wipe σ vs).set j (some (.int (lo + i)))) H R)
    (hd : ∀ (H : Hp) (ns : List V), SameX g H1 H → Gn n H g → H D = some (.lst ns) → ns.length = cnt → (∀ x ∈ ns, Pz x) → Qd H) :
    ∃ W : Nat → Nat → Hp → Prop, (∃ m, W 0 m (L2.upd H1 D (.lst []))) ∧ ∀ i m H, W i m H →
      ((Itr lo cnt).stop i H ∧ Qd H) ∨ ((Itr lo cnt).go i H ∧ ∃ Nx : Hp → Prop, (∀ H', Nx H' → ∃ m', m' < m ∧ W (i + 1) m' H') ∧ ∀ x H', (Itr lo cnt).yld i H x H' → gName j x (wipe σ vs) H' fun σ2 H2 => wipe σ2 vs = wipe σ vs ∧ tYes σ2 H2 fun b H3 =>
        if b = true then te σ2 H3 fun y H4 => ∃ acc, H4 D = some (.lst acc) ∧ acc.length < sizeLine ∧ Nx (L2.upd H4 D (.lst (acc ++ [y]))) else Nx H3) := by
  have hDg := hg.ne hD
  refine lc_range (fun i H => SameX g H1 H ∧ Gn (n + (cnt - i)) H g ∧ i ≤ cnt ∧ ∃ ns : List V, H D = some (.lst ns) ∧ ns.length = i ∧ ∀ x ∈ ns, Pz x)
    ⟨sameX_new hD, hg.upd hDg, Nat.zero_le _, [], upd_same, rfl, fun x h => absurd h List.not_mem_nil⟩ (fun i H hi p => ?_) fun H p => ?_
  · obtain ⟨s, G, _, ns, hL, hl, hb⟩ := p
    have G1 : Gn (n + (cnt - (i + 1)) + 1) H g := by
      have e : n + (cnt - (i + 1)) + 1 = n + (cnt - i) := by omega
      rw [e]
      exact G
    refine hs i H _ hi s G1 fun r H' s' G' h0 => ⟨_, s' D _ hDg hL, by omega, (s.trans s').upd2 hD, G'.upd hDg, hi, ns ++ [r], upd_same, ?_, fun x hx => ?_⟩
    · rw [List.length_append, hl]
      rfl
    · rcases List.mem_append.mp hx with z | z
      · exact hb x z
      · rw [List.mem_singleton.mp z]
        exact h0
  · obtain ⟨s, G, _, ns, hL, hl, hb⟩ := p
    rw [Nat.sub_self] at G
    exact hd H ns s G hL hl hb
theorem join_one : ∀ cs : List Nat, TL.joinL [] (cs.map fun c => [c]) = cs
  | [] => rfl
  | [c] => rfl
  | c :: d :: r => by
    show [c] ++ ([] ++ TL.joinL [] ((d :: r).map fun c => [c])) = _
    rw [join_one (d :: r)]
    rfl
theorem empty_S : (Str.ofString "" : Str) = S [] := by decide +kernel
theorem join_S1 (cs : List Nat) : Txt.join (Str.ofString "") (cs.map fun c => S [c]) = S cs := by
  rw [empty_S]
  have := join_S [] (cs.map fun c => [c])
  rw [List.map_map] at this
  rw [show (cs.map fun c => S [c]) = cs.map (S ∘ fun c => [c]) from rfl, this, join_one]
theorem ones_S : ∀ {vs : List V}, (∀ v ∈ vs, ∃ c, v = V.str (S [c]) ∧ 97 ≤ c ∧ c ≤ 122) → ∃ cs : List Nat, vs = (cs.map fun c => S [c]).map V.str ∧ Low cs ∧ cs.length = vs.length
  | [], _ => ⟨[], rfl, fun c h => absurd h List.not_mem_nil, rfl⟩
  | v :: vs, h => by
    obtain ⟨c, rfl, hc⟩ := h v List.mem_cons_self
    obtain ⟨cs, rfl, lw, hl⟩ := ones_S fun u hu => h u (List.mem_cons_of_mem _ hu)
    refine ⟨c :: cs, rfl, fun d hd => ?_, by simp⟩
    rcases List.mem_cons.mp hd with z | z
    · rw [z]; exact hc
    · exact lw d z

theorem seq_nat {k n : Nat} (h : k < n) : seqIndex? (k : Int) n = some k := by
  unfold seqIndex?
  have h1 : ¬ ((k : Int) < 0) := by omega
  have h2 : (k : Int) < n := by omega
  simp only [h1, if_false]
  rw [if_pos (by simp [h2])]
  rfl
theorem map_erase {α β : Type} (f : α → β) : ∀ (l : List α) (k : Nat), (l.map f).eraseIdx k = (l.eraseIdx k).map f
  | [], _ => by simp
  | a :: l, 0 => by simp
  | a :: l, k + 1 => by
    rw [List.map_cons, List.eraseIdx_cons_succ, List.eraseIdx_cons_succ, List.map_cons, map_erase f l k]
theorem abc_S : (Str.ofString "abcdefghijklmnopqrstuvwxyz" : Str) = S (List.range' 97 26) := by decide +kernel
theorem perm_erase : ∀ {zs : List Nat} {k c : Nat}, zs[k]? = some c → List.Perm (c :: zs.eraseIdx k) zs
  | [], _, _, h => by simp at h
  | a :: l, 0, c, h => by
    cases h
    exact List.Perm.refl _
  | a :: l, k + 1, c, h => by
    rw [List.eraseIdx_cons_succ]
    exact (List.Perm.swap a c _).trans ((perm_erase (zs := l) (k := k) h).cons a)
theorem nodup_move {zs cs : List Nat} {k c : Nat} (hk : zs[k]? = some c) (h : (zs ++ cs).Nodup) : (zs.eraseIdx k ++ (cs ++ [c])).Nodup := by
  have p1 := perm_erase hk
  have p2 : List.Perm (zs.eraseIdx k ++ (cs ++ [c])) (zs ++ cs) := by
    refine List.Perm.trans ?_ (p1.append_right cs)
    rw [← List.append_assoc]
    refine List.Perm.trans (List.perm_append_comm) ?_
    exact List.Perm.refl _
  exact p2.nodup_iff.mpr h
theorem low_abc : Low (List.range' 97 26) := fun c hc => by
  rw [List.mem_range'] at hc
  obtain ⟨i, h1, h2⟩ := hc
  omega
theorem low_erase {zs : List Nat} (h : Low zs) (k : Nat) : Low (zs.eraseIdx k) := fun c hc => h c (List.mem_of_mem_eraseIdx hc)
theorem get_one {cs : List Nat} {i : Nat} {v : V} (h : (cs.map fun c => V.str (S [c]))[i]? = some v) : ∃ c, cs[i]? = some c ∧ v = V.str (S [c]) := by
  rw [List.getElem?_map] at h
  cases e : cs[i]? with
  | none => rw [e] at h; cases h
  | some c =>
    rw [e] at h
    exact ⟨c, rfl, (Option.some.inj h).symm⟩
theorem sum_ones (l : List Nat) : ((l.map fun c => S [c]).map fun x => x.length).sum = l.length := by
  induction l with
  | nil => rfl
  | cons c r ih => rw [List.map_cons, List.map_cons, List.sum_cons, ih, S_len]; simp; omega
theorem len_empty : (Str.ofString "").length = 0 := by decide +kernel
theorem nats_of : ∀ {ns : List Int}, (∀ z ∈ ns, 0 ≤ z) → ns.map V.int = (ns.map Int.toNat).map fun k : Nat => V.int (k : Nat)
  | [], _ => rfl
  | z :: r, h => by
    have h0 := h z List.mem_cons_self
    rw [List.map_cons, List.map_cons, List.map_cons, nats_of fun y hy => h y (List.mem_cons_of_mem _ hy)]
    congr 2
    omega
section
variable {P : Program} {w : World} {K : PySem.W.Frag} {mg : Str → Option Value} {base : Heap} {C : Addr}
def sp_letters : Sp := fun vs H Q _ => ∃ (g : Addr) (n : Nat), vs = [.ref g] ∧ Gn (n + 3) H g ∧ ∀ cs H', SameX g H H' → Gn n H' g → cs.length = 3 → Low cs → cs.Nodup → Q (.str (S cs)) H'
theorem c_law_letters (T : Txt K mg C) : C8.Cal P w K mg base 3 "_law_letters" sp_letters [] := by
  refine calF T.d_law_letters sc_law_letters (fun vs H Q E h => ?_) (fun f cdv A outer s H vs Q E hr h => ?_)
  · obtain ⟨_, _, rfl, _⟩ := h; rfl
  · obtain ⟨g, n, rfl, G, q⟩ := h
    refine ⟨_, (pss_cons (ps_set (i := 1) sc_law_letters.nd rfl (Or.inr rfl) (pe_callTy (call_listS rfl) (by rfl) T.m_list (by decide +kernel) (pa_cons pe_str pa_nil)))
    (pss_one (ps_ret (pe_join pe_str (pe_lc (own := [("_law_turn", 2)]) (by rfl) sc_law_letters.nd (pi_range1 (by rfl) T.m_range (pa_cons pe_int pa_nil)) (blkOk_by (N := ["_law_generator_here", "_law_left", "_law_turn"]) (sc := C8.fnScope (topS 44)) (own := [("_law_turn", 2)]) (by decide +kernel)) (fun _ _ _ _ _ => (pg_name (i := 2) sc_law_letters.nd rfl (Or.inl rfl))) (fun _ _ _ _ _ => pts_nil) (fun _ _ _ _ _ => (pe_bmB (K := K) rfl PySem.F.plainAttrs_list PySem.F.slot_list_pop PySem.F.type_list_pop mt_popAt (pv 1) (pa_cons (C8.pe_c (c_law_random T) hr (by decide) (by rfl) (pa_cons (pv 0) (pa_cons (pe_callB call_lenH (by rfl) T.m_len (by decide +kernel) (pa_cons (pv 1) pa_nil)) pa_nil))) pa_nil)))))))), ?_⟩
    refine ⟨List.range' 97 26, congrArg (fun z => [V.str z]) abc_S, by decide, fun L hL => ?_⟩
    have Lg := G.ne hL
    have s0 := sameNew (o := .lst ((List.range' 97 26).map fun c => V.str (S [c]))) hL
    refine ⟨⟨_, rfl⟩, 3, rfl, by decide, by decide, fun D hD => ?_⟩
    have G1 : Gn (n + 3) (upd H L (.lst ((List.range' 97 26).map fun c => V.str (S [c])))) g := G.upd Lg
    have Dg := G1.ne hD
    have DL : D ≠ L := fun z => by rw [z, upd_same] at hD; cases hD
    refine lc_range (fun i H2 => (∀ b o, b ≠ g → b ≠ L → (upd H L (.lst ((List.range' 97 26).map fun c => V.str (S [c])))) b = some o → H2 b = some o) ∧ Gn (n + (3 - i)) H2 g ∧ i ≤ 3 ∧ ∃ zs cs : List Nat, (H2 L = some (.lst (zs.map fun c => V.str (S [c]))) ∧ zs.length = 26 - i ∧ Low zs) ∧ H2 D = some (.lst (cs.map fun c => V.str (S [c]))) ∧ cs.length = i ∧ Low cs ∧ (zs ++ cs).Nodup)
      ⟨fun b o _ _ e => sameNew hD _ _ e, G1.upd Dg, by decide, List.range' 97 26, [], ⟨sameNew hD _ _ upd_same, by simp, low_abc⟩, upd_same, rfl, low_nil, by rw [List.append_nil]; exact List.nodup_range'⟩ (fun i H2 hi p => ?_) fun H2 p => ?_
    · obtain ⟨s2, G2, _, zs, cs, ⟨hL2, lz, lowz⟩, hD2, lc, lowc, nd⟩ := p
      have e3 : n + (3 - i) = n + (3 - (i + 1)) + 1 := by omega
      rw [e3] at G2
      have lk : (zs.map fun c => V.str (S [c])).length = 26 - i := by rw [List.length_map, lz]
      refine ⟨rfl, _, rfl, .inl ⟨rfl, _, .inl (.inl hL2)⟩, _, rfl, _, rfl, L, _, rfl, hL2, g, _, _, rfl, G2, by rw [lk]; omega, by rw [lk]; omega, fun r H3 s3 G3 r0 r1 => ?_⟩
      rw [lk] at r1
      have hL3 := s3 _ _ Lg hL2
      obtain ⟨k, rfl⟩ : ∃ k : Nat, r = k := ⟨r.toNat, by omega⟩
      have hk : k < zs.length := by omega
      have hz := List.getElem?_eq_getElem hk
      have hc := lowz _ (List.getElem_mem hk)
      generalize zs[k] = c at hz hc
      refine ⟨L, _, k, k, .str (S [c]), rfl, rfl, hL3, by omega, by omega, ?_, by rw [List.getElem?_map, hz]; rfl, ?_⟩
      · rw [lk]
        exact seq_nat (by omega)
      · refine ⟨_, by rw [upd_ne DL]; exact s3 _ _ Dg hD2, by rw [List.length_map, lc, sizeLine_eq]; omega, fun b o hb hbL eb => ?_, (G3.upd Lg).upd Dg, by omega, zs.eraseIdx k, cs ++ [c], ⟨?_, ?_, low_erase lowz k⟩, ?_, by rw [List.length_append, lc]; rfl, (low_app lowc fun d hd => by rw [List.mem_singleton.mp hd]; exact hc), nodup_move hz nd⟩
        · have hbD : b ≠ D := fun z => by rw [z, hD] at eb; cases eb
          rw [upd_ne hbD, upd_ne hbL]
          exact s3 _ _ hb (s2 _ _ hb hbL eb)
        · rw [upd_ne (Ne.symm DL), upd_same, map_erase]
        · rw [List.length_eraseIdx, if_pos hk, lz]
          omega
        · rw [upd_same, List.map_append]
          rfl
    · obtain ⟨s2, G2, _, zs, cs, ⟨hL2, lz, lowz⟩, hD2, lc, lowc, nd⟩ := p
      refine ⟨Str.ofString "", D, cs.map fun c => S [c], rfl, rfl, .inl (.inl (.inl (by rw [hD2, List.map_map]; rfl))), by rw [sum_ones, List.length_map, len_empty, lc]; decide, ?_⟩
      rw [join_S1]
      refine q cs H2 (fun b o hb eb => s2 _ _ hb (fun z => by rw [z, hL] at eb; cases eb) (s0 _ _ eb)) G2 lc lowc (List.nodup_append.mp nd).2.1
def sp_word : Sp := fun vs H Q _ => ∃ (g : Addr) (cs : List Nat) (n lo hi : Nat), vs = [.ref g, .str (S cs), .int lo, .int hi] ∧ cs ≠ [] ∧ cs.length ≤ 26 ∧ Low cs ∧ Gn (n + 10) H g ∧ lo ≤ hi ∧ hi ≤ 4 ∧
  ∀ (w : List Nat) H', SameX g H H' → Gn n H' g → lo ≤ w.length → w.length ≤ hi → Low w → Q (.str (S w)) H'
theorem c_law_word (T : Txt K mg C) : C8.Cal P w K mg base 3 "_law_word" sp_word [] := by
  refine calF T.d_law_word sc_law_word (fun vs H Q E h => ?_) (fun f cdv A outer s H vs Q E hr h => ?_)
  · obtain ⟨_, _, _, _, _, rfl, _⟩ := h; rfl
  · obtain ⟨g, cs, n, lo, hi, rfl, ne, l26, lowc, G, h1, h2, q⟩ := h
    have n0 := List.length_pos_iff.mpr ne
    refine ⟨_, (pss_cons (ps_set (i := 4) sc_law_word.nd rfl (Or.inl rfl) (pe_op op_add (pv 2) (C8.pe_c (c_law_random T) hr (by decide) (by rfl) (pa_cons (pv 0) (pa_cons (pe_op op_add (pe_op op_sub (pv 3) (pv 2)) pe_int) pa_nil)))))
    (pss_one (ps_ret (pe_join pe_str (pe_lc (own := [("_law_turn", 5)]) (by rfl) sc_law_word.nd (pi_range1 (by rfl) T.m_range (pa_cons (pv 4) pa_nil)) (blkOk_by (N := ["_law_generator_here", "_law_signs", "_law_least", "_law_most", "_law_many", "_law_turn"]) (sc := C8.fnScope (topS 45)) (own := [("_law_turn", 5)]) (by decide +kernel)) (fun _ _ _ _ _ => (pg_name (i := 5) sc_law_word.nd rfl (Or.inl rfl))) (fun _ _ _ _ _ => pts_nil) (fun _ _ _ _ _ => (pe_ix ix_str (pv 1) (C8.pe_c (c_law_random T) hr (by decide) (by rfl) (pa_cons (pv 0) (pa_cons (pe_callB call_len_str (by rfl) T.m_len (by decide +kernel) (pa_cons (pv 1) pa_nil)) pa_nil))) (fun _ _ => rfl)))))))), ?_⟩
    refine ⟨_, rfl, _, rfl, _, rfl, _, rfl, _, _, rfl, rfl, _, _, rfl, rfl, g, _, n + 9, rfl, G, by omega, by omega, fun r H1 s1 G1 r0 r1 => ?_⟩
    refine ⟨_, _, rfl, rfl, ?_⟩
    refine ⟨⟨_, rfl⟩, _, rfl, (lo : Int) + r, rfl, by omega, by omega, fun D hD => ?_⟩
    refine lcP_draw (lo := 0) (g := g) (n := n) (cnt := ((lo : Int) + r).toNat) (fun v => ∃ c, v = V.str (S [c]) ∧ 97 ≤ c ∧ c ≤ 122) (small1000 (by omega)) hD (G1.le (by omega)) (fun i H2 R hi2 s2 G2 q' => ?_) fun H3 ns s3 G3 hL hl hP => ?_
    · refine ⟨rfl, _, rfl, _, rfl, _, rfl, S cs, rfl, len_line (by omega), g, _, _, rfl, G2, by rw [S_len]; omega, by rw [S_len]; omega, fun r3 H3 s3 G3 r30 r31 => ?_⟩
      rw [S_len] at r31
      obtain ⟨k, rfl⟩ : ∃ k : Nat, r3 = k := ⟨r3.toNat, by omega⟩
      have hk : k < cs.length := by omega
      have hz := List.getElem?_eq_getElem hk
      have hc := lowc _ (List.getElem_mem hk)
      generalize cs[k] = c at hz hc
      exact ⟨S cs, _, c, rfl, rfl, len_line (by omega), atI_nat (xs := cs) hz, q' _ H3 s3 G3 ⟨c, rfl, hc⟩⟩
    · obtain ⟨ws, rfl, lw, lw2⟩ := ones_S hP
      refine ⟨Str.ofString "", D, ws.map fun c => S [c], rfl, rfl, .inl (.inl (.inl hL)), by rw [sum_ones, List.length_map, len_empty]; omega, ?_⟩
      rw [join_S1]
      exact q ws H3 (s1.trans s3) G3 (by omega) (by omega) lw
/-- numbers up to most -/
def Up (most : Nat) (f : List Nat) : Prop := ∀ n ∈ f, n ≤ most

end
end K60

set_option Elab.async false
set_option linter.all false
set_option maxRecDepth 100000
set_option maxHeartbeats 4000000
namespace K60
open PySem PySem.Spec PyProof.Rows L2 CK SX NM
def pI : List Str := ["self", "letter", "sign", "unknown", "number"]
section
variable {P : Program} {w : World} {K : PySem.W.Frag} {mg : Str → Option Value} {base : Heap} {C : Addr}
variable {f : Addr} {fd : FuncData}
abbrev FI (K : PySem.W.Frag) (f : Addr) (fd : FuncData) := FunD K "__init__" "Prices.__init__" (C8.fnArgs (inClass (topS 31) 0)) (C8.fnBody (inClass (topS 31) 0)) (C8.fnScope (inClass (topS 31) 0)) [] [("letter", .int 1), ("sign", .int 1), ("unknown", .int 1), ("number", .int 1)] f fd
theorem bI_D0 (F : FI K f fd) : ∃ ds, Vals ([.int 1, .int 1, .int 1, .int 1] : List V) ds ∧ Binds K fd pI ds := by
  refine F.binds0 1 (List.cons_ne_nil _ _) rfl fun D doc pm an cdv ct us ks l1 l2 => ?_
  match us, l1, ks, l2 with
  | [u], _, [a, b, c, d], _ =>
    exact ⟨_, _, _, _, _, _, rfl, rfl, _, _, _, _, _, _, rfl, rfl, _, _, _, _, _, _, rfl, rfl, _, _, _, _, _, _, rfl, rfl, rfl⟩
/-- the i-th of a list, and nothing -/
def at1 {α : Type} (l : List α) (i : Nat) : List α := (l.drop i).take 1
theorem at1_rel {vs : List V} {us : List Value} (h : Vals vs us) (i : Nat) : Vals (at1 vs i) (at1 us i) := by
  unfold at1
  induction h generalizing i with
  | nil => rw [List.drop_nil, List.drop_nil]; exact .nil
  | cons r t ih =>
    cases i with
    | zero => exact .cons r .nil
    | succ i => exact ih i
theorem bI_letter_sign_unknown_number (F : FI K f fd) : ∃ g, KBn K fd pI 1 ["letter", "sign", "unknown", "number"] g (fun vs zs => vs ++ (at1 zs 0 ++ (at1 zs 1 ++ (at1 zs 2 ++ (at1 zs 3))))) := by
  obtain ⟨mv, h⟩ := F.kbinds0 (ps := pI) 1 ["letter", "sign", "unknown", "number"] [] (fun us mv ws => us ++ (at1 ws 0 ++ (at1 ws 1 ++ (at1 ws 2 ++ (at1 ws 3))))) (List.cons_ne_nil _ _) (by simp) (fun r1 r2 r3 => (r1.append ((at1_rel r3 0).append ((at1_rel r3 1).append ((at1_rel r3 2).append (at1_rel r3 3)))))) fun D doc pm an cdv ct us mv ws l1 l2 l3 => by
    match us, l1, mv, l2, ws, l3 with
    | [u], _, [], _, [w0, w1, w2, w3], _ => exact rfl
  exact ⟨_, h⟩
theorem bI_number_unknown_sign_letter (F : FI K f fd) : ∃ g, KBn K fd pI 1 ["number", "unknown", "sign", "letter"] g (fun vs zs => vs ++ (at1 zs 3 ++ (at1 zs 2 ++ (at1 zs 1 ++ (at1 zs 0))))) := by
  obtain ⟨mv, h⟩ := F.kbinds0 (ps := pI) 1 ["number", "unknown", "sign", "letter"] [] (fun us mv ws => us ++ (at1 ws 3 ++ (at1 ws 2 ++ (at1 ws 1 ++ (at1 ws 0))))) (List.cons_ne_nil _ _) (by simp) (fun r1 r2 r3 => (r1.append ((at1_rel r3 3).append ((at1_rel r3 2).append ((at1_rel r3 1).append (at1_rel r3 0)))))) fun D doc pm an cdv ct us mv ws l1 l2 l3 => by
    match us, l1, mv, l2, ws, l3 with
    | [u], _, [], _, [w0, w1, w2, w3], _ => exact rfl
  exact ⟨_, h⟩
theorem bI_letter (F : FI K f fd) : ∃ g, KBn K fd pI 1 ["letter"] g (fun vs zs => vs ++ (at1 zs 0 ++ (at1 ([.int 1, .int 1, .int 1] : List V) 0 ++ (at1 ([.int 1, .int 1, .int 1] : List V) 1 ++ (at1 ([.int 1, .int 1, .int 1] : List V) 2))))) := by
  obtain ⟨mv, h⟩ := F.kbinds0 (ps := pI) 1 ["letter"] [("sign", .int 1), ("unknown", .int 1), ("number", .int 1)] (fun us mv ws => us ++ (at1 ws 0 ++ (at1 mv 0 ++ (at1 mv 1 ++ (at1 mv 2))))) (List.cons_ne_nil _ _) (by simp) (fun r1 r2 r3 => (r1.append ((at1_rel r3 0).append ((at1_rel r2 0).append ((at1_rel r2 1).append (at1_rel r2 2)))))) fun D doc pm an cdv ct us mv ws l1 l2 l3 => by
    match us, l1, mv, l2, ws, l3 with
    | [u], _, [m0, m1, m2], _, [w0], _ => exact ⟨_, _, _, _, _, _, rfl, rfl, _, _, _, _, _, _, rfl, rfl, _, _, _, _, _, _, rfl, rfl, rfl⟩
  exact ⟨_, h⟩
theorem bI_sign (F : FI K f fd) : ∃ g, KBn K fd pI 1 ["sign"] g (fun vs zs => vs ++ (at1 ([.int 1, .int 1, .int 1] : List V) 0 ++ (at1 zs 0 ++ (at1 ([.int 1, .int 1, .int 1] : List V) 1 ++ (at1 ([.int 1, .int 1, .int 1] : List V) 2))))) := by
  obtain ⟨mv, h⟩ := F.kbinds0 (ps := pI) 1 ["sign"] [("letter", .int 1), ("unknown", .int 1), ("number", .int 1)] (fun us mv ws => us ++ (at1 mv 0 ++ (at1 ws 0 ++ (at1 mv 1 ++ (at1 mv 2))))) (List.cons_ne_nil _ _) (by simp) (fun r1 r2 r3 => (r1.append ((at1_rel r2 0).append ((at1_rel r3 0).append ((at1_rel r2 1).append (at1_rel r2 2)))))) fun D doc pm an cdv ct us mv ws l1 l2 l3 => by
    match us, l1, mv, l2, ws, l3 with
    | [u], _, [m0, m1, m2], _, [w0], _ => exact ⟨_, _, _, _, _, _, rfl, rfl, _, _, _, _, _, _, rfl, rfl, _, _, _, _, _, _, rfl, rfl, rfl⟩
  exact ⟨_, h⟩
theorem bI_unknown (F : FI K f fd) : ∃ g, KBn K fd pI 1 ["unknown"] g (fun vs zs => vs ++ (at1 ([.int 1, .int 1, .int 1] : List V) 0 ++ (at1 ([.int 1, .int 1, .int 1] : List V) 1 ++ (at1 zs 0 ++ (at1 ([.int 1, .int 1, .int 1] : List V) 2))))) := by
  obtain ⟨mv, h⟩ := F.kbinds0 (ps := pI) 1 ["unknown"] [("letter", .int 1), ("sign", .int 1), ("number", .int 1)] (fun us mv ws => us ++ (at1 mv 0 ++ (at1 mv 1 ++ (at1 ws 0 ++ (at1 mv 2))))) (List.cons_ne_nil _ _) (by simp) (fun r1 r2 r3 => (r1.append ((at1_rel r2 0).append ((at1_rel r2 1).append ((at1_rel r3 0).append (at1_rel r2 2)))))) fun D doc pm an cdv ct us mv ws l1 l2 l3 => by
    match us, l1, mv, l2, ws, l3 with
    | [u], _, [m0, m1, m2], _, [w0], _ => exact ⟨_, _, _, _, _, _, rfl, rfl, _, _, _, _, _, _, rfl, rfl, _, _, _, _, _, _, rfl, rfl, rfl⟩
  exact ⟨_, h⟩
theorem bI_number (F : FI K f fd) : ∃ g, KBn K fd pI 1 ["number"] g (fun vs zs => vs ++ (at1 ([.int 1, .int 1, .int 1] : List V) 0 ++ (at1 ([.int 1, .int 1, .int 1] : List V) 1 ++ (at1 ([.int 1, .int 1, .int 1] : List V) 2 ++ (at1 zs 0))))) := by
  obtain ⟨mv, h⟩ := F.kbinds0 (ps := pI) 1 ["number"] [("letter", .int 1), ("sign", .int 1), ("unknown", .int 1)] (fun us mv ws => us ++ (at1 mv 0 ++ (at1 mv 1 ++ (at1 mv 2 ++ (at1 ws 0))))) (List.cons_ne_nil _ _) (by simp) (fun r1 r2 r3 => (r1.append ((at1_rel r2 0).append ((at1_rel r2 1).append ((at1_rel r2 2).append (at1_rel r3 0)))))) fun D doc pm an cdv ct us mv ws l1 l2 l3 => by
    match us, l1, mv, l2, ws, l3 with
    | [u], _, [m0, m1, m2], _, [w0], _ => exact ⟨_, _, _, _, _, _, rfl, rfl, _, _, _, _, _, _, rfl, rfl, _, _, _, _, _, _, rfl, rfl, rfl⟩
  exact ⟨_, h⟩
theorem bI_sign_number (F : FI K f fd) : ∃ g, KBn K fd pI 1 ["sign", "number"] g (fun vs zs => vs ++ (at1 ([.int 1, .int 1] : List V) 0 ++ (at1 zs 0 ++ (at1 ([.int 1, .int 1] : List V) 1 ++ (at1 zs 1))))) := by
  obtain ⟨mv, h⟩ := F.kbinds0 (ps := pI) 1 ["sign", "number"] [("letter", .int 1), ("unknown", .int 1)] (fun us mv ws => us ++ (at1 mv 0 ++ (at1 ws 0 ++ (at1 mv 1 ++ (at1 ws 1))))) (List.cons_ne_nil _ _) (by simp) (fun r1 r2 r3 => (r1.append ((at1_rel r2 0).append ((at1_rel r3 0).append ((at1_rel r2 1).append (at1_rel r3 1)))))) fun D doc pm an cdv ct us mv ws l1 l2 l3 => by
    match us, l1, mv, l2, ws, l3 with
    | [u], _, [m0, m1], _, [w0, w1], _ => exact ⟨_, _, _, _, _, _, rfl, rfl, _, _, _, _, _, _, rfl, rfl, rfl⟩
  exact ⟨_, h⟩
end
end K60

set_option Elab.async false
set_option linter.all false
set_option maxRecDepth 100000
set_option maxHeartbeats 4000000
namespace K60
open PySem PySem.Spec PyProof.Rows L2 CK SX NM
theorem tnext_eq (D : Ends) (σ : L2.St) (H : Hp) : tNext D σ H = D.nx σ H := rfl
theorem gname_eq (i : Nat) (v : V) (σ : L2.St) (H : Hp) (Q : L2.St → Hp → Prop) : gName i v σ H Q = Q (σ.set i (some v)) H := rfl
/-! the fields -/
def FP (a b c d : Nat) : List (Str × V) := [("letter", .int (a : Nat)), ("sign", .int (b : Nat)), ("unknown", .int (c : Nat)), ("number", .int (d : Nat))]
theorem n_ls : ¬ (("letter" : Str) = "sign") := by decide +kernel
theorem n_lu : ¬ (("letter" : Str) = "unknown") := by decide +kernel
theorem n_ln : ¬ (("letter" : Str) = "number") := by decide +kernel
theorem n_su : ¬ (("sign" : Str) = "unknown") := by decide +kernel
theorem n_sn : ¬ (("sign" : Str) = "number") := by decide +kernel
theorem n_un : ¬ (("unknown" : Str) = "number") := by decide +kernel
theorem put_new {x : Str} {v : V} : ∀ {fs : List (Str × V)}, (∀ q ∈ fs, ¬ q.1 = x) → putF x v fs = fs ++ [(x, v)]
  | [], _ => rfl
  | (k, u) :: fs, h => by
    show (if k = x then (k, v) :: fs else (k, u) :: putF x v fs) = _
    rw [if_neg (h (k, u) List.mem_cons_self), put_new fun r hr => h r (List.mem_cons_of_mem _ hr)]
    rfl
def F1 (a : Nat) : List (Str × V) := [("letter", .int (a : Nat))]
def F2 (a b : Nat) : List (Str × V) := [("letter", .int (a : Nat)), ("sign", .int (b : Nat))]
def F3 (a b c : Nat) : List (Str × V) := [("letter", .int (a : Nat)), ("sign", .int (b : Nat)), ("unknown", .int (c : Nat))]
theorem put_1 (a : Nat) : putF "letter" (V.int (a : Nat)) [] = F1 a := rfl
theorem put_2 (a b : Nat) : putF "sign" (V.int (b : Nat)) (F1 a) = F2 a b := put_new fun q hq => by
  rw [List.mem_singleton.mp hq]; exact n_ls
theorem put_3 (a b c : Nat) : putF "unknown" (V.int (c : Nat)) (F2 a b) = F3 a b c := put_new fun q hq => by
  rcases List.mem_cons.mp hq with rfl | hq
  · exact n_lu
  · rw [List.mem_singleton.mp hq]; exact n_su
theorem put_4 (a b c d : Nat) : putF "number" (V.int (d : Nat)) (F3 a b c) = FP a b c d := put_new fun q hq => by
  rcases List.mem_cons.mp hq with rfl | hq
  · exact n_ln
  · rcases List.mem_cons.mp hq with rfl | hq
    · exact n_sn
    · rw [List.mem_singleton.mp hq]; exact n_un
theorem fp_n (a b c d : Nat) : (FP a b c d).lookup ("number" : Str) = some (.int (d : Nat)) := by rw [← put_4, lookup_putF, if_pos rfl]
theorem fp_u (a b c d : Nat) : (FP a b c d).lookup ("unknown" : Str) = some (.int (c : Nat)) := by rw [← put_4, lookup_putF, if_neg n_un, ← put_3, lookup_putF, if_pos rfl]
theorem fp_s (a b c d : Nat) : (FP a b c d).lookup ("sign" : Str) = some (.int (b : Nat)) := by rw [← put_4, lookup_putF, if_neg n_sn, ← put_3, lookup_putF, if_neg n_su, ← put_2, lookup_putF, if_pos rfl]
theorem fp_l (a b c d : Nat) : (FP a b c d).lookup ("letter" : Str) = some (.int (a : Nat)) := by rw [← put_4, lookup_putF, if_neg n_ln, ← put_3, lookup_putF, if_neg n_lu, ← put_2, lookup_putF, if_neg n_ls, ← put_1, lookup_putF, if_pos rfl]
theorem fp_no (a b c d : Nat) {m : Str} (h1 : ¬ m = "letter") (h2 : ¬ m = "sign") (h3 : ¬ m = "unknown") (h4 : ¬ m = "number") : (FP a b c d).lookup m = none := by
  rw [← put_4, lookup_putF, if_neg h4, ← put_3, lookup_putF, if_neg h3, ← put_2, lookup_putF, if_neg h2, ← put_1, lookup_putF, if_neg h1]
  rfl
/-- prices at p, of the class at C -/
def PrO (C : Addr) (H : Hp) (p : Addr) (a b c d : Nat) : Prop := ∃ dx, H p = some (.ins C dx (FP a b c d))
theorem PrO.same {C : Addr} {H H' : Hp} {p : Addr} {a b c d : Nat} (h : PrO C H p a b c d) (s : Same H H') : PrO C H' p a b c d := by
  obtain ⟨dx, e⟩ := h
  exact ⟨dx, s _ _ e⟩
theorem isC_nat (z : Nat) : isC (V.int (z : Nat)) = true := by
  show decide ((0 : Int) ≤ ((z : Nat) : Int)) = true
  exact decide_eq_true (by omega)
section
variable {P : Program} {w : World} {K : PySem.W.Frag} {mg : Str → Option Value} {base : Heap} {C : Addr} {f : Addr} {fd : FuncData}
def sp_init (C : Addr) : Sp := fun vs H Q _ => ∃ (p dx : Addr) (a b c d : Nat), vs = [.ref p, .int a, .int b, .int c, .int d] ∧ H p = some (.ins C dx []) ∧ 1 ≤ a ∧ ∀ H', SameX p H H' → PrO C H' p a b c d → Q .non H'
theorem ok_init (T : Txt K mg C) (F : FI K f fd) : FnOk P w K mg base C8.CX0 3 f fd pI (sp_init C) := by
  refine C8.fn0 (fun_of F) sc_Prices___init__ (fun vs H Q E h => ?_) (fun cdv A outer s H vs Q E hr h => ?_)
  · obtain ⟨_, _, _, _, _, _, rfl, _⟩ := h; rfl
  · obtain ⟨p, dx, a, b, c, d, rfl, hp, h1, q⟩ := h
    have cl := T.k_Prices.ins.cl
    refine ⟨_, (pss_cons (ps_if (PW.pt (pw_or (pt_not (pt_val (C8.pe_c (c_is_whole T) hr (by decide) (by rfl) (pa_cons (pv 1) pa_nil)))) (pw_or1 (pt_cmpR op_lt (pv 1) pe_int (nomark _)))))
    (pss_one ps_never)
    pss_nil)
    (pss_cons (ps_for PassesOwn.never rfl (pi_list (pe_lst (pa_cons (pv 2) (pa_cons (pv 3) (pa_cons (pv 4) pa_nil))))) (pg_name (i := 5) sc_Prices___init__.nd rfl (Or.inl rfl))
    (pss_one (ps_if (pt_not (pt_val (C8.pe_c (c_is_count T) hr (by decide) (by rfl) (pa_cons (pv 5) pa_nil))))
    (pss_one ps_never)
    pss_nil)))
    (pss_cons (ps_fld (pv 0) (pv 1) rfl)
    (pss_cons (ps_fld (pv 0) (pv 2) rfl)
    (pss_cons (ps_fld (pv 0) (pv 3) rfl)
    (pss_one (ps_fld (pv 0) (pv 4) rfl))))))), ?_⟩
    refine ⟨_, rfl, _, rfl, .int _, _, rfl, iteF ?_⟩
    refine ⟨_, rfl, _, _, rfl, rfl, false, congrArg V.bl (decide_eq_false (by omega)), iteF ?_⟩
    rw [tnext_eq]
    refine ⟨_, rfl, _, rfl, _, rfl, by show 3 ≤ sizeLine; decide, fun D nD => ?_⟩
    have sD := sameNew (o := .lst [.int (b : Nat), .int (c : Nat), .int (d : Nat)]) nD
    have hD : upd H D (.lst [.int (b : Nat), .int (c : Nat), .int (d : Nat)]) D = some (.lst (([b, c, d] : List Nat).map fun n : Nat => V.int (n : Nat))) := upd_same
    have hp1 := sD _ _ hp
    generalize upd H D (.lst [.int (b : Nat), .int (c : Nat), .int (d : Nat)]) = H1 at sD hD hp1
    refine ⟨D, rfl, ⟨_, .inl (.inl hD)⟩, ?_⟩
    refine for_it (walk_list (K := K) (a := D) (xs := ([b, c, d] : List Nat).map fun n : Nat => V.int (n : Nat))) (fun i σ H' => H' = H1 ∧ ∃ y5, σ = [some (.ref p), some (.int (a : Nat)), some (.int (b : Nat)), some (.int (c : Nat)), some (.int (d : Nat)), y5]) ⟨rfl, _, rfl⟩ (fun i σ H' _ p => by rw [p.1]; exact .inl (.inl hD)) (fun i v σ H' H'' hi p y => ?_) fun σ H' p => ?_
    · obtain ⟨rfl, y5, rfl⟩ := p
      obtain ⟨rfl, hx⟩ := y
      obtain ⟨z, _, _, rfl⟩ := get_nat hx
      refine ⟨_, rfl, _, rfl, .int _, _, rfl, ?_⟩
      rw [isC_nat]
      exact iteF ⟨rfl, _, rfl⟩
    · obtain ⟨rfl, y5, rfl⟩ := p
      refine ⟨_, rfl, _, rfl, p, C, dx, _, rfl, hp1, cl, T.f_letter, by show 0 < 1000; decide, ?_⟩
      refine ⟨_, rfl, _, rfl, p, C, dx, _, rfl, upd_same, cl, T.f_sign, by show 1 < 1000; decide, ?_⟩
      refine ⟨_, rfl, _, rfl, p, C, dx, _, rfl, upd_same, cl, T.f_unknown, by rw [put_1, put_2]; show 2 < 1000; decide, ?_⟩
      refine ⟨_, rfl, _, rfl, p, C, dx, _, rfl, upd_same, cl, T.f_number, by rw [put_1, put_2, put_3]; show 3 < 1000; decide, ?_⟩
      refine q _ (fun x o hx e => ?_) ⟨dx, ?_⟩
      · rw [upd_ne hx, upd_ne hx, upd_ne hx, upd_ne hx]
        exact sD _ _ e
      · rw [upd_same, put_1, put_2, put_3, put_4]
end
end K60

set_option Elab.async false
set_option linter.all false
set_option maxRecDepth 100000
set_option maxHeartbeats 4000000
namespace K60
open PySem PySem.Spec PyProof.Rows L2 CK SX NM
theorem mk_pr {C : Addr} {Hc : Hp} {x dx : Addr} {a b c d : Nat} {R : V → Hp → Prop} {E : XK} (nx : Hc x = none) (ndx : Hc dx = none) (nex : dx ≠ x) (h1 : 1 ≤ a)
    (q : ∀ H', Same Hc H' → PrO C H' x a b c d → R .non H') : sp_init C [.ref x, .int a, .int b, .int c, .int d] (upd (upd Hc dx (.own x)) x (.ins C dx [])) R E := by
  refine ⟨x, dx, a, b, c, d, rfl, upd_same, h1, fun H1 s1 k1 => q H1 (fun y o e => ?_) k1⟩
  have ny : y ≠ x := fun z => by rw [z, nx] at e; cases e
  refine s1 _ _ ny ?_
  rw [upd_ne ny, upd_ne (fun z => by rw [z, ndx] at e; cases e)]
  exact e
/-! what a piece adds -/
def fx (p : Pn) : Bool := decide (p.2 = one1 (p.2.length - 1))
def e0 (p : Pn) : Nat := p.1.length
def e1 (p : Pn) : Nat := if fx p then 0 else 1
def e2 (p : Pn) : Nat := if fx p then 0 else (p.2.tail.filter fun n => decide (n ≠ 0)).length
def e3 (p : Pn) : Nat := if fx p then 0 else if p.2.headD 0 = 0 then 0 else 1
def sm (e : Pn → Nat) (ps : List Pn) : Nat := (ps.map e).sum
def vecP (p : Pn) : List Nat := [e0 p, e1 p, e2 p, e3 p]
def vecs (ps : List Pn) : List Nat := [sm e0 ps, sm e1 ps, sm e2 ps, sm e3 ps]
theorem sm_app (e : Pn → Nat) (a b : List Pn) : sm e (a ++ b) = sm e a + sm e b := by unfold sm; rw [List.map_append, List.sum_append]
theorem sm_take {e : Pn → Nat} {ps : List Pn} {i : Nat} {p : Pn} (h : ps[i]? = some p) : sm e (ps.take (i + 1)) = sm e (ps.take i) + e p := by
  rw [List.take_succ, h, sm_app]
  show _ + ([p].map e).sum = _
  simp
theorem range_getD (l : List Nat) : (List.range l.length).map (fun j => l.getD j 0) = l := by
  have := range_map_get l id (fun j => l.getD j 0) fun i x h => by rw [List.getD_eq_getElem?_getD, h]; rfl
  rw [this, List.map_id]
theorem filt_len (l : List Nat) : (((List.range l.length).filter fun j => decide (l.getD j 0 ≠ 0))).length = (l.filter fun n => decide (n ≠ 0)).length := by
  have e := congrArg (fun z : List Nat => (z.filter fun n => decide (n ≠ 0)).length) (range_getD l)
  rw [List.filter_map, List.length_map] at e
  exact e
theorem bne_nat {n : Nat} (z : ¬ n = 0) : (((n : Nat) : Int) != 0) = true := by simp [z]
theorem shaped_dP {p : Pn} (h : Low p.1) : SeqAt.shaped (dP p) = true := by
  unfold SeqAt.shaped
  rw [lay_dP h, deep_dP]
  rfl
section
variable {P : Program} {w : World} {K : PySem.W.Frag} {mg : Str → Option Value} {base : Heap} {C : Addr} {f : Addr} {fd : FuncData}
theorem n_kw (T : Txt K mg C) {ks : List Str} {gV : List V → List V → List V} (hb : ∀ {f : Addr} {fd : FuncData}, FI K f fd → ∃ g, KBn K fd pI 1 ks g gV) : MakN P w K mg base 3 "Prices" C ks (sp_init C) gV := by
  obtain ⟨f, fd, F, me⟩ := T.d_Prices___init__.ex
  obtain ⟨g, h⟩ := hb F
  exact ⟨f, fd, pI, g, ⟨T.k_Prices.makes, me.at_, me.fn, T.k_Prices.kp⟩, ok_init T F, T.k_Prices.mgC, h⟩
def n_Prices_K_letter_sign_unknown_number (T : Txt K mg C) := n_kw (P := P) (w := w) (base := base) T bI_letter_sign_unknown_number
def n_Prices_K_number_unknown_sign_letter (T : Txt K mg C) := n_kw (P := P) (w := w) (base := base) T bI_number_unknown_sign_letter
def n_Prices_K_letter (T : Txt K mg C) := n_kw (P := P) (w := w) (base := base) T bI_letter
def n_Prices_K_sign (T : Txt K mg C) := n_kw (P := P) (w := w) (base := base) T bI_sign
def n_Prices_K_unknown (T : Txt K mg C) := n_kw (P := P) (w := w) (base := base) T bI_unknown
def n_Prices_K_number (T : Txt K mg C) := n_kw (P := P) (w := w) (base := base) T bI_number
def n_Prices_K_sign_number (T : Txt K mg C) := n_kw (P := P) (w := w) (base := base) T bI_sign_number
theorem n_Prices_D0 (T : Txt K mg C) : C8.Mak P w K mg base 3 "Prices" C (sp_init C) [.int 1, .int 1, .int 1, .int 1] := by
  obtain ⟨f, fd, F, me⟩ := T.d_Prices___init__.ex
  obtain ⟨ds, h1, h2⟩ := bI_D0 F
  exact ⟨f, fd, pI, ds, ⟨T.k_Prices.makes, me.at_, me.fn, T.k_Prices.kp⟩, ok_init T F, T.k_Prices.mgC, h2, h1⟩
/-! vectors -/
theorem range_true (n : Nat) : (List.range n).map (fun _ => V.bl true) = (List.replicate n true).map V.bl := by
  rw [List.map_const', List.length_range, List.map_replicate]
def sp_need_vector : Sp := fun vs H Q _ => ∃ (a : Addr) (g : F), vs = [.ref a] ∧ FT H a g ∧ g.length = 4 ∧ ∀ H', Same H H' → Q .non H'
theorem c_need_vector (T : Txt K mg C) : C8.Cal P w K mg base 3 "need_vector" sp_need_vector [] := by
  refine calF T.d_need_vector sc_need_vector (fun vs H Q E h => ?_) (fun f cdv A outer s H vs Q E hr h => ?_)
  · obtain ⟨_, _, rfl, _⟩ := h; rfl
  · obtain ⟨a, g, rfl, ha, h4, q⟩ := h
    refine ⟨_, (pss_one (ps_if (PW.pt (pw_or (pt_not (pt_val (pe_callB call_isK (by rfl) T.m_isinstance (by decide +kernel) (pa_cons (pv 0) (pa_cons (pe_bltn (v := .ty "tuple") (by rfl) T.m_tuple (by decide +kernel) rfl) pa_nil))))) (pw_or (pt_cmpR op_ne (pe_callB call_len_seq (by rfl) T.m_len (by decide +kernel) (pa_cons (pv 0) pa_nil)) (C8.pe_gc (by rfl) T.k_VECTOR_SIZE) (nomark _)) (pw_or1 (pt_not (pt_val (pe_callB (cr_all rfl) (by rfl) T.m_all (by decide +kernel) (pa_cons (pe_lc (own := [("number", 1)]) (by rfl) sc_need_vector.nd (pi_tup (pv 0)) (blkOk_by (N := ["value", "number"]) (sc := C8.fnScope (topS 32)) (own := [("number", 1)]) (by decide +kernel)) (fun _ _ _ _ _ => (pg_name (i := 1) sc_need_vector.nd rfl (Or.inl rfl))) (fun _ _ _ _ _ => pts_nil) (fun _ _ _ _ _ => (C8.pe_c (c_is_count T) hr (by decide) (by rfl) (pa_cons (pv 1) pa_nil)))) pa_nil))))))))
    (pss_one ps_never)
    pss_nil)), ?_⟩
    have kn : Kn H (.ref a) := .tup ha
    refine ⟨_, rfl, .ref a, "tuple", _, rfl, kn, kit_tuple kn, _, rfl, ?_⟩
    rw [isTu_tup ha]
    refine iteF ⟨_, rfl, a, _, rfl, .inr (.inl (.inl ha)), rfl, false, congrArg V.bl ?_, iteF ?_⟩
    · rw [List.length_map, h4]
      rfl
    refine ⟨_, rfl, a, rfl, ⟨_, .inl (.inl ha)⟩, fun D hD => ?_⟩
    refine lcT_map (K := K) (fun _ => .bl true) ha (small5 (by rw [List.length_map]; omega)) (fun i x H' R hx s q' => ?_) hD fun H' s hL => ?_
    · obtain ⟨n, _, _, rfl⟩ := get_nat hx
      refine ⟨rfl, _, rfl, .int _, rfl, .int _, ?_⟩
      rw [isC_nat]
      exact q' _ (Same.refl _)
    · refine ⟨D, g.map fun _ => true, rfl, .inl (.inl (by rw [hL, List.map_map, List.map_map]; rfl)), _, rfl, ?_⟩
      rw [show (g.map fun _ => true).all id = true by simp]
      exact iteF (q H' s)
abbrev FO (K : PySem.W.Frag) (f : Addr) (fd : FuncData) := FunD K "of" "Prices.of" (C8.fnArgs (inClass (topS 31) 1)) (C8.fnBody (inClass (topS 31) 1)) (C8.fnScope (inClass (topS 31) 1)) [] [] f fd
def dotP (a b c d : Nat) (g : List Nat) : Nat := g.getD 0 0 * a + g.getD 1 0 * b + g.getD 2 0 * c + g.getD 3 0 * d
def sp_of (C : Addr) : Sp := fun vs H Q _ => ∃ (p t : Addr) (a b c d x y z u : Nat), vs = [.ref p, .ref t] ∧ PrO C H p a b c d ∧ FT H t [x, y, z, u] ∧ a < 2 ^ 200 ∧ b < 2 ^ 200 ∧ c < 2 ^ 200 ∧ d < 2 ^ 200 ∧ x < 2 ^ 200 ∧ y < 2 ^ 200 ∧ z < 2 ^ 200 ∧ u < 2 ^ 200 ∧ ∀ H', Same H H' → Q (.int ((dotP a b c d [x, y, z, u] : Nat))) H'
theorem ok_of (T : Txt K mg C) (F : FO K f fd) : FnOk P w K mg base C8.CX0 4 f fd ["self", "vector"] (sp_of C) := by
  refine C8.fn0 (fun_of F) sc_Prices_of (fun vs H Q E h => ?_) (fun cdv A outer s H vs Q E hr h => ?_)
  · obtain ⟨_, _, _, _, _, _, _, _, _, _, rfl, _⟩ := h; rfl
  · obtain ⟨p, t, a, b, c, d, x, y, z, u, rfl, hp, ht, ha, hb, hc, hd, hx, hy, hz, hu, q⟩ := h
    have cl := T.k_Prices.ins.cl
    refine ⟨_, (pss_cons (ps_expr (C8.pe_c (c_need_vector T) hr (by decide) (by rfl) (pa_cons (pv 1) pa_nil)))
    (pss_cons (ps_asg (pv 1) (pg_tup rfl (pgs_cons (pg_name (i := 2) sc_Prices_of.nd rfl (Or.inl rfl)) (pgs_cons (pg_name (i := 3) sc_Prices_of.nd rfl (Or.inl rfl)) (pgs_cons (pg_name (i := 4) sc_Prices_of.nd rfl (Or.inl rfl)) (pgs_cons (pg_name (i := 5) sc_Prices_of.nd rfl (Or.inl rfl)) pgs_nil))))))
    (pss_one (ps_ret (pe_op op_add (pe_op op_add (pe_op op_add (pe_op op_mulW (pv 2) (pe_fld (pv 0) rfl)) (pe_op op_mulW (pv 3) (pe_fld (pv 0) rfl))) (pe_op op_mulW (pv 4) (pe_fld (pv 0) rfl))) (pe_op op_mulW (pv 5) (pe_fld (pv 0) rfl))))))), ?_⟩
    refine ⟨_, rfl, t, _, rfl, ht, rfl, fun H1 s1 => ?_⟩
    have ht1 : H1 t = some (.tup [.int (x : Nat), .int (y : Nat), .int (z : Nat), .int (u : Nat)]) := s1 _ _ ht
    obtain ⟨dx, hp1⟩ := hp.same s1
    refine ⟨_, rfl, ?_⟩
    have wm : ∀ {m n : Nat}, m < 2 ^ 200 → n < 2 ^ 200 → CMulW (m : Int) (n : Int) := fun h1 h2 => wide_mul (a := 200) (b := 200) (by rw [Int.natAbs_natCast]; exact h1) (by rw [Int.natAbs_natCast]; exact h2) (by decide) (by decide) (by decide)
    refine ⟨t, _, rfl, .inl (.inl ht1), rfl, _, _, rfl, _, _, rfl, _, _, rfl, _, _, rfl, rfl, ?_⟩
    refine ⟨_, rfl, _, rfl, p, C, dx, _, _, rfl, hp1, cl, T.f_letter, fp_l a b c d, _, _, rfl, rfl, wm hx ha, ?_⟩
    refine ⟨_, rfl, _, rfl, p, C, dx, _, _, rfl, hp1, cl, T.f_sign, fp_s a b c d, _, _, rfl, rfl, wm hy hb, _, _, rfl, rfl, ?_⟩
    refine ⟨_, rfl, _, rfl, p, C, dx, _, _, rfl, hp1, cl, T.f_unknown, fp_u a b c d, _, _, rfl, rfl, wm hz hc, _, _, rfl, rfl, ?_⟩
    refine ⟨_, rfl, _, rfl, p, C, dx, _, _, rfl, hp1, cl, T.f_number, fp_n a b c d, _, _, rfl, rfl, wm hu hd, _, _, rfl, rfl, ?_⟩
    have e : (x : Int) * a + y * b + z * c + u * d = ((dotP a b c d [x, y, z, u] : Nat) : Int) := by
      show _ = ((x * a + y * b + z * c + u * d : Nat) : Int)
      push_cast
      rfl
    dsimp only
    rw [e]
    exact q H1 s1
theorem m_Prices_of (T : Txt K mg C) : C8.Met P w K mg base 4 C "of" (sp_of C) [] := by
  obtain ⟨f, fd, F, me⟩ := T.d_Prices_of.ex
  refine ⟨f, fd, _, [], T.k_Prices.ins.cl, me, ok_of T F, F.bindsN fun kV doc pm an cdv ct us hl => ?_, .nil⟩
  match us, hl with
  | [u, v], _ => rfl
def m_Prices_of_K_vector (T : Txt K mg C) : MetN P w K mg base 4 C "of" ["vector"] (sp_of C) (fun vs zs => vs ++ zs) := by
  obtain ⟨f, fd, F, me⟩ := T.d_Prices_of.ex
  refine ⟨f, fd, ["self", "vector"], _, T.k_Prices.ins.cl, me, ok_of T F, FunD.kbindsN F 1 ["vector"] (fun us ws => us ++ ws) (fun r1 r2 => r1.append r2) fun kV doc pm an cdv ct us ws l1 l2 => ?_⟩
  match us, l1, ws, l2 with
  | [u], _, [v], _ => rfl
def sp_vector_sum : Sp := fun vs H Q _ => ∃ (a b : Addr) (f g : F), vs = [.ref a, .ref b] ∧ FT H a f ∧ FT H b g ∧ f.length ≤ 4 ∧ f.length = g.length ∧ ∀ p H', Same H H' → FT H' p (addF f g) → Q (.ref p) H'
theorem c_vector_sum (T : Txt K mg C) : C8.Cal P w K mg base 1 "vector_sum" sp_vector_sum [] := by
  refine calF T.d_vector_sum sc_vector_sum (fun vs H Q E h => ?_) (fun f cdv A outer s H vs Q E hr h => ?_)
  · obtain ⟨_, _, _, _, rfl, _⟩ := h; rfl
  · obtain ⟨a, b, f, g, rfl, ha, hb, h4, hl, q⟩ := h
    refine ⟨_, (pss_one (ps_ret (pe_callTy call_tupL (by rfl) T.m_tuple (by decide +kernel) (pa_cons (pe_lc (own := [("left", 2), ("right", 3)]) (by rfl) sc_vector_sum.nd (pi_zipB (K := K) rfl (by rfl) T.m_zip (pa_cons (pv 0) (pa_cons (pv 1) pa_nil))) (blkOk_by (N := ["one", "other", "left", "right"]) (sc := C8.fnScope (topS 35)) (own := [("left", 2), ("right", 3)]) (by decide +kernel)) (fun _ _ _ _ _ => (pg_two (K := K) (i := 2) (j := 3) rfl rfl sc_vector_sum.nd rfl rfl (Or.inl rfl) (Or.inl rfl))) (fun _ _ _ _ _ => pts_nil) (fun _ _ _ _ _ => (pe_op op_add (pv 2) (pv 3)))) pa_nil)))), ?_⟩
    refine ⟨_, rfl, _, rfl, .T, .T, a, b, _, _, rfl, .inl (.inl ha), .inl (.inl hb), ?_⟩
    refine fun D hD => lcZ_map vAdd (by simp; omega) (by rw [List.length_map]; exact small5 (by omega)) (fun H' s => ⟨.inl (.inl (s _ _ ha)), .inl (.inl (s _ _ hb))⟩) (fun i x y H' R hx hy s q' => ?_) hD fun H' s hL => ?_
    · obtain ⟨x', mx, _, rfl⟩ := get_nat hx
      obtain ⟨y', my, _, rfl⟩ := get_nat hy
      exact ⟨rfl, _, rfl, _, rfl, _, _, rfl, rfl, q' _ (Same.refl _)⟩
    · rw [zip_addN] at hL
      exact ⟨D, _, rfl, hL, fun l H2 s2 h2 => q l H2 (s.trans s2) h2⟩
/-- the vector of a piece -/
def sp_piece_vector : Sp := fun vs H Q _ => ∃ (a : Addr) (p : Pn) (m : Nat), vs = [.ref a] ∧ PC H a p ∧ p.2.length = m + 1 ∧ m ≤ 3 ∧ Low p.1 ∧ p.1.length ≤ 2000 ∧ ∀ r H', Same H H' → FT H' r (vecP p) → Q (.ref r) H'
theorem c_piece_vector (T : Txt K mg C) : C8.Cal P w K mg base 2 "piece_vector" sp_piece_vector [] := by
  refine calF T.d_piece_vector sc_piece_vector (fun vs H Q E h => ?_) (fun f cdv A outer s H vs Q E hr h => ?_)
  · obtain ⟨_, _, _, rfl, _⟩ := h; rfl
  · obtain ⟨a, p, m, rfl, pc, hl, m3, low, w2, q⟩ := h
    refine ⟨_, (pss_cons (ps_asg (pv 0) (pg_two (K := K) (i := 1) (j := 2) rfl rfl sc_piece_vector.nd rfl rfl (Or.inl rfl) (Or.inl rfl)))
    (pss_cons (ps_if (pt_cmpR (op_eqD hr.units) (pv 0) (C8.pe_c (c_fixed_piece T) hr (by decide) (by rfl) (pa_cons (pv 1) (pa_cons (pe_op op_sub (pe_callB call_len_seq (by rfl) T.m_len (by decide +kernel) (pa_cons (pv 2) pa_nil)) pe_int) pa_nil))) (nomark _))
    (pss_one (ps_ret (pe_tup (pa_cons (pe_callB call_len_str (by rfl) T.m_len (by decide +kernel) (pa_cons (pv 1) pa_nil)) (pa_cons pe_int (pa_cons pe_int (pa_cons pe_int pa_nil)))))))
    pss_nil)
    (pss_one (ps_ret (pe_tup (pa_cons (pe_callB call_len_str (by rfl) T.m_len (by decide +kernel) (pa_cons (pv 1) pa_nil)) (pa_cons pe_int (pa_cons (pe_callB call_len_seq (by rfl) T.m_len (by decide +kernel) (pa_cons (pe_lc (own := [("number", 3)]) (by rfl) sc_piece_vector.nd (pi_tup (pe_slice sl_drop (pv 2) (po_some pe_int) po_none)) (blkOk_by (N := ["piece", "word", "form", "number"]) (sc := C8.fnScope (topS 34)) (own := [("number", 3)]) (by decide +kernel)) (fun _ _ _ _ _ => (pg_name (i := 3) sc_piece_vector.nd rfl (Or.inl rfl))) (fun _ _ _ _ _ => (pts_one (pt_truI (pv 3) (by intro _; rfl)))) (fun _ _ _ _ _ => (pv 3))) pa_nil)) (pa_cons (pe_ifExp (pt_truth (pe_ix ix_tup (pv 2) pe_int (fun _ _ => rfl)) (by intro _; rfl)) pe_int pe_int) pa_nil))))))))), ?_⟩
    obtain ⟨fa, h1, h2⟩ := id pc
    refine ⟨_, rfl, a, _, rfl, .inl (.inl h1), rfl, _, _, rfl, _, _, rfl, rfl, ?_⟩
    refine ⟨_, rfl, _, rfl, _, rfl, fa, _, rfl, .inr (.inl (.inl h2)), _, _, rfl, rfl, p.1, m, by rw [List.length_map, hl]; show [V.str (S p.1), V.int (((m + 1 : Nat) : Int) - 1)] = _; rw [show ((m + 1 : Nat) : Int) - 1 = (m : Int) by omega], m3, fun r H1 s1 pr => ?_⟩
    refine ⟨dP p, dP (fixP p.1 m), dp_PC (pc.mono (tup_same s1)), dp_PC pr, shaped_dP low, shaped_dP low, _, rfl, ?_⟩
    rw [eqv_dP]
    have ef : decide (p = fixP p.1 m) = fx p := by
      unfold fx fixP
      rw [hl, Nat.add_sub_cancel]
      exact decide_eq_decide.mpr ⟨fun e => congrArg Prod.snd e, fun e => Prod.ext rfl e⟩
    rw [ef]
    have h21 := s1 _ _ h2
    cases fe : fx p with
    | true =>
      refine iteT ⟨_, rfl, S p.1, rfl, len_line (by omega), by show 4 ≤ sizeLine; decide, fun t nt => q t _ (s1.trans (sameNew nt)) ?_⟩
      unfold FT vecP e0 e1 e2 e3
      rw [fe, upd_same, S_len]
      rfl
    | false =>
      refine iteF ?_
      rw [tnext_eq]
      refine ⟨_, rfl, S p.1, rfl, len_line (by omega), _, rfl, 1, rfl, fa, _, 1, rfl, rfl, rfl, h21, fun p1 H2 s2 h3 => ?_⟩
      have h3' : H2 p1 = some (.tup (p.2.tail.map fun n : Nat => V.int (n : Nat))) := by
        rw [h3, ← List.map_drop]
        cases p.2 <;> rfl
      refine ⟨p1, rfl, ⟨_, .inl (.inl h3')⟩, fun D hD => ?_⟩
      refine lcT_filt (K := K) (a := p1) (xs := p.2.tail.map fun n : Nat => V.int (n : Nat)) (fun j => decide (p.2.tail.getD j 0 ≠ 0)) (fun j => .int ((p.2.tail.getD j 0 : Nat) : Int)) (fun H' s => .inl (.inl (s _ _ h3'))) (small5 (by rw [List.length_map, List.length_tail]; omega)) (fun j z H4 R R0 hz s4 q1 q0 => ?_) hD fun H4 s4 hE => ?_
      · obtain ⟨n, _, hn, rfl⟩ := get_nat hz
        have en : p.2.tail.getD j 0 = n := by rw [List.getD_eq_getElem?_getD, hn]; rfl
        refine ⟨rfl, _, rfl, _, rfl, ?_⟩
        by_cases z : n = 0
        · rw [show (((n : Nat) : Int) != 0) = false by rw [z]; rfl]
          exact iteF (q0 (decide_eq_false fun y => y (en.trans z)) _ (Same.refl _))
        · rw [bne_nat z]
          refine iteT ⟨_, rfl, ?_⟩
          have := q1 (decide_eq_true fun y => z (en.symm.trans y)) _ (Same.refl _)
          rw [en] at this
          exact this
      · have h24 := s4 _ _ (s2 _ _ h21)
        refine ⟨D, _, rfl, .inl (.inl (.inl hE)), ?_⟩
        refine ⟨_, rfl, fa, _, 0, _, rfl, rfl, .inl (.inl h24), atI_nat (j := 0) (head_get hl), _, rfl, ?_⟩
        have el : (((List.range (p.2.tail.map fun n : Nat => V.int (n : Nat)).length).filter fun j => decide (p.2.tail.getD j 0 ≠ 0)).map fun j => V.int ((p.2.tail.getD j 0 : Nat) : Int)).length = (p.2.tail.filter fun n => decide (n ≠ 0)).length := by
          rw [List.length_map, List.length_map, filt_len]
        have fin : ∀ e : Nat, e = e3 p → ∀ t, H4 t = none → Q (.ref t) (upd H4 t (.tup [.int ((S p.1).length : Nat), .int 1, .int ((((List.range (p.2.tail.map fun n : Nat => V.int (n : Nat)).length).filter fun j => decide (p.2.tail.getD j 0 ≠ 0)).map fun j => V.int ((p.2.tail.getD j 0 : Nat) : Int)).length : Nat), .int (e : Nat)])) := fun e ee t nt => by
          refine q t _ ((s1.trans s2).trans (s4.trans (sameNew nt))) ?_
          rw [el]
          unfold FT vecP e0 e1 e2
          rw [fe, upd_same, S_len, ee]
          rfl
        by_cases z : p.2.headD 0 = 0
        · rw [show (((p.2.headD 0 : Nat) : Int) != 0) = false by rw [z]; rfl]
          exact iteF ⟨by show 4 ≤ sizeLine; decide, fun t nt => fin 0 (by unfold e3; rw [fe, if_pos z]; rfl) t nt⟩
        · rw [bne_nat z]
          exact iteT ⟨by show 4 ≤ sizeLine; decide, fun t nt => fin 1 (by unfold e3; rw [fe, if_neg z]; rfl) t nt⟩
def sp_vector_of : Sp := fun vs H Q _ => ∃ (l : Addr) (ps : List Pn) (m : Nat), vs = [.ref l] ∧ PL H l ps ∧ LenF m ps ∧ m ≤ 3 ∧ LowP ps ∧ Ws 2000 ps ∧ ps.length ≤ 5000 ∧ ∀ r H', Same H H' → FT H' r (vecs ps) → Q (.ref r) H'
theorem c_vector_of (T : Txt K mg C) : C8.Cal P w K mg base 3 "vector_of" sp_vector_of [] := by
  refine calF T.d_vector_of sc_vector_of (fun vs H Q E h => ?_) (fun f cdv A outer s H vs Q E hr h => ?_)
  · obtain ⟨_, _, _, rfl, _⟩ := h; rfl
  · obtain ⟨l, ps, m, rfl, ⟨us, hus, pus⟩, lF, m3, low, ws, len, q⟩ := h
    refine ⟨_, (pss_cons (ps_set (i := 1) sc_vector_of.nd rfl (Or.inl rfl) (pe_op op_repOne (pe_tup (pa_cons pe_int pa_nil)) (C8.pe_gc (by rfl) T.k_VECTOR_SIZE)))
    (pss_cons (ps_for PassesOwn.never rfl (pi_list (pv 0)) (pg_name (i := 2) sc_vector_of.nd rfl (Or.inl rfl))
    (pss_one (ps_set (i := 1) sc_vector_of.nd rfl (Or.inl rfl) (C8.pe_c (c_vector_sum T) hr (by decide) (by rfl) (pa_cons (pv 1) (pa_cons (C8.pe_c (c_piece_vector T) hr (by decide) (by rfl) (pa_cons (pv 2) pa_nil)) pa_nil))))))
    (pss_one (ps_ret (pv 1))))), ?_⟩
    have lus := pus.len
    refine ⟨by show 1 ≤ sizeLine; decide, fun t1 n1 => ?_⟩
    refine ⟨t1, _, _, rfl, rfl, upd_same, by omega, by omega, fun t2 H1 s1 h1 => ?_⟩
    have s01 := (sameNew (o := .tup [.int 0]) n1).trans s1
    have hus1 := s01 _ _ hus
    have hv1 : FT H1 t2 (vecs (ps.take 0)) := by
      unfold FT
      rw [h1]
      rfl
    refine ⟨_, rfl, l, rfl, ⟨_, .inl (.inl hus1)⟩, ?_⟩
    refine for_list (K := K) (a := l) (xs := us) (fun i σ H' => Same H1 H' ∧ ∃ (t : Addr) (y2 : Option V), σ = [some (.ref l), some (.ref t), y2] ∧ FT H' t (vecs (ps.take i))) ⟨Same.refl _, t2, none, rfl, hv1⟩ (fun i σ H' _ p => .inl (.inl (p.1 _ _ hus1))) (fun i y σ H' hi p => ?_) (fun σ H' p => ?_)
    · obtain ⟨s2, t, y2, rfl, hv⟩ := p
      obtain ⟨a, p, rfl, hpi, pc⟩ := pus.get hi
      have mem := List.mem_of_getElem? hpi
      refine ⟨_, rfl, _, rfl, a, p, m, rfl, pc.mono (tup_same (s01.trans s2)), lF p mem, m3, low p mem, ws p mem, fun r H3 s3 hr => ?_⟩
      refine ⟨t, r, _, _, rfl, hv.same s3, hr, by show 4 ≤ 4; decide, rfl, fun t' H4 s4 hv' => ⟨s2.trans (s3.trans s4), t', _, rfl, ?_⟩⟩
      have e : addF (vecs (ps.take i)) (vecP p) = vecs (ps.take (i + 1)) := by
        unfold vecs
        rw [sm_take hpi, sm_take hpi, sm_take hpi, sm_take hpi]
        rfl
      rw [← e]
      exact hv'
    · obtain ⟨s2, t, y2, rfl, hv⟩ := p
      rw [lus, List.take_length] at hv
      exact ⟨_, rfl, q t H' (s01.trans s2) hv⟩
def sp_vector : Sp := fun vs H Q _ => ∃ (m : Nat) (l : Addr) (ps : List Pn), vs = [.int m, .ref l] ∧ m ≤ 3 ∧ GL H m l ps ∧ meas ps ≤ 2000 ∧ ∀ r H', Same H H' → FT H' r (vecs ps) → Q (.ref r) H'
abbrev FV (K : PySem.W.Frag) (f : Addr) (fd : FuncData) := FunD K "vector" "vector" (C8.fnArgs (topS 36)) (C8.fnBody (topS 36)) (C8.fnScope (topS 36)) [] [] f fd
theorem ok_vector (T : Txt K mg C) (F : FV K f fd) : FnOk P w K mg base C8.CX0 6 f fd ["many", "pieces"] sp_vector := by
  refine C8.fn0 (fun_of F) sc_vector (fun vs H Q E h => ?_) (fun cdv A outer s H vs Q E hr h => ?_)
  · obtain ⟨_, _, _, rfl, _⟩ := h; rfl
  · obtain ⟨m, l, ps, rfl, m3, g, hme, q⟩ := h
    refine ⟨_, (pss_cons (ps_expr (C8.pe_c (c_need_pieces T) hr (by decide) (by rfl) (pa_cons (pv 0) (pa_cons (pv 1) pa_nil))))
    (pss_one (ps_ret (C8.pe_c (c_vector_of T) hr (by decide) (by rfl) (pa_cons (pv 1) pa_nil))))), ?_⟩
    refine ⟨_, rfl, _, rfl, m, l, ps, rfl, m3, g, hme, fun H1 s1 => ?_⟩
    exact ⟨_, rfl, l, ps, m, rfl, g.at_.same s1, g.len, m3, g.low, g.ws, g.few, fun r H2 s2 hv => q r H2 (s1.trans s2) hv⟩
theorem c_vector (T : Txt K mg C) : C8.Cal P w K mg base 6 "vector" sp_vector [] := by
  obtain ⟨f, fd, F, hm⟩ := T.d_vector.ex
  refine ⟨f, fd, _, [], ok_vector T F, hm, F.kp, F.bindsN fun kV doc pm an cdv ct us hl => ?_, .nil⟩
  match us, hl with
  | [u, v], _ => rfl
def c_vector_K_pieces_many (T : Txt K mg C) : CalN P w K mg base 6 "vector" ["pieces", "many"] sp_vector (fun vs zs => vs ++ (at1 zs 1 ++ at1 zs 0)) := by
  obtain ⟨f, fd, F, hm⟩ := T.d_vector.ex
  refine ⟨f, fd, ["many", "pieces"], _, ok_vector T F, hm, F.kp, FunD.kbindsN F 0 ["pieces", "many"] (fun us ws => us ++ (at1 ws 1 ++ at1 ws 0)) (fun r1 r2 => r1.append ((at1_rel r2 1).append (at1_rel r2 0))) fun kV doc pm an cdv ct us ws l1 l2 => ?_⟩
  match us, l1, ws, l2 with
  | [], _, [u, v], _ => rfl
/-- no prices are ones -/
def sp_chosen (C : Addr) : Sp := fun vs H Q _ => (vs = [.non] ∧ ∀ p H', Same H H' → PrO C H' p 1 1 1 1 → Q (.ref p) H') ∨ ∃ (p : Addr) (a b c d : Nat), vs = [.ref p] ∧ PrO C H p a b c d ∧ Q (.ref p) H
theorem c_chosen_prices (T : Txt K mg C) : C8.Cal P w K mg base 5 "chosen_prices" (sp_chosen C) [] := by
  refine calF T.d_chosen_prices sc_chosen_prices (fun vs H Q E h => ?_) (fun f cdv A outer s H vs Q E hr h => ?_)
  · rcases h with ⟨rfl, _⟩ | ⟨_, _, _, _, _, rfl, _⟩ <;> rfl
  · refine ⟨_, (pss_cons (ps_if (pt_cmpR op_isN (pv 0) pe_non (nomark _))
    (pss_one (ps_ret (pe_mk0 (n_Prices_D0 T) hr (by decide) (by rfl))))
    pss_nil)
    (pss_cons (ps_if (pt_not (pt_val (pe_callB (C8.call_isC T.k_Prices.ins) (by rfl) T.m_isinstance (by decide +kernel) (pa_cons (pv 0) (pa_cons (C8.pe_gc (v := .ref C) (by rfl) ⟨_, T.k_Prices.mgC, rfl⟩) pa_nil)))))
    (pss_one ps_never)
    pss_nil)
    (pss_one (ps_ret (pv 0))))), ?_⟩
    rcases h with ⟨rfl, q⟩ | ⟨p, a, b, c, d, rfl, hp, q⟩
    · refine ⟨_, rfl, rfl, true, congrArg V.bl (decide_eq_true rfl), iteT ?_⟩
      intro x dx nx ndx nex
      exact mk_pr nx ndx nex (by decide) fun H' s h => ⟨rfl, q x H' s h⟩
    · obtain ⟨dx, hp⟩ := hp
      refine ⟨_, rfl, rfl, false, congrArg V.bl (decide_eq_false fun z => by cases z), iteF ?_⟩
      rw [tnext_eq]
      exact ⟨_, rfl, p, dx, _, rfl, hp, _, rfl, iteF ⟨_, rfl, q⟩⟩
theorem sm_le {e : Pn → Nat} {B : Nat} : ∀ {ps : List Pn}, (∀ p ∈ ps, e p ≤ B) → sm e ps ≤ ps.length * B
  | [], _ => Nat.zero_le _
  | p :: r, h => by
    have a := sm_le (ps := r) fun q hq => h q (List.mem_cons_of_mem _ hq)
    have b := h p List.mem_cons_self
    show e p + sm e r ≤ _
    rw [List.length_cons, Nat.add_mul]
    omega
theorem vecs_lt {ps : List Pn} {m : Nat} (lF : LenF m ps) (m3 : m ≤ 3) (ws : Ws 2000 ps) (len : ps.length ≤ 5000) : sm e0 ps < 2 ^ 30 ∧ sm e1 ps < 2 ^ 30 ∧ sm e2 ps < 2 ^ 30 ∧ sm e3 ps < 2 ^ 30 := by
  have h0 := sm_le (e := e0) (B := 2000) fun p hp => ws p hp
  have h1 := sm_le (e := e1) (B := 2000) (ps := ps) fun p hp => by unfold e1; split <;> omega
  have h2 := sm_le (e := e2) (B := 2000) (ps := ps) fun p hp => by
    unfold e2
    split
    · omega
    · have a := List.length_filter_le (fun n => decide (n ≠ 0)) p.2.tail
      have b := lF p hp
      rw [List.length_tail] at a
      omega
  have h3 := sm_le (e := e3) (B := 2000) (ps := ps) fun p hp => by
    unfold e3
    split
    · omega
    · split <;> omega
  have := Nat.mul_le_mul_right 2000 len
  omega
def sp_cost (C : Addr) : Sp := fun vs H Q _ => ∃ (m : Nat) (l : Addr) (ps : List Pn) (v : V) (a b c d : Nat), vs = [.int m, .ref l, v] ∧ m ≤ 3 ∧ GL H m l ps ∧ meas ps ≤ 2000 ∧ ((v = .non ∧ a = 1 ∧ b = 1 ∧ c = 1 ∧ d = 1) ∨ ∃ p, v = .ref p ∧ PrO C H p a b c d) ∧
  a < 2 ^ 200 ∧ b < 2 ^ 200 ∧ c < 2 ^ 200 ∧ d < 2 ^ 200 ∧ ∀ H', Same H H' → Q (.int ((dotP a b c d (vecs ps) : Nat))) H'
abbrev FC (K : PySem.W.Frag) (f : Addr) (fd : FuncData) := FunD K "cost" "cost" (C8.fnArgs (topS 38)) (C8.fnBody (topS 38)) (C8.fnScope (topS 38)) [.non] [] f fd
theorem ok_cost (T : Txt K mg C) (F : FC K f fd) : FnOk P w K mg base C8.CX0 7 f fd ["many", "pieces", "prices"] (sp_cost C) := by
  refine C8.fn0 (fun_of F) sc_cost (fun vs H Q E h => ?_) (fun cdv A outer s H vs Q E hr h => ?_)
  · obtain ⟨_, _, _, _, _, _, _, _, rfl, _⟩ := h; rfl
  · obtain ⟨m, l, ps, v, a, b, c, d, rfl, m3, g, hme, hv, ha, hb, hc, hd, q⟩ := h
    refine ⟨_, (pss_cons (ps_set (i := 3) sc_cost.nd rfl (Or.inl rfl) (C8.pe_c (c_vector T) hr (by decide) (by rfl) (pa_cons (pv 0) (pa_cons (pv 1) pa_nil))))
    (pss_one (ps_ret (C8.pe_mt (m_Prices_of T) hr (by decide) (C8.pe_c (c_chosen_prices T) hr (by decide) (by rfl) (pa_cons (pv 2) pa_nil)) (pa_cons (pv 3) pa_nil))))), ?_⟩
    obtain ⟨b0, b1, b2, b3⟩ := vecs_lt g.len m3 g.ws g.few
    refine ⟨_, rfl, _, rfl, m, l, ps, rfl, m3, g, hme, fun t H1 s1 ht => ?_⟩
    have fin : ∀ p H2, Same H1 H2 → PrO C H2 p a b c d → sp_of C [.ref p, .ref t] H2 Q C8.E0 := fun p H2 s2 hp => ⟨p, t, a, b, c, d, _, _, _, _, rfl, hp, ht.same s2, ha, hb, hc, hd, by omega, by omega, by omega, by omega, fun H3 s3 => q H3 (s1.trans (s2.trans s3))⟩
    have no : ∀ a b c d, (FP a b c d).lookup ("of" : Str) = none := fun a b c d => fp_no a b c d (by decide +kernel) (by decide +kernel) (by decide +kernel) (by decide +kernel)
    rcases hv with ⟨rfl, rfl, rfl, rfl, rfl⟩ | ⟨p, rfl, hp⟩
    · refine ⟨_, rfl, .inl ⟨rfl, fun p H2 s2 hp => ?_⟩⟩
      obtain ⟨dx, h⟩ := id hp
      exact ⟨p, dx, _, rfl, h, no _ _ _ _, _, rfl, fin p H2 s2 hp⟩
    · have hp1 := hp.same s1
      obtain ⟨dx, h⟩ := id hp1
      exact ⟨_, rfl, .inr ⟨p, a, b, c, d, rfl, hp1, p, dx, _, rfl, h, no _ _ _ _, _, rfl, fin p H1 (Same.refl _) hp1⟩⟩
theorem c_cost (T : Txt K mg C) : C8.Cal P w K mg base 7 "cost" (sp_cost C) [] := by
  obtain ⟨f, fd, F, hm⟩ := T.d_cost.ex
  obtain ⟨ds, h1, h2⟩ := F.binds1 (ps := ["many", "pieces", "prices"]) 3 1 (List.cons_ne_nil _ _) rfl fun T' kV doc pm an cdv ct us its l1 l2 => by
    match us, l1, its, l2 with
    | [u, v, x], _, [d], _ => exact ⟨_, rfl, rfl⟩
  exact ⟨f, fd, _, ds, ok_cost T F, hm, F.kp, h2, h1⟩
theorem c_cost_D2 (T : Txt K mg C) : C8.Cal P w K mg base 7 "cost" (sp_cost C) [.non] := by
  obtain ⟨f, fd, F, hm⟩ := T.d_cost.ex
  obtain ⟨ds, h1, h2⟩ := F.binds1 (ps := ["many", "pieces", "prices"]) 2 0 (List.cons_ne_nil _ _) rfl fun T' kV doc pm an cdv ct us its l1 l2 => by
    match us, l1, its, l2 with
    | [u, v], _, [d], _ => exact ⟨_, rfl, rfl⟩
  exact ⟨f, fd, _, ds, ok_cost T F, hm, F.kp, h2, h1⟩
theorem c_cost_K_prices_pieces_many (T : Txt K mg C) : CalN P w K mg base 7 "cost" ["prices", "pieces", "many"] (sp_cost C) (fun vs zs => vs ++ (at1 zs 2 ++ (at1 zs 1 ++ at1 zs 0))) := by
  obtain ⟨f, fd, F, hm⟩ := T.d_cost.ex
  obtain ⟨its, h⟩ := FunD.kbindsD (ps := ["many", "pieces", "prices"]) F 0 ["prices", "pieces", "many"] (fun us _ ws => us ++ (at1 ws 2 ++ (at1 ws 1 ++ at1 ws 0))) (List.cons_ne_nil _ _) (fun r1 _ r2 => r1.append ((at1_rel r2 2).append ((at1_rel r2 1).append (at1_rel r2 0)))) fun T' kV doc pm an cdv ct us its ws l1 l2 l3 => by
    match us, l1, its, l2, ws, l3 with
    | [], _, [d], _, [u, v, x], _ => exact ⟨_, rfl, rfl⟩
  exact ⟨f, fd, _, _, ok_cost T F, hm, F.kp, h⟩
end
end K60

set_option Elab.async false
set_option linter.all false
set_option maxRecDepth 100000
set_option maxHeartbeats 4000000
namespace K60
open PySem PySem.Spec PyProof.Rows L2 CK SX NM
/-- draws that take c steps each -/
theorem lcC_draw {lo : Int} {g : Addr} {n cnt j : Nat} (c : Nat) (Pz : V → Prop) {te : TE} {vs : List Nat} {σ : L2.St} {H1 : Hp} {D : Addr} {Qd : Hp → Prop} (hc : cnt < sizeLine) (hD : H1 D = none) (hg : Gn (n + c * cnt) H1 g)
    (hs : ∀ (i : Nat) (H : Hp) (R : VK), i < cnt → SameX g H1 H → Gn (n + c * (cnt - (i + 1)) + c) H g → (∀ (r : V) H', SameX g H H' → Gn (n + c * (cnt - (i + 1))) H' g → Pz r → R r H') →
      wipe ((wipe σ vs).set j (some (.int (lo + i)))) vs = wipe σ vs ∧ te ((wipe σ vs).set j (some (.int (lo + i)))) H R)
    (hd : ∀ (H : Hp) (ns : List V), SameX g H1 H → Gn n H g → H D = some (.lst ns) → ns.length = cnt → (∀ x ∈ ns, Pz x) → Qd H) :
    ∃ W : Nat → Nat → Hp → Prop, (∃ m, W 0 m (L2.upd H1 D (.lst []))) ∧ ∀ i m H, W i m H →
      ((Itr lo cnt).stop i H ∧ Qd H) ∨ ((Itr lo cnt).go i H ∧ ∃ Nx : Hp → Prop, (∀ H', Nx H' → ∃ m', m' < m ∧ W (i + 1) m' H') ∧ ∀ x H', (Itr lo cnt).yld i H x H' → gName j x (wipe σ vs) H' fun σ2 H2 => wipe σ2 vs = wipe σ vs ∧ tYes σ2 H2 fun b H3 =>
        if b = true then te σ2 H3 fun y H4 => ∃ acc, H4 D = some (.lst acc) ∧ acc.length < sizeLine ∧ Nx (L2.upd H4 D (.lst (acc ++ [y]))) else Nx H3) := by
  have hDg := hg.ne hD
  refine lc_range (fun i H => SameX g H1 H ∧ Gn (n + c * (cnt - i)) H g ∧ i ≤ cnt ∧ ∃ ns : List V, H D = some (.lst ns) ∧ ns.length = i ∧ ∀ x ∈ ns, Pz x)
    ⟨sameX_new hD, hg.upd hDg, Nat.zero_le _, [], upd_same, rfl, fun x h => absurd h List.not_mem_nil⟩ (fun i H hi p => ?_) fun H p => ?_
  · obtain ⟨s, G, _, ns, hL, hl, hb⟩ := p
    have G1 : Gn (n + c * (cnt - (i + 1)) + c) H g := by
      have e : n + c * (cnt - (i + 1)) + c = n + c * (cnt - i) := by
        have hi' : i < cnt := hi
        rw [show cnt - i = (cnt - (i + 1)) + 1 by omega, Nat.mul_succ]
        omega
      rw [e]
      exact G
    refine hs i H _ hi s G1 fun r H' s' G' h0 => ⟨_, s' D _ hDg hL, by omega, (s.trans s').upd2 hD, G'.upd hDg, hi, ns ++ [r], upd_same, ?_, fun x hx => ?_⟩
    · rw [List.length_append, hl]
      rfl
    · rcases List.mem_append.mp hx with z | z
      · exact hb x z
      · rw [List.mem_singleton.mp z]
        exact h0
  · obtain ⟨s, G, _, ns, hL, hl, hb⟩ := p
    rw [Nat.sub_self, Nat.mul_zero] at G
    exact hd H ns s G hL hl hb
theorem Nn_of {B : Nat} : ∀ {vs : List V}, (∀ v ∈ vs, ∃ c : Nat, v = V.int (c : Nat) ∧ c < B) → ∃ cs : List Nat, vs = (cs.map fun n : Nat => V.int (n : Nat)) ∧ (∀ c ∈ cs, c < B) ∧ cs.length = vs.length
  | [], _ => ⟨[], rfl, fun c h => absurd h List.not_mem_nil, rfl⟩
  | v :: vs, h => by
    obtain ⟨c, rfl, hc⟩ := h v List.mem_cons_self
    obtain ⟨cs, rfl, h2, h3⟩ := Nn_of fun x hx => h x (List.mem_cons_of_mem _ hx)
    refine ⟨c :: cs, rfl, fun x hx => ?_, by simp⟩
    rcases List.mem_cons.mp hx with rfl | hx
    · exact hc
    · exact h2 x hx
section
variable {P : Program} {w : World} {K : PySem.W.Frag} {mg : Str → Option Value} {base : Heap} {C : Addr}
def sp_number : Sp := fun vs H Q _ => ∃ (g : Addr) (B n : Nat), vs = [.ref g, .int B] ∧ Gn (n + 2) H g ∧ 4 ≤ B ∧ B < 2 ^ 190 ∧ ∀ (r : Int) H', SameX g H H' → Gn n H' g → 0 ≤ r → r < B → Q (.int r) H'
theorem c_law_number (T : Txt K mg C) : C8.Cal P w K mg base 3 "_law_number" sp_number [] := by
  refine calF T.d_law_number sc_law_number (fun vs H Q E h => ?_) (fun f cdv A outer s H vs Q E hr h => ?_)
  · obtain ⟨_, _, _, rfl, _⟩ := h; rfl
  · obtain ⟨g, B, n, rfl, G, b4, bb, q⟩ := h
    refine ⟨_, (pss_cons (ps_set (i := 2) sc_law_number.nd rfl (Or.inl rfl) (C8.pe_c (c_law_random T) hr (by decide) (by rfl) (pa_cons (pv 0) (pa_cons pe_int pa_nil))))
    (pss_one (ps_ret (pe_ifExp (pt_cmpR op_eq (pv 2) pe_int (nomark _)) (C8.pe_c (c_law_random T) hr (by decide) (by rfl) (pa_cons (pv 0) (pa_cons (pv 1) pa_nil))) (pe_ix ix_list (pe_lst (pa_cons pe_int (pa_cons pe_int (pa_cons pe_int (pa_cons pe_int (pa_cons pe_int (pa_cons pe_int pa_nil))))))) (pv 2) (fun _ _ => rfl)))))), ?_⟩
    refine ⟨_, rfl, g, 7, n + 1, rfl, G, by decide, by decide, fun way H1 s1 G1 w0 w1 => ?_⟩
    refine ⟨_, rfl, rfl, _, rfl, ite2 (fun e => ?_) (fun e => ?_)⟩
    · exact ⟨_, rfl, _, rfl, g, B, n, rfl, G1, by omega, by omega, fun r H2 s2 G2 r0 r1 => q r H2 (s1.trans s2) G2 r0 r1⟩
    · have w6 : way ≠ 6 := fun z => e (decide_eq_true (by rw [z]))
      obtain ⟨k, rfl⟩ : ∃ k : Nat, way = k := ⟨way.toNat, by omega⟩
      refine ⟨by show 6 ≤ sizeLine; decide, fun D nD => ?_⟩
      have hk : k < ([0, 0, 1, 1, 2, 3] : List Nat).length := by show k < 6; omega
      have hz := List.getElem?_eq_getElem hk
      have hv : ∀ x ∈ ([0, 0, 1, 1, 2, 3] : List Nat), x < 4 := by decide
      have hx := hv _ (List.getElem_mem hk)
      generalize ([0, 0, 1, 1, 2, 3] : List Nat)[k] = x at hz hx
      have at1 : ([V.int 0, V.int 0, V.int 1, V.int 1, V.int 2, V.int 3] : List V)[k]? = some (.int (x : Nat)) := by
        have := congrArg (Option.map fun n : Nat => V.int (n : Nat)) hz
        rw [← List.getElem?_map] at this
        exact this
      refine ⟨_, rfl, D, _, (k : Int), .int (x : Nat), rfl, rfl, .inl (.inl upd_same), atI_nat at1, ?_⟩
      exact q x _ (s1.trans (.of (sameNew nD))) ((G1.same (sameNew nD)).le (by omega)) (by omega) (by omega)
/-- a drawn form: its own number up to most, those at the unknowns below B -/
def sp_form : Sp := fun vs H Q _ => ∃ (g : Addr) (m most B n : Nat), vs = [.ref g, .int m, .int most, .int B] ∧ Gn (n + 10) H g ∧ m ≤ 3 ∧ most ≤ 3 ∧ 4 ≤ B ∧ B < 2 ^ 190 ∧
  ∀ p f H', SameX g H H' → Gn n H' g → FT H' p f → f.length = m + 1 → f.headD 0 ≤ most → (∀ x ∈ f, x < B) → Q (.ref p) H'
theorem c_law_form (T : Txt K mg C) : C8.Cal P w K mg base 4 "_law_form" sp_form [] := by
  refine calF T.d_law_form sc_law_form (fun vs H Q E h => ?_) (fun f cdv A outer s H vs Q E hr h => ?_)
  · obtain ⟨_, _, _, _, _, rfl, _⟩ := h; rfl
  · obtain ⟨g, m, most, B, n, rfl, G, hm, h1, b4, bb, q⟩ := h
    refine ⟨_, (pss_one (ps_ret (pe_op op_catS (pe_tup (pa_cons (C8.pe_c (c_law_random T) hr (by decide) (by rfl) (pa_cons (pv 0) (pa_cons (pe_op op_add (pv 2) pe_int) pa_nil))) pa_nil)) (pe_callTy call_tupL (by rfl) T.m_tuple (by decide +kernel) (pa_cons (pe_lc (own := [("_law_turn", 4)]) (by rfl) sc_law_form.nd (pi_range1 (by rfl) T.m_range (pa_cons (pv 1) pa_nil)) (blkOk_by (N := ["_law_generator_here", "_law_many", "_law_most", "_law_great", "_law_turn"]) (sc := C8.fnScope (topS 47)) (own := [("_law_turn", 4)]) (by decide +kernel)) (fun _ _ _ _ _ => (pg_name (i := 4) sc_law_form.nd rfl (Or.inl rfl))) (fun _ _ _ _ _ => pts_nil) (fun _ _ _ _ _ => (C8.pe_c (c_law_number T) hr (by decide) (by rfl) (pa_cons (pv 0) (pa_cons (pv 3) pa_nil))))) pa_nil))))), ?_⟩
    refine ⟨_, rfl, _, rfl, _, _, rfl, rfl, g, _, n + 9, rfl, G, by omega, by omega, fun r H1 s1 G1 r0 r1 => ⟨by show 1 ≤ sizeLine; decide, fun t nt => ?_⟩⟩
    obtain ⟨rk, rfl⟩ : ∃ k : Nat, r = k := ⟨r.toNat, by omega⟩
    have st := sameNew (o := .tup [.int (rk : Nat)]) nt
    have ht : upd H1 t (.tup [.int (rk : Nat)]) t = some (.tup [.int (rk : Nat)]) := upd_same
    have G2 := G1.same st
    generalize upd H1 t (.tup [.int (rk : Nat)]) = H2 at st ht G2
    have tg : t ≠ g := G1.ne nt
    refine ⟨_, rfl, (m : Int), rfl, by omega, by omega, fun D hD => ?_⟩
    have Gc : Gn (n + 2 * m) H2 g := G2.le (by omega)
    refine lcC_draw 2 (lo := 0) (g := g) (n := n) (cnt := m) (fun v => ∃ c : Nat, v = V.int (c : Nat) ∧ c < B) (small5 (by omega)) hD Gc (fun i H3 R hi s3 G3 q' => ?_) fun H3 ns s3 G3 hL hl hP => ?_
    · refine ⟨rfl, _, rfl, _, rfl, g, B, _, rfl, G3, b4, bb, fun r' H4 s4 G4 r0' r1' => q' _ H4 s4 G4 ?_⟩
      exact ⟨r'.toNat, congrArg V.int (by omega), by omega⟩
    · obtain ⟨cs, rfl, hcs, lcs⟩ := Nn_of hP
      refine ⟨D, _, rfl, hL, fun T1 H4 s4 h4 => ?_⟩
      have ht4 := s4 _ _ (s3 _ _ tg ht)
      refine ⟨t, T1, _, _, rfl, rfl, ht4, h4, by rw [hl]; show 1 + m ≤ 1000; omega, fun p H5 s5 h5 => ?_⟩
      refine q p (rk :: cs) H5 ((s1.trans (.of st)).trans (s3.trans (.of (s4.trans s5)))) ((G3.same s4).same s5) (by unfold FT; rw [h5]; rfl) (by rw [List.length_cons, lcs, hl]) (by show rk ≤ most; omega) fun x hx => ?_
      rcases List.mem_cons.mp hx with rfl | hx
      · omega
      · exact hcs x hx
end
end K60

set_option Elab.async false
set_option linter.all false
set_option maxRecDepth 100000
set_option maxHeartbeats 4000000
namespace K60
open PySem PySem.Spec PyProof.Rows L2 CK SX NM
/-- a piece as drawn -/
structure DrP (m B : Nat) (p : Pn) : Prop where
  len : p.2.length = m + 1
  low : Low p.1
  few : p.1.length ≤ 9
  mea : measP p ≤ 12
  num : ∀ x ∈ p.2, x < B
theorem open_rep (k m : Nat) : isOpen (k :: List.replicate m 0) = false := (rfl : isOpen (k :: List.replicate m 0) = isOpen (one1 m)).trans (open_one m)
theorem mea_rep (z : List Nat) (k m : Nat) : measP (z, k :: List.replicate m 0) = z.length * k := by
  unfold measP
  rw [open_rep]
  rfl
theorem mea_le {z : List Nat} {f : F} {a : Nat} (h : f.headD 0 ≤ a) : measP (z, f) ≤ z.length * (a + 1) := Nat.mul_le_mul_left _ (by show f.headD 0 + (if isOpen f = true then 1 else 0) ≤ a + 1; split <;> omega)
theorem rep_B {k m B : Nat} (hk : k < B) : ∀ x ∈ k :: List.replicate m 0, x < B := fun x hx => by
  rcases List.mem_cons.mp hx with rfl | hx
  · exact hk
  · rw [(List.mem_replicate.mp hx).2]; omega
theorem FT.sameX {g a : Addr} {H H' : Hp} {f : F} {n : Nat} (h : FT H a f) (G : Gn n H g) (s : SameX g H H') : FT H' a f := s.tup G h
section
variable {P : Program} {w : World} {K : PySem.W.Frag} {mg : Str → Option Value} {base : Heap} {C : Addr}
def sp_piece : Sp := fun vs H Q _ => ∃ (g : Addr) (cs b : List Nat) (m B n : Nat), vs = [.ref g, .int m, .str (S cs), .str (S b), .int B] ∧ cs.length = 3 ∧ Low cs ∧ b ≠ [] ∧ b.length ≤ 3 ∧ Low b ∧ m ≤ 3 ∧ 4 ≤ B ∧ B < 2 ^ 190 ∧ Gn (n + 50) H g ∧
  ∀ a p H', SameX g H H' → Gn n H' g → PC H' a p → DrP m B p → Q (.ref a) H'
theorem c_law_piece (T : Txt K mg C) : C8.Cal P w K mg base 5 "_law_piece" sp_piece [] := by
  refine calF T.d_law_piece sc_law_piece (fun vs H Q E h => ?_) (fun f0 cdv A outer s H vs Q E hr h => ?_)
  · obtain ⟨_, _, _, _, _, _, rfl, _⟩ := h; rfl
  · obtain ⟨g, cs, b, m, B, n, rfl, lcs, lowc, bne, lb, lowb, hm, b4, bb, G, q⟩ := h
    have b0 := List.length_pos_iff.mpr bne
    refine ⟨_, (pss_cons (ps_par3 (i := 5) (j := 6) (l := 7) (by rfl) sc_law_piece.nd rfl rfl rfl (by decide) (by decide) (by decide) rfl rfl rfl (pa_cons (C8.pe_c (c_law_random T) hr (by decide) (by rfl) (pa_cons (pv 0) (pa_cons pe_int pa_nil))) (pa_cons (C8.pe_c (c_law_random T) hr (by decide) (by rfl) (pa_cons (pv 0) (pa_cons (pe_callB call_len_str (by rfl) T.m_len (by decide +kernel) (pa_cons (pv 3) pa_nil)) pa_nil))) (pa_cons (pe_op op_catS (pe_tup (pa_cons pe_int pa_nil)) (pe_op op_repOne (pe_tup (pa_cons pe_int pa_nil)) (pv 1))) pa_nil))) (by rfl))
    (pss_cons (ps_set (i := 8) sc_law_piece.nd rfl (Or.inl rfl) (pe_op op_add_str (pe_slice C8.sl_txt (pv 3) (po_some (pv 6)) po_none) (pe_slice C8.sl_txt (pv 3) po_none (po_some (pv 6)))))
    (pss_cons (ps_if (pt_cmpR op_lt (pv 5) pe_int (nomark _))
    (pss_one (ps_ret (pe_tup (pa_cons (pv 8) (pa_cons (C8.pe_c (c_law_form T) hr (by decide) (by rfl) (pa_cons (pv 0) (pa_cons (pv 1) (pa_cons pe_int (pa_cons (pv 4) pa_nil))))) pa_nil)))))
    pss_nil)
    (pss_cons (ps_if (pt_cmpR op_eq (pv 5) pe_int (nomark _))
    (pss_one (ps_ret (pe_tup (pa_cons (pe_op op_repS (pv 8) pe_int) (pa_cons (C8.pe_c (c_law_form T) hr (by decide) (by rfl) (pa_cons (pv 0) (pa_cons (pv 1) (pa_cons pe_int (pa_cons (pv 4) pa_nil))))) pa_nil)))))
    pss_nil)
    (pss_cons (ps_if (pt_cmpR op_eq (pv 5) pe_int (nomark _))
    (pss_one (ps_ret (pe_tup (pa_cons (pe_slice C8.sl_txt (pe_op op_repS (pv 8) pe_int) po_none (po_some (C8.pe_c (c_law_random T) hr (by decide) (by rfl) (pa_cons (pv 0) (pa_cons (pe_op op_add (pe_op op_mulW pe_int (pe_callB call_len_str (by rfl) T.m_len (by decide +kernel) (pa_cons (pv 3) pa_nil))) pe_int) pa_nil))))) (pa_cons (pv 7) pa_nil)))))
    pss_nil)
    (pss_cons (ps_if (pt_cmpR op_eq (pv 5) pe_int (nomark _))
    (pss_one (ps_ret (pe_tup (pa_cons (C8.pe_c (c_law_word T) hr (by decide) (by rfl) (pa_cons (pv 0) (pa_cons (pv 2) (pa_cons pe_int (pa_cons pe_int pa_nil))))) (pa_cons (pe_op op_catS (pe_tup (pa_cons (C8.pe_c (c_law_random T) hr (by decide) (by rfl) (pa_cons (pv 0) (pa_cons pe_int pa_nil))) pa_nil)) (pe_op op_repOne (pe_tup (pa_cons pe_int pa_nil)) (pv 1))) pa_nil)))))
    pss_nil)
    (pss_cons (ps_if (pt_cmpR op_eq (pv 5) pe_int (nomark _))
    (pss_one (ps_ret (pe_tup (pa_cons (C8.pe_c (c_law_word T) hr (by decide) (by rfl) (pa_cons (pv 0) (pa_cons (pv 2) (pa_cons pe_int (pa_cons pe_int pa_nil))))) (pa_cons (pv 7) pa_nil)))))
    pss_nil)
    (pss_one (ps_ret (pe_tup (pa_cons (C8.pe_c (c_law_word T) hr (by decide) (by rfl) (pa_cons (pv 0) (pa_cons (pv 2) (pa_cons pe_int (pa_cons pe_int pa_nil))))) (pa_cons (C8.pe_c (c_law_form T) hr (by decide) (by rfl) (pa_cons (pv 0) (pa_cons (pv 1) (pa_cons pe_int (pa_cons (pv 4) pa_nil))))) pa_nil)))))))))))), ?_⟩
    refine ⟨_, rfl, g, 8, n + 49, rfl, G, by decide, by decide, fun way H1 s1 G1 w0 w1 => ?_⟩
    refine ⟨_, rfl, _, rfl, S b, rfl, len_line (by omega), g, _, n + 48, rfl, G1, by rw [S_len]; omega, by rw [S_len]; omega, fun turn H2 s2 G2 t0 t1 => ?_⟩
    rw [S_len] at t1
    obtain ⟨k, rfl⟩ : ∃ k : Nat, turn = k := ⟨turn.toNat, by omega⟩
    refine ⟨by show 1 ≤ sizeLine; decide, fun a1 m1 => ⟨by decide, fun a2 m2 => ⟨_, rfl, a2, _, _, rfl, rfl, upd_same, by omega, by omega, fun a3 H3 s3 h3 => ?_⟩⟩⟩
    have e1 : H3 a1 = some (.tup [.int 1]) := s3 _ _ (by rw [upd_ne (ne_of_none upd_same m2)]; exact upd_same)
    refine ⟨a1, a3, _, _, rfl, rfl, e1, h3, by simp; omega, fun po H4 s4 h4 => ⟨_, _, _, rfl, ?_⟩⟩
    have hone : FT H4 po (1 :: List.replicate m 0) := by
      unfold FT
      rw [h4]
      simp
    have s04 : SameX g H H4 := s1.trans (s2.trans (.of ((((sameNew m1).trans (sameNew m2)).trans s3).trans s4)))
    have G4 := G2.same ((((sameNew (o := .tup [.int 1]) m1).trans (sameNew (o := .tup [.int 0]) m2)).trans s3).trans s4)
    have fin : ∀ {H' : Hp} {t fa : Addr} {z : List Nat} {f : F}, H' t = none → SameX g H4 H' → Gn n H' g → FT H' fa f → DrP m B (z, f) → Q (.ref t) (upd H' t (.tup [.str (S z), .ref fa])) := fun {H' t fa z f} ht sx G' hf d =>
      q t (z, f) _ (s04.trans (sx.trans (.of (sameNew ht)))) (G'.same (sameNew ht)) ⟨fa, upd_same, sameNew ht _ _ hf⟩ d
    -- the turned base
    refine ⟨_, rfl, _, rfl, _, rfl, S b, rfl, len_line (by omega), _, rfl, _, rfl, _, rfl, S b, rfl, len_line (by omega), ?_⟩
    rw [SX.slice_from (by omega), SX.slice_to (by omega), Int.toNat_natCast]
    refine ⟨_, _, rfl, rfl, by rw [S_len, S_len, List.length_drop, List.length_take, sizeLine_eq]; omega, ?_⟩
    rw [S_cat]
    have ltw : (b.drop k ++ b.take k).length = b.length := by rw [List.length_append, List.length_drop, List.length_take]; omega
    have lowt : Low (b.drop k ++ b.take k) := low_app (low_drop lowb _) (low_take lowb _)
    generalize b.drop k ++ b.take k = tw at ltw lowt
    have l2 : (List.replicate 2 tw).flatten.length = tw.length * 2 := WM.pw_len tw 2
    have l3 : (List.replicate 3 tw).flatten.length = tw.length * 3 := WM.pw_len tw 3
    have G5 : Gn (n + 40) H4 g := G4.le (by omega)
    have csne : cs ≠ [] := fun z => by rw [z] at lcs; cases lcs
    have form : ∀ {z : List Nat} {f : F} {a : Nat}, f.length = m + 1 → f.headD 0 ≤ a → (∀ x ∈ f, x < B) → Low z → z.length ≤ 9 → z.length * (a + 1) ≤ 12 → DrP m B (z, f) := fun h1 h2 h3 h4 h5 h6 => ⟨h1, h4, h5, Nat.le_trans (mea_le h2) h6, h3⟩
    have rep : ∀ {z : List Nat} {x : Nat}, x < 4 → Low z → z.length ≤ 9 → z.length * x ≤ 12 → DrP m B (z, x :: List.replicate m 0) := fun h1 h4 h5 h6 => ⟨by simp, h4, h5, by rw [mea_rep]; exact h6, rep_B (by omega)⟩
    refine ⟨_, rfl, _, _, rfl, rfl, _, rfl, ite2 (fun e => ?_) (fun e => ?_)⟩
    · refine ⟨_, rfl, _, rfl, _, rfl, _, rfl, g, m, 2, B, n, rfl, G5.le (by omega), hm, by decide, b4, bb, fun p f H' s' G' hf lf h2 hb => ⟨by show 2 ≤ sizeLine; decide, fun t ht => fin ht s' G' hf (form lf h2 hb lowt (by omega) (by omega))⟩⟩
    rw [tnext_eq]
    refine ⟨_, rfl, rfl, _, rfl, ite2 (fun e => ?_) (fun e => ?_)⟩
    · refine ⟨_, rfl, tw, 2, rfl, rfl, by decide, by omega, ?_⟩
      refine ⟨_, rfl, _, rfl, _, rfl, g, m, 1, B, n, rfl, G5.le (by omega), hm, by decide, b4, bb, fun p f H' s' G' hf lf h2 hb => ⟨by show 2 ≤ sizeLine; decide, fun t ht => fin ht s' G' hf (form lf h2 hb (low_pw lowt 2) (by rw [l2]; omega) (by rw [l2]; omega))⟩⟩
    rw [tnext_eq]
    refine ⟨_, rfl, rfl, _, rfl, ite2 (fun e => ?_) (fun e => ?_)⟩
    · refine ⟨_, rfl, tw, 3, rfl, rfl, by decide, by omega, ?_⟩
      refine ⟨_, rfl, _, rfl, S b, rfl, len_line (by omega), _, _, rfl, rfl, wide_mul (a := 10) (b := 10) (by decide) (by rw [S_len]; omega) (by decide) (by decide) (by decide), _, _, rfl, rfl, g, _, n + 30, rfl, G5.le (by omega), by rw [S_len]; omega, by rw [S_len]; omega, fun r H6 s6 G6 r0 r1 => ?_⟩
      rw [S_len] at r1
      obtain ⟨rn, rfl⟩ : ∃ rn : Nat, r = rn := ⟨r.toNat, by omega⟩
      refine ⟨_, rfl, S (List.replicate 3 tw).flatten, rfl, len_line (by omega), ?_⟩
      rw [SX.slice_to (by omega), Int.toNat_natCast]
      have lt : ((List.replicate 3 tw).flatten.take rn).length ≤ 6 := by rw [List.length_take]; omega
      refine ⟨_, rfl, by show 2 ≤ sizeLine; decide, fun t ht => ?_⟩
      exact fin ht s6 (G6.le (by omega)) (hone.sameX G4 s6) (rep (by decide) (low_take (low_pw lowt 3) _) (by omega) (by omega))
    rw [tnext_eq]
    refine ⟨_, rfl, rfl, _, rfl, ite2 (fun e => ?_) (fun e => ?_)⟩
    · refine ⟨_, rfl, _, rfl, g, cs, n + 20, 1, 2, rfl, csne, by omega, lowc, G5.le (by omega), by decide, by decide, fun w H6 s6 G6 _ w2 lw => ?_⟩
      refine ⟨_, rfl, g, 4, n + 19, rfl, G6.le (by omega), by decide, by decide, fun r H7 s7 G7 r0 r1 => ?_⟩
      obtain ⟨rn, rfl⟩ : ∃ rn : Nat, r = rn := ⟨r.toNat, by omega⟩
      refine ⟨by show 1 ≤ sizeLine; decide, fun c1 k1 => ⟨by decide, fun c2 k2 => ⟨_, rfl, c2, _, _, rfl, rfl, upd_same, by omega, by omega, fun c3 H8 s8 h8 => ?_⟩⟩⟩
      have e8 : H8 c1 = some (.tup [.int (rn : Nat)]) := s8 _ _ (by rw [upd_ne (ne_of_none upd_same k2)]; exact upd_same)
      refine ⟨c1, c3, _, _, rfl, rfl, e8, h8, by simp; omega, fun pq H9 s9 h9 => ⟨by show 2 ≤ sizeLine; decide, fun t ht => ?_⟩⟩
      have s79 := (((sameNew (o := .tup [.int (rn : Nat)]) k1).trans (sameNew (o := .tup [.int 0]) k2)).trans s8).trans s9
      refine fin ht (s6.trans (s7.trans (.of s79))) ((G7.same s79).le (by omega)) (f := rn :: List.replicate m 0) (by unfold FT; rw [h9]; simp) (rep (by omega) lw (by omega) ?_)
      have : w.length * rn ≤ 2 * 3 := Nat.mul_le_mul (by omega) (by omega)
      omega
    rw [tnext_eq]
    refine ⟨_, rfl, rfl, _, rfl, ite2 (fun e => ?_) (fun e => ?_)⟩
    · refine ⟨_, rfl, _, rfl, g, cs, n + 20, 0, 3, rfl, csne, by omega, lowc, G5.le (by omega), by decide, by decide, fun w H6 s6 G6 _ w3 lw => ?_⟩
      refine ⟨_, rfl, by show 2 ≤ sizeLine; decide, fun t ht => ?_⟩
      exact fin ht s6 (G6.le (by omega)) (hone.sameX G4 s6) (rep (by decide) lw (by omega) (by omega))
    rw [tnext_eq]
    refine ⟨_, rfl, _, rfl, g, cs, n + 20, 0, 2, rfl, csne, by omega, lowc, G5.le (by omega), by decide, by decide, fun w H6 s6 G6 _ w2 lw => ?_⟩
    exact ⟨_, rfl, _, rfl, _, rfl, g, m, 1, B, n, rfl, G6.le (by omega), hm, by decide, b4, bb, fun p f H' s' G' hf lf h2 hb => ⟨by show 2 ≤ sizeLine; decide, fun t ht => fin ht (s6.trans s') G' hf (form lf h2 hb lw (by omega) (by omega))⟩⟩
end
end K60

set_option Elab.async false
set_option linter.all false
set_option maxRecDepth 100000
set_option maxHeartbeats 4000000
namespace K60
open PySem PySem.Spec PyProof.Rows L2 CK SX NM
/-- a new list of pieces that grows while the generator runs -/
structure Grow (g : Addr) (H : Hp) (L : Addr) (H' : Hp) (ps : List Pn) : Prop where
  sx : SameX g H H'
  pl : PL H' L ps
  ne : L ≠ g
  new : H L = none
theorem Grow.go {g L : Addr} {H H' H2 : Hp} {ps : List Pn} {n : Nat} (h : Grow g H L H' ps) (G : Gn n H' g) (s : SameX g H' H2) : Grow g H L H2 ps := by
  obtain ⟨s1, ⟨vs, hl, hp⟩, lg, h0⟩ := h
  exact ⟨s1.trans s, ⟨vs, s _ _ lg hl, hp.mono fun a xs e => s.tup G e⟩, lg, h0⟩
/-- as they are drawn -/
def Dr (m B : Nat) (ps : List Pn) : Prop := ∀ p ∈ ps, DrP m B p
theorem shaped_dF (f : F) : SeqAt.shaped (dF f) = true := by
  unfold SeqAt.shaped dF
  rw [PyData.canLay0, lay_nats, PyData.depth, deep_nats]
  decide
theorem eqv_dF (f g : F) : PyData.eqv (dF f) (dF g) = decide (f = g) := by
  unfold dF
  simp only [PyData.eqv, eqvAll_nats]
theorem noneX {g L : Addr} {H H' : Hp} {n : Nat} (s : SameX g H H') (G : Gn n H' g) (h : H' L = none) : H L = none := by
  cases e : H L with
  | none => rfl
  | some o =>
    rw [s _ _ (G.ne h) e] at h
    cases h
theorem e29 : (10 : Int) ^ Int.toNat 29 = ((10 ^ 29 : Nat) : Int) := by decide +kernel
def vMulN : V → V → V
  | .int a, .int b => .int (a * b)
  | _, _ => .non
section
variable {P : Program} {w : World} {K : PySem.W.Frag} {mg : Str → Option Value} {base : Heap} {C : Addr}
def sp_law_raw : Sp := fun vs H Q _ => ∃ (g : Addr) (cs : List Nat) (m most B n : Nat), vs = [.ref g, .int m, .str (S cs), .int most, .int B] ∧ cs.length = 3 ∧ Low cs ∧ m ≤ 3 ∧ 4 ≤ B ∧ B < 2 ^ 190 ∧ most ≤ 6 ∧ Gn (n + 1000) H g ∧
  ∀ L ps H', Grow g H L H' ps → Gn n H' g → ps.length ≤ most → Dr m B ps → Q (.ref L) H'
theorem c_law_raw (T : Txt K mg C) : C8.Cal P w K mg base 6 "_law_raw" sp_law_raw [] := by
  refine calF T.d_law_raw sc_law_raw (fun vs H Q E h => ?_) (fun f0 cdv A outer s H vs Q E hr h => ?_)
  · obtain ⟨_, _, _, _, _, _, rfl, _⟩ := h; rfl
  · obtain ⟨g, cs, m, most, B, n, rfl, lcs, lowc, hm, b4, bb, hmost, G, q⟩ := h
    have csne : cs ≠ [] := fun z => by rw [z] at lcs; cases lcs
    refine ⟨_, (pss_cons (ps_par (i := 5) (j := 6) (by rfl) sc_law_raw.nd rfl rfl (by decide) rfl rfl (pa_cons (C8.pe_c (c_law_word T) hr (by decide) (by rfl) (pa_cons (pv 0) (pa_cons (pe_slice C8.sl_txt (pv 2) po_none (po_some pe_int)) (pa_cons pe_int (pa_cons pe_int pa_nil))))) (pa_cons (pe_lst pa_nil) pa_nil)) (by rfl))
    (pss_cons (ps_for PassesOwn.never rfl (pi_range1 (by rfl) T.m_range (pa_cons (C8.pe_c (c_law_random T) hr (by decide) (by rfl) (pa_cons (pv 0) (pa_cons (pe_op op_add (pv 3) pe_int) pa_nil))) pa_nil)) (pg_name (i := 7) sc_law_raw.nd rfl (Or.inl rfl))
    (pss_cons (ps_expr (pe_bm PySem.F.plainAttrs_list PySem.F.slot_list_append PySem.F.type_list_append mt_append (pv 6) (pa_cons (C8.pe_c (c_law_piece T) hr (by decide) (by rfl) (pa_cons (pv 0) (pa_cons (pv 1) (pa_cons (pv 2) (pa_cons (pv 5) (pa_cons (pv 4) pa_nil)))))) pa_nil)))
    (pss_one (ps_if (pt_cmpR op_eq (C8.pe_c (c_law_random T) hr (by decide) (by rfl) (pa_cons (pv 0) (pa_cons pe_int pa_nil))) pe_int (nomark _))
    (pss_one (ps_set (i := 5) sc_law_raw.nd rfl (Or.inl rfl) (C8.pe_c (c_law_word T) hr (by decide) (by rfl) (pa_cons (pv 0) (pa_cons (pe_slice C8.sl_txt (pv 2) po_none (po_some pe_int)) (pa_cons pe_int (pa_cons pe_int pa_nil)))))))
    pss_nil))))
    (pss_one (ps_ret (pv 6))))), ?_⟩
    have c2ne : cs.take 2 ≠ [] := fun z => by
      have := congrArg List.length z
      rw [List.length_take, List.length_nil] at this
      omega
    have bne' : ∀ {b : List Nat}, 1 ≤ b.length → b ≠ [] := fun {b} h z => by
      rw [z] at h
      simp at h
    refine ⟨_, rfl, _, rfl, _, rfl, S cs, rfl, len_line (by omega), ?_⟩
    rw [SX.slice_to (by decide), show Int.toNat 2 = 2 from rfl]
    refine ⟨g, cs.take 2, n + 990, 1, 3, rfl, c2ne, by rw [List.length_take]; omega, low_take lowc _, G, by decide, by decide, fun b H1 s1 G1 b1 b3 lowb => ⟨by show 0 ≤ sizeLine; omega, fun L hL => ⟨_, _, rfl, ?_⟩⟩⟩
    have s0 := sameNew (o := .lst []) hL
    have Lg := G1.ne hL
    have G0 := G1.same s0
    have hL0 : upd H1 L (.lst []) L = some (.lst []) := upd_same
    have hLH : H L = none := by
      cases e : H L with
      | none => rfl
      | some o =>
        by_cases z : L = g
        · exact absurd z Lg
        · rw [s1 _ _ z e] at hL; cases hL
    have sx : SameX g H (upd H1 L (.lst [])) := s1.trans (.of s0)
    generalize upd H1 L (.lst []) = H2 at s0 G0 hL0 sx
    refine ⟨_, rfl, _, rfl, _, _, rfl, rfl, g, _, n + 980, rfl, G0.le (by omega), by omega, by omega, fun r H3 s3 G3 r0 r1 => ⟨r, rfl, by omega, by omega, ?_⟩⟩
    obtain ⟨cnt, rfl⟩ : ∃ k : Nat, r = k := ⟨r.toNat, by omega⟩
    refine for_it walk_range (fun i σ H' => i ≤ cnt ∧ ∃ (b : List Nat) (y7 : Option V) (ps : List Pn), σ = [some (.ref g), some (.int m), some (.str (S cs)), some (.int most), some (.int B), some (.str (S b)), some (.ref L), y7] ∧ Grow g H L H' ps ∧ Gn (n + 100 * (7 - i)) H' g ∧ ps.length ≤ i ∧ Dr m B ps ∧ b ≠ [] ∧ b.length ≤ 3 ∧ Low b)
      ⟨Nat.zero_le _, b, none, [], rfl, ⟨sx.trans s3, ⟨[], s3 _ _ Lg hL0, .nil⟩, Lg, hLH⟩, G3.le (by omega), Nat.zero_le _, fun p hp => absurd hp List.not_mem_nil, bne' b1, b3, lowb⟩ (fun _ _ _ _ _ => True.intro) (fun i x σ H' H'' hi pI yy => ?_) fun σ H' pI => ?_
    · obtain ⟨_, b, y7, ps, rfl, gr, G4, lps, dr, bne, b3, lowb⟩ := pI
      obtain ⟨rfl, rfl⟩ := yy
      have ic : i < cnt := by
        have : i < ((cnt : Int)).toNat := hi
        omega
      have i7 : i < 7 := by omega
      have eG : n + 100 * (7 - i) = n + 100 * (7 - (i + 1)) + 100 := by omega
      rw [eG] at G4
      obtain ⟨vs, hvs, _⟩ := id gr.pl
      refine ⟨_, rfl, .inl ⟨rfl, _, .inl (.inl hvs)⟩, _, rfl, _, rfl, _, rfl, _, rfl, _, rfl, g, cs, b, m, B, n + 100 * (7 - (i + 1)) + 50, rfl, lcs, lowc, bne, b3, lowb, hm, b4, bb, G4.le (by omega), fun a p H5 s5 G5 pc dp => ?_⟩
      have gr4 := gr.go G4 s5
      obtain ⟨us, hus, pus⟩ := id gr4.pl
      have lu := pus.len
      refine ⟨L, _, _, rfl, rfl, hus, by rw [sizeLine_eq]; omega, ?_⟩
      have gr5 : Grow g H L (upd H5 L (.lst (us ++ [.ref a]))) (ps ++ [p]) := by
        refine ⟨fun c o hc hO => ?_, ⟨_, upd_same, (pus.upd hus).app (.one (pc.mono (tup_upd hus)))⟩, gr4.ne, gr4.new⟩
        have hcL : c ≠ L := fun z => by rw [z, gr4.new] at hO; cases hO
        rw [upd_ne hcL]
        exact gr4.sx c o hc hO
      have G6 := G5.upd (o := .lst (us ++ [.ref a])) gr4.ne
      have dr5 : Dr m B (ps ++ [p]) := fun x hx => by
        rcases List.mem_append.mp hx with z | z
        · exact dr x z
        · rw [List.mem_singleton.mp z]
          exact dp
      have l5 : (ps ++ [p]).length ≤ i + 1 := by rw [List.length_append, List.length_singleton]; omega
      refine ⟨_, rfl, g, 6, n + 100 * (7 - (i + 1)) + 49, rfl, G6, by decide, by decide, fun r H7 s7 G7 r0 r1 => ?_⟩
      have gr6 := gr5.go G6 s7
      refine ⟨rfl, _, rfl, ite2 (fun e => ?_) (fun e => ?_)⟩
      · refine ⟨_, rfl, _, rfl, _, rfl, S cs, rfl, len_line (by omega), ?_⟩
        rw [SX.slice_to (by decide), show Int.toNat 2 = 2 from rfl]
        refine ⟨g, cs.take 2, n + 100 * (7 - (i + 1)) + 39, 1, 3, rfl, c2ne, by rw [List.length_take]; omega, low_take lowc _, G7, by decide, by decide, fun b' H8 s8 G8 b1' b3' lowb' => ?_⟩
        exact ⟨ic, b', _, _, rfl, gr6.go G7 s8, G8.le (by omega), l5, dr5, bne' b1', b3', lowb'⟩
      · exact ⟨ic, b, _, _, rfl, gr6, G7.le (by omega), l5, dr5, bne, b3, lowb⟩
    · obtain ⟨_, b, y7, ps, rfl, gr, G4, lps, dr, _⟩ := pI
      refine ⟨_, rfl, q L ps H' gr (G4.le (by omega)) ?_ dr⟩
      have : ((cnt : Int)).toNat = cnt := Int.toNat_natCast cnt
      omega
def sp_lvector : Sp := fun vs H Q _ => ∃ (l : Addr) (ps : List Pn) (m : Nat), vs = [.ref l] ∧ PL H l ps ∧ LenF m ps ∧ m ≤ 3 ∧ LowP ps ∧ Ws 2000 ps ∧ ps.length ≤ 5000 ∧ ∀ r H', Same H H' → FT H' r (vecs ps) → Q (.ref r) H'
theorem c_law_vector (T : Txt K mg C) : C8.Cal P w K mg base 1 "_law_vector" sp_lvector [] := by
  refine calF T.d_law_vector sc_law_vector (fun vs H Q E h => ?_) (fun f0 cdv A outer s0 H vs Q E hr h => ?_)
  · obtain ⟨_, _, _, rfl, _⟩ := h; rfl
  · obtain ⟨l, ps, m, rfl, ⟨us, hus, pus⟩, lF, m3, low, ws, len, q⟩ := h
    refine ⟨_, (pss_cons (ps_asg (pe_tup (pa_cons pe_int (pa_cons pe_int (pa_cons pe_int (pa_cons pe_int pa_nil))))) (pg_tup rfl (pgs_cons (pg_name (i := 1) sc_law_vector.nd rfl (Or.inl rfl)) (pgs_cons (pg_name (i := 2) sc_law_vector.nd rfl (Or.inl rfl)) (pgs_cons (pg_name (i := 3) sc_law_vector.nd rfl (Or.inl rfl)) (pgs_cons (pg_name (i := 4) sc_law_vector.nd rfl (Or.inl rfl)) pgs_nil))))))
    (pss_cons (ps_for PassesOwn.never rfl (pi_list (pv 0)) (pg_two (K := K) (i := 5) (j := 6) rfl rfl sc_law_vector.nd rfl rfl (Or.inl rfl) (Or.inl rfl))
    (pss_cons (ps_set (i := 1) sc_law_vector.nd rfl (Or.inl rfl) (pe_op op_add (pv 1) (pe_callB call_len_str (by rfl) T.m_len (by decide +kernel) (pa_cons (pv 5) pa_nil))))
    (pss_one (ps_if (pt_cmpR (op_neD hr.units) (pv 6) (pe_op op_catS (pe_tup (pa_cons pe_int pa_nil)) (pe_op op_repOne (pe_tup (pa_cons pe_int pa_nil)) (pe_op op_sub (pe_callB call_len_seq (by rfl) T.m_len (by decide +kernel) (pa_cons (pv 6) pa_nil)) pe_int))) (nomark _))
    (pss_cons (ps_set (i := 2) sc_law_vector.nd rfl (Or.inl rfl) (pe_op op_add (pv 2) pe_int))
    (pss_cons (ps_set (i := 3) sc_law_vector.nd rfl (Or.inl rfl) (pe_op op_add (pv 3) (pe_callB call_len_seq (by rfl) T.m_len (by decide +kernel) (pa_cons (pe_lc (own := [("_law_number_here", 7)]) (by rfl) sc_law_vector.nd (pi_tup (pe_slice sl_drop (pv 6) (po_some pe_int) po_none)) (blkOk_by (N := ["_law_pieces", "_law_letters_here", "_law_signs", "_law_unknowns", "_law_numbers", "_law_word_here", "_law_form_here", "_law_number_here"]) (sc := C8.fnScope (topS 50)) (own := [("_law_number_here", 7)]) (by decide +kernel)) (fun _ _ _ _ _ => (pg_name (i := 7) sc_law_vector.nd rfl (Or.inl rfl))) (fun _ _ _ _ _ => (pts_one (pt_cmpR op_gt (pv 7) pe_int (nomark _)))) (fun _ _ _ _ _ => (pv 7))) pa_nil))))
    (pss_one (ps_set (i := 4) sc_law_vector.nd rfl (Or.inl rfl) (pe_op op_add (pv 4) (pe_callTy call_int1 (by rfl) T.m_int (by decide +kernel) (pa_cons (pe_cmpR op_gt (pe_ix ix_tup (pv 6) pe_int (fun _ _ => rfl)) pe_int (nomark _)) pa_nil)))))))
    pss_nil))))
    (pss_one (ps_ret (pe_tup (pa_cons (pv 1) (pa_cons (pv 2) (pa_cons (pv 3) (pa_cons (pv 4) pa_nil))))))))), ?_⟩
    have lus := pus.len
    refine ⟨by show 4 ≤ sizeLine; decide, fun t1 n1 => ?_⟩
    have s1 := sameNew (o := .tup [.int 0, .int 0, .int 0, .int 0]) n1
    refine ⟨t1, _, rfl, .inl (.inl upd_same), rfl, _, _, rfl, _, _, rfl, _, _, rfl, _, _, rfl, rfl, ?_⟩
    generalize upd H t1 (.tup [.int 0, .int 0, .int 0, .int 0]) = H1 at s1
    have hus1 := s1 _ _ hus
    refine ⟨_, rfl, l, rfl, ⟨_, .inl (.inl hus1)⟩, ?_⟩
    refine for_list (K := K) (a := l) (xs := us) (fun i σ H' => Same H1 H' ∧ ∃ (y5 y6 : Option V), σ = [some (.ref l), some (.int ((sm e0 (ps.take i) : Nat))), some (.int ((sm e1 (ps.take i) : Nat))), some (.int ((sm e2 (ps.take i) : Nat))), some (.int ((sm e3 (ps.take i) : Nat))), y5, y6, none]) ⟨Same.refl _, none, none, rfl⟩ (fun i σ H' _ p => .inl (.inl (p.1 _ _ hus1))) (fun i y σ H' hi p => ?_) (fun σ H' p => ?_)
    · obtain ⟨s2, y5, y6, rfl⟩ := p
      obtain ⟨a, p, rfl, hpi, pc⟩ := pus.get hi
      have mem := List.mem_of_getElem? hpi
      have hl := lF p mem
      have wp := ws p mem
      obtain ⟨fa, h1, h2⟩ := pc.mono (tup_same (s1.trans s2))
      rw [sm_take hpi, sm_take hpi, sm_take hpi, sm_take hpi]
      refine ⟨a, _, rfl, .inl (.inl h1), rfl, _, _, rfl, _, _, rfl, rfl, ?_⟩
      refine ⟨_, rfl, _, rfl, S p.1, rfl, len_line (by omega), _, _, rfl, rfl, ?_⟩
      dsimp only
      rw [show ((sm e0 (ps.take i) : Nat) : Int) + ((S p.1).length : Nat) = ((sm e0 (ps.take i) + e0 p : Nat) : Int) by rw [S_len]; push_cast; rfl]
      refine ⟨_, rfl, by show 1 ≤ sizeLine; decide, fun a1 m1 => ⟨by show 1 ≤ sizeLine; decide, fun a2 m2 => ⟨_, rfl, fa, _, rfl, .inr (.inl (.inl (sameNew m2 _ _ (sameNew m1 _ _ h2)))), _, _, rfl, rfl, ?_⟩⟩⟩
      have el : (((p.2.map fun n : Nat => V.int (n : Nat)).length : Nat) : Int) - 1 = (m : Int) := by rw [List.length_map, hl]; omega
      dsimp only
      rw [el]
      refine ⟨a2, _, _, rfl, rfl, upd_same, by omega, by omega, fun a3 H3 s3 h3 => ?_⟩
      have s12 := (sameNew (o := .tup [.int 1]) m1).trans (sameNew (o := .tup [.int 0]) m2)
      have e1' : H3 a1 = some (.tup [.int 1]) := s3 _ _ (by rw [upd_ne (ne_of_none upd_same m2)]; exact upd_same)
      refine ⟨a1, a3, _, _, rfl, rfl, e1', h3, by simp; omega, fun a4 H4 s4 h4 => ?_⟩
      have s14 := (s12.trans s3).trans s4
      have hone : FT H4 a4 (one1 m) := by
        unfold FT one1
        rw [h4]
        simp
      have h24 : FT H4 fa p.2 := h2.same s14
      refine ⟨dF p.2, dF (one1 m), dp_FT h24, dp_FT hone, shaped_dF _, shaped_dF _, _, rfl, ?_⟩
      have ef : (!PyData.eqv (dF p.2) (dF (one1 m))) = !fx p := by
        rw [eqv_dF]
        unfold fx
        rw [hl, Nat.add_sub_cancel]
      rw [ef]
      have sA := s2.trans s14
      cases fe : fx p with
      | true =>
        refine iteF ⟨sA, some (.str (S p.1)), some (.ref fa), ?_⟩
        have z1 : e1 p = 0 := by unfold e1; rw [fe]; rfl
        have z2 : e2 p = 0 := by unfold e2; rw [fe]; rfl
        have z3 : e3 p = 0 := by unfold e3; rw [fe]; rfl
        rw [z1, z2, z3]
        rfl
      | false =>
        have z1 : e1 p = 1 := by unfold e1; rw [fe]; rfl
        have z2 : e2 p = (p.2.tail.filter fun n => decide (n ≠ 0)).length := by unfold e2; rw [fe]; rfl
        have z3 : e3 p = if p.2.headD 0 = 0 then 0 else 1 := by unfold e3; rw [fe]; rfl
        refine iteT ?_
        refine ⟨_, rfl, _, _, rfl, rfl, _, rfl, _, rfl, 1, rfl, fa, _, 1, rfl, rfl, rfl, h24, fun b1 H5 s5 h5 => ?_⟩
        have h5' : H5 b1 = some (.tup (p.2.tail.map fun n : Nat => V.int (n : Nat))) := by
          rw [h5, ← List.map_drop]
          cases p.2 <;> rfl
        refine ⟨b1, rfl, ⟨_, .inl (.inl h5')⟩, fun D hD => ?_⟩
        refine lcT_filt (K := K) (a := b1) (xs := p.2.tail.map fun n : Nat => V.int (n : Nat)) (fun j => decide (p.2.tail.getD j 0 ≠ 0)) (fun j => .int ((p.2.tail.getD j 0 : Nat) : Int)) (fun H' s => .inl (.inl (s _ _ h5'))) (small5 (by rw [List.length_map, List.length_tail]; omega)) (fun j z H6 R R0 hz s6 q1 q0 => ?_) hD fun H6 s6 hE => ?_
        · obtain ⟨n, _, hn, rfl⟩ := get_nat hz
          have en : p.2.tail.getD j 0 = n := by rw [List.getD_eq_getElem?_getD, hn]; rfl
          refine ⟨rfl, _, rfl, _, _, rfl, rfl, _, rfl, ?_⟩
          by_cases z : n = 0
          · rw [decide_eq_false (show ¬ (0 : Int) < ((n : Nat) : Int) by omega)]
            exact iteF (q0 (decide_eq_false fun y => y (en.trans z)) _ (Same.refl _))
          · rw [decide_eq_true (show (0 : Int) < ((n : Nat) : Int) by omega)]
            refine iteT ⟨_, rfl, ?_⟩
            have := q1 (decide_eq_true fun y => z (en.symm.trans y)) _ (Same.refl _)
            rw [en] at this
            exact this
        · have sB := (sA.trans s5).trans s6
          have h26 : FT H6 fa p.2 := (h24.same s5).same s6
          refine ⟨D, _, rfl, .inl (.inl (.inl hE)), _, _, rfl, rfl, ?_⟩
          rw [List.length_map, List.length_map, filt_len]
          refine ⟨_, rfl, _, rfl, fa, _, 0, _, rfl, rfl, .inl (.inl h26), atI_nat (j := 0) (head_get hl), _, _, rfl, rfl, .inr ⟨_, rfl, _, _, rfl, rfl, ?_⟩⟩
          refine ⟨sB, some (.str (S p.1)), some (.ref fa), ?_⟩
          rw [z1, z2, z3]
          have c3 : ((sm e3 (ps.take i) : Nat) : Int) + (if decide ((0 : Int) < ((p.2.headD 0 : Nat) : Int)) = true then 1 else 0) = ((sm e3 (ps.take i) + if p.2.headD 0 = 0 then 0 else 1 : Nat) : Int) := by
            generalize p.2.headD 0 = x
            by_cases z : x = 0
            · rw [if_pos z, decide_eq_false (by omega)]
              rfl
            · rw [if_neg z, decide_eq_true (by omega)]
              rfl
          rw [← c3]
          rfl
    · obtain ⟨s2, y5, y6, rfl⟩ := p
      rw [lus, List.take_length]
      exact ⟨_, rfl, _, rfl, _, rfl, _, rfl, by show 4 ≤ sizeLine; decide, fun t nt => q t _ ((s1.trans s2).trans (sameNew nt)) upd_same⟩
/-- four prices -/
def sp_four : Sp := fun vs H Q _ => ∃ (g : Addr) (n : Nat), vs = [.ref g] ∧ Gn (n + 10) H g ∧ ∀ (L : Addr) (a b c d : Nat) H', SameX g H H' → Gn n H' g → H L = none → H' L = some (.lst [.int a, .int b, .int c, .int d]) → 1 ≤ a → a < 2 ^ 100 → b < 2 ^ 100 → c < 2 ^ 100 → d < 2 ^ 100 → Q (.ref L) H'
theorem c_law_four (T : Txt K mg C) : C8.Cal P w K mg base 3 "_law_four" sp_four [] := by
  refine calF T.d_law_four sc_law_four (fun vs H Q E h => ?_) (fun f0 cdv A outer s0 H vs Q E hr h => ?_)
  · obtain ⟨_, _, rfl, _⟩ := h; rfl
  · obtain ⟨g, n, rfl, G, q⟩ := h
    refine ⟨_, (pss_cons (ps_set (i := 1) sc_law_four.nd rfl (Or.inr rfl) (pe_ix ix_list (pe_lst (pa_cons pe_int (pa_cons pe_int (pa_cons pe_int (pa_cons (pe_op op_powB pe_int pe_int) pa_nil))))) (C8.pe_c (c_law_random T) hr (by decide) (by rfl) (pa_cons (pv 0) (pa_cons pe_int pa_nil))) (fun _ _ => rfl)))
    (pss_one (ps_ret (pe_op op_cat (pe_lst (pa_cons (pe_op op_add pe_int (C8.pe_c (c_law_random T) hr (by decide) (by rfl) (pa_cons (pv 0) (pa_cons (pv 1) pa_nil)))) pa_nil)) (pe_lc (own := [("_law_turn", 2)]) (by rfl) sc_law_four.nd (pi_range1 (by rfl) T.m_range (pa_cons pe_int pa_nil)) (blkOk_by (N := ["_law_generator_here", "_law_most", "_law_turn"]) (sc := C8.fnScope (topS 51)) (own := [("_law_turn", 2)]) (by decide +kernel)) (fun _ _ _ _ _ => (pg_name (i := 2) sc_law_four.nd rfl (Or.inl rfl))) (fun _ _ _ _ _ => pts_nil) (fun _ _ _ _ _ => (C8.pe_c (c_law_random T) hr (by decide) (by rfl) (pa_cons (pv 0) (pa_cons (pv 1) pa_nil))))))))), ?_⟩
    refine ⟨_, _, rfl, rfl, ⟨by decide, by decide⟩, by show 4 ≤ sizeLine; decide, fun D0 nD0 => ?_⟩
    dsimp only at nD0 ⊢
    rw [e29]
    have s1 := sameNew (o := .lst [.int 2, .int 4, .int 9, .int ((10 ^ 29 : Nat) : Int)]) nD0
    have hD0 : upd H D0 (.lst [.int 2, .int 4, .int 9, .int ((10 ^ 29 : Nat) : Int)]) D0 = some (.lst (([2, 4, 9, 10 ^ 29] : List Nat).map fun n : Nat => V.int (n : Nat))) := upd_same
    have G1 := G.same s1
    have D0g := G.ne nD0
    generalize upd H D0 (.lst [.int 2, .int 4, .int 9, .int ((10 ^ 29 : Nat) : Int)]) = H1 at s1 hD0 G1
    refine ⟨_, rfl, g, 4, n + 9, rfl, G1, by decide, by decide, fun r H2 s2 G2 r0 r1 => ?_⟩
    obtain ⟨k, rfl⟩ : ∃ k : Nat, r = k := ⟨r.toNat, by omega⟩
    have hk : k < ([2, 4, 9, 10 ^ 29] : List Nat).length := by show k < 4; omega
    have hz := List.getElem?_eq_getElem hk
    have hv : ∀ x ∈ ([2, 4, 9, 10 ^ 29] : List Nat), 2 ≤ x ∧ x < 2 ^ 98 := by decide
    have hx := hv _ (List.getElem_mem hk)
    generalize ([2, 4, 9, 10 ^ 29] : List Nat)[k] = x at hz hx
    have at1 : (([2, 4, 9, 10 ^ 29] : List Nat).map fun n : Nat => V.int (n : Nat))[k]? = some (.int (x : Nat)) := by rw [List.getElem?_map, hz]; rfl
    refine ⟨D0, _, (k : Int), .int (x : Nat), rfl, rfl, .inl (.inl (s2 _ _ D0g hD0)), atI_nat at1, ?_⟩
    refine ⟨_, rfl, _, rfl, g, x, n + 8, rfl, G2, by omega, by omega, fun r H3 s3 G3 r0 r1 => ⟨_, _, rfl, rfl, by show 1 ≤ sizeLine; decide, fun L1 nL1 => ?_⟩⟩
    obtain ⟨a, ea⟩ : ∃ a : Nat, 1 + r = a := ⟨(1 + r).toNat, by omega⟩
    dsimp only at nL1 ⊢
    rw [ea]
    have s4 := sameNew (o := .lst [.int (a : Nat)]) nL1
    have hL1 : upd H3 L1 (.lst [.int (a : Nat)]) L1 = some (.lst [.int (a : Nat)]) := upd_same
    have G4 := G3.same s4
    have L1g := G3.ne nL1
    generalize upd H3 L1 (.lst [.int (a : Nat)]) = H4 at s4 hL1 G4
    refine ⟨3, rfl, by decide, by decide, fun D hD => ?_⟩
    refine lcP_draw (lo := 0) (g := g) (n := n) (cnt := 3) (fun v => ∃ c : Nat, v = V.int (c : Nat) ∧ c < x) (small5 (by omega)) hD (G4.le (by omega)) (fun i H5 R hi s5 G5 q' => ?_) fun H5 ns s5 G5 hL hl hP => ?_
    · exact ⟨rfl, _, rfl, _, rfl, g, x, _, rfl, G5, by omega, by omega, fun r' H6 s6 G6 r0' r1' => q' _ H6 s6 G6 ⟨r'.toNat, congrArg V.int (by omega), by omega⟩⟩
    · obtain ⟨cs, rfl, hcs, lcs⟩ := Nn_of hP
      have l3 : cs.length = 3 := lcs.trans hl
      match cs, l3 with
      | [b, c, d], _ =>
        have hb := hcs b (by simp)
        have hc := hcs c (by simp)
        have hd := hcs d (by simp)
        refine ⟨L1, D, _, _, rfl, rfl, s5 _ _ L1g hL1, hL, by rw [sizeLine_eq]; simp, fun L nL => ?_⟩
        have s05 : SameX g H H5 := (SameX.of s1).trans (s2.trans (s3.trans ((SameX.of s4).trans s5)))
        exact q L a b c d _ (s05.trans (.of (sameNew nL))) (G5.same (sameNew nL)) (noneX s05 G5 nL) upd_same (by omega) (by omega) (by omega) (by omega) (by omega)
/-- what the law says that a vector costs -/
def sp_lcost : Sp := fun vs H Q _ => ∃ (L t : Addr) (a b c d x y z u : Nat), vs = [.ref L, .ref t] ∧ H L = some (.lst [.int a, .int b, .int c, .int d]) ∧ FT H t [x, y, z, u] ∧ a < 2 ^ 200 ∧ b < 2 ^ 200 ∧ c < 2 ^ 200 ∧ d < 2 ^ 200 ∧ x < 2 ^ 200 ∧ y < 2 ^ 200 ∧ z < 2 ^ 200 ∧ u < 2 ^ 200 ∧ ∀ H', Same H H' → Q (.int ((dotP a b c d [x, y, z, u] : Nat))) H'
theorem c_law_cost (T : Txt K mg C) : C8.Cal P w K mg base 1 "_law_cost" sp_lcost [] := by
  refine calF T.d_law_cost sc_law_cost (fun vs H Q E h => ?_) (fun f0 cdv A outer s0 H vs Q E hr h => ?_)
  · obtain ⟨_, _, _, _, _, _, _, _, _, _, rfl, _⟩ := h; rfl
  · obtain ⟨L, t, a, b, c, d, x, y, z, u, rfl, hL, ht, ha, hb, hc, hd, hx, hy, hz, hu, q⟩ := h
    refine ⟨_, (pss_one (ps_ret (pe_callB (cr_sum rfl) (by rfl) T.m_sum (by decide +kernel) (pa_cons (pe_lc (own := [("_law_price", 2), ("_law_number_here", 3)]) (by rfl) sc_law_cost.nd (pi_zipB (K := K) rfl (by rfl) T.m_zip (pa_cons (pv 0) (pa_cons (pv 1) pa_nil))) (blkOk_by (N := ["_law_four_here", "_law_told", "_law_price", "_law_number_here"]) (sc := C8.fnScope (topS 52)) (own := [("_law_price", 2), ("_law_number_here", 3)]) (by decide +kernel)) (fun _ _ _ _ _ => (pg_two (K := K) (i := 2) (j := 3) rfl rfl sc_law_cost.nd rfl rfl (Or.inl rfl) (Or.inl rfl))) (fun _ _ _ _ _ => pts_nil) (fun _ _ _ _ _ => (pe_op op_mulW (pv 2) (pv 3)))) pa_nil)))), ?_⟩
    have hL' : H L = some (.lst (([a, b, c, d] : List Nat).map fun n : Nat => V.int (n : Nat))) := hL
    have wm : ∀ {m n : Nat}, m < 2 ^ 200 → n < 2 ^ 200 → CMulW (m : Int) (n : Int) := fun h1 h2 => wide_mul (a := 200) (b := 200) (by rw [Int.natAbs_natCast]; exact h1) (by rw [Int.natAbs_natCast]; exact h2) (by decide) (by decide) (by decide)
    have al : ∀ n ∈ ([a, b, c, d] : List Nat), n < 2 ^ 200 := fun n hn => by
      simp only [List.mem_cons, List.not_mem_nil, or_false] at hn
      rcases hn with rfl | rfl | rfl | rfl <;> assumption
    have at' : ∀ n ∈ ([x, y, z, u] : List Nat), n < 2 ^ 200 := fun n hn => by
      simp only [List.mem_cons, List.not_mem_nil, or_false] at hn
      rcases hn with rfl | rfl | rfl | rfl <;> assumption
    refine ⟨_, rfl, _, rfl, .L, .T, L, t, _, _, rfl, .inl (.inl hL'), .inl (.inl ht), ?_⟩
    refine fun D hD => lcZ_map (K := K) (k := .L) (k' := .T) (a := L) (b := t) (xs := ([a, b, c, d] : List Nat).map fun n : Nat => V.int (n : Nat)) (ys := ([x, y, z, u] : List Nat).map fun n : Nat => V.int (n : Nat)) vMulN rfl (by show 4 < sizeLine; exact small5 (by decide)) (fun H' s => ⟨.inl (.inl (s _ _ hL')), .inl (.inl (s _ _ ht))⟩) (fun i v1 v2 H' R h1 h2 s q' => ?_) hD fun H' s hD' => ?_
    · obtain ⟨n1, m1, _, rfl⟩ := get_nat h1
      obtain ⟨n2, m2, _, rfl⟩ := get_nat h2
      exact ⟨rfl, _, rfl, _, rfl, _, _, rfl, rfl, wm (al _ m1) (at' _ m2), q' _ (Same.refl _)⟩
    · refine ⟨D, [(a : Int) * x, (b : Int) * y, (c : Int) * z, (d : Int) * u], rfl, .inl (.inl hD'), ?_⟩
      have e : ([(a : Int) * x, (b : Int) * y, (c : Int) * z, (d : Int) * u]).sum = ((dotP a b c d [x, y, z, u] : Nat) : Int) := by
        show (a : Int) * x + ((b : Int) * y + ((c : Int) * z + ((d : Int) * u + 0))) = ((x * a + y * b + z * c + u * d : Nat) : Int)
        rw [Nat.mul_comm x a, Nat.mul_comm y b, Nat.mul_comm z c, Nat.mul_comm u d]
        push_cast
        generalize (a : Int) * x = p1
        generalize (b : Int) * y = p2
        generalize (c : Int) * z = p3
        generalize (d : Int) * u = p4
        omega
      rw [e]
      exact q H' s
/-- prices of four numbers -/
def sp_lprices (C : Addr) : Sp := fun vs H Q _ => ∃ (L : Addr) (a b c d : Nat), vs = [.ref L] ∧ H L = some (.lst [.int a, .int b, .int c, .int d]) ∧ 1 ≤ a ∧ ∀ p H', Same H H' → PrO C H' p a b c d → Q (.ref p) H'
theorem c_law_prices (T : Txt K mg C) : C8.Cal P w K mg base 5 "_law_prices" (sp_lprices C) [] := by
  refine calF T.d_law_prices sc_law_prices (fun vs H Q E h => ?_) (fun f0 cdv A outer s0 H vs Q E hr h => ?_)
  · obtain ⟨_, _, _, _, _, rfl, _⟩ := h; rfl
  · obtain ⟨L, a, b, c, d, rfl, hL, h1, q⟩ := h
    refine ⟨_, (pss_one (ps_ret (pe_mkN (n_Prices_K_letter_sign_unknown_number T) hr (by decide) (by rfl) (pk_cons (pe_ix ix_list (pv 0) pe_int (fun _ _ => rfl)) (pk_cons (pe_ix ix_list (pv 0) pe_int (fun _ _ => rfl)) (pk_cons (pe_ix ix_list (pv 0) pe_int (fun _ _ => rfl)) (pk_cons (pe_ix ix_list (pv 0) pe_int (fun _ _ => rfl)) pk_nil))))))), ?_⟩
    refine ⟨_, rfl, L, _, 0, .int (a : Nat), rfl, rfl, .inl (.inl hL), atI_nat (j := 0) rfl, _, rfl, L, _, 1, .int (b : Nat), rfl, rfl, .inl (.inl hL), atI_nat (j := 1) rfl, _, rfl, L, _, 2, .int (c : Nat), rfl, rfl, .inl (.inl hL), atI_nat (j := 2) rfl, _, rfl, L, _, 3, .int (d : Nat), rfl, rfl, .inl (.inl hL), atI_nat (j := 3) rfl, rfl, rfl, fun x dx nx ndx nex => ?_⟩
    exact mk_pr nx ndx nex h1 fun H' s h => ⟨rfl, q x H' s h⟩
end
end K60

set_option Elab.async false
set_option linter.all false
set_option maxRecDepth 100000
set_option maxHeartbeats 4000000
set_option exponentiation.threshold 3000
namespace K60
open PySem PySem.Spec PyProof.Rows L2 CK SX NM
theorem shaped_natL (f : F) : SeqAt.shaped (.list (f.map fun n : Nat => PyData.int (n : Nat))) = true := by
  unfold SeqAt.shaped
  rw [PyData.canLay0, lay_nats, PyData.depth, deep_nats]
  rfl
theorem eqv_natL (f g : F) : PyData.eqv (.list (f.map fun n : Nat => PyData.int (n : Nat))) (.list (g.map fun n : Nat => PyData.int (n : Nat))) = decide (f = g) := by
  simp only [PyData.eqv, eqvAll_nats]
theorem dp_natL {K : PySem.W.Frag} {H : Hp} {l : Addr} {f : F} (h : H l = some (.lst (f.map fun n : Nat => V.int (n : Nat)))) : Dp K H (.ref l) (.list (f.map fun n : Nat => PyData.int (n : Nat))) := .lst (.inl (.inl h)) (dpAll_nats f)
theorem ne_no (a : V) : (!decide (a = a)) = false := by rw [decide_eq_true rfl]; rfl
theorem sum4 (x y z u : Nat) : ([(x : Int), y, z, u]).sum = ((dotP 1 1 1 1 [x, y, z, u] : Nat) : Int) := by
  show (x : Int) + ((y : Int) + ((z : Int) + ((u : Int) + 0))) = ((x * 1 + y * 1 + z * 1 + u * 1 : Nat) : Int)
  omega
/-! repr of lists of pieces -/
theorem dF_ints (f : F) : (f.map fun n : Nat => PyData.int (n : Nat)) = (f.map fun n : Nat => ((n : Nat) : Int)).map PyData.int := by rw [List.map_map]; rfl
theorem log_nat {n : Nat} (h : n < 2 ^ 1900) : ((n : Nat) : Int).natAbs.log2 < 1920 := log_lt (by rw [Int.natAbs_natCast]; exact h)
theorem logs {f : F} (h : ∀ n ∈ f, n < 2 ^ 1900) : ∀ n ∈ (f.map fun n : Nat => ((n : Nat) : Int)), n.natAbs.log2 < 1920 := fun n hn => by
  obtain ⟨k, hk, rfl⟩ := List.mem_map.mp hn
  exact log_nat (h k hk)
theorem show_dP {p : Pn} {m B : Nat} (d : DrP m B p) (m3 : m ≤ 3) (hB : B ≤ 2 ^ 200) : (dP p).showable = true ∧ (dP p).hasDict = false ∧ (dP p).shown.length ≤ 9000 := by
  have hn : ∀ n ∈ p.2, n < 2 ^ 1900 := fun n hn => Nat.lt_of_lt_of_le (d.num n hn) (Nat.le_trans hB (Nat.pow_le_pow_right (by decide) (by decide)))
  have hl := logs hn
  have a1 := shown_ints _ hl
  have a2 := noDict_ints (p.2.map fun n : Nat => ((n : Nat) : Int))
  have a3 := piled_ints _ hl
  have a4 := fmt_text (PyData.shownAll ((p.2.map fun n : Nat => ((n : Nat) : Int)).map PyData.int))
  rw [List.length_map, d.len] at a3
  have b1 : (reprText (S p.1)).length ≤ 10 * (S p.1).length + 2 := StrLaws.reprText_len _ fun c hc => by
    have := d.low c hc
    omega
  have b0 := S_len p.1
  have b2 := d.few
  unfold dP dF
  rw [dF_ints]
  refine ⟨?_, ?_, ?_⟩
  · rw [PyData.showable, PyData.showableAll, PyData.showableAll, PyData.showableAll, PyData.showable, PyData.showable, a1]
    rfl
  · rw [PyData.hasDict, PyData.hasDictAll, PyData.hasDictAll, PyData.hasDictAll, PyData.hasDict, PyData.hasDict, a2]
    rfl
  · rw [PyData.shown, PyData.shownAll, PyData.shownAll, PyData.shownAll, PyData.shown, PyData.shown]
    have c := fmt_text [reprText (S p.1), tupleText (PyData.shownAll ((p.2.map fun n : Nat => ((n : Nat) : Int)).map PyData.int))]
    rw [piled_cons, piled_cons, piled_nil] at c
    omega
theorem show_dPs {m B : Nat} (m3 : m ≤ 3) (hB : B ≤ 2 ^ 200) : ∀ {ps : List Pn}, Dr m B ps → PyData.showableAll (ps.map dP) = true ∧ PyData.hasDictAll (ps.map dP) = false ∧ ((PyData.shownAll (ps.map dP)).map (·.length)).sum ≤ ps.length * 9000 ∧ (PyData.shownAll (ps.map dP)).length = ps.length
  | [], _ => by decide +kernel
  | p :: r, h => by
    obtain ⟨a1, a2, a3, a4⟩ := show_dPs m3 hB (ps := r) fun q hq => h q (List.mem_cons_of_mem _ hq)
    obtain ⟨b1, b2, b3⟩ := show_dP (h p List.mem_cons_self) m3 hB
    refine ⟨?_, ?_, ?_, ?_⟩
    · rw [List.map_cons, PyData.showableAll, a1, b1]; rfl
    · rw [List.map_cons, PyData.hasDictAll, a2, b2]; rfl
    · rw [List.map_cons, PyData.shownAll, List.map_cons, List.sum_cons, List.length_cons, Nat.add_mul]; omega
    · rw [List.map_cons, PyData.shownAll, List.length_cons, a4, List.length_cons]
theorem show_L {ps : List Pn} {m B : Nat} (d : Dr m B ps) (m3 : m ≤ 3) (hB : B ≤ 2 ^ 200) (hl : ps.length ≤ 400) : (PyData.list (ps.map dP)).showable = true ∧ (PyData.list (ps.map dP)).hasDict = false ∧ (PyData.list (ps.map dP)).depth ≤ 60 ∧ (PyData.list (ps.map dP)).shown.length ≤ 3800000 := by
  obtain ⟨a1, a2, a3, a4⟩ := show_dPs m3 hB d
  refine ⟨?_, ?_, ?_, ?_⟩
  · rw [PyData.showable, a1]
  · rw [PyData.hasDict, a2]
  · have := deep_dPs ps
    rw [PyData.depth]
    omega
  · rw [PyData.shown]
    have := listText_len_le (PyData.shownAll (ps.map dP))
    have : ps.length * 9000 ≤ 400 * 9000 := Nat.mul_le_mul_right _ hl
    omega
theorem show_two {ps qs : List Pn} {m B : Nat} (d1 : Dr m B ps) (d2 : Dr m B qs) (m3 : m ≤ 3) (hB : B ≤ 2 ^ 200) (h1 : ps.length ≤ 400) (h2 : qs.length ≤ 400) : (PyData.list [.list (ps.map dP), .list (qs.map dP)]).showable = true ∧ (PyData.list [.list (ps.map dP), .list (qs.map dP)]).hasDict = false ∧ (PyData.list [.list (ps.map dP), .list (qs.map dP)]).depth ≤ 60 ∧ (PyData.list [.list (ps.map dP), .list (qs.map dP)]).shown.length ≤ sizeLine := by
  obtain ⟨a1, a2, a3, a4⟩ := show_L d1 m3 hB h1
  obtain ⟨b1, b2, b3, b4⟩ := show_L d2 m3 hB h2
  refine ⟨?_, ?_, ?_, ?_⟩
  · rw [PyData.showable, PyData.showableAll, PyData.showableAll, PyData.showableAll, a1, b1]; rfl
  · rw [PyData.hasDict, PyData.hasDictAll, PyData.hasDictAll, PyData.hasDictAll, a2, b2]; rfl
  · have e1 := deep_dPs ps
    have e2 := deep_dPs qs
    rw [PyData.depth, PyData.depthAll, PyData.depthAll, PyData.depthAll, PyData.depth, PyData.depth]
    omega
  · rw [PyData.shown, PyData.shownAll, PyData.shownAll, PyData.shownAll]
    have := listText_len_le [(PyData.list (ps.map dP)).shown, (PyData.list (qs.map dP)).shown]
    simp only [List.map_cons, List.map_nil, List.sum_cons, List.sum_nil, List.length_cons, List.length_nil] at this
    rw [sizeLine_eq]
    omega
theorem Dr.gl {H : Hp} {m B : Nat} {l : Addr} {ps : List Pn} (d : Dr m B ps) (pl : PL H l ps) (hB : B ≤ 2 ^ 200) (hl : ps.length ≤ 5000) : GL H m l ps :=
  ⟨pl, fun p hp => (d p hp).len, fun p hp => Nat.le_trans (d p hp).few (by decide), fun p hp => (d p hp).low, fun p hp n hn => Nat.lt_of_lt_of_le ((d p hp).num n hn) (Nat.le_trans hB (Nat.pow_le_pow_right (by decide) (by decide))), hl⟩
theorem Dr.mea {m B : Nat} : ∀ {ps : List Pn}, Dr m B ps → meas ps ≤ ps.length * 12
  | [], _ => Nat.zero_le _
  | p :: r, h => by
    have a := Dr.mea (ps := r) fun q hq => h q (List.mem_cons_of_mem _ hq)
    have b := (h p List.mem_cons_self).mea
    rw [meas_cons, List.length_cons, Nat.add_mul]
    omega
section
variable {P : Program} {w : World} {K : PySem.W.Frag} {mg : Str → Option Value} {base : Heap} {C : Addr}
def sp_vright : Sp := fun vs H Q _ => ∃ (m B : Nat) (l : Addr) (ps : List Pn), vs = [.int m, .ref l] ∧ m ≤ 3 ∧ B ≤ 2 ^ 200 ∧ PL H l ps ∧ Dr m B ps ∧ ps.length ≤ 160 ∧ ∀ H', Same H H' → Q (.bl true) H'
theorem c_law_vector_right (T : Txt K mg C) : CalG P w K mg base 7 "_law_vector_right" sp_vright := by
  refine calG T.d_law_vector_right sc_law_vector_right (fun vs H Q E h => ?_) (fun f cdv A outer s H vs Q E hr gd0 h => ?_)
  · obtain ⟨_, _, _, _, rfl, _⟩ := h; rfl
  · obtain ⟨m, B, l, ps, rfl, m3, hB, pl, d, hl, q⟩ := h
    have gd : (A.deeper (envOfC "_law_vector_right" (C8.fnScope (topS 54)) s.heap.objs.size f cdv)).guards = some [] := gd0
    refine ⟨_, (pss_cons (ps_set (i := 2) sc_law_vector_right.nd rfl (Or.inl rfl) (pe_callB (call_repr hr gd) (by rfl) T.m_repr (by decide +kernel) (pa_cons (pv 1) pa_nil)))
    (pss_cons (ps_set (i := 3) sc_law_vector_right.nd rfl (Or.inl rfl) (C8.pe_c (c_vector T) hr (by decide) (by rfl) (pa_cons (pv 0) (pa_cons (pv 1) pa_nil))))
    (pss_cons (ps_if (PW.pt (pw_or (pt_not (pt_val (pe_callB call_isK (by rfl) T.m_isinstance (by decide +kernel) (pa_cons (pv 3) (pa_cons (pe_bltn (v := .ty "tuple") (by rfl) T.m_tuple (by decide +kernel) rfl) pa_nil))))) (pw_or (pt_cmpR op_ne (pe_callB call_len_seq (by rfl) T.m_len (by decide +kernel) (pa_cons (pv 3) pa_nil)) pe_int (nomark _)) (pw_or1 (pt_cmpR (op_neSame hr.units) (pe_lc (own := [("_law_part", 4)]) (by rfl) sc_law_vector_right.nd (pi_tup (pv 3)) (blkOk_by (N := ["_law_many", "_law_pieces", "_law_kept", "_law_told", "_law_part"]) (sc := C8.fnScope (topS 54)) (own := [("_law_part", 4)]) (by decide +kernel)) (fun _ _ _ _ _ => (pg_name (i := 4) sc_law_vector_right.nd rfl (Or.inl rfl))) (fun _ _ _ _ _ => (pts_one (pt_val (pe_callB call_isK (by rfl) T.m_isinstance (by decide +kernel) (pa_cons (pv 4) (pa_cons (pe_bltn (v := .ty "bool") (by rfl) T.m_bool (by decide +kernel) rfl) pa_nil)))))) (fun _ _ _ _ _ => (pv 4))) (pe_lst pa_nil) (nomark _))))))
    (pss_one (ps_ret pe_bl))
    pss_nil)
    (pss_one (ps_ret (pe_and (pe_cmpR (op_eqD hr.units) (pv 3) (C8.pe_c (c_law_vector T) hr (by decide) (by rfl) (pa_cons (pv 1) pa_nil)) (nomark _)) (pe_one (pe_cmpR op_eq (pe_callB (call_repr hr gd) (by rfl) T.m_repr (by decide +kernel) (pa_cons (pv 1) pa_nil)) (pv 2) (nomark _))))))))), ?_⟩
    have gl := d.gl pl hB (by omega)
    have hme := d.mea
    obtain ⟨k1, k2, k3, k4⟩ := show_L d m3 hB (by omega)
    have k4' : (PyData.list (ps.map dP)).shown.length ≤ sizeLine := by rw [sizeLine_eq]; omega
    refine ⟨_, rfl, .ref l, .list (ps.map dP), rfl, dp_PL pl, k1, k2, k3, k4', ?_⟩
    refine ⟨_, rfl, _, rfl, m, l, ps, rfl, m3, gl, by omega, fun t H1 s1 ht => ?_⟩
    have kn : Kn H1 (.ref t) := .tup ht
    refine ⟨_, rfl, .ref t, "tuple", _, rfl, kn, kit_tuple kn, _, rfl, ?_⟩
    rw [isTu_tup ht]
    refine iteF ⟨_, rfl, t, _, rfl, .inr (.inl (.inl ht)), rfl, false, rfl, iteF ?_⟩
    refine ⟨_, rfl, t, rfl, ⟨_, .inl (.inl ht)⟩, fun D hD => ?_⟩
    refine lcT_filt (K := K) (a := t) (xs := (vecs ps).map fun n : Nat => V.int (n : Nat)) (fun _ => false) (fun _ => .non) (fun H' s => .inl (.inl (s _ _ ht))) (small5 (by show 4 ≤ 5; decide)) (fun j z H4 R R0 hz s4 q1 q0 => ?_) hD fun H4 s4 hE => ?_
    · obtain ⟨n, _, hn, rfl⟩ := get_nat hz
      exact ⟨rfl, _, rfl, .int _, "bool", _, rfl, .int _, kit_bool (.int _), _, rfl, iteF (q0 rfl _ (Same.refl _))⟩
    have hE' : H4 D = some (.lst []) := by
      rw [hE]
      have : ((List.range ((vecs ps).map fun n : Nat => V.int (n : Nat)).length).filter fun _ => false) = [] := List.filter_eq_nil_iff.mpr fun _ _ => by simp
      rw [this]
      rfl
    refine ⟨Nat.zero_le _, fun L0 nL0 => ?_⟩
    have s5 := sameNew (o := .lst []) nL0
    refine ⟨.list [], .lst (.inl (.inl (s5 _ _ hE'))) .nil, .lst (.inl (.inl upd_same)) .nil, by decide +kernel, _, rfl, iteF ?_⟩
    rw [tnext_eq]
    have sA := s1.trans (s4.trans s5)
    have htA := (ht.same s4).same s5
    refine ⟨_, rfl, _, rfl, l, ps, m, rfl, pl.same sA, gl.len, m3, gl.low, gl.ws, gl.few, fun t2 H6 s6 ht2 => ?_⟩
    refine ⟨dF (vecs ps), dF (vecs ps), dp_FT (htA.same s6), dp_FT ht2, shaped_dF _, shaped_dF _, ?_⟩
    rw [eqv_dF, decide_eq_true rfl]
    refine ⟨true, rfl, iteT ?_⟩
    refine ⟨_, rfl, .ref l, .list (ps.map dP), rfl, dp_PL ((pl.same sA).same s6), k1, k2, k3, k4', _, rfl, rfl, ?_⟩
    rw [decide_eq_true rfl]
    exact q H6 (sA.trans s6)
/-- named prices -/
def sp_named : Sp := fun vs H Q _ => ∃ (L t : Addr) (a b c d x y z u : Nat), vs = [.ref L, .ref t] ∧ H L = some (.lst [.int a, .int b, .int c, .int d]) ∧ FT H t [x, y, z, u] ∧ 1 ≤ a ∧ a < 2 ^ 100 ∧ b < 2 ^ 100 ∧ c < 2 ^ 100 ∧ d < 2 ^ 100 ∧ x < 2 ^ 100 ∧ y < 2 ^ 100 ∧ z < 2 ^ 100 ∧ u < 2 ^ 100 ∧ ∀ H', Same H H' → Q (.bl true) H'
theorem c_law_named_right (T : Txt K mg C) : C8.Cal P w K mg base 5 "_law_named_right" sp_named [] := by
  refine calF T.d_law_named_right sc_law_named_right (fun vs H Q E h => ?_) (fun f cdv A outer s H vs Q E hr h => ?_)
  · obtain ⟨_, _, _, _, _, _, _, _, _, _, rfl, _⟩ := h; rfl
  · obtain ⟨L, t, a, b, c, d, x, y, z, u, rfl, hL, ht, h1, ha, hb, hc, hd, hx, hy, hz, hu, q⟩ := h
    have cl := T.k_Prices.ins.cl
    have no : ∀ a b c d, (FP a b c d).lookup ("of" : Str) = none := fun a b c d => fp_no a b c d (by decide +kernel) (by decide +kernel) (by decide +kernel) (by decide +kernel)
    refine ⟨_, (pss_cons (ps_for PassesOwn.never rfl (pi_range1 (by rfl) T.m_range (pa_cons pe_int pa_nil)) (pg_name (i := 2) sc_law_named_right.nd rfl (Or.inl rfl))
    (pss_cons (ps_set (i := 3) sc_law_named_right.nd rfl (Or.inl rfl) (pe_lst (pa_cons pe_int (pa_cons pe_int (pa_cons pe_int (pa_cons pe_int pa_nil))))))
    (pss_cons (ps_asg (pe_ix ix_list (pv 0) (pv 2) (fun _ _ => rfl)) (pg_sub (pv 3) (pv 2) set_list))
    (pss_cons (ps_set (i := 4) sc_law_named_right.nd rfl (Or.inl rfl) (pe_ix ix_list (pe_lst (pa_cons (pe_mkN (n_Prices_K_letter T) hr (by decide) (by rfl) (pk_cons (pe_ix ix_list (pv 0) pe_int (fun _ _ => rfl)) pk_nil)) (pa_cons (pe_mkN (n_Prices_K_sign T) hr (by decide) (by rfl) (pk_cons (pe_ix ix_list (pv 0) pe_int (fun _ _ => rfl)) pk_nil)) (pa_cons (pe_mkN (n_Prices_K_unknown T) hr (by decide) (by rfl) (pk_cons (pe_ix ix_list (pv 0) pe_int (fun _ _ => rfl)) pk_nil)) (pa_cons (pe_mkN (n_Prices_K_number T) hr (by decide) (by rfl) (pk_cons (pe_ix ix_list (pv 0) pe_int (fun _ _ => rfl)) pk_nil)) pa_nil))))) (pv 2) (fun _ _ => rfl)))
    (pss_cons (ps_if (pt_cmpR (op_neSame hr.units) (pe_lst (pa_cons (pe_fld (pv 4) rfl) (pa_cons (pe_fld (pv 4) rfl) (pa_cons (pe_fld (pv 4) rfl) (pa_cons (pe_fld (pv 4) rfl) pa_nil))))) (pv 3) (nomark _))
    (pss_one (ps_ret pe_bl))
    pss_nil)
    (pss_one (ps_if (pt_cmpR op_ne (C8.pe_mt (m_Prices_of T) hr (by decide) (pv 4) (pa_cons (pv 1) pa_nil)) (C8.pe_c (c_law_cost T) hr (by decide) (by rfl) (pa_cons (pv 3) (pa_cons (pv 1) pa_nil))) (nomark _))
    (pss_one (ps_ret pe_bl))
    pss_nil)))))))
    (pss_cons (ps_set (i := 4) sc_law_named_right.nd rfl (Or.inl rfl) (pe_mkN (n_Prices_K_number_unknown_sign_letter T) hr (by decide) (by rfl) (pk_cons (pe_ix ix_list (pv 0) pe_int (fun _ _ => rfl)) (pk_cons (pe_ix ix_list (pv 0) pe_int (fun _ _ => rfl)) (pk_cons (pe_ix ix_list (pv 0) pe_int (fun _ _ => rfl)) (pk_cons (pe_ix ix_list (pv 0) pe_int (fun _ _ => rfl)) pk_nil))))))
    (pss_cons (ps_if (pt_cmpR (op_neSame hr.units) (pe_lst (pa_cons (pe_fld (pv 4) rfl) (pa_cons (pe_fld (pv 4) rfl) (pa_cons (pe_fld (pv 4) rfl) (pa_cons (pe_fld (pv 4) rfl) pa_nil))))) (pv 0) (nomark _))
    (pss_one (ps_ret pe_bl))
    pss_nil)
    (pss_one (ps_ret (pe_and (pe_cmpR op_eq (pe_mtN (m_Prices_of_K_vector T) hr (by decide) (pv 4) (pk_cons (pv 1) pk_nil)) (C8.pe_c (c_law_cost T) hr (by decide) (by rfl) (pa_cons (pv 0) (pa_cons (pv 1) pa_nil))) (nomark _)) (pe_one (pe_cmpR op_eq (C8.pe_mt (m_Prices_of T) hr (by decide) (pe_mk0 (n_Prices_D0 T) hr (by decide) (by rfl)) (pa_cons (pv 1) pa_nil)) (pe_callB (cr_sumT rfl) (by rfl) T.m_sum (by decide +kernel) (pa_cons (pv 1) pa_nil)) (nomark _))))))))), ?_⟩
    refine ⟨4, rfl, by decide, by decide, ?_⟩
    refine for_it walk_range (fun i σ H' => Same H H' ∧ ∃ y2 y3 y4 : Option V, σ = [some (.ref L), some (.ref t), y2, y3, y4]) ⟨Same.refl _, none, none, none, rfl⟩ (fun _ _ _ _ _ => True.intro) (fun i v σ H' H1 hi p yy => ?_) fun σ H1 p => ?_
    · obtain ⟨s1, y2, y3, y4, rfl⟩ := p
      obtain ⟨rfl, rfl⟩ := yy
      have i4 : i < 4 := hi
      have hL1 := s1 _ _ hL
      have ht1 := ht.same s1
      refine ⟨by show 4 ≤ sizeLine; decide, fun N nN => ?_⟩
      have sN := sameNew (o := .lst [.int 1, .int 1, .int 1, .int 1]) nN
      have ci : i = 0 ∨ i = 1 ∨ i = 2 ∨ i = 3 := by omega
      rcases ci with rfl | rfl | rfl | rfl
      ·
        refine ⟨_, rfl, _, rfl, L, _, _, _, rfl, rfl, .inl (.inl (sN _ _ hL1)), rfl, _, rfl, _, rfl, N, _, _, 0, rfl, rfl, upd_same, rfl, ?_⟩
        generalize hH2 : upd (upd H1 N (.lst [.int 1, .int 1, .int 1, .int 1])) N _ = H2
        have hN : H2 N = some (.lst [.int (a : Nat), .int (1 : Nat), .int (1 : Nat), .int (1 : Nat)]) := by
          rw [← hH2]
          exact upd_same
        have s2 : Same H1 H2 := by
          rw [← hH2]
          exact same_upd2 nN sN
        have hL2 := s2 _ _ hL1
        refine ⟨_, rfl, L, _, 0, .int (a : Nat), rfl, rfl, .inl (.inl hL2), rfl, rfl, rfl, fun x0 dx0 n0 m0 k0 => ?_⟩
        refine mk_pr (b := 1) (c := 1) (d := 1) n0 m0 k0 h1 fun H3 s3 o0 => ⟨rfl, ?_⟩
        refine ⟨_, rfl, L, _, 1, .int (b : Nat), rfl, rfl, .inl (.inl (s3 _ _ hL2)), rfl, rfl, rfl, fun x1 dx1 n1 m1 k1 => ?_⟩
        refine mk_pr (a := 1) (c := 1) (d := 1) n1 m1 k1 (by decide) fun H4 s4 o1 => ⟨rfl, ?_⟩
        have s24 := s3.trans s4
        refine ⟨_, rfl, L, _, 2, .int (c : Nat), rfl, rfl, .inl (.inl (s24 _ _ hL2)), rfl, rfl, rfl, fun x2 dx2 n2 m2 k2 => ?_⟩
        refine mk_pr (a := 1) (b := 1) (d := 1) n2 m2 k2 (by decide) fun H5 s5 o2 => ⟨rfl, ?_⟩
        have s25 := s24.trans s5
        refine ⟨_, rfl, L, _, 3, .int (d : Nat), rfl, rfl, .inl (.inl (s25 _ _ hL2)), rfl, rfl, rfl, fun x3 dx3 n3 m3 k3 => ?_⟩
        refine mk_pr (a := 1) (b := 1) (c := 1) n3 m3 k3 (by decide) fun H6 s6 o3 => ⟨rfl, by show 4 ≤ sizeLine; decide, fun M nM => ?_⟩
        have sM := sameNew (o := .lst [.ref x0, .ref x1, .ref x2, .ref x3]) nM
        have s26 := s25.trans s6
        have hP := (o0.same (s4.trans (s5.trans s6))).same sM
        have hM : upd H6 M (.lst [.ref x0, .ref x1, .ref x2, .ref x3]) M = some (.lst [.ref x0, .ref x1, .ref x2, .ref x3]) := upd_same
        have hN7 := (s26.trans sM) _ _ hN
        have ht7 := (ht1.same s2).same (s26.trans sM)
        have sA := s2.trans (s26.trans sM)
        generalize upd H6 M (.lst [.ref x0, .ref x1, .ref x2, .ref x3]) = H7 at hM hN7 ht7 sA hP
        obtain ⟨dx, hp⟩ := id hP
        refine ⟨_, rfl, M, _, _, _, rfl, rfl, .inl (.inl hM), rfl, ?_⟩
        refine ⟨_, rfl, _, C, dx, _, _, rfl, hp, cl, T.f_letter, fp_l _ _ _ _, _, rfl, _, C, dx, _, _, rfl, hp, cl, T.f_sign, fp_s _ _ _ _, _, rfl, _, C, dx, _, _, rfl, hp, cl, T.f_unknown, fp_u _ _ _ _, _, rfl, _, C, dx, _, _, rfl, hp, cl, T.f_number, fp_n _ _ _ _, by show 4 ≤ sizeLine; decide, fun M2 nM2 => ?_⟩
        have s8 := sameNew (o := .lst [.int (a : Nat), .int (1 : Nat), .int (1 : Nat), .int (1 : Nat)]) nM2
        refine ⟨_, rfl, _, dp_natL (f := [a, 1, 1, 1]) upd_same, dp_natL (f := [a, 1, 1, 1]) (s8 _ _ hN7), shaped_natL _, _, rfl, iteF ?_⟩
        have hP8 := hP.same s8
        obtain ⟨dx', hp8⟩ := id hP8
        have ht8 := ht7.same s8
        refine ⟨_, rfl, _, dx', _, rfl, hp8, no _ _ _ _, _, rfl, _, t, a, 1, 1, 1, x, y, z, u, rfl, hP8, ht8, by omega, by omega, by omega, by omega, by omega, by omega, by omega, by omega, fun H9 s9 => ?_⟩
        refine ⟨_, rfl, _, rfl, N, t, a, 1, 1, 1, x, y, z, u, rfl, s9 _ _ (s8 _ _ hN7), ht8.same s9, by omega, by omega, by omega, by omega, by omega, by omega, by omega, by omega, fun H10 s10 => ⟨rfl, false, congrArg V.bl (ne_no _), iteF ?_⟩⟩
        exact ⟨s1.trans (sA.trans (s8.trans (s9.trans s10))), _, _, _, rfl⟩
      ·
        refine ⟨_, rfl, _, rfl, L, _, _, _, rfl, rfl, .inl (.inl (sN _ _ hL1)), rfl, _, rfl, _, rfl, N, _, _, 1, rfl, rfl, upd_same, rfl, ?_⟩
        generalize hH2 : upd (upd H1 N (.lst [.int 1, .int 1, .int 1, .int 1])) N _ = H2
        have hN : H2 N = some (.lst [.int (1 : Nat), .int (b : Nat), .int (1 : Nat), .int (1 : Nat)]) := by
          rw [← hH2]
          exact upd_same
        have s2 : Same H1 H2 := by
          rw [← hH2]
          exact same_upd2 nN sN
        have hL2 := s2 _ _ hL1
        refine ⟨_, rfl, L, _, 0, .int (a : Nat), rfl, rfl, .inl (.inl hL2), rfl, rfl, rfl, fun x0 dx0 n0 m0 k0 => ?_⟩
        refine mk_pr (b := 1) (c := 1) (d := 1) n0 m0 k0 h1 fun H3 s3 o0 => ⟨rfl, ?_⟩
        refine ⟨_, rfl, L, _, 1, .int (b : Nat), rfl, rfl, .inl (.inl (s3 _ _ hL2)), rfl, rfl, rfl, fun x1 dx1 n1 m1 k1 => ?_⟩
        refine mk_pr (a := 1) (c := 1) (d := 1) n1 m1 k1 (by decide) fun H4 s4 o1 => ⟨rfl, ?_⟩
        have s24 := s3.trans s4
        refine ⟨_, rfl, L, _, 2, .int (c : Nat), rfl, rfl, .inl (.inl (s24 _ _ hL2)), rfl, rfl, rfl, fun x2 dx2 n2 m2 k2 => ?_⟩
        refine mk_pr (a := 1) (b := 1) (d := 1) n2 m2 k2 (by decide) fun H5 s5 o2 => ⟨rfl, ?_⟩
        have s25 := s24.trans s5
        refine ⟨_, rfl, L, _, 3, .int (d : Nat), rfl, rfl, .inl (.inl (s25 _ _ hL2)), rfl, rfl, rfl, fun x3 dx3 n3 m3 k3 => ?_⟩
        refine mk_pr (a := 1) (b := 1) (c := 1) n3 m3 k3 (by decide) fun H6 s6 o3 => ⟨rfl, by show 4 ≤ sizeLine; decide, fun M nM => ?_⟩
        have sM := sameNew (o := .lst [.ref x0, .ref x1, .ref x2, .ref x3]) nM
        have s26 := s25.trans s6
        have hP := (o1.same (s5.trans s6)).same sM
        have hM : upd H6 M (.lst [.ref x0, .ref x1, .ref x2, .ref x3]) M = some (.lst [.ref x0, .ref x1, .ref x2, .ref x3]) := upd_same
        have hN7 := (s26.trans sM) _ _ hN
        have ht7 := (ht1.same s2).same (s26.trans sM)
        have sA := s2.trans (s26.trans sM)
        generalize upd H6 M (.lst [.ref x0, .ref x1, .ref x2, .ref x3]) = H7 at hM hN7 ht7 sA hP
        obtain ⟨dx, hp⟩ := id hP
        refine ⟨_, rfl, M, _, _, _, rfl, rfl, .inl (.inl hM), rfl, ?_⟩
        refine ⟨_, rfl, _, C, dx, _, _, rfl, hp, cl, T.f_letter, fp_l _ _ _ _, _, rfl, _, C, dx, _, _, rfl, hp, cl, T.f_sign, fp_s _ _ _ _, _, rfl, _, C, dx, _, _, rfl, hp, cl, T.f_unknown, fp_u _ _ _ _, _, rfl, _, C, dx, _, _, rfl, hp, cl, T.f_number, fp_n _ _ _ _, by show 4 ≤ sizeLine; decide, fun M2 nM2 => ?_⟩
        have s8 := sameNew (o := .lst [.int (1 : Nat), .int (b : Nat), .int (1 : Nat), .int (1 : Nat)]) nM2
        refine ⟨_, rfl, _, dp_natL (f := [1, b, 1, 1]) upd_same, dp_natL (f := [1, b, 1, 1]) (s8 _ _ hN7), shaped_natL _, _, rfl, iteF ?_⟩
        have hP8 := hP.same s8
        obtain ⟨dx', hp8⟩ := id hP8
        have ht8 := ht7.same s8
        refine ⟨_, rfl, _, dx', _, rfl, hp8, no _ _ _ _, _, rfl, _, t, 1, b, 1, 1, x, y, z, u, rfl, hP8, ht8, by omega, by omega, by omega, by omega, by omega, by omega, by omega, by omega, fun H9 s9 => ?_⟩
        refine ⟨_, rfl, _, rfl, N, t, 1, b, 1, 1, x, y, z, u, rfl, s9 _ _ (s8 _ _ hN7), ht8.same s9, by omega, by omega, by omega, by omega, by omega, by omega, by omega, by omega, fun H10 s10 => ⟨rfl, false, congrArg V.bl (ne_no _), iteF ?_⟩⟩
        exact ⟨s1.trans (sA.trans (s8.trans (s9.trans s10))), _, _, _, rfl⟩
      ·
        refine ⟨_, rfl, _, rfl, L, _, _, _, rfl, rfl, .inl (.inl (sN _ _ hL1)), rfl, _, rfl, _, rfl, N, _, _, 2, rfl, rfl, upd_same, rfl, ?_⟩
        generalize hH2 : upd (upd H1 N (.lst [.int 1, .int 1, .int 1, .int 1])) N _ = H2
        have hN : H2 N = some (.lst [.int (1 : Nat), .int (1 : Nat), .int (c : Nat), .int (1 : Nat)]) := by
          rw [← hH2]
          exact upd_same
        have s2 : Same H1 H2 := by
          rw [← hH2]
          exact same_upd2 nN sN
        have hL2 := s2 _ _ hL1
        refine ⟨_, rfl, L, _, 0, .int (a : Nat), rfl, rfl, .inl (.inl hL2), rfl, rfl, rfl, fun x0 dx0 n0 m0 k0 => ?_⟩
        refine mk_pr (b := 1) (c := 1) (d := 1) n0 m0 k0 h1 fun H3 s3 o0 => ⟨rfl, ?_⟩
        refine ⟨_, rfl, L, _, 1, .int (b : Nat), rfl, rfl, .inl (.inl (s3 _ _ hL2)), rfl, rfl, rfl, fun x1 dx1 n1 m1 k1 => ?_⟩
        refine mk_pr (a := 1) (c := 1) (d := 1) n1 m1 k1 (by decide) fun H4 s4 o1 => ⟨rfl, ?_⟩
        have s24 := s3.trans s4
        refine ⟨_, rfl, L, _, 2, .int (c : Nat), rfl, rfl, .inl (.inl (s24 _ _ hL2)), rfl, rfl, rfl, fun x2 dx2 n2 m2 k2 => ?_⟩
        refine mk_pr (a := 1) (b := 1) (d := 1) n2 m2 k2 (by decide) fun H5 s5 o2 => ⟨rfl, ?_⟩
        have s25 := s24.trans s5
        refine ⟨_, rfl, L, _, 3, .int (d : Nat), rfl, rfl, .inl (.inl (s25 _ _ hL2)), rfl, rfl, rfl, fun x3 dx3 n3 m3 k3 => ?_⟩
        refine mk_pr (a := 1) (b := 1) (c := 1) n3 m3 k3 (by decide) fun H6 s6 o3 => ⟨rfl, by show 4 ≤ sizeLine; decide, fun M nM => ?_⟩
        have sM := sameNew (o := .lst [.ref x0, .ref x1, .ref x2, .ref x3]) nM
        have s26 := s25.trans s6
        have hP := (o2.same s6).same sM
        have hM : upd H6 M (.lst [.ref x0, .ref x1, .ref x2, .ref x3]) M = some (.lst [.ref x0, .ref x1, .ref x2, .ref x3]) := upd_same
        have hN7 := (s26.trans sM) _ _ hN
        have ht7 := (ht1.same s2).same (s26.trans sM)
        have sA := s2.trans (s26.trans sM)
        generalize upd H6 M (.lst [.ref x0, .ref x1, .ref x2, .ref x3]) = H7 at hM hN7 ht7 sA hP
        obtain ⟨dx, hp⟩ := id hP
        refine ⟨_, rfl, M, _, _, _, rfl, rfl, .inl (.inl hM), rfl, ?_⟩
        refine ⟨_, rfl, _, C, dx, _, _, rfl, hp, cl, T.f_letter, fp_l _ _ _ _, _, rfl, _, C, dx, _, _, rfl, hp, cl, T.f_sign, fp_s _ _ _ _, _, rfl, _, C, dx, _, _, rfl, hp, cl, T.f_unknown, fp_u _ _ _ _, _, rfl, _, C, dx, _, _, rfl, hp, cl, T.f_number, fp_n _ _ _ _, by show 4 ≤ sizeLine; decide, fun M2 nM2 => ?_⟩
        have s8 := sameNew (o := .lst [.int (1 : Nat), .int (1 : Nat), .int (c : Nat), .int (1 : Nat)]) nM2
        refine ⟨_, rfl, _, dp_natL (f := [1, 1, c, 1]) upd_same, dp_natL (f := [1, 1, c, 1]) (s8 _ _ hN7), shaped_natL _, _, rfl, iteF ?_⟩
        have hP8 := hP.same s8
        obtain ⟨dx', hp8⟩ := id hP8
        have ht8 := ht7.same s8
        refine ⟨_, rfl, _, dx', _, rfl, hp8, no _ _ _ _, _, rfl, _, t, 1, 1, c, 1, x, y, z, u, rfl, hP8, ht8, by omega, by omega, by omega, by omega, by omega, by omega, by omega, by omega, fun H9 s9 => ?_⟩
        refine ⟨_, rfl, _, rfl, N, t, 1, 1, c, 1, x, y, z, u, rfl, s9 _ _ (s8 _ _ hN7), ht8.same s9, by omega, by omega, by omega, by omega, by omega, by omega, by omega, by omega, fun H10 s10 => ⟨rfl, false, congrArg V.bl (ne_no _), iteF ?_⟩⟩
        exact ⟨s1.trans (sA.trans (s8.trans (s9.trans s10))), _, _, _, rfl⟩
      ·
        refine ⟨_, rfl, _, rfl, L, _, _, _, rfl, rfl, .inl (.inl (sN _ _ hL1)), rfl, _, rfl, _, rfl, N, _, _, 3, rfl, rfl, upd_same, rfl, ?_⟩
        generalize hH2 : upd (upd H1 N (.lst [.int 1, .int 1, .int 1, .int 1])) N _ = H2
        have hN : H2 N = some (.lst [.int (1 : Nat), .int (1 : Nat), .int (1 : Nat), .int (d : Nat)]) := by
          rw [← hH2]
          exact upd_same
        have s2 : Same H1 H2 := by
          rw [← hH2]
          exact same_upd2 nN sN
        have hL2 := s2 _ _ hL1
        refine ⟨_, rfl, L, _, 0, .int (a : Nat), rfl, rfl, .inl (.inl hL2), rfl, rfl, rfl, fun x0 dx0 n0 m0 k0 => ?_⟩
        refine mk_pr (b := 1) (c := 1) (d := 1) n0 m0 k0 h1 fun H3 s3 o0 => ⟨rfl, ?_⟩
        refine ⟨_, rfl, L, _, 1, .int (b : Nat), rfl, rfl, .inl (.inl (s3 _ _ hL2)), rfl, rfl, rfl, fun x1 dx1 n1 m1 k1 => ?_⟩
        refine mk_pr (a := 1) (c := 1) (d := 1) n1 m1 k1 (by decide) fun H4 s4 o1 => ⟨rfl, ?_⟩
        have s24 := s3.trans s4
        refine ⟨_, rfl, L, _, 2, .int (c : Nat), rfl, rfl, .inl (.inl (s24 _ _ hL2)), rfl, rfl, rfl, fun x2 dx2 n2 m2 k2 => ?_⟩
        refine mk_pr (a := 1) (b := 1) (d := 1) n2 m2 k2 (by decide) fun H5 s5 o2 => ⟨rfl, ?_⟩
        have s25 := s24.trans s5
        refine ⟨_, rfl, L, _, 3, .int (d : Nat), rfl, rfl, .inl (.inl (s25 _ _ hL2)), rfl, rfl, rfl, fun x3 dx3 n3 m3 k3 => ?_⟩
        refine mk_pr (a := 1) (b := 1) (c := 1) n3 m3 k3 (by decide) fun H6 s6 o3 => ⟨rfl, by show 4 ≤ sizeLine; decide, fun M nM => ?_⟩
        have sM := sameNew (o := .lst [.ref x0, .ref x1, .ref x2, .ref x3]) nM
        have s26 := s25.trans s6
        have hP := o3.same sM
        have hM : upd H6 M (.lst [.ref x0, .ref x1, .ref x2, .ref x3]) M = some (.lst [.ref x0, .ref x1, .ref x2, .ref x3]) := upd_same
        have hN7 := (s26.trans sM) _ _ hN
        have ht7 := (ht1.same s2).same (s26.trans sM)
        have sA := s2.trans (s26.trans sM)
        generalize upd H6 M (.lst [.ref x0, .ref x1, .ref x2, .ref x3]) = H7 at hM hN7 ht7 sA hP
        obtain ⟨dx, hp⟩ := id hP
        refine ⟨_, rfl, M, _, _, _, rfl, rfl, .inl (.inl hM), rfl, ?_⟩
        refine ⟨_, rfl, _, C, dx, _, _, rfl, hp, cl, T.f_letter, fp_l _ _ _ _, _, rfl, _, C, dx, _, _, rfl, hp, cl, T.f_sign, fp_s _ _ _ _, _, rfl, _, C, dx, _, _, rfl, hp, cl, T.f_unknown, fp_u _ _ _ _, _, rfl, _, C, dx, _, _, rfl, hp, cl, T.f_number, fp_n _ _ _ _, by show 4 ≤ sizeLine; decide, fun M2 nM2 => ?_⟩
        have s8 := sameNew (o := .lst [.int (1 : Nat), .int (1 : Nat), .int (1 : Nat), .int (d : Nat)]) nM2
        refine ⟨_, rfl, _, dp_natL (f := [1, 1, 1, d]) upd_same, dp_natL (f := [1, 1, 1, d]) (s8 _ _ hN7), shaped_natL _, _, rfl, iteF ?_⟩
        have hP8 := hP.same s8
        obtain ⟨dx', hp8⟩ := id hP8
        have ht8 := ht7.same s8
        refine ⟨_, rfl, _, dx', _, rfl, hp8, no _ _ _ _, _, rfl, _, t, 1, 1, 1, d, x, y, z, u, rfl, hP8, ht8, by omega, by omega, by omega, by omega, by omega, by omega, by omega, by omega, fun H9 s9 => ?_⟩
        refine ⟨_, rfl, _, rfl, N, t, 1, 1, 1, d, x, y, z, u, rfl, s9 _ _ (s8 _ _ hN7), ht8.same s9, by omega, by omega, by omega, by omega, by omega, by omega, by omega, by omega, fun H10 s10 => ⟨rfl, false, congrArg V.bl (ne_no _), iteF ?_⟩⟩
        exact ⟨s1.trans (sA.trans (s8.trans (s9.trans s10))), _, _, _, rfl⟩
    · obtain ⟨s1, y2, y3, y4, rfl⟩ := p
      have hL1 := s1 _ _ hL
      have ht1 := ht.same s1
      refine ⟨_, rfl, L, _, 3, .int (d : Nat), rfl, rfl, .inl (.inl hL1), rfl, _, rfl, L, _, 2, .int (c : Nat), rfl, rfl, .inl (.inl hL1), rfl, _, rfl, L, _, 1, .int (b : Nat), rfl, rfl, .inl (.inl hL1), rfl, _, rfl, L, _, 0, .int (a : Nat), rfl, rfl, .inl (.inl hL1), rfl, rfl, rfl, fun x0 dx0 n0 m0 k0 => ?_⟩
      refine mk_pr n0 m0 k0 h1 fun H3 s3 o0 => ⟨rfl, ?_⟩
      obtain ⟨dx, hp⟩ := id o0
      refine ⟨_, rfl, _, C, dx, _, _, rfl, hp, cl, T.f_letter, fp_l _ _ _ _, _, rfl, _, C, dx, _, _, rfl, hp, cl, T.f_sign, fp_s _ _ _ _, _, rfl, _, C, dx, _, _, rfl, hp, cl, T.f_unknown, fp_u _ _ _ _, _, rfl, _, C, dx, _, _, rfl, hp, cl, T.f_number, fp_n _ _ _ _, by show 4 ≤ sizeLine; decide, fun M2 nM2 => ?_⟩
      have s8 := sameNew (o := .lst [.int (a : Nat), .int (b : Nat), .int (c : Nat), .int (d : Nat)]) nM2
      have hL8 := s8 _ _ (s3 _ _ hL1)
      have ht8 := (ht1.same s3).same s8
      refine ⟨_, rfl, _, dp_natL (f := [a, b, c, d]) upd_same, dp_natL (f := [a, b, c, d]) hL8, shaped_natL _, _, rfl, iteF ?_⟩
      have hP8 := o0.same s8
      obtain ⟨dx', hp8⟩ := id hP8
      rw [tnext_eq]
      have s18 := s3.trans s8
      refine ⟨_, rfl, _, dx', _, rfl, hp8, no _ _ _ _, _, rfl, rfl, _, t, a, b, c, d, x, y, z, u, rfl, hP8, ht8, by omega, by omega, by omega, by omega, by omega, by omega, by omega, by omega, fun H9 s9 => ?_⟩
      refine ⟨_, rfl, _, rfl, L, t, a, b, c, d, x, y, z, u, rfl, s9 _ _ hL8, ht8.same s9, by omega, by omega, by omega, by omega, by omega, by omega, by omega, by omega, fun H10 s10 => ⟨rfl, ?_⟩⟩
      rw [decide_eq_true rfl]
      refine ⟨true, rfl, iteT ?_⟩
      intro x1 dx1 n1 m1 k1
      refine mk_pr (a := 1) (b := 1) (c := 1) (d := 1) n1 m1 k1 (by decide) fun H11 s11 o1 => ⟨rfl, ?_⟩
      obtain ⟨dx2, hp2⟩ := id o1
      have s8B := (s9.trans s10).trans s11
      refine ⟨x1, dx2, _, rfl, hp2, no _ _ _ _, _, rfl, x1, t, 1, 1, 1, 1, x, y, z, u, rfl, o1, ht8.same s8B, by decide, by decide, by decide, by decide, by omega, by omega, by omega, by omega, fun H12 s12 => ?_⟩
      refine ⟨_, rfl, t, [(x : Int), y, z, u], rfl, (ht8.same s8B).same s12, rfl, ?_⟩
      rw [sum4, decide_eq_true rfl]
      exact q H12 (s1.trans (s18.trans (s8B.trans s12)))
end
end K60

set_option Elab.async false
set_option linter.all false
set_option maxRecDepth 100000
set_option maxHeartbeats 4000000
set_option exponentiation.threshold 3000
namespace K60
open PySem PySem.Spec PyProof.Rows L2 CK SX NM
section
variable {P : Program} {w : World} {K : PySem.W.Frag} {mg : Str → Option Value} {base : Heap} {C : Addr}
def sp_one : Sp := fun vs H Q _ => ∃ (m B : Nat) (l1 l2 L t1 t2 : Addr) (ps qs : List Pn) (a b c d x y z u x' y' z' u' : Nat), vs = [.int m, .ref l1, .ref l2, .ref L, .ref t1, .ref t2] ∧ m ≤ 3 ∧ B ≤ 2 ^ 200 ∧ PL H l1 ps ∧ PL H l2 qs ∧ Dr m B ps ∧ Dr m B qs ∧ ps.length ≤ 100 ∧ qs.length ≤ 100 ∧
  H L = some (.lst [.int a, .int b, .int c, .int d]) ∧ FT H t1 [x, y, z, u] ∧ FT H t2 [x', y', z', u'] ∧ 1 ≤ a ∧ a < 2 ^ 100 ∧ b < 2 ^ 100 ∧ c < 2 ^ 100 ∧ d < 2 ^ 100 ∧ x < 2 ^ 100 ∧ y < 2 ^ 100 ∧ z < 2 ^ 100 ∧ u < 2 ^ 100 ∧ x' < 2 ^ 100 ∧ y' < 2 ^ 100 ∧ z' < 2 ^ 100 ∧ u' < 2 ^ 100 ∧ ∀ H', Same H H' → Q (.bl true) H'
theorem c_law_one_object_right (T : Txt K mg C) : CalG P w K mg base 8 "_law_one_object_right" sp_one := by
  refine calG T.d_law_one_object_right sc_law_one_object_right (fun vs H Q E h => ?_) (fun f cdv A outer s H vs Q E hr gd0 h => ?_)
  · obtain ⟨_, _, _, _, _, _, _, _, _, _, _, _, _, _, _, _, _, _, _, _, _, rfl, _⟩ := h; rfl
  · obtain ⟨m, B, l1, l2, L, t1, t2, ps, qs, a, b, c, d, x, y, z, u, x', y', z', u', rfl, m3, hB, pl1, pl2, d1, d2, n1, n2, hL, ht1, ht2, h1, ha, hb, hc, hd, hx, hy, hz, hu, hx', hy', hz', hu', q⟩ := h
    have gd : (A.deeper (envOfC "_law_one_object_right" (C8.fnScope (topS 56)) s.heap.objs.size f cdv)).guards = some [] := gd0
    have cl := T.k_Prices.ins.cl
    have no : ∀ a b c d, (FP a b c d).lookup ("of" : Str) = none := fun a b c d => fp_no a b c d (by decide +kernel) (by decide +kernel) (by decide +kernel) (by decide +kernel)
    obtain ⟨k1, k2, k3, k4⟩ := show_two d1 d2 m3 hB (by omega) (by omega)
    have g1 : ∀ {H' : Hp}, PL H' l1 ps → GL H' m l1 ps := fun h => d1.gl h hB (by omega)
    have g2 : ∀ {H' : Hp}, PL H' l2 qs → GL H' m l2 qs := fun h => d2.gl h hB (by omega)
    have e1 := d1.mea
    have e2 := d2.mea
    refine ⟨_, (pss_cons (ps_par (i := 6) (j := 7) (by rfl) sc_law_one_object_right.nd rfl rfl (by decide) rfl rfl (pa_cons (C8.pe_c (c_law_prices T) hr (by decide) (by rfl) (pa_cons (pv 3) pa_nil)) (pa_cons (pe_callB (call_repr hr gd) (by rfl) T.m_repr (by decide +kernel) (pa_cons (pe_lst (pa_cons (pv 1) (pa_cons (pv 2) pa_nil))) pa_nil)) pa_nil)) (by rfl))
    (pss_cons (ps_for PassesOwn.never rfl (pi_list (pe_lst (pa_cons (pv 4) (pa_cons (pv 5) (pa_cons (pv 4) pa_nil))))) (pg_name (i := 8) sc_law_one_object_right.nd rfl (Or.inl rfl))
    (pss_one (ps_if (pt_cmpR op_ne (C8.pe_mt (m_Prices_of T) hr (by decide) (pv 6) (pa_cons (pv 8) pa_nil)) (C8.pe_c (c_law_cost T) hr (by decide) (by rfl) (pa_cons (pv 3) (pa_cons (pv 8) pa_nil))) (nomark _))
    (pss_one (ps_ret pe_bl))
    pss_nil)))
    (pss_cons (ps_for PassesOwn.never rfl (pi_list (pe_lst (pa_cons (pv 1) (pa_cons (pv 2) (pa_cons (pv 1) pa_nil))))) (pg_name (i := 9) sc_law_one_object_right.nd rfl (Or.inl rfl))
    (pss_one (ps_if (pt_cmpR op_ne (C8.pe_c (c_cost T) hr (by decide) (by rfl) (pa_cons (pv 0) (pa_cons (pv 9) (pa_cons (pv 6) pa_nil)))) (C8.pe_c (c_law_cost T) hr (by decide) (by rfl) (pa_cons (pv 3) (pa_cons (C8.pe_c (c_law_vector T) hr (by decide) (by rfl) (pa_cons (pv 9) pa_nil)) pa_nil))) (nomark _))
    (pss_one (ps_ret pe_bl))
    pss_nil)))
    (pss_cons (ps_if (PW.pt (pw_or (pt_cmpR op_ne (C8.pe_mt (m_Prices_of T) hr (by decide) (pv 6) (pa_cons (pv 5) pa_nil)) (C8.pe_c (c_law_cost T) hr (by decide) (by rfl) (pa_cons (pv 3) (pa_cons (pv 5) pa_nil))) (nomark _)) (pw_or1 (pt_cmpR op_ne (pe_callB (call_repr hr gd) (by rfl) T.m_repr (by decide +kernel) (pa_cons (pe_lst (pa_cons (pv 1) (pa_cons (pv 2) pa_nil))) pa_nil)) (pv 7) (nomark _)))))
    (pss_one (ps_ret pe_bl))
    pss_nil)
    (pss_one (ps_ret (pe_cmpR (op_eqD hr.units) (pe_lst (pa_cons (pe_fld (pv 6) rfl) (pa_cons (pe_fld (pv 6) rfl) (pa_cons (pe_fld (pv 6) rfl) (pa_cons (pe_fld (pv 6) rfl) pa_nil))))) (pv 3) (nomark _)))))))), ?_⟩
    refine ⟨_, rfl, L, a, b, c, d, rfl, hL, h1, fun p H1 s1 hp => ?_⟩
    refine ⟨_, rfl, _, rfl, by show 2 ≤ sizeLine; decide, fun M nM => ?_⟩
    have sM := sameNew (o := .lst [.ref l1, .ref l2]) nM
    refine ⟨.ref M, .list [.list (ps.map dP), .list (qs.map dP)], rfl, .lst (.inl (.inl upd_same)) (.cons (dp_PL ((pl1.same s1).same sM)) (.cons (dp_PL ((pl2.same s1).same sM)) .nil)), k1, k2, k3, k4, _, _, rfl, ?_⟩
    have hp2 := hp.same sM
    have s2 := s1.trans sM
    generalize upd H1 M (.lst [.ref l1, .ref l2]) = H2 at sM hp2 s2
    have hL2 := s2 _ _ hL
    have ht12 := ht1.same s2
    have ht22 := ht2.same s2
    -- the vectors
    refine ⟨_, rfl, _, rfl, _, rfl, by show 3 ≤ sizeLine; decide, fun D nD => ?_⟩
    have sD := sameNew (o := .lst [.ref t1, .ref t2, .ref t1]) nD
    have hD : upd H2 D (.lst [.ref t1, .ref t2, .ref t1]) D = some (.lst [.ref t1, .ref t2, .ref t1]) := upd_same
    have s3 := s2.trans sD
    have hp3 := hp2.same sD
    have hL3 := sD _ _ hL2
    have ht13 := ht12.same sD
    have ht23 := ht22.same sD
    generalize upd H2 D (.lst [.ref t1, .ref t2, .ref t1]) = H3 at sD hD s3 hp3 hL3 ht13 ht23
    refine ⟨D, rfl, ⟨_, .inl (.inl hD)⟩, ?_⟩
    refine for_it (walk_list (K := K) (a := D) (xs := [.ref t1, .ref t2, .ref t1])) (fun i σ H' => Same H3 H' ∧ ∃ y8 : Option V, σ = [some (.int (m : Nat)), some (.ref l1), some (.ref l2), some (.ref L), some (.ref t1), some (.ref t2), some (.ref p), some (.str (PyData.list [.list (ps.map dP), .list (qs.map dP)]).shown), y8, none]) ⟨Same.refl _, none, rfl⟩ (fun i σ H' _ p => .inl (.inl (p.1 _ _ hD))) (fun i v σ H' H'' hi pI yy => ?_) fun σ H' pI => ?_
    · obtain ⟨s4, y8, rfl⟩ := pI
      obtain ⟨rfl, hv⟩ := yy
      have hp4 := hp3.same s4
      obtain ⟨dx, hpx⟩ := id hp4
      have cv : v = .ref t1 ∨ v = .ref t2 := by
        have := List.mem_of_getElem? hv
        simp only [List.mem_cons, List.not_mem_nil, or_false] at this
        rcases this with h | h | h
        · exact .inl h
        · exact .inr h
        · exact .inl h
      rcases cv with rfl | rfl
      · refine ⟨_, rfl, p, dx, _, rfl, hpx, no _ _ _ _, _, rfl, p, t1, a, b, c, d, x, y, z, u, rfl, hp4, ht13.same s4, by omega, by omega, by omega, by omega, by omega, by omega, by omega, by omega, fun H5 s5 => ?_⟩
        refine ⟨_, rfl, _, rfl, L, t1, a, b, c, d, x, y, z, u, rfl, s5 _ _ (s4 _ _ hL3), (ht13.same s4).same s5, by omega, by omega, by omega, by omega, by omega, by omega, by omega, by omega, fun H6 s6 => ⟨rfl, false, congrArg V.bl (ne_no _), iteF ?_⟩⟩
        exact ⟨s4.trans (s5.trans s6), _, rfl⟩
      · refine ⟨_, rfl, p, dx, _, rfl, hpx, no _ _ _ _, _, rfl, p, t2, a, b, c, d, x', y', z', u', rfl, hp4, ht23.same s4, by omega, by omega, by omega, by omega, by omega, by omega, by omega, by omega, fun H5 s5 => ?_⟩
        refine ⟨_, rfl, _, rfl, L, t2, a, b, c, d, x', y', z', u', rfl, s5 _ _ (s4 _ _ hL3), (ht23.same s4).same s5, by omega, by omega, by omega, by omega, by omega, by omega, by omega, by omega, fun H6 s6 => ⟨rfl, false, congrArg V.bl (ne_no _), iteF ?_⟩⟩
        exact ⟨s4.trans (s5.trans s6), _, rfl⟩
    · obtain ⟨s4, y8, rfl⟩ := pI
      have s14 := s3.trans s4
      -- the lists
      refine ⟨_, rfl, _, rfl, _, rfl, by show 3 ≤ sizeLine; decide, fun D2 nD2 => ?_⟩
      have sE := sameNew (o := .lst [.ref l1, .ref l2, .ref l1]) nD2
      have hD2 : upd H' D2 (.lst [.ref l1, .ref l2, .ref l1]) D2 = some (.lst [.ref l1, .ref l2, .ref l1]) := upd_same
      have s5 := s14.trans sE
      have hp5 := (hp3.same s4).same sE
      have hL5 := sE _ _ (s4 _ _ hL3)
      generalize upd H' D2 (.lst [.ref l1, .ref l2, .ref l1]) = H5 at sE hD2 s5 hp5 hL5
      refine ⟨D2, rfl, ⟨_, .inl (.inl hD2)⟩, ?_⟩
      refine for_it (walk_list (K := K) (a := D2) (xs := [.ref l1, .ref l2, .ref l1])) (fun i σ H' => Same H5 H' ∧ ∃ y8 y9 : Option V, σ = [some (.int (m : Nat)), some (.ref l1), some (.ref l2), some (.ref L), some (.ref t1), some (.ref t2), some (.ref p), some (.str (PyData.list [.list (ps.map dP), .list (qs.map dP)]).shown), y8, y9]) ⟨Same.refl _, y8, none, rfl⟩ (fun i σ H' _ p => .inl (.inl (p.1 _ _ hD2))) (fun i v σ H6 H6' hi pI yy => ?_) fun σ H6 pI => ?_
      · obtain ⟨s6, y8, y9, rfl⟩ := pI
        obtain ⟨rfl, hv⟩ := yy
        have cv : ∃ (l : Addr) (rs : List Pn), v = .ref l ∧ PL H6' l rs ∧ GL H6' m l rs ∧ meas rs ≤ 2000 := by
          have := List.mem_of_getElem? hv
          simp only [List.mem_cons, List.not_mem_nil, or_false] at this
          have p1 := (pl1.same s5).same s6
          have p2 := (pl2.same s5).same s6
          rcases this with h | h | h
          · exact ⟨l1, ps, h, p1, g1 p1, by omega⟩
          · exact ⟨l2, qs, h, p2, g2 p2, by omega⟩
          · exact ⟨l1, ps, h, p1, g1 p1, by omega⟩
        obtain ⟨l, rs, rfl, pl, gl, hme⟩ := cv
        obtain ⟨b0, b1, b2, b3⟩ := vecs_lt gl.len m3 gl.ws gl.few
        refine ⟨_, rfl, _, rfl, _, rfl, m, l, rs, _, a, b, c, d, rfl, m3, gl, hme, .inr ⟨p, rfl, hp5.same s6⟩, by omega, by omega, by omega, by omega, fun H7 s7 => ?_⟩
        refine ⟨_, rfl, _, rfl, l, rs, m, rfl, pl.same s7, gl.len, m3, gl.low, gl.ws, gl.few, fun r H8 s8 hr8 => ?_⟩
        refine ⟨L, r, a, b, c, d, _, _, _, _, rfl, s8 _ _ (s7 _ _ (s6 _ _ hL5)), hr8, by omega, by omega, by omega, by omega, by omega, by omega, by omega, by omega, fun H9 s9 => ⟨rfl, false, congrArg V.bl (ne_no _), iteF ?_⟩⟩
        exact ⟨s6.trans (s7.trans (s8.trans s9)), _, _, rfl⟩
      · obtain ⟨s6, y8, y9, rfl⟩ := pI
        have s16 := s5.trans s6
        have hp6 := hp5.same s6
        have hL6 := s6 _ _ hL5
        have ht6 := ht2.same s16
        obtain ⟨dx, hpx⟩ := id hp6
        refine ⟨_, rfl, p, dx, _, rfl, hpx, no _ _ _ _, _, rfl, p, t2, a, b, c, d, x', y', z', u', rfl, hp6, ht6, by omega, by omega, by omega, by omega, by omega, by omega, by omega, by omega, fun H7 s7 => ?_⟩
        refine ⟨_, rfl, _, rfl, L, t2, a, b, c, d, x', y', z', u', rfl, s7 _ _ hL6, ht6.same s7, by omega, by omega, by omega, by omega, by omega, by omega, by omega, by omega, fun H8 s8 => ⟨rfl, false, congrArg V.bl (ne_no _), iteF ?_⟩⟩
        have s18 := s16.trans (s7.trans s8)
        refine ⟨_, rfl, _, rfl, by show 2 ≤ sizeLine; decide, fun M2 nM2 => ?_⟩
        have s9 := sameNew (o := .lst [.ref l1, .ref l2]) nM2
        refine ⟨.ref M2, .list [.list (ps.map dP), .list (qs.map dP)], rfl, .lst (.inl (.inl upd_same)) (.cons (dp_PL ((pl1.same s18).same s9)) (.cons (dp_PL ((pl2.same s18).same s9)) .nil)), k1, k2, k3, k4, _, rfl, rfl, false, congrArg V.bl (ne_no _), iteF ?_⟩
        rw [tnext_eq]
        obtain ⟨dx2, hp9⟩ := (hp6.same (s7.trans s8)).same s9
        have hL9 := (s7.trans (s8.trans s9)) _ _ hL6
        have s19 := s18.trans s9
        generalize upd H8 M2 (.lst [.ref l1, .ref l2]) = H9 at s9 hp9 hL9 s19
        refine ⟨_, rfl, _, C, dx2, _, _, rfl, hp9, cl, T.f_letter, fp_l _ _ _ _, _, rfl, _, C, dx2, _, _, rfl, hp9, cl, T.f_sign, fp_s _ _ _ _, _, rfl, _, C, dx2, _, _, rfl, hp9, cl, T.f_unknown, fp_u _ _ _ _, _, rfl, _, C, dx2, _, _, rfl, hp9, cl, T.f_number, fp_n _ _ _ _, by show 4 ≤ sizeLine; decide, fun M3 nM3 => ?_⟩
        have sA := sameNew (o := .lst [.int (a : Nat), .int (b : Nat), .int (c : Nat), .int (d : Nat)]) nM3
        refine ⟨_, rfl, _, _, dp_natL (f := [a, b, c, d]) upd_same, dp_natL (f := [a, b, c, d]) (sA _ _ hL9), shaped_natL _, shaped_natL _, ?_⟩
        rw [eqv_natL, decide_eq_true rfl]
        exact q _ (s19.trans sA)
end
end K60

set_option Elab.async false
set_option linter.all false
set_option maxRecDepth 100000
set_option maxHeartbeats 8000000
set_option exponentiation.threshold 3000
namespace K60
open PySem PySem.Spec PyProof.Rows L2 CK SX NM
theorem st_ab : (V.str "ab") = V.str (S [97, 98]) := by decide +kernel
theorem st_a : (V.str "a") = V.str (S [97]) := by decide +kernel
theorem st_c : (V.str "c") = V.str (S [99]) := by decide +kernel
theorem st_0 : (V.str "") = V.str (S []) := by decide +kernel
def knownL : List Pn := [([97, 98], [1, 2]), ([97], [3, 0]), ([99], [1, 0]), ([], [0, 0])]
theorem known_dr : Dr 1 4 knownL := fun p hp => by
  simp only [knownL, List.mem_cons, List.not_mem_nil, or_false] at hp
  rcases hp with rfl | rfl | rfl | rfl
  · exact ⟨rfl, fun c hc => by simp at hc; omega, by decide, by decide, by decide⟩
  · exact ⟨rfl, fun c hc => by simp at hc; omega, by decide, by decide, by decide⟩
  · exact ⟨rfl, fun c hc => by simp at hc; omega, by decide, by decide, by decide⟩
  · exact ⟨rfl, fun c hc => by simp at hc, by decide, by decide, by decide⟩
theorem known_vec : vecs knownL = [4, 3, 1, 2] := by decide
def lastL : List Pn := [([97], [0, 0, 3])]
theorem last_dr : Dr 2 4 lastL := fun p hp => by
  rw [List.mem_singleton.mp hp]
  exact ⟨rfl, fun c hc => by simp at hc; omega, by decide, by decide, by decide⟩
theorem last_vec : vecs lastL = [1, 1, 1, 0] := by decide
/-- a piece that is written out -/
theorem mk_pc {H : Hp} {fa a : Addr} {s : Str} {z : List Nat} {f : F} (e : V.str s = V.str (S z)) (n1 : H fa = none) (n2 : upd H fa (.tup (f.map fun n : Nat => V.int (n : Nat))) a = none) :
    Same H (upd (upd H fa (.tup (f.map fun n : Nat => V.int (n : Nat)))) a (.tup [.str s, .ref fa])) ∧ PC (upd (upd H fa (.tup (f.map fun n : Nat => V.int (n : Nat)))) a (.tup [.str s, .ref fa])) a (z, f) :=
  ⟨(sameNew n1).trans (sameNew n2), fa, by rw [upd_same, e], sameNew n2 _ _ upd_same⟩
section
variable {P : Program} {w : World} {K : PySem.W.Frag} {mg : Str → Option Value} {base : Heap} {C : Addr}
theorem law_last (T : Txt K mg C) (f0 : Addr) (cdv : Value) (A : Around) (outer : List Env) (s0 : Shared) (H0 : Hp) (E : XK) (hr : Room 8 (A.deeper (envOfC "law" (C8.fnScope (topS 57)) s0.heap.objs.size f0 cdv))) :
    ∃ u, PSs (cxOf C8.CX0 P w K mg base ["_law_script", "_law_generator_here", "_law_many", "_law_signs", "_law_one", "_law_other", "_law_times", "_law_four_here", "_law_drawn", "_law_turn", "_law_second", "_law_due", "_law_prices_here", "_law_grown", "_law_low", "_law_high", "_law_known"] "law" (C8.fnScope (topS 57)) f0 cdv A outer s0 H0 E).nox ((C8.fnBody (topS 57)).drop 18) u ∧
      ∀ (Dn : Ends) (H : Hp) (v0 v1 v2 v3 v4 v5 v6 v7 v8 v9 v10 v11 v12 v13 v14 v15 v16 : Option V), (∀ H', Dn.rt (.bl true) H') →
        u Dn [v0, v1, v2, v3, v4, v5, v6, v7, v8, v9, v10, v11, v12, v13, v14, v15, v16] H := by
  refine ⟨_, (pss_cons (ps_set (i := 16) sc_law.nd rfl (Or.inl rfl) (pe_lst (pa_cons (pe_tup (pa_cons pe_str (pa_cons (pe_tup (pa_cons pe_int (pa_cons pe_int pa_nil))) pa_nil))) (pa_cons (pe_tup (pa_cons pe_str (pa_cons (pe_tup (pa_cons pe_int (pa_cons pe_int pa_nil))) pa_nil))) (pa_cons (pe_tup (pa_cons pe_str (pa_cons (pe_tup (pa_cons pe_int (pa_cons pe_int pa_nil))) pa_nil))) (pa_cons (pe_tup (pa_cons pe_str (pa_cons (pe_tup (pa_cons pe_int (pa_cons pe_int pa_nil))) pa_nil))) pa_nil))))))
    (pss_cons (ps_if (PW.pt (pw_or (pt_cmpR (op_neSame hr.units) (C8.pe_c (c_vector T) hr (by decide) (by rfl) (pa_cons pe_int (pa_cons (pv 16) pa_nil))) (pe_tup (pa_cons pe_int (pa_cons pe_int (pa_cons pe_int (pa_cons pe_int pa_nil))))) (nomark _)) (pw_or (pt_cmpR op_ne (C8.pe_c (c_cost T) hr (by decide) (by rfl) (pa_cons pe_int (pa_cons (pv 16) (pa_cons (pe_mkN (n_Prices_K_sign_number T) hr (by decide) (by rfl) (pk_cons pe_int (pk_cons pe_int pk_nil))) pa_nil)))) pe_int (nomark _)) (pw_or1 (pt_cmpR op_ne (C8.pe_c (c_cost_D2 T) hr (by decide) (by rfl) (pa_cons pe_int (pa_cons (pv 16) pa_nil))) pe_int (nomark _))))))
    (pss_one (ps_ret pe_bl))
    pss_nil)
    (pss_one (ps_ret (pe_and (pe_cmpR (op_eqD hr.units) (C8.pe_c (c_vector T) hr (by decide) (by rfl) (pa_cons pe_int (pa_cons (pe_lst pa_nil) pa_nil))) (pe_tup (pa_cons pe_int (pa_cons pe_int (pa_cons pe_int (pa_cons pe_int pa_nil))))) (nomark _)) (pe_one (pe_cmpR (op_eqD hr.units) (C8.pe_c (c_vector T) hr (by decide) (by rfl) (pa_cons pe_int (pa_cons (pe_lst (pa_cons (pe_tup (pa_cons pe_str (pa_cons (pe_tup (pa_cons pe_int (pa_cons pe_int (pa_cons pe_int pa_nil)))) pa_nil))) pa_nil)) pa_nil))) (pe_tup (pa_cons pe_int (pa_cons pe_int (pa_cons pe_int (pa_cons pe_int pa_nil))))) (nomark _)))))))), ?_⟩
  intro Dn H v0 v1 v2 v3 v4 v5 v6 v7 v8 v9 v10 v11 v12 v13 v14 v15 v16 q
  refine ⟨by show 2 ≤ sizeLine; decide, fun f1 nf1 => ⟨by show 2 ≤ sizeLine; decide, fun p1 np1 => ?_⟩⟩
  generalize eH1 : upd (upd H f1 _) p1 _ = H1
  have c1 : Same H H1 ∧ PC H1 p1 ([97, 98], [1, 2]) := by
    rw [← eH1]
    exact mk_pc (f := [1, 2]) st_ab nf1 np1
  clear eH1 np1 nf1
  refine ⟨by show 2 ≤ sizeLine; decide, fun f2 nf2 => ⟨by show 2 ≤ sizeLine; decide, fun p2 np2 => ?_⟩⟩
  generalize eH2 : upd (upd H1 f2 _) p2 _ = H2
  have c2 : Same H1 H2 ∧ PC H2 p2 ([97], [3, 0]) := by
    rw [← eH2]
    exact mk_pc (f := [3, 0]) st_a nf2 np2
  clear eH2 np2 nf2
  refine ⟨by show 2 ≤ sizeLine; decide, fun f3 nf3 => ⟨by show 2 ≤ sizeLine; decide, fun p3 np3 => ?_⟩⟩
  generalize eH3 : upd (upd H2 f3 _) p3 _ = H3
  have c3 : Same H2 H3 ∧ PC H3 p3 ([99], [1, 0]) := by
    rw [← eH3]
    exact mk_pc (f := [1, 0]) st_c nf3 np3
  clear eH3 np3 nf3
  refine ⟨by show 2 ≤ sizeLine; decide, fun f4 nf4 => ⟨by show 2 ≤ sizeLine; decide, fun p4 np4 => ?_⟩⟩
  generalize eH4 : upd (upd H3 f4 _) p4 _ = H4
  have c4 : Same H3 H4 ∧ PC H4 p4 ([], [0, 0]) := by
    rw [← eH4]
    exact mk_pc (f := [0, 0]) st_0 nf4 np4
  clear eH4 np4 nf4
  obtain ⟨s1, d1⟩ := c1
  obtain ⟨s2, d2⟩ := c2
  obtain ⟨s3, d3⟩ := c3
  obtain ⟨s4, d4⟩ := c4
  refine ⟨by show 4 ≤ sizeLine; decide, fun N nN => ?_⟩
  have sN := sameNew (o := .lst [.ref p1, .ref p2, .ref p3, .ref p4]) nN
  have PN : PL (upd H4 N (.lst [.ref p1, .ref p2, .ref p3, .ref p4])) N knownL := ⟨_, upd_same, .cons ((d1.mono (tup_same (s2.trans (s3.trans s4)))).mono (tup_same sN)) (.cons ((d2.mono (tup_same (s3.trans s4))).mono (tup_same sN)) (.cons ((d3.mono (tup_same s4)).mono (tup_same sN)) (.cons (d4.mono (tup_same sN)) .nil)))⟩
  generalize upd H4 N (.lst [.ref p1, .ref p2, .ref p3, .ref p4]) = H5 at PN
  clear d1 d2 d3 d4 s1 s2 s3 s4 sN nN
  have gl : ∀ {H' : Hp}, PL H' N knownL → GL H' 1 N knownL := fun h => known_dr.gl h (by decide) (by decide)
  have hme : meas knownL ≤ 2000 := by decide
  refine ⟨_, rfl, 1, N, knownL, rfl, by decide, gl PN, hme, fun r H6 s6 hr6 => ⟨by show 4 ≤ sizeLine; decide, fun t7 n7 => ?_⟩⟩
  have s7 := sameNew (o := .tup [.int 4, .int 3, .int 1, .int 2]) n7
  rw [known_vec] at hr6
  refine ⟨dF [4, 3, 1, 2], dp_FT (hr6.same s7), dp_FT (f := [4, 3, 1, 2]) upd_same, shaped_dF _, _, rfl, iteF ?_⟩
  have PN7 := (PN.same s6).same s7
  generalize upd H6 t7 (.tup [.int 4, .int 3, .int 1, .int 2]) = H7 at PN7 s7
  refine ⟨_, rfl, rfl, rfl, fun x dx nx ndx nex => ?_⟩
  refine mk_pr (a := 1) (b := 10) (c := 1) (d := 0) nx ndx nex (by decide) fun H8 s8 o8 => ⟨rfl, ?_⟩
  have PN8 := PN7.same s8
  refine ⟨1, N, knownL, .ref x, 1, 10, 1, 0, rfl, by decide, gl PN8, hme, .inr ⟨x, rfl, o8⟩, by decide, by decide, by decide, by decide, fun H9 s9 => ?_⟩
  rw [known_vec]
  refine ⟨rfl, false, rfl, iteF ?_⟩
  have PN9 := PN8.same s9
  refine ⟨_, rfl, 1, N, knownL, .non, 1, 1, 1, 1, rfl, by decide, gl PN9, hme, .inl ⟨rfl, rfl, rfl, rfl, rfl⟩, by decide, by decide, by decide, by decide, fun H10 s10 => ?_⟩
  rw [known_vec]
  refine ⟨rfl, false, rfl, iteF ?_⟩
  rw [tnext_eq]
  have n0 : Dr 0 4 [] := fun p hp => absurd hp List.not_mem_nil
  refine ⟨Nat.zero_le _, fun L0 nL0 => ?_⟩
  have PE0 : PL (upd H10 L0 (.lst [])) L0 [] := ⟨[], upd_same, .nil⟩
  generalize upd H10 L0 (.lst []) = H11 at PE0
  refine ⟨0, L0, [], rfl, by decide, n0.gl PE0 (by decide) (by decide), by decide, fun r H12 s12 hr12 => ⟨by show 4 ≤ sizeLine; decide, fun t13 n13 => ?_⟩⟩
  have s13 := sameNew (o := .tup [.int 0, .int 0, .int 0, .int 0]) n13
  refine ⟨dF [0, 0, 0, 0], dF [0, 0, 0, 0], dp_FT (hr12.same s13), dp_FT (f := [0, 0, 0, 0]) upd_same, shaped_dF _, shaped_dF _, ?_⟩
  rw [eqv_dF, decide_eq_true rfl]
  refine ⟨true, rfl, iteT ?_⟩
  generalize upd H12 t13 (.tup [.int 0, .int 0, .int 0, .int 0]) = H13
  refine ⟨by show 3 ≤ sizeLine; decide, fun f1 nf1 => ⟨by show 2 ≤ sizeLine; decide, fun p1 np1 => ?_⟩⟩
  generalize eH : upd (upd H13 f1 _) p1 _ = H14
  have c : Same H13 H14 ∧ PC H14 p1 ([97], [0, 0, 3]) := by
    rw [← eH]
    exact mk_pc (f := [0, 0, 3]) st_a nf1 np1
  refine ⟨by show 1 ≤ sizeLine; decide, fun M nM => ?_⟩
  have PM : PL (upd H14 M (.lst [.ref p1])) M lastL := ⟨_, upd_same, .cons (c.2.mono (tup_same (sameNew nM))) .nil⟩
  generalize upd H14 M (.lst [.ref p1]) = H15 at PM
  refine ⟨2, M, lastL, rfl, by decide, last_dr.gl PM (by decide) (by decide), by decide, fun r H16 s16 hr16 => ⟨by show 4 ≤ sizeLine; decide, fun t17 n17 => ?_⟩⟩
  rw [last_vec] at hr16
  have s17 := sameNew (o := .tup [.int 1, .int 1, .int 1, .int 0]) n17
  refine ⟨dF [1, 1, 1, 0], dF [1, 1, 1, 0], dp_FT (hr16.same s17), dp_FT (f := [1, 1, 1, 0]) upd_same, shaped_dF _, shaped_dF _, ?_⟩
  rw [eqv_dF, decide_eq_true rfl]
  exact q _
end
end K60

set_option Elab.async false
set_option linter.all false
set_option maxRecDepth 100000
set_option maxHeartbeats 8000000
set_option exponentiation.threshold 3000
namespace K60
open PySem PySem.Spec PyProof.Rows L2 CK SX NM
/-- the piece that the law appends -/
def newP (m : Nat) : Pn := ([97, 98], 2 :: List.replicate m 5)
theorem newP_dr {m B : Nat} (hB : 10 ≤ B) : DrP m B (newP m) := ⟨by simp [newP], fun c hc => by simp [newP] at hc; omega, by show 2 ≤ 9; decide, Nat.le_trans (mea_le (a := 2) (Nat.le_refl 2)) (by decide), fun x hx => by
  rcases List.mem_cons.mp hx with rfl | hx
  · omega
  · rw [(List.mem_replicate.mp hx).2]; omega⟩
theorem newP_vec (m : Nat) : vecP (newP m) = [2, 1, m, 1] := by
  have hf : fx (newP m) = false := by
    unfold fx newP one1
    refine decide_eq_false fun e => ?_
    have := (List.cons.inj e).1
    omega
  have e1' : e1 (newP m) = 1 := by unfold e1; rw [hf]; rfl
  have e2' : e2 (newP m) = m := by
    unfold e2
    rw [hf]
    show ((List.replicate m 5).filter fun n => decide (n ≠ 0)).length = m
    rw [List.filter_replicate_of_pos (by decide), List.length_replicate]
  have e3' : e3 (newP m) = 1 := by unfold e3; rw [hf]; rfl
  unfold vecP
  rw [e1', e2', e3']
  rfl
theorem vecs_app (ps : List Pn) (p : Pn) : vecs (ps ++ [p]) = addF (vecs ps) (vecP p) := by
  unfold vecs
  rw [sm_app, sm_app, sm_app, sm_app]
  have one : ∀ e : Pn → Nat, sm e [p] = e p := fun e => by
    show ([p].map e).sum = _
    simp
  rw [one, one, one, one]
  rfl
section
variable {P : Program} {w : World} {K : PySem.W.Frag} {mg : Str → Option Value} {base : Heap} {C : Addr}
theorem law_grown (T : Txt K mg C) (f0 : Addr) (cdv : Value) (A : Around) (outer : List Env) (s0 : Shared) (H0 : Hp) (E : XK) (hr : Room 8 (A.deeper (envOfC "law" (C8.fnScope (topS 57)) s0.heap.objs.size f0 cdv))) :
    ∃ u, PSs (cxOf C8.CX0 P w K mg base ["_law_script", "_law_generator_here", "_law_many", "_law_signs", "_law_one", "_law_other", "_law_times", "_law_four_here", "_law_drawn", "_law_turn", "_law_second", "_law_due", "_law_prices_here", "_law_grown", "_law_low", "_law_high", "_law_known"] "law" (C8.fnScope (topS 57)) f0 cdv A outer s0 H0 E).nox ((C8.fnBody (topS 57)).drop 13) u ∧
      ∀ (Dn : Ends) (H : Hp) (m B : Nat) (l1 L td p : Addr) (ps : List Pn) (a b c d : Nat) (v0 v1 v3 v5 v6 v8 v10 : Option V), m ≤ 3 → 10 ≤ B → B ≤ 2 ^ 200 → PL H l1 ps → Dr m B ps → ps.length ≤ 100 → H L = some (.lst [.int a, .int b, .int c, .int d]) → FT H td (vecs ps) → PrO C H p a b c d → a < 2 ^ 100 → b < 2 ^ 100 → c < 2 ^ 100 → d < 2 ^ 100 → (∀ H', Dn.rt (.bl true) H') →
        u Dn [v0, v1, some (.int (m : Nat)), v3, some (.ref l1), v5, v6, some (.ref L), v8, none, v10, some (.ref td), some (.ref p), none, none, none, none] H := by
  obtain ⟨u, hu, tail⟩ := law_last T f0 cdv A outer s0 H0 E hr
  refine ⟨_, (pss_cons (ps_set (i := 13) sc_law.nd rfl (Or.inl rfl) (pe_callTy call_list_of (by rfl) T.m_list (by decide +kernel) (pa_cons (pv 4) pa_nil)))
    (pss_cons (ps_if (pt_cmpR (op_neSame hr.units) (C8.pe_c (c_vector T) hr (by decide) (by rfl) (pa_cons (pv 2) (pa_cons (pv 13) pa_nil))) (pv 11) (nomark _))
    (pss_one (ps_ret pe_bl))
    pss_nil)
    (pss_cons (ps_expr (pe_bm PySem.F.plainAttrs_list PySem.F.slot_list_append PySem.F.type_list_append mt_append (pv 13) (pa_cons (pe_tup (pa_cons pe_str (pa_cons (pe_op op_catS (pe_tup (pa_cons pe_int pa_nil)) (pe_op op_repOne (pe_tup (pa_cons pe_int pa_nil)) (pv 2))) pa_nil))) pa_nil)))
    (pss_cons (ps_if (pt_cmpR (op_neSame hr.units) (pe_cN (c_vector_K_pieces_many T) hr (by decide) (by rfl) (pk_cons (pv 13) (pk_cons (pv 2) pk_nil))) (pe_callTy call_tupL (by rfl) T.m_tuple (by decide +kernel) (pa_cons (pe_lc (own := [("_law_low", 14), ("_law_high", 15)]) (by rfl) sc_law.nd (pi_zipB (K := K) rfl (by rfl) T.m_zip (pa_cons (pv 11) (pa_cons (pe_tup (pa_cons pe_int (pa_cons pe_int (pa_cons (pv 2) (pa_cons pe_int pa_nil))))) pa_nil))) (blkOk_by (N := ["_law_script", "_law_generator_here", "_law_many", "_law_signs", "_law_one", "_law_other", "_law_times", "_law_four_here", "_law_drawn", "_law_turn", "_law_second", "_law_due", "_law_prices_here", "_law_grown", "_law_low", "_law_high", "_law_known"]) (sc := C8.fnScope (topS 57)) (own := [("_law_low", 14), ("_law_high", 15)]) (by decide +kernel)) (fun _ _ _ _ _ => (pg_two (K := K) (i := 14) (j := 15) rfl rfl sc_law.nd rfl rfl (Or.inl rfl) (Or.inl rfl))) (fun _ _ _ _ _ => pts_nil) (fun _ _ _ _ _ => (pe_op op_add (pv 14) (pv 15)))) pa_nil)) (nomark _))
    (pss_one (ps_ret pe_bl))
    pss_nil)
    (pss_cons (ps_if (PW.pt (pw_or (pt_cmpR (op_neSame hr.units) (C8.pe_c (c_vector T) hr (by decide) (by rfl) (pa_cons (pv 2) (pa_cons (pv 4) pa_nil))) (pv 11) (nomark _)) (pw_or1 (pt_cmpR op_ne (C8.pe_c (c_cost T) hr (by decide) (by rfl) (pa_cons (pv 2) (pa_cons (pv 4) (pa_cons (pv 12) pa_nil)))) (C8.pe_c (c_law_cost T) hr (by decide) (by rfl) (pa_cons (pv 7) (pa_cons (pv 11) pa_nil))) (nomark _)))))
    (pss_one (ps_ret pe_bl))
    pss_nil)
    hu))))), ?_⟩
  intro Dn H m B l1 L td p ps a b c d v0 v1 v3 v5 v6 v8 v10 m3 hB1 hB pl dr n1 hL htd hp ha hb hc hd q
  have hme := dr.mea
  obtain ⟨us, hus, pus⟩ := id pl
  have lus := pus.len
  refine ⟨_, rfl, l1, us, rfl, .inl (.inl (.inl hus)), fun N nN => ?_⟩
  have sN := sameNew (o := .lst us) nN
  have PN : PL (upd H N (.lst us)) N ps := ⟨us, upd_same, pus.same sN⟩
  have hN1 : upd H N (.lst us) N = some (.lst us) := upd_same
  generalize eH1 : upd H N (.lst us) = H1 at sN PN hN1
  refine ⟨_, rfl, _, rfl, m, N, ps, rfl, m3, dr.gl PN hB (by omega), by omega, fun r H2 s2 hr2 => ?_⟩
  refine ⟨_, rfl, dF (vecs ps), dp_FT hr2, dp_FT ((htd.same sN).same s2), shaped_dF _, _, rfl, iteF ?_⟩
  rw [tnext_eq]
  have s12 := sN.trans s2
  have hN2 := s2 _ _ hN1
  refine ⟨_, rfl, .inl ⟨rfl, _, .inl (.inl hN2)⟩, ?_⟩
  refine ⟨by show 1 ≤ sizeLine; decide, fun a1 m1 => ⟨by show 1 ≤ sizeLine; decide, fun a2 m2 => ⟨_, rfl, a2, _, _, rfl, rfl, upd_same, by omega, by omega, fun a3 H3 s3 h3 => ?_⟩⟩⟩
  have sa := (sameNew (o := .tup [.int 2]) m1).trans (sameNew (o := .tup [.int 5]) m2)
  have e1' : H3 a1 = some (.tup [.int 2]) := s3 _ _ (by rw [upd_ne (ne_of_none upd_same m2)]; exact upd_same)
  refine ⟨a1, a3, _, _, rfl, rfl, e1', h3, by simp; omega, fun a4 H4 s4 h4 => ⟨by show 2 ≤ sizeLine; decide, fun t nt => ?_⟩⟩
  have st := sameNew (o := .tup [.str "ab", .ref a4]) nt
  have pc : PC (upd H4 t (.tup [.str "ab", .ref a4])) t (newP m) := ⟨a4, by rw [upd_same, st_ab]; rfl, by
    refine st _ _ ?_
    rw [h4]
    simp [newP]⟩
  have s25 := ((sa.trans s3).trans s4).trans st
  generalize upd H4 t (.tup [.str "ab", .ref a4]) = H5 at pc s25
  have hN5 := s25 _ _ hN2
  have pus5 := (pus.same s12).same s25
  refine ⟨N, _, _, rfl, rfl, hN5, by rw [sizeLine_eq]; omega, ?_⟩
  have P6 : PL (upd H5 N (.lst (us ++ [.ref t]))) N (ps ++ [newP m]) := ⟨_, upd_same, (pus5.upd hN5).app (.one (pc.mono (tup_upd hN5)))⟩
  have s06 : Same H (upd H5 N (.lst (us ++ [.ref t]))) := same_upd2 nN (s12.trans s25)
  generalize upd H5 N (.lst (us ++ [.ref t])) = H6 at P6 s06
  have dr6 : Dr m B (ps ++ [newP m]) := fun x hx => by
    rcases List.mem_append.mp hx with z | z
    · exact dr x z
    · rw [List.mem_singleton.mp z]
      exact newP_dr hB1
  have l6 : (ps ++ [newP m]).length ≤ 101 := by rw [List.length_append, List.length_singleton]; omega
  have hme6 := dr6.mea
  refine ⟨_, rfl, _, rfl, rfl, rfl, m, N, ps ++ [newP m], rfl, m3, dr6.gl P6 hB (by omega), by omega, fun r2 H7 s7 hr7 => ?_⟩
  have htd7 := (htd.same s06).same s7
  refine ⟨_, rfl, _, rfl, by show 4 ≤ sizeLine; decide, fun tt ntt => ?_⟩
  have stt := sameNew (o := .tup [.int 2, .int 1, .int (m : Nat), .int 1]) ntt
  have htt : FT (upd H7 tt (.tup [.int 2, .int 1, .int (m : Nat), .int 1])) tt [2, 1, m, 1] := upd_same
  generalize upd H7 tt (.tup [.int 2, .int 1, .int (m : Nat), .int 1]) = H8 at stt htt
  have htd8 := htd7.same stt
  refine ⟨.T, .T, td, tt, _, _, rfl, .inl (.inl htd8), .inl (.inl htt), fun D hD => ?_⟩
  refine lcZ_map (K := K) (k := .T) (k' := .T) (a := td) (b := tt) (xs := (vecs ps).map fun n : Nat => V.int (n : Nat)) (ys := ([2, 1, m, 1] : List Nat).map fun n : Nat => V.int (n : Nat)) vAdd rfl (by show 4 < sizeLine; exact small5 (by decide)) (fun H' s => ⟨.inl (.inl (s _ _ htd8)), .inl (.inl (s _ _ htt))⟩) (fun i x y H' R hx hy s q' => ?_) hD fun H9 s9 hD9 => ?_
  · obtain ⟨x', mx, _, rfl⟩ := get_nat hx
    obtain ⟨y', my, _, rfl⟩ := get_nat hy
    exact ⟨rfl, _, rfl, _, rfl, _, _, rfl, rfl, q' _ (Same.refl _)⟩
  rw [zip_addN] at hD9
  refine ⟨D, _, rfl, hD9, fun r3 HA sA hr3 => ?_⟩
  have ev : addF (vecs ps) [2, 1, m, 1] = vecs (ps ++ [newP m]) := by
    rw [vecs_app, newP_vec]
  rw [ev] at hr3
  have s8A := s9.trans sA
  refine ⟨dF (vecs (ps ++ [newP m])), dp_FT ((hr7.same stt).same s8A), dp_FT hr3, shaped_dF _, _, rfl, iteF ?_⟩
  rw [tnext_eq]
  have s0A := s06.trans (s7.trans (stt.trans s8A))
  have plA := pl.same s0A
  refine ⟨_, rfl, _, rfl, m, l1, ps, rfl, m3, dr.gl plA hB (by omega), by omega, fun r4 HB sB hr4 => ?_⟩
  have s0B := s0A.trans sB
  refine ⟨_, rfl, dF (vecs ps), dp_FT hr4, dp_FT (htd.same s0B), shaped_dF _, _, rfl, iteF ?_⟩
  obtain ⟨b0, b1, b2, b3⟩ := vecs_lt (m := m) (ps := ps) (fun x hx => (dr x hx).len) m3 (fun x hx => Nat.le_trans (dr x hx).few (by decide)) (by omega)
  refine ⟨_, rfl, _, rfl, _, rfl, m, l1, ps, _, a, b, c, d, rfl, m3, dr.gl (pl.same s0B) hB (by omega), by omega, .inr ⟨p, rfl, hp.same s0B⟩, by omega, by omega, by omega, by omega, fun HC sC => ?_⟩
  have s0C := s0B.trans sC
  refine ⟨_, rfl, _, rfl, L, td, a, b, c, d, _, _, _, _, rfl, s0C _ _ hL, htd.same s0C, by omega, by omega, by omega, by omega, by omega, by omega, by omega, by omega, fun HD sD => ⟨rfl, false, congrArg V.bl (ne_no _), iteF ?_⟩⟩
  rw [tnext_eq]
  exact tail Dn HD _ _ _ _ _ _ _ _ _ _ _ _ _ _ _ _ _ q
end
end K60

set_option Elab.async false
set_option linter.all false
set_option maxRecDepth 100000
set_option maxHeartbeats 8000000
set_option exponentiation.threshold 3000
namespace K60
open PySem PySem.Spec PyProof.Rows L2 CK SX NM
theorem e18 : (10 : Int) ^ Int.toNat 18 = ((10 ^ 18 : Nat) : Int) := by decide +kernel
/-- a list taken k times -/
def repP (k : Nat) (ps : List Pn) : List Pn := (List.replicate k ps).flatten
theorem repP_succ (k : Nat) (ps : List Pn) : repP (k + 1) ps = ps ++ repP k ps := by unfold repP; rw [List.replicate_succ, List.flatten_cons]
theorem rep_len (ps : List Pn) : ∀ k, (repP k ps).length = k * ps.length
  | 0 => by rw [Nat.zero_mul]; rfl
  | k + 1 => by rw [repP_succ, List.length_append, rep_len ps k, Nat.add_mul]; omega
theorem Pcs.rep {H : Hp} {us : List V} {ps : List Pn} (h : Pcs H us ps) : ∀ k, Pcs H (List.replicate k us).flatten (repP k ps)
  | 0 => .nil
  | k + 1 => by
    rw [repP_succ, List.replicate_succ, List.flatten_cons]
    exact h.app (Pcs.rep h k)
theorem Dr.rep {m B : Nat} {ps : List Pn} (h : Dr m B ps) : ∀ k, Dr m B (repP k ps)
  | 0 => fun p hp => absurd hp List.not_mem_nil
  | k + 1 => fun p hp => by
    rw [repP_succ] at hp
    exact (List.mem_append.mp hp).elim (h p) (Dr.rep h k p)
theorem sm_rep (e : Pn → Nat) (ps : List Pn) : ∀ k, sm e (repP k ps) = sm e ps * k
  | 0 => rfl
  | k + 1 => by rw [repP_succ, sm_app, sm_rep e ps k, Nat.mul_succ, Nat.add_comm]
theorem dotP_rep (a b c d k : Nat) (ps : List Pn) : ((dotP a b c d (vecs (repP k ps)) : Nat) : Int) = ((dotP a b c d (vecs ps) : Nat) : Int) * (k : Int) := by
  rw [← Int.natCast_mul]
  congr 1
  show sm e0 (repP k ps) * a + sm e1 (repP k ps) * b + sm e2 (repP k ps) * c + sm e3 (repP k ps) * d = (sm e0 ps * a + sm e1 ps * b + sm e2 ps * c + sm e3 ps * d) * k
  rw [sm_rep, sm_rep, sm_rep, sm_rep, Nat.add_mul, Nat.add_mul, Nat.add_mul, Nat.mul_right_comm _ k a, Nat.mul_right_comm _ k b, Nat.mul_right_comm _ k c, Nat.mul_right_comm _ k d]
theorem dotP_lt {a b c d x y z u : Nat} (ha : a < 2 ^ 100) (hb : b < 2 ^ 100) (hc : c < 2 ^ 100) (hd : d < 2 ^ 100) (hx : x < 2 ^ 30) (hy : y < 2 ^ 30) (hz : z < 2 ^ 30) (hu : u < 2 ^ 30) : dotP a b c d [x, y, z, u] < 2 ^ 200 := by
  have m1 : x * a ≤ 2 ^ 30 * 2 ^ 100 := Nat.mul_le_mul (Nat.le_of_lt hx) (Nat.le_of_lt ha)
  have m2 : y * b ≤ 2 ^ 30 * 2 ^ 100 := Nat.mul_le_mul (Nat.le_of_lt hy) (Nat.le_of_lt hb)
  have m3 : z * c ≤ 2 ^ 30 * 2 ^ 100 := Nat.mul_le_mul (Nat.le_of_lt hz) (Nat.le_of_lt hc)
  have m4 : u * d ≤ 2 ^ 30 * 2 ^ 100 := Nat.mul_le_mul (Nat.le_of_lt hu) (Nat.le_of_lt hd)
  show x * a + y * b + z * c + u * d < 2 ^ 200
  omega
def sp_law (K : PySem.W.Frag) : Sp := fun vs H Q _ => ∃ (a : Addr) (ns : List Int), vs = [.ref a] ∧ SqL K H a (ns.map V.int) ∧ ns.length ≤ 63 ∧ ∀ H', Q (.bl true) H'
theorem law_end {l : PySem.W.OpenLaw} {w : World} {K : PySem.W.Frag} {mg : Str → Option Value} {fa C : Addr} (T : Txt K mg C) (hfa : mg "law" = some (.ref fa)) :
    ∃ fd : FuncData, (∀ (s : Shared) (v : Value), BindsTo s fd ⟨[v], []⟩ [("_law_script", v)]) ∧ ∀ base : Heap, K.In base → base.Ns mainGlobals mg → FnG l.prog w K mg base 9 fa fd ["_law_script"] (sp_law K) := by
  obtain ⟨f, fd, hm, hb, hF⟩ := T.d_law.oneG
  have e := hfa.symm.trans hm
  cases e
  refine ⟨fd, hb, fun base _ _ => hF sc_law (fun vs H Q E h => ?_) (fun cdv A outer s H vs Q E hr gd0 h => ?_)⟩
  · obtain ⟨_, _, rfl, _⟩ := h; rfl
  · obtain ⟨sa, ns, rfl, hS, hl, q⟩ := h
    have gd : (A.deeper (envOfC "law" (C8.fnScope (topS 57)) s.heap.objs.size fa cdv)).guards = some [] := gd0
    obtain ⟨u, hu, tail⟩ := law_grown T fa cdv A outer s H E hr
    refine ⟨_, (pss_cons (ps_set (i := 1) sc_law.nd rfl (Or.inr rfl) (C8.pe_c (c_law_generator T) hr (by decide) (by rfl) (pa_cons (pv 0) (pa_cons pe_int pa_nil))))
    (pss_cons (ps_par (i := 2) (j := 3) (by rfl) sc_law.nd rfl rfl (by decide) rfl rfl (pa_cons (C8.pe_c (c_law_random T) hr (by decide) (by rfl) (pa_cons (pv 1) (pa_cons pe_int pa_nil))) (pa_cons (C8.pe_c (c_law_letters T) hr (by decide) (by rfl) (pa_cons (pv 1) pa_nil)) pa_nil)) (by rfl))
    (pss_cons (ps_par (i := 4) (j := 5) (by rfl) sc_law.nd rfl rfl (by decide) rfl rfl (pa_cons (C8.pe_c (c_law_raw T) hr (by decide) (by rfl) (pa_cons (pv 1) (pa_cons (pv 2) (pa_cons (pv 3) (pa_cons pe_int (pa_cons (pe_op op_powB pe_int pe_int) pa_nil)))))) (pa_cons (C8.pe_c (c_law_raw T) hr (by decide) (by rfl) (pa_cons (pv 1) (pa_cons (pv 2) (pa_cons (pv 3) (pa_cons pe_int (pa_cons (pe_op op_powB pe_int pe_int) pa_nil)))))) pa_nil)) (by rfl))
    (pss_cons (ps_par (i := 6) (j := 7) (by rfl) sc_law.nd rfl rfl (by decide) rfl rfl (pa_cons (pe_op op_add pe_int (C8.pe_c (c_law_random T) hr (by decide) (by rfl) (pa_cons (pv 1) (pa_cons pe_int pa_nil)))) (pa_cons (C8.pe_c (c_law_four T) hr (by decide) (by rfl) (pa_cons (pv 1) pa_nil)) pa_nil)) (by rfl))
    (pss_cons (ps_set (i := 8) sc_law.nd rfl (Or.inl rfl) (pe_callTy call_tupL (by rfl) T.m_tuple (by decide +kernel) (pa_cons (pe_lc (own := [("_law_turn", 9)]) (by rfl) sc_law.nd (pi_range1 (by rfl) T.m_range (pa_cons pe_int pa_nil)) (blkOk_by (N := ["_law_script", "_law_generator_here", "_law_many", "_law_signs", "_law_one", "_law_other", "_law_times", "_law_four_here", "_law_drawn", "_law_turn", "_law_second", "_law_due", "_law_prices_here", "_law_grown", "_law_low", "_law_high", "_law_known"]) (sc := C8.fnScope (topS 57)) (own := [("_law_turn", 9)]) (by decide +kernel)) (fun _ _ _ _ _ => (pg_name (i := 9) sc_law.nd rfl (Or.inl rfl))) (fun _ _ _ _ _ => pts_nil) (fun _ _ _ _ _ => (C8.pe_c (c_law_random T) hr (by decide) (by rfl) (pa_cons (pv 1) (pa_cons (pe_ix ix_listH (pe_lst (pa_cons pe_int (pa_cons pe_int (pa_cons (pe_op op_powB pe_int pe_int) pa_nil)))) (C8.pe_c (c_law_random T) hr (by decide) (by rfl) (pa_cons (pv 1) (pa_cons pe_int pa_nil))) (fun _ _ => rfl)) pa_nil))))) pa_nil)))
    (pss_cons (ps_set (i := 10) sc_law.nd rfl (Or.inl rfl) (pe_callTy call_tupL (by rfl) T.m_tuple (by decide +kernel) (pa_cons (pe_lc (own := [("_law_turn", 9)]) (by rfl) sc_law.nd (pi_range1 (by rfl) T.m_range (pa_cons pe_int pa_nil)) (blkOk_by (N := ["_law_script", "_law_generator_here", "_law_many", "_law_signs", "_law_one", "_law_other", "_law_times", "_law_four_here", "_law_drawn", "_law_turn", "_law_second", "_law_due", "_law_prices_here", "_law_grown", "_law_low", "_law_high", "_law_known"]) (sc := C8.fnScope (topS 57)) (own := [("_law_turn", 9)]) (by decide +kernel)) (fun _ _ _ _ _ => (pg_name (i := 9) sc_law.nd rfl (Or.inl rfl))) (fun _ _ _ _ _ => pts_nil) (fun _ _ _ _ _ => (C8.pe_c (c_law_random T) hr (by decide) (by rfl) (pa_cons (pv 1) (pa_cons pe_int pa_nil))))) pa_nil)))
    (pss_cons (ps_if (pt_not (pt_val (pe_cG (c_law_one_object_right T) hr gd (by decide) (by rfl) (pa_cons (pv 2) (pa_cons (pv 4) (pa_cons (pv 5) (pa_cons (pv 7) (pa_cons (pv 8) (pa_cons (pv 10) pa_nil)))))))))
    (pss_one (ps_ret pe_bl))
    pss_nil)
    (pss_cons (ps_if (PW.pt (pw_or (pt_not (pt_val (pe_cG (c_law_vector_right T) hr gd (by decide) (by rfl) (pa_cons (pv 2) (pa_cons (pv 4) pa_nil))))) (pw_or1 (pt_not (pt_val (pe_cG (c_law_vector_right T) hr gd (by decide) (by rfl) (pa_cons (pv 2) (pa_cons (pe_op op_cat (pv 4) (pv 5)) pa_nil))))))))
    (pss_one (ps_ret pe_bl))
    pss_nil)
    (pss_cons (ps_if (PW.pt (pw_or (pt_not (pt_val (pe_cG (c_law_vector_right T) hr gd (by decide) (by rfl) (pa_cons (pv 2) (pa_cons (pe_op op_rep (pv 4) (pv 6)) pa_nil))))) (pw_or1 (pt_not (pt_val (C8.pe_c (c_law_named_right T) hr (by decide) (by rfl) (pa_cons (pv 7) (pa_cons (pv 8) pa_nil))))))))
    (pss_one (ps_ret pe_bl))
    pss_nil)
    (pss_cons (ps_par (i := 11) (j := 12) (by rfl) sc_law.nd rfl rfl (by decide) rfl rfl (pa_cons (C8.pe_c (c_law_vector T) hr (by decide) (by rfl) (pa_cons (pv 4) pa_nil)) (pa_cons (C8.pe_c (c_law_prices T) hr (by decide) (by rfl) (pa_cons (pv 7) pa_nil)) pa_nil)) (by rfl))
    (pss_cons (ps_if (PW.pt (pw_or (pt_cmpR op_ne (C8.pe_c (c_cost T) hr (by decide) (by rfl) (pa_cons (pv 2) (pa_cons (pv 4) (pa_cons (pv 12) pa_nil)))) (C8.pe_c (c_law_cost T) hr (by decide) (by rfl) (pa_cons (pv 7) (pa_cons (pv 11) pa_nil))) (nomark _)) (pw_or (pt_cmpR op_ne (C8.pe_c (c_cost_D2 T) hr (by decide) (by rfl) (pa_cons (pv 2) (pa_cons (pv 4) pa_nil))) (pe_callB (cr_sumT rfl) (by rfl) T.m_sum (by decide +kernel) (pa_cons (pv 11) pa_nil)) (nomark _)) (pw_or1 (pt_cmpR op_ne (C8.pe_c (c_cost T) hr (by decide) (by rfl) (pa_cons (pv 2) (pa_cons (pv 4) (pa_cons pe_non pa_nil)))) (pe_callB (cr_sumT rfl) (by rfl) T.m_sum (by decide +kernel) (pa_cons (pv 11) pa_nil)) (nomark _))))))
    (pss_one (ps_ret pe_bl))
    pss_nil)
    (pss_cons (ps_if (pt_cmpR op_ne (C8.pe_c (c_cost T) hr (by decide) (by rfl) (pa_cons (pv 2) (pa_cons (pv 5) (pa_cons (pv 12) pa_nil)))) (C8.pe_c (c_law_cost T) hr (by decide) (by rfl) (pa_cons (pv 7) (pa_cons (C8.pe_c (c_law_vector T) hr (by decide) (by rfl) (pa_cons (pv 5) pa_nil)) pa_nil))) (nomark _))
    (pss_one (ps_ret pe_bl))
    pss_nil)
    (pss_cons (ps_if (pt_cmpR op_ne (pe_cN (c_cost_K_prices_pieces_many T) hr (by decide) (by rfl) (pk_cons (pv 12) (pk_cons (pe_op op_rep (pv 4) (pv 6)) (pk_cons (pv 2) pk_nil)))) (pe_op op_mulW (C8.pe_c (c_law_cost T) hr (by decide) (by rfl) (pa_cons (pv 7) (pa_cons (pv 11) pa_nil))) (pv 6)) (nomark _))
    (pss_one (ps_ret pe_bl))
    pss_nil)
    hu))))))))))))), ?_⟩
    refine ⟨_, rfl, sa, ns, 0, rfl, hS, by decide, fun g H1 H2 s1 n1 s2 G2 => ?_⟩
    refine ⟨_, rfl, g, 4, 90000, rfl, G2.le (by decide), by decide, by decide, fun mz H3 s3 G3 m0 m1 => ?_⟩
    obtain ⟨m, rfl⟩ : ∃ m : Nat, mz = m := ⟨mz.toNat, by omega⟩
    have m3 : m ≤ 3 := by omega
    refine ⟨_, rfl, g, 80000, rfl, G3.le (by decide), fun cs H4 s4 G4 lcs lowc _ => ⟨_, _, rfl, ?_⟩⟩
    refine ⟨_, rfl, _, rfl, _, rfl, _, _, rfl, rfl, ⟨by decide, by decide⟩, g, cs, m, 4, 10 ^ 18, 70000, congrArg (fun z => [V.ref g, .int (m : Nat), .str (S cs), .int 4, .int z]) e18, lcs, lowc, m3, by decide, by decide, by decide, G4.le (by decide), fun l1 ps H5 gr5 G5 n5 d5 => ?_⟩
    refine ⟨_, rfl, _, rfl, _, rfl, _, _, rfl, rfl, ⟨by decide, by decide⟩, g, cs, m, 4, 10 ^ 18, 60000, congrArg (fun z => [V.ref g, .int (m : Nat), .str (S cs), .int 4, .int z]) e18, lcs, lowc, m3, by decide, by decide, by decide, G5.le (by decide), fun l2 qs H6 gr6 G6 n6 d6 => ⟨_, _, rfl, ?_⟩⟩
    have gr5 := gr5.go G5 gr6.sx
    refine ⟨_, rfl, g, 40, 50000, rfl, G6.le (by decide), by decide, by decide, fun kz H7 s7 G7 k0 k1 => ⟨_, _, rfl, rfl, ?_⟩⟩
    obtain ⟨k, ek⟩ : ∃ k : Nat, 1 + kz = k := ⟨(1 + kz).toNat, by omega⟩
    dsimp only
    rw [ek]
    have k40 : k ≤ 40 := by omega
    refine ⟨_, rfl, g, 40000, rfl, G7.le (by decide), fun L a b c d H8 s8 G8 nL hL h1 ha hb' hc hd => ⟨_, _, rfl, ?_⟩⟩
    have Lg : L ≠ g := G7.ne nL
    have gr5 := (gr5.go G6 s7).go G7 s8
    have gr6 := (gr6.go G6 s7).go G7 s8
    -- the vectors
    refine ⟨4, rfl, by decide, by decide, fun D hD => ?_⟩
    refine lcC_draw 2 (lo := 0) (g := g) (n := 30000) (cnt := 4) (fun v => ∃ c : Nat, v = V.int (c : Nat) ∧ c < 2 ^ 99) (small5 (by decide)) hD (G8.le (by decide)) (fun i H9 R hi s9 G9 q' => ?_) fun H9 vs9 s9 G9 hL9 hl9 hP9 => ?_
    · refine ⟨rfl, _, rfl, _, _, rfl, rfl, ⟨by decide, by decide⟩, by show 3 ≤ sizeLine; decide, fun M nM => ?_⟩
      dsimp only at nM ⊢
      rw [e29]
      have sM := sameNew (o := .lst [.int 2, .int 9, .int ((10 ^ 29 : Nat) : Int)]) nM
      have hM : upd H9 M (.lst [.int 2, .int 9, .int ((10 ^ 29 : Nat) : Int)]) M = some (.lst (([2, 9, 10 ^ 29] : List Nat).map fun n : Nat => V.int (n : Nat))) := upd_same
      have GM := G9.same sM
      have Mg := G9.ne nM
      generalize upd H9 M (.lst [.int 2, .int 9, .int ((10 ^ 29 : Nat) : Int)]) = H10 at sM hM GM
      refine ⟨_, rfl, g, 3, 30000 + 2 * (4 - (i + 1)) + 1, rfl, GM, by decide, by decide, fun r H11 s11 G11 r0 r1 => ?_⟩
      obtain ⟨j, rfl⟩ : ∃ j : Nat, r = j := ⟨r.toNat, by omega⟩
      have hj : j < ([2, 9, 10 ^ 29] : List Nat).length := by show j < 3; omega
      have hz := List.getElem?_eq_getElem hj
      have hv : ∀ x ∈ ([2, 9, 10 ^ 29] : List Nat), 2 ≤ x ∧ x < 2 ^ 98 := by decide
      have hx := hv _ (List.getElem_mem hj)
      generalize ([2, 9, 10 ^ 29] : List Nat)[j] = x at hz hx
      have at1 : (([2, 9, 10 ^ 29] : List Nat).map fun n : Nat => V.int (n : Nat))[j]? = some (.int (x : Nat)) := by rw [List.getElem?_map, hz]; rfl
      refine ⟨M, _, (j : Int), .int (x : Nat), rfl, rfl, s11 _ _ Mg hM, atI_nat at1, g, x, _, rfl, G11, by omega, by omega, fun r' H12 s12 G12 r0' r1' => q' _ H12 ((SameX.of sM).trans (s11.trans s12)) G12 ⟨r'.toNat, congrArg V.int (by omega), by omega⟩⟩
    obtain ⟨ds, rfl, hds, lds⟩ := Nn_of hP9
    refine ⟨D, _, rfl, hL9, fun t1 H10 s10 ht1 => ?_⟩
    have G10 := G9.same s10
    have s810 := s9.trans (.of s10)
    have gr5 := gr5.go G8 s810
    have gr6 := gr6.go G8 s810
    have hL := s810 _ _ Lg hL
    have l4 : ds.length = 4 := lds.trans hl9
    obtain ⟨x, y, z, v, rfl⟩ : ∃ x y z v, ds = [x, y, z, v] := by
      match ds, l4 with
      | [x, y, z, v], _ => exact ⟨x, y, z, v, rfl⟩
    have hx := hds x (by simp)
    have hy := hds y (by simp)
    have hz := hds z (by simp)
    have hv := hds v (by simp)
    have t1g : t1 ≠ g := fun e => by
      obtain ⟨xs, hx⟩ := G10.at
      rw [← e, ht1] at hx
      cases hx
    clear hds hP9 lds hl9
    refine ⟨4, rfl, by decide, by decide, fun D2 hD2 => ?_⟩
    refine lcP_draw (lo := 0) (g := g) (n := 20000) (cnt := 4) (fun v => ∃ c : Nat, v = V.int (c : Nat) ∧ c < 2 ^ 99) (small5 (by decide)) hD2 (G10.le (by decide)) (fun i H11 R hi s11 G11 q' => ?_) fun H11 vs11 s11 G11 hL11 hl11 hP11 => ?_
    · exact ⟨rfl, _, rfl, g, 9, _, rfl, G11, by decide, by decide, fun r' H12 s12 G12 r0' r1' => q' _ H12 s12 G12 ⟨r'.toNat, congrArg V.int (by omega), by omega⟩⟩
    obtain ⟨ds, rfl, hds, lds⟩ := Nn_of hP11
    refine ⟨D2, _, rfl, hL11, fun t2 H12 s12 ht2 => ?_⟩
    have s1012 := s11.trans (.of s12)
    have G12 := G11.same s12
    have gr5 := gr5.go G10 s1012
    have gr6 := gr6.go G10 s1012
    have hL := s1012 _ _ Lg hL
    have ht1 : FT H12 t1 [x, y, z, v] := s1012 _ _ t1g ht1
    have l4 : ds.length = 4 := lds.trans hl11
    obtain ⟨x', y', z', v', rfl⟩ : ∃ x y z v, ds = [x, y, z, v] := by
      match ds, l4 with
      | [x, y, z, v], _ => exact ⟨x, y, z, v, rfl⟩
    have hx' := hds x' (by simp)
    have hy' := hds y' (by simp)
    have hz' := hds z' (by simp)
    have hv' := hds v' (by simp)
    have ht2 : FT H12 t2 [x', y', z', v'] := ht2
    clear hds hP11 lds hl11
    have P1 := gr5.pl
    have P2 := gr6.pl
    clear gr5 gr6
    have B18 : (10 ^ 18 : Nat) ≤ 2 ^ 200 := by decide
    -- one object
    refine ⟨_, rfl, _, rfl, _, rfl, _, rfl, _, rfl, _, rfl, m, 10 ^ 18, l1, l2, L, t1, t2, ps, qs, a, b, c, d, x, y, z, v, x', y', z', v', rfl, m3, B18, P1, P2, d5, d6, by omega, by omega, hL, ht1, ht2, h1, by omega, by omega, by omega, by omega, by omega, by omega, by omega, by omega, by omega, by omega, by omega, by omega, fun H13 s13 => ⟨_, rfl, iteF ?_⟩⟩
    rw [tnext_eq]
    refine ⟨_, rfl, _, rfl, m, 10 ^ 18, l1, ps, rfl, m3, B18, P1.same s13, d5, by omega, fun H14 s14 => ⟨_, rfl, iteF ?_⟩⟩
    have sA := s13.trans s14
    obtain ⟨us, hus, pus⟩ := P1.same sA
    obtain ⟨ws, hws, pws⟩ := P2.same sA
    have lus := pus.len
    have lws := pws.len
    refine ⟨_, rfl, _, rfl, _, rfl, l1, l2, _, _, rfl, rfl, hus, hws, by rw [sizeLine_eq]; omega, fun N nN => ?_⟩
    have sN := sameNew (o := .lst (us ++ ws)) nN
    have PN : PL (upd H14 N (.lst (us ++ ws))) N (ps ++ qs) := ⟨_, upd_same, (pus.same sN).app (pws.same sN)⟩
    have dN : Dr m (10 ^ 18) (ps ++ qs) := fun p hp => (List.mem_append.mp hp).elim (d5 p) (d6 p)
    refine ⟨m, 10 ^ 18, N, ps ++ qs, rfl, m3, B18, PN, dN, by rw [List.length_append]; omega, fun H15 s15 => ⟨_, rfl, iteF ?_⟩⟩
    rw [tnext_eq]
    have sB := sA.trans (sN.trans s15)
    obtain ⟨us2, hus2, pus2⟩ := P1.same sB
    have lus2 := pus2.len
    have lR : us2.length * k ≤ 4 * 40 := Nat.mul_le_mul (by omega) k40
    refine ⟨_, rfl, _, rfl, _, rfl, l1, (k : Int), us2, rfl, rfl, hus2, by omega, by omega, by rw [Int.toNat_natCast, sizeLine_eq]; omega, fun R nR => ?_⟩
    rw [Int.toNat_natCast] at *
    have sR := sameNew (o := .lst (List.replicate k us2).flatten) nR
    have PR : PL (upd H15 R (.lst (List.replicate k us2).flatten)) R (repP k ps) := ⟨_, upd_same, (pus2.rep k).same sR⟩
    have dR : Dr m (10 ^ 18) (repP k ps) := d5.rep k
    have lR2 : (repP k ps).length ≤ 160 := by rw [rep_len]; have := Nat.mul_le_mul n5 k40; rw [Nat.mul_comm k]; omega
    have hmR := dR.mea
    refine ⟨m, 10 ^ 18, R, repP k ps, rfl, m3, B18, PR, dR, lR2, fun H16 s16 => ⟨_, rfl, iteF ?_⟩⟩
    have sC := sB.trans (sR.trans s16)
    refine ⟨_, rfl, _, rfl, L, t1, a, b, c, d, x, y, z, v, rfl, sC _ _ hL, ht1.same sC, h1, by omega, by omega, by omega, by omega, by omega, by omega, by omega, by omega, fun H17 s17 => ⟨_, rfl, iteF ?_⟩⟩
    rw [tnext_eq]
    have sD := sC.trans s17
    -- due, prices
    have gl1 : ∀ {H' : Hp}, Same H12 H' → GL H' m l1 ps := fun h => d5.gl (P1.same h) B18 (by omega)
    have gl2 : ∀ {H' : Hp}, Same H12 H' → GL H' m l2 qs := fun h => d6.gl (P2.same h) B18 (by omega)
    have me1 := d5.mea
    have me2 := d6.mea
    have g1 := gl1 (Same.refl _)
    have g2 := gl2 (Same.refl _)
    obtain ⟨b0, b1, b2, b3⟩ := vecs_lt g1.len m3 g1.ws g1.few
    obtain ⟨c0, c1, c2, c3⟩ := vecs_lt g2.len m3 g2.ws g2.few
    refine ⟨_, rfl, l1, ps, m, rfl, P1.same sD, g1.len, m3, g1.low, g1.ws, g1.few, fun td H18 s18 htd => ?_⟩
    have sE := sD.trans s18
    refine ⟨_, rfl, L, a, b, c, d, rfl, sE _ _ hL, h1, fun p H19 s19 hp => ⟨_, _, rfl, ?_⟩⟩
    have sF := sE.trans s19
    have htd := htd.same s19
    -- the costs
    refine ⟨_, rfl, _, rfl, _, rfl, m, l1, ps, _, a, b, c, d, rfl, m3, gl1 sF, by omega, .inr ⟨p, rfl, hp⟩, by omega, by omega, by omega, by omega, fun H20 s20 => ?_⟩
    have sG := sF.trans s20
    refine ⟨_, rfl, _, rfl, L, td, a, b, c, d, _, _, _, _, rfl, sG _ _ hL, htd.same s20, by omega, by omega, by omega, by omega, by omega, by omega, by omega, by omega, fun H21 s21 => ⟨rfl, false, congrArg V.bl (ne_no _), iteF ?_⟩⟩
    have sH := sG.trans s21
    have htd := (htd.same s20).same s21
    have hp := (hp.same s20).same s21
    refine ⟨_, rfl, _, rfl, m, l1, ps, .non, 1, 1, 1, 1, rfl, m3, gl1 sH, by omega, .inl ⟨rfl, rfl, rfl, rfl, rfl⟩, by decide, by decide, by decide, by decide, fun H22 s22 => ?_⟩
    have sI := sH.trans s22
    refine ⟨_, rfl, td, [(sm e0 ps : Int), sm e1 ps, sm e2 ps, sm e3 ps], rfl, htd.same s22, rfl, false, ?_, iteF ?_⟩
    · rw [sum4]
      exact congrArg V.bl (ne_no _)
    refine ⟨_, rfl, _, rfl, m, l1, ps, .non, 1, 1, 1, 1, rfl, m3, gl1 sI, by omega, .inl ⟨rfl, rfl, rfl, rfl, rfl⟩, by decide, by decide, by decide, by decide, fun H23 s23 => ?_⟩
    have sJ := sI.trans s23
    have htd := (htd.same s22).same s23
    have hp := (hp.same s22).same s23
    refine ⟨_, rfl, td, [(sm e0 ps : Int), sm e1 ps, sm e2 ps, sm e3 ps], rfl, htd, rfl, false, ?_, iteF ?_⟩
    · rw [sum4]
      exact congrArg V.bl (ne_no _)
    rw [tnext_eq]
    refine ⟨_, rfl, _, rfl, _, rfl, m, l2, qs, _, a, b, c, d, rfl, m3, gl2 sJ, by omega, .inr ⟨p, rfl, hp⟩, by omega, by omega, by omega, by omega, fun H24 s24 => ?_⟩
    have sK := sJ.trans s24
    refine ⟨_, rfl, _, rfl, l2, qs, m, rfl, P2.same sK, g2.len, m3, g2.low, g2.ws, g2.few, fun r H25 s25 hr25 => ?_⟩
    have sL := sK.trans s25
    refine ⟨L, r, a, b, c, d, _, _, _, _, rfl, sL _ _ hL, hr25, by omega, by omega, by omega, by omega, by omega, by omega, by omega, by omega, fun H26 s26 => ⟨rfl, false, congrArg V.bl (ne_no _), iteF ?_⟩⟩
    rw [tnext_eq]
    have sM := sL.trans s26
    have s2326 := s24.trans (s25.trans s26)
    have htd := htd.same s2326
    have hp := hp.same s2326
    obtain ⟨us3, hus3, pus3⟩ := P1.same sM
    have lus3 := pus3.len
    have lR3 : us3.length * k ≤ 4 * 40 := Nat.mul_le_mul (by omega) k40
    refine ⟨_, rfl, _, rfl, _, rfl, l1, (k : Int), us3, rfl, rfl, hus3, by omega, by omega, by rw [Int.toNat_natCast, sizeLine_eq]; omega, fun R2 nR2 => ?_⟩
    rw [Int.toNat_natCast] at *
    have sR2 := sameNew (o := .lst (List.replicate k us3).flatten) nR2
    have PR2 : PL (upd H26 R2 (.lst (List.replicate k us3).flatten)) R2 (repP k ps) := ⟨_, upd_same, (pus3.rep k).same sR2⟩
    refine ⟨_, rfl, rfl, rfl, m, R2, repP k ps, _, a, b, c, d, rfl, m3, dR.gl PR2 B18 (by omega), by omega, .inr ⟨p, rfl, hp.same sR2⟩, by omega, by omega, by omega, by omega, fun H27 s27 => ?_⟩
    have sN := sM.trans (sR2.trans s27)
    have htd := (htd.same sR2).same s27
    have hp := (hp.same sR2).same s27
    refine ⟨_, rfl, _, rfl, L, td, a, b, c, d, _, _, _, _, rfl, sN _ _ hL, htd, by omega, by omega, by omega, by omega, by omega, by omega, by omega, by omega, fun H28 s28 => ?_⟩
    have dl := dotP_lt ha hb' hc hd b0 b1 b2 b3
    refine ⟨_, rfl, _, _, rfl, rfl, wide_mul (a := 200) (b := 200) (by rw [Int.natAbs_natCast]; exact dl) (by rw [Int.natAbs_natCast]; omega) (by decide) (by decide) (by decide), rfl, false, ?_, iteF ?_⟩
    · rw [dotP_rep]
      exact congrArg V.bl (ne_no _)
    rw [tnext_eq]
    have sO := sN.trans s28
    exact tail _ H28 m (10 ^ 18) l1 L td p ps a b c d _ _ _ _ _ _ _ m3 (by decide) B18 (P1.same sO) d5 (by omega) (sO _ _ hL) (htd.same s28) (hp.same s28) (by omega) (by omega) (by omega) (by omega) fun H' => q H'
end K60

open PySem PySem.W PyProof.Rows
set_option maxHeartbeats 0 in
theorem PySem.Challenge.cw_countscribe_k60_vectors_and_costs_holds : PySem.Challenge.rw_countscribe_k60_vectors_and_costs.Holds := by
  w_on; o_law; k_head; (case hw => w_witness2)
  k_fill
  refine CK.walkG (l := PySem.Challenge.rw_countscribe_k60_vectors_and_costs) (n := 63) (k := 9) (x := "_law_script") (sp := fun w => K60.sp_law _) rfl (by decide) rfl ⟨rfl, by decide, by decide⟩ (fun w h Y => PySem.W.kIn_of Y) ?F (fun _ _ a ns hl _ hS => ⟨a, ns, rfl, hS, hl, fun _ => rfl⟩)
  case F =>
    intro w mg fa h KX G hmg
    refine' CK.with_cls KX "Prices" (CK.clF_mk KX G ?a ?pg ?hd ?po ?sa ?mk ?kp ?ha ?hn ?htk ?hm) fun k_Prices => ?_
    (case a => k_is); (case pg => k_is); (case hd => k_is); (case po => k_is); (case sa => k_is); (case mk => k_is); (case kp => k_is); (case ha => k_is); (case hn => k_is); (case htk => k_is); (case hm => k_is)
    have f_letter : L2.NoAttr _ _ "letter" := CK.noA k_Prices "letter" (by k_is)
    have f_number : L2.NoAttr _ _ "number" := CK.noA k_Prices "number" (by k_is)
    have f_sign : L2.NoAttr _ _ "sign" := CK.noA k_Prices "sign" (by k_is)
    have f_unknown : L2.NoAttr _ _ "unknown" := CK.noA k_Prices "unknown" (by k_is)
    refine' CK.with_def KX "is_whole" (K60.topS 10) ["value"] (CK.defF_mk KX G ?a ?l ?c ?k fun _ _ _ _ _ _ us hl => match us, hl with | [_], _ => rfl) fun d_is_whole => ?_
    (case a => k_is); (case l => k_is); (case c => k_is); (case k => k_is)
    refine' CK.with_def KX "is_count" (K60.topS 11) ["value"] (CK.defF_mk KX G ?a ?l ?c ?k fun _ _ _ _ _ _ us hl => match us, hl with | [_], _ => rfl) fun d_is_count => ?_
    (case a => k_is); (case l => k_is); (case c => k_is); (case k => k_is)
    refine' CK.with_def KX "is_within" (K60.topS 12) ["value", "low", "high"] (CK.defF_mk KX G ?a ?l ?c ?k fun _ _ _ _ _ _ us hl => match us, hl with | [_, _, _], _ => rfl) fun d_is_within => ?_
    (case a => k_is); (case l => k_is); (case c => k_is); (case k => k_is)
    refine' CK.with_def KX "is_lettered" (K60.topS 13) ["value", "most"] (CK.defF_mk KX G ?a ?l ?c ?k fun _ _ _ _ _ _ us hl => match us, hl with | [_, _], _ => rfl) fun d_is_lettered => ?_
    (case a => k_is); (case l => k_is); (case c => k_is); (case k => k_is)
    refine' CK.with_def KX "need_within" (K60.topS 14) ["value", "low", "high"] (CK.defF_mk KX G ?a ?l ?c ?k fun _ _ _ _ _ _ us hl => match us, hl with | [_, _, _], _ => rfl) fun d_need_within => ?_
    (case a => k_is); (case l => k_is); (case c => k_is); (case k => k_is)
    refine' CK.with_def KX "need_many" (K60.topS 15) ["value"] (CK.defF_mk KX G ?a ?l ?c ?k fun _ _ _ _ _ _ us hl => match us, hl with | [_], _ => rfl) fun d_need_many => ?_
    (case a => k_is); (case l => k_is); (case c => k_is); (case k => k_is)
    refine' CK.with_def KX "is_form_for" (K60.topS 17) ["many", "value"] (CK.defF_mk KX G ?a ?l ?c ?k fun _ _ _ _ _ _ us hl => match us, hl with | [_, _], _ => rfl) fun d_is_form_for => ?_
    (case a => k_is); (case l => k_is); (case c => k_is); (case k => k_is)
    refine' CK.with_def KX "is_piece" (K60.topS 22) ["many", "value"] (CK.defF_mk KX G ?a ?l ?c ?k fun _ _ _ _ _ _ us hl => match us, hl with | [_, _], _ => rfl) fun d_is_piece => ?_
    (case a => k_is); (case l => k_is); (case c => k_is); (case k => k_is)
    refine' CK.with_def KX "is_open_form" (K60.topS 23) ["form"] (CK.defF_mk KX G ?a ?l ?c ?k fun _ _ _ _ _ _ us hl => match us, hl with | [_], _ => rfl) fun d_is_open_form => ?_
    (case a => k_is); (case l => k_is); (case c => k_is); (case k => k_is)
    refine' CK.with_def KX "fixed_piece" (K60.topS 24) ["word", "many"] (CK.defF_mk KX G ?a ?l ?c ?k fun _ _ _ _ _ _ us hl => match us, hl with | [_, _], _ => rfl) fun d_fixed_piece => ?_
    (case a => k_is); (case l => k_is); (case c => k_is); (case k => k_is)
    refine' CK.with_def KX "measure" (K60.topS 25) ["pieces"] (CK.defF_mk KX G ?a ?l ?c ?k fun _ _ _ _ _ _ us hl => match us, hl with | [_], _ => rfl) fun d_measure => ?_
    (case a => k_is); (case l => k_is); (case c => k_is); (case k => k_is)
    refine' CK.with_def KX "need_pieces" (K60.topS 27) ["many", "pieces"] (CK.defF_mk KX G ?a ?l ?c ?k fun _ _ _ _ _ _ us hl => match us, hl with | [_, _], _ => rfl) fun d_need_pieces => ?_
    (case a => k_is); (case l => k_is); (case c => k_is); (case k => k_is)
    refine' CK.with_def KX "need_measure" (K60.topS 28) ["total"] (CK.defF_mk KX G ?a ?l ?c ?k fun _ _ _ _ _ _ us hl => match us, hl with | [_], _ => rfl) fun d_need_measure => ?_
    (case a => k_is); (case l => k_is); (case c => k_is); (case k => k_is)
    refine' CK.with_metD k_Prices "__init__" "Prices.__init__" (L2.inClass (K60.topS 31) 0) [] [("letter", .int 1), ("sign", .int 1), ("unknown", .int 1), ("number", .int 1)] (CK.metD_mk k_Prices _ _ _ _ _ ?a ?i ?l ?c ?k ?dd ?kk) fun d_Prices___init__ => ?_
    (case a => k_is); (case i => k_is); (case l => k_is); (case c => k_is); (case k => k_is); (case dd => exact CK.dfl_nil); (case kk => (refine' CK.kwd_cons ?q0 ?r0 (CK.kwd_cons ?q1 ?r1 (CK.kwd_cons ?q2 ?r2 (CK.kwd_cons ?q3 ?r3 CK.kwd_nil))); (case q0 => k_is); (case q1 => k_is); (case q2 => k_is); (case q3 => k_is); (case r0 => first | rfl | exact ⟨_, rfl⟩); (case r1 => first | rfl | exact ⟨_, rfl⟩); (case r2 => first | rfl | exact ⟨_, rfl⟩); (case r3 => first | rfl | exact ⟨_, rfl⟩)))
    refine' CK.with_metD k_Prices "of" "Prices.of" (L2.inClass (K60.topS 31) 1) [] [] (CK.metD_mk k_Prices _ _ _ _ _ ?a ?i ?l ?c ?k ?dd ?kk) fun d_Prices_of => ?_
    (case a => k_is); (case i => k_is); (case l => k_is); (case c => k_is); (case k => k_is); (case dd => exact CK.dfl_nil); (case kk => exact CK.kwd_nil)
    refine' CK.with_def KX "need_vector" (K60.topS 32) ["value"] (CK.defF_mk KX G ?a ?l ?c ?k fun _ _ _ _ _ _ us hl => match us, hl with | [_], _ => rfl) fun d_need_vector => ?_
    (case a => k_is); (case l => k_is); (case c => k_is); (case k => k_is)
    refine' CK.with_def KX "chosen_prices" (K60.topS 33) ["value"] (CK.defF_mk KX G ?a ?l ?c ?k fun _ _ _ _ _ _ us hl => match us, hl with | [_], _ => rfl) fun d_chosen_prices => ?_
    (case a => k_is); (case l => k_is); (case c => k_is); (case k => k_is)
    refine' CK.with_def KX "piece_vector" (K60.topS 34) ["piece"] (CK.defF_mk KX G ?a ?l ?c ?k fun _ _ _ _ _ _ us hl => match us, hl with | [_], _ => rfl) fun d_piece_vector => ?_
    (case a => k_is); (case l => k_is); (case c => k_is); (case k => k_is)
    refine' CK.with_def KX "vector_sum" (K60.topS 35) ["one", "other"] (CK.defF_mk KX G ?a ?l ?c ?k fun _ _ _ _ _ _ us hl => match us, hl with | [_, _], _ => rfl) fun d_vector_sum => ?_
    (case a => k_is); (case l => k_is); (case c => k_is); (case k => k_is)
    refine' CK.with_defD KX "vector" (K60.topS 36) [] [] (CK.defD_mk _ _ _ _ KX G ?a ?l ?c ?k ?dd ?kk) fun d_vector => ?_
    (case a => k_is); (case l => k_is); (case c => k_is); (case k => k_is); (case dd => exact CK.dfl_nil); (case kk => exact CK.kwd_nil)
    refine' CK.with_def KX "vector_of" (K60.topS 37) ["pieces"] (CK.defF_mk KX G ?a ?l ?c ?k fun _ _ _ _ _ _ us hl => match us, hl with | [_], _ => rfl) fun d_vector_of => ?_
    (case a => k_is); (case l => k_is); (case c => k_is); (case k => k_is)
    refine' CK.with_defD KX "cost" (K60.topS 38) [.non] [] (CK.defD_mk _ _ _ _ KX G ?a ?l ?c ?k ?dd ?kk) fun d_cost => ?_
    (case a => k_is); (case l => k_is); (case c => k_is); (case k => k_is); (case dd => (refine' CK.dfl_one ?dl ?dm ?dr; (case dl => k_is); (case dm => rfl); (case dr => first | rfl | exact ⟨_, rfl⟩))); (case kk => exact CK.kwd_nil)
    refine' CK.with_def KX "_law_hash" (K60.topS 40) ["_law_seed", "_law_index"] (CK.defF_mk KX G ?a ?l ?c ?k fun _ _ _ _ _ _ us hl => match us, hl with | [_, _], _ => rfl) fun d_law_hash => ?_
    (case a => k_is); (case l => k_is); (case c => k_is); (case k => k_is)
    refine' CK.with_def KX "_law_random" (K60.topS 41) ["_law_generator_here", "_law_bound"] (CK.defF_mk KX G ?a ?l ?c ?k fun _ _ _ _ _ _ us hl => match us, hl with | [_, _], _ => rfl) fun d_law_random => ?_
    (case a => k_is); (case l => k_is); (case c => k_is); (case k => k_is)
    refine' CK.with_def KX "_law_cell" (K60.topS 42) ["_law_script", "_law_index"] (CK.defF_mk KX G ?a ?l ?c ?k fun _ _ _ _ _ _ us hl => match us, hl with | [_, _], _ => rfl) fun d_law_cell => ?_
    (case a => k_is); (case l => k_is); (case c => k_is); (case k => k_is)
    refine' CK.with_def KX "_law_generator" (K60.topS 43) ["_law_script", "_law_index"] (CK.defF_mk KX G ?a ?l ?c ?k fun _ _ _ _ _ _ us hl => match us, hl with | [_, _], _ => rfl) fun d_law_generator => ?_
    (case a => k_is); (case l => k_is); (case c => k_is); (case k => k_is)
    refine' CK.with_def KX "_law_letters" (K60.topS 44) ["_law_generator_here"] (CK.defF_mk KX G ?a ?l ?c ?k fun _ _ _ _ _ _ us hl => match us, hl with | [_], _ => rfl) fun d_law_letters => ?_
    (case a => k_is); (case l => k_is); (case c => k_is); (case k => k_is)
    refine' CK.with_def KX "_law_word" (K60.topS 45) ["_law_generator_here", "_law_signs", "_law_least", "_law_most"] (CK.defF_mk KX G ?a ?l ?c ?k fun _ _ _ _ _ _ us hl => match us, hl with | [_, _, _, _], _ => rfl) fun d_law_word => ?_
    (case a => k_is); (case l => k_is); (case c => k_is); (case k => k_is)
    refine' CK.with_def KX "_law_number" (K60.topS 46) ["_law_generator_here", "_law_great"] (CK.defF_mk KX G ?a ?l ?c ?k fun _ _ _ _ _ _ us hl => match us, hl with | [_, _], _ => rfl) fun d_law_number => ?_
    (case a => k_is); (case l => k_is); (case c => k_is); (case k => k_is)
    refine' CK.with_def KX "_law_form" (K60.topS 47) ["_law_generator_here", "_law_many", "_law_most", "_law_great"] (CK.defF_mk KX G ?a ?l ?c ?k fun _ _ _ _ _ _ us hl => match us, hl with | [_, _, _, _], _ => rfl) fun d_law_form => ?_
    (case a => k_is); (case l => k_is); (case c => k_is); (case k => k_is)
    refine' CK.with_def KX "_law_piece" (K60.topS 48) ["_law_generator_here", "_law_many", "_law_signs", "_law_base", "_law_great"] (CK.defF_mk KX G ?a ?l ?c ?k fun _ _ _ _ _ _ us hl => match us, hl with | [_, _, _, _, _], _ => rfl) fun d_law_piece => ?_
    (case a => k_is); (case l => k_is); (case c => k_is); (case k => k_is)
    refine' CK.with_def KX "_law_raw" (K60.topS 49) ["_law_generator_here", "_law_many", "_law_signs", "_law_most", "_law_great"] (CK.defF_mk KX G ?a ?l ?c ?k fun _ _ _ _ _ _ us hl => match us, hl with | [_, _, _, _, _], _ => rfl) fun d_law_raw => ?_
    (case a => k_is); (case l => k_is); (case c => k_is); (case k => k_is)
    refine' CK.with_def KX "_law_vector" (K60.topS 50) ["_law_pieces"] (CK.defF_mk KX G ?a ?l ?c ?k fun _ _ _ _ _ _ us hl => match us, hl with | [_], _ => rfl) fun d_law_vector => ?_
    (case a => k_is); (case l => k_is); (case c => k_is); (case k => k_is)
    refine' CK.with_def KX "_law_four" (K60.topS 51) ["_law_generator_here"] (CK.defF_mk KX G ?a ?l ?c ?k fun _ _ _ _ _ _ us hl => match us, hl with | [_], _ => rfl) fun d_law_four => ?_
    (case a => k_is); (case l => k_is); (case c => k_is); (case k => k_is)
    refine' CK.with_def KX "_law_cost" (K60.topS 52) ["_law_four_here", "_law_told"] (CK.defF_mk KX G ?a ?l ?c ?k fun _ _ _ _ _ _ us hl => match us, hl with | [_, _], _ => rfl) fun d_law_cost => ?_
    (case a => k_is); (case l => k_is); (case c => k_is); (case k => k_is)
    refine' CK.with_def KX "_law_prices" (K60.topS 53) ["_law_four_here"] (CK.defF_mk KX G ?a ?l ?c ?k fun _ _ _ _ _ _ us hl => match us, hl with | [_], _ => rfl) fun d_law_prices => ?_
    (case a => k_is); (case l => k_is); (case c => k_is); (case k => k_is)
    refine' CK.with_def KX "_law_vector_right" (K60.topS 54) ["_law_many", "_law_pieces"] (CK.defF_mk KX G ?a ?l ?c ?k fun _ _ _ _ _ _ us hl => match us, hl with | [_, _], _ => rfl) fun d_law_vector_right => ?_
    (case a => k_is); (case l => k_is); (case c => k_is); (case k => k_is)
    refine' CK.with_def KX "_law_named_right" (K60.topS 55) ["_law_four_here", "_law_drawn"] (CK.defF_mk KX G ?a ?l ?c ?k fun _ _ _ _ _ _ us hl => match us, hl with | [_, _], _ => rfl) fun d_law_named_right => ?_
    (case a => k_is); (case l => k_is); (case c => k_is); (case k => k_is)
    refine' CK.with_def KX "_law_one_object_right" (K60.topS 56) ["_law_many", "_law_one", "_law_other", "_law_four_here", "_law_drawn", "_law_second"] (CK.defF_mk KX G ?a ?l ?c ?k fun _ _ _ _ _ _ us hl => match us, hl with | [_, _, _, _, _, _], _ => rfl) fun d_law_one_object_right => ?_
    (case a => k_is); (case l => k_is); (case c => k_is); (case k => k_is)
    refine' CK.with_def KX "law" (K60.topS 57) ["_law_script"] (CK.defF_mk KX G ?a ?l ?c ?k fun _ _ _ _ _ _ us hl => match us, hl with | [_], _ => rfl) fun d_law => ?_
    (case a => k_is); (case l => k_is); (case c => k_is); (case k => k_is)
    have m_all : mg "all" = none := by
      refine' PySem.W.mg_none_of KX G ?z
      (case z => k_is)
    have m_any : mg "any" = none := by
      refine' PySem.W.mg_none_of KX G ?z
      (case z => k_is)
    have m_bool : mg "bool" = none := by
      refine' PySem.W.mg_none_of KX G ?z
      (case z => k_is)
    have m_int : mg "int" = none := by
      refine' PySem.W.mg_none_of KX G ?z
      (case z => k_is)
    have m_isinstance : mg "isinstance" = none := by
      refine' PySem.W.mg_none_of KX G ?z
      (case z => k_is)
    have m_len : mg "len" = none := by
      refine' PySem.W.mg_none_of KX G ?z
      (case z => k_is)
    have m_list : mg "list" = none := by
      refine' PySem.W.mg_none_of KX G ?z
      (case z => k_is)
    have m_max : mg "max" = none := by
      refine' PySem.W.mg_none_of KX G ?z
      (case z => k_is)
    have m_range : mg "range" = none := by
      refine' PySem.W.mg_none_of KX G ?z
      (case z => k_is)
    have m_repr : mg "repr" = none := by
      refine' PySem.W.mg_none_of KX G ?z
      (case z => k_is)
    have m_str : mg "str" = none := by
      refine' PySem.W.mg_none_of KX G ?z
      (case z => k_is)
    have m_sum : mg "sum" = none := by
      refine' PySem.W.mg_none_of KX G ?z
      (case z => k_is)
    have m_tuple : mg "tuple" = none := by
      refine' PySem.W.mg_none_of KX G ?z
      (case z => k_is)
    have m_zip : mg "zip" = none := by
      refine' PySem.W.mg_none_of KX G ?z
      (case z => k_is)
    have k_MOST_MEASURE : ∃ u, mg "MOST_MEASURE" = some u ∧ L2.RelV (.int 2000) u := by
      refine' ⟨?u_MOST_MEASURE, PySem.W.mg_of KX G ?z_MOST_MEASURE, ?r_MOST_MEASURE⟩
      (case z_MOST_MEASURE => k_is)
      all_goals exact ⟨_, rfl⟩
    have k_MOST_PIECES : ∃ u, mg "MOST_PIECES" = some u ∧ L2.RelV (.int 5000) u := by
      refine' ⟨?u_MOST_PIECES, PySem.W.mg_of KX G ?z_MOST_PIECES, ?r_MOST_PIECES⟩
      (case z_MOST_PIECES => k_is)
      all_goals exact ⟨_, rfl⟩
    have k_MOST_PIECE_LETTERS : ∃ u, mg "MOST_PIECE_LETTERS" = some u ∧ L2.RelV (.int 2000) u := by
      refine' ⟨?u_MOST_PIECE_LETTERS, PySem.W.mg_of KX G ?z_MOST_PIECE_LETTERS, ?r_MOST_PIECE_LETTERS⟩
      (case z_MOST_PIECE_LETTERS => k_is)
      all_goals exact ⟨_, rfl⟩
    have k_MOST_UNKNOWNS : ∃ u, mg "MOST_UNKNOWNS" = some u ∧ L2.RelV (.int 3) u := by
      refine' ⟨?u_MOST_UNKNOWNS, PySem.W.mg_of KX G ?z_MOST_UNKNOWNS, ?r_MOST_UNKNOWNS⟩
      (case z_MOST_UNKNOWNS => k_is)
      all_goals exact ⟨_, rfl⟩
    have k_VECTOR_SIZE : ∃ u, mg "VECTOR_SIZE" = some u ∧ L2.RelV (.int 4) u := by
      refine' ⟨?u_VECTOR_SIZE, PySem.W.mg_of KX G ?z_VECTOR_SIZE, ?r_VECTOR_SIZE⟩
      (case z_VECTOR_SIZE => k_is)
      all_goals exact ⟨_, rfl⟩
    have T : K60.Txt _ mg _ := ⟨k_Prices, f_letter, f_number, f_sign, f_unknown, d_is_whole, d_is_count, d_is_within, d_is_lettered, d_need_within, d_need_many, d_is_form_for, d_is_piece, d_is_open_form, d_fixed_piece, d_measure, d_need_pieces, d_need_measure, d_Prices___init__, d_Prices_of, d_need_vector, d_chosen_prices, d_piece_vector, d_vector_sum, d_vector, d_vector_of, d_cost, d_law_hash, d_law_random, d_law_cell, d_law_generator, d_law_letters, d_law_word, d_law_number, d_law_form, d_law_piece, d_law_raw, d_law_vector, d_law_four, d_law_cost, d_law_prices, d_law_vector_right, d_law_named_right, d_law_one_object_right, d_law, m_all, m_any, m_bool, m_int, m_isinstance, m_len, m_list, m_max, m_range, m_repr, m_str, m_sum, m_tuple, m_zip, k_MOST_MEASURE, k_MOST_PIECES, k_MOST_PIECE_LETTERS, k_MOST_UNKNOWNS, k_VECTOR_SIZE⟩
    exact K60.law_end T hmg
