import PyProof.Rows.All
import Wide.All
import OpenK.AllK
import Wide.FinOn
import HandS.ForMost
import HandS.Wide
import HandS.WideBits
import HandS.TupAny
import HandS.TupMul
import HandS.IsInst
import HandS.Walk
import HandS.Style
import KE.GoesZip
import KE.GoesMore
import KE.GoesEnum
import HandS.Codes
import HandS.FStrTup
import PyProof.ListMulRoad
import PyProof.FactsAll.tuple_2
import PyProof.ReprLoop
import PyProof.ReprHeadsTuple
import PyProof.StrHeap
import PyProof.CallStr
import HandS.StrMore
import HandS.SortInts
import PyProof.Rows.StrRev
import PyProof.StrOps2
import KE.DataAny
import PyProof.ReprRoads
import HandS.Ends
import HandS.Defaults
import HandS.MakeKwOnly
import HandS.MakeKw
import HandS.Records
import PySem.Challenge.RW_countscribe_k67_whole_leaned_writers
import HandS.OwnEq
import PyProof.ReprLen
import PyProof.StrLawsRepr
import HandS.SortKw
import KE.SortData
import HandS.More
import KE.SortKeyHeap
import PyProof.MinMaxWalk
import PyProof.WalkInts
import KE.KMinKey
import PyProof.Rows.RuleB_mul
import PyProof.Rows.StrCut
set_option Elab.async false
set_option linter.all false
set_option maxRecDepth 100000
set_option maxHeartbeats 2000000
/-! rules that the layer lacks: a power of great numbers, zip over a list and a tuple in any mix -/
namespace CK
open PySem PySem.Spec PyProof.Rows L2

section
variable {X : Cx}
theorem op_powB : OpR X (binaryOp .Pow) (rI (fun i j => 0 ≤ j ∧ (Builtin.Int.intBits i : Int) * j ≤ 2 ^ 27) fun i j => .int (i ^ j.toNat)) :=
  opI fun _ _ _ _ _ _ _ c q => pow_int c.1 c.2 q
end

/-- a list, or a tuple -/
inductive Kd | L | T
def SqB (K : PySem.W.Frag) : Kd → Hp → Addr → List V → Prop
  | .L, H, a, xs => SqL K H a xs
  | .T, H, a, xs => SqT K H a xs
def HasB : Kd → Heap → Addr → Array Value → Prop
  | .L, h, a, xs => h.IsList a xs
  | .T, h, a, xs => h.IsTuple a xs
def IterB : Kd → Heap → Addr → Addr → Nat → Prop
  | .L, h, it, a, i => h.IsListIter it a i
  | .T, h, it, a, i => h.IsTupleIter it a i
def objB : Kd → Addr → Obj
  | .L, a => { cls := .type "list_iterator", data := .fields #[.ref a, .int 0 0] }
  | .T, a => { cls := .type "tuple_iterator", data := .fields #[.ref a, .int 0 0] }
theorem drawsB (k : Kd) {prog : Program} {w : World} {A : Around} (hh : A.handled = none) (it t : Addr) (ne : t ≠ it) (zs : Array Value) :
    Draws prog w A it [it, t] zs.size (fun i v => zs[i]? = some v) (fun i h => IterB k h it t i ∧ HasB k h t zs) := by
  cases k with
  | L => exact Draws.list hh it t ne zs
  | T => exact Draws.tuple hh it t ne zs
theorem beginsB (k : Kd) (t : Addr) (zs : Array Value) : Begins (.ref t) (objB k t) fun h => HasB k h t zs := by
  cases k with
  | L => exact begins_list t zs
  | T => exact begins_tuple t zs
theorem IterB.at {k : Kd} {h h' : Heap} {it a : Addr} {i : Nat} (x : IterB k h it a i) (e : ∀ o, h.get? it = some o → h'.get? it = some o) : IterB k h' it a i := by
  cases k with
  | L => exact Heap.IsListIter.at x e
  | T => exact Heap.IsTupleIter.at x e
theorem IterB.there {k : Kd} {h : Heap} {it a : Addr} {i : Nat} (x : IterB k h it a i) : ∃ o, h.get? it = some o ∧ ∀ v, o.data ≠ .cell v := by
  cases k with
  | L =>
    obtain ⟨o, e, _, d⟩ := x
    exact ⟨o, e, fun v z => by rw [d] at z; cases z⟩
  | T =>
    obtain ⟨o, e, _, d⟩ := x
    exact ⟨o, e, fun v z => by rw [d] at z; cases z⟩
theorem IterB.new {k : Kd} {h : Heap} {it a : Addr} (e : h.get? it = some (objB k a)) : IterB k h it a 0 := by
  cases k with
  | L => exact ⟨_, e, rfl, rfl⟩
  | T => exact ⟨_, e, rfl, rfl⟩
theorem SqB.get {X : Cx} {pins : List (Addr × Obj)} {σ : L2.St} {H : Hp} {s : Shared} {k : Kd} {a : Addr} {xs : List V} (I : Inv X pins σ H s) (h : SqB X.K k H a xs) :
    ∃ zs : List Value, Vals xs zs ∧ HasB k s.heap a zs.toArray ∧ a < s.heap.objs.size := by
  cases k with
  | L =>
    obtain ⟨zs, r, p, _⟩ := I.list h
    exact ⟨zs, r, p.isList, p.lt⟩
  | T =>
    obtain ⟨zs, r, p, _⟩ := I.tuple h
    exact ⟨zs, r, p, p.lt⟩
theorem SqB.inj {X : Cx} {pins : List (Addr × Obj)} {σ : L2.St} {H : Hp} {s : Shared} {k : Kd} {a : Addr} {xs ys : List V} (I : Inv X pins σ H s) (h : SqB X.K k H a xs) (h' : SqB X.K k H a ys) : xs = ys := by
  cases k with
  | L => exact I.list_inj h h'
  | T => exact I.tuple_inj h h'

/-- both as they stand at each turn, the items in new pairs -/
def ItB (K : PySem.W.Frag) (k k' : Kd) (a b : Addr) : It :=
  ⟨fun i H => ∃ (xs ys : List V) (x y : V), SqB K k H a xs ∧ SqB K k' H b ys ∧ xs[i]? = some x ∧ ys[i]? = some y,
    fun i H v H' => ∃ T x y, v = .ref T ∧ H T = none ∧ H' = upd H T (.tup [x, y]) ∧ (∀ xs, SqB K k H a xs → xs[i]? = some x) ∧ ∀ ys, SqB K k' H b ys → ys[i]? = some y,
    fun i H => ∃ xs ys : List V, SqB K k H a xs ∧ SqB K k' H b ys ∧ i ≤ xs.length ∧ i ≤ ys.length ∧ (i = xs.length ∨ i = ys.length)⟩
theorem five {z TI TO i1 i2 c : Addr} (h : c ∈ [z, TI, TO, i1, i2]) : c = z ∨ c = TI ∨ c = TO ∨ c = i1 ∨ c = i2 := by simpa using h
theorem turnB {P : Program} {w : World} {K : PySem.W.Frag} {elts : List Expr} {kk : Nat} {tp : Pos} {k k' : Kd} {a b z TI TO i1 i2 : Addr} (S : ZipSep2 z TI TO i1 i2 [i1, a] [i2, b]) (na : a ≠ i1) (nb : b ≠ i2) :
    Turn P w K (.Tuple elts kk tp) (ItB K k k' a b) [z, TI, TO, i1, i2] z
      (fun i h => IsZip h z TI TO .none ∧ IsTupOf2 h TI (.ref i1) (.ref i2) ∧ (∃ x y, IsTupOf2 h TO x y) ∧ IterB k h i1 a i ∧ IterB k' h i2 b i) where
  mem := by simp
  obj := fun i h st c hc => by
    obtain ⟨hz, hI, ⟨x, y, hO⟩, h1, h2⟩ := st
    rcases five hc with q | q | q | q | q <;> subst q
    · exact ⟨_, hz, fun v q => nomatch q⟩
    · exact ⟨_, hI, fun v q => nomatch q⟩
    · exact ⟨_, hO, fun v q => nomatch q⟩
    · exact h1.there
    · exact h2.there
  keep := fun i h h' st q => by
    obtain ⟨hz, hI, ⟨x, y, hO⟩, h1, h2⟩ := st
    exact ⟨q z (by simp) _ hz, q TI (by simp) _ hI, ⟨x, y, q TO (by simp) _ hO⟩, h1.at (q i1 (by simp)), h2.at (q i2 (by simp))⟩
  item := by
    intro X hP hw hK hc i pins s σ H E I hf st hg
    subst hP hw hK
    obtain ⟨hz, hI, ⟨x0, y0, hO⟩, h1, h2⟩ := st
    obtain ⟨xs, ys, x, y, qx, qy, hx, hy⟩ := hg
    obtain ⟨zs, r1, p1, la⟩ := SqB.get I qx
    obtain ⟨zs', r2, p2, lb⟩ := SqB.get I qy
    obtain ⟨u, hu, ru⟩ := r1.get hx
    obtain ⟨u2, hu2, ru2⟩ := r2.get hy
    have z0 : z < s.heap.objs.size := Heap.lt_size hz
    have l1 : i < zs.toArray.size := by
      obtain ⟨q, _⟩ := List.getElem?_eq_some_iff.mp hu
      simpa using q
    have l2 : i < zs'.toArray.size := by
      obtain ⟨q, _⟩ := List.getElem?_eq_some_iff.mp hu2
      simpa using q
    have hh : X.A.in1.handled = none := I.ok.hd hc
    refine wpAny_pyNext_zipD2_item S (drawsB k hh i1 a na zs.toArray) (drawsB k' hh i2 b nb zs'.toArray) hz hI hO ⟨h1, p1⟩ ⟨h2, p2⟩ l1 l2 fun x1 x2 h' tk e1 e2 z' TO' t1 t2 hT hsz hk => ?_
    have e1' : x1 = u := by
      have q : zs[i]? = some x1 := by simpa using e1
      exact Option.some.inj (q.symm.trans hu)
    have e2' : x2 = u2 := by
      have q : zs'[i]? = some x2 := by simpa using e2
      exact Option.some.inj (q.symm.trans hu2)
    subst e1' e2'
    refine ⟨_, rfl, wpAny_letOwnedTupleGo_zip (s := { s with heap := h', toks := tk }) z' fun h'' z'' sb => ?_⟩
    have hT2 : h''.get? s.heap.objs.size = some { cls := .type "tuple", data := .seq #[x1, x2] } := (sb.2 _ (Nat.ne_of_gt z0)).trans hT
    have new : ObjOk X.prog X.w (upd H s.heap.objs.size (.tup [x, y])) h'' s.heap.objs.size (.tup [x, y]) :=
      ⟨by show 2 ≤ sizeLine; decide, [x1, x2], .cons ru (.cons ru2 .nil), ⟨_, hT2, rfl, _, rfl⟩⟩
    have I1 : Inv X pins σ (upd H s.heap.objs.size (.tup [x, y])) { s with heap := h'', toks := tk } :=
      I.turnedNew (ch := [z, TI, TO, i1, i2]) (fun c o hb q => by
        have n : c ≠ z ∧ c ≠ TI ∧ c ≠ TO ∧ c ≠ i1 ∧ c ≠ i2 := by simpa using hb
        exact (sb.2 c n.1).trans (hk c o n.1 n.2.2.1 n.2.2.2.1 n.2.2.2.2 q)) hf (Nat.le_refl _) new
    refine ⟨.ref s.heap.objs.size, _, I1, rfl, ⟨_, x, y, rfl, I.hok.fresh (Nat.le_refl _), rfl, fun l hl => by rw [SqB.inj I hl qx]; exact hx, fun l hl => by rw [SqB.inj I hl qy]; exact hy⟩, ⟨z'', ?_, ⟨x1, x2, ?_⟩, ?_, ?_⟩, fun c hcm => ?_⟩
    · exact (sb.2 _ S.TIz).trans (hk _ _ S.TIz S.TITO S.TIi1 S.TIi2 hI)
    · exact (sb.2 _ S.TOz).trans TO'
    · exact t1.1.at fun o q => (sb.2 _ S.zi1.symm).trans q
    · exact t2.1.at fun o q => (sb.2 _ S.zi2.symm).trans q
    · have lt : c < s.heap.objs.size := by
        rcases five hcm with q | q | q | q | q <;> subst q
        · exact z0
        · exact Heap.lt_size hI
        · exact Heap.lt_size hO
        · obtain ⟨_, e, _⟩ := h1.there
          exact Heap.lt_size e
        · obtain ⟨_, e, _⟩ := h2.there
          exact Heap.lt_size e
      rw [upd_ne (Nat.ne_of_lt lt)]
      exact (hf c hcm).1
  done := by
    intro X hP hw hK hc i pins s σ H E I hf st hg
    subst hP hw hK
    obtain ⟨hz, hI, ⟨x0, y0, hO⟩, h1, h2⟩ := st
    obtain ⟨xs, ys, qx, qy, m1, m2, hend⟩ := hg
    obtain ⟨zs, r1, p1, la⟩ := SqB.get I qx
    obtain ⟨zs', r2, p2, lb⟩ := SqB.get I qy
    have e1 : zs.toArray.size = xs.length := by rw [List.size_toArray]; exact r1.length.symm
    have e2 : zs'.toArray.size = ys.length := by rw [List.size_toArray]; exact r2.length.symm
    have hh : X.A.in1.handled = none := I.ok.hd hc
    exact wpAny_pyNext_zipD2_end S (drawsB k hh i1 a na zs.toArray) (drawsB k' hh i2 b nb zs'.toArray) hz hI hO ⟨h1, p1⟩ ⟨h2, p2⟩ (by omega) (by omega) (by omega) fun h' tk hk =>
      ⟨rfl, I.turnedL (ch := [z, TI, TO, i1, i2]) (fun c o hb q => by
        have n : c ≠ z ∧ c ≠ TI ∧ c ≠ TO ∧ c ≠ i1 ∧ c ≠ i2 := by simpa using hb
        exact hk c o n.1 n.2.2.1 n.2.2.2.1 n.2.2.2.2 q) hf⟩
  self := fun A i s Q E st h => wpAny_pyIter_zip st.1 h

def iZipB (K : PySem.W.Frag) (ta : TA) : TI := fun σ H R => ta σ H fun vs H1 => ∃ (k k' : Kd) (a b : Addr) (xs ys : List V), vs = [.ref a, .ref b] ∧ SqB K k H1 a xs ∧ SqB K k' H1 b ys ∧ R (ItB K k k' a b) H1
theorem pi_zipB {X : Cx} {K : PySem.W.Frag} {e e2 : Expr} {ta : TA} {p pos tp : Pos} {elts : List Expr} {kk : Nat} (hK : X.K = K) (hg : Gl X "zip") (hm : X.mg "zip" = none) (ha : PA X [e, e2] ta)
    (hs : starEach [e, e2] X.env = (false, eval e X.env) :: starEach [e2] X.env := by rfl) (hpl : (backTo pos (starEach [e2] X.env)).any (·.1) = false := by rfl) :
    PI X (.Tuple elts kk tp) (.Call (.Name "zip" p) [e, e2] [] pos) (iZipB K ta) := by
  subst hK
  refine ⟨fun pins s σ H R I h => Call_ (ld_blt I hg hm PyProof.Rows.boot_zip (callWith_type1 (thn (ha.run pos pins s σ H _ I h) fun us s1 q => ?_) hs hpl))⟩
  obtain ⟨vs, H1, I1, r1, k, k', a, b, xs, ys, rfl, qx, qy, q⟩ := q
  cases r1 with
  | cons r rr =>
  cases rr with
  | cons r' rr =>
  cases rr
  cases r
  cases r'
  obtain ⟨zs, _, p1, la⟩ := SqB.get I1 qx
  obtain ⟨zs', _, p2, lb⟩ := SqB.get I1 qy
  refine zip_begins2 (beginsB k a zs.toArray) (beginsB k' b zs'.toArray) p1 p2 fun h' hz hI hO o1 o2 hsz hk => wpAny_pyIter_zip hz ?_
  have S := zip_sep2 (N := s1.heap.objs.size) (fp1 := [a]) (fp2 := [b]) (fun c hc => by rw [List.mem_singleton.mp hc]; exact la) (fun c hc => by rw [List.mem_singleton.mp hc]; exact lb)
  refine ⟨s1.heap.objs.size + 4, _, _, _, H1, rfl, I1.kept (t' := s1.toks) hk, turnB S (Nat.ne_of_lt la) (Nat.ne_of_lt (Nat.lt_succ_of_lt lb)), ⟨hz, hI, ⟨_, _, hO⟩, .new o1, .new o2⟩, fun c hc => ?_, q⟩
  have le : s1.heap.objs.size ≤ c := by
    rcases five hc with z | z | z | z | z <;> subst z <;> first | exact Nat.le_add_right _ _ | exact Nat.le_refl _
  exact I1.fpOk le (I1.hok.fresh le)
theorem walkB {K : PySem.W.Frag} {k k' : Kd} {a b : Addr} {xs ys : List V} (hl : xs.length = ys.length) :
    Walk (ItB K k k' a b) xs.length (fun H => SqB K k H a xs ∧ SqB K k' H b ys) (YPair (fun i => xs[i]?) (fun i => ys[i]?)) := by
  refine ⟨fun i H hi q => ?_, fun H q => ⟨xs, ys, q.1, q.2, Nat.le_refl _, Nat.le_of_eq hl, .inl rfl⟩, fun i H v H' _ q y => ?_⟩
  · have h2 : i < ys.length := by omega
    exact ⟨xs, ys, xs[i], ys[i], q.1, q.2, by simp [hi], by simp [h2]⟩
  · obtain ⟨T, x, z, h1, h2, h3, h4, h5⟩ := y
    exact ⟨T, x, z, h1, h2, h3, h4 xs q.1, h5 ys q.2⟩
end CK

set_option Elab.async false
set_option linter.all false
set_option maxRecDepth 100000
set_option maxHeartbeats 4000000
namespace CK
open PySem PySem.Spec PyProof.Rows L2
theorem mulFill : fillsNumberSlot (.type "tuple") "mul" = pure false :=
  PySem.fillsNumberSlot_seq (r := some (.builtin "tuple.__rmul__")) (id := "tuple.__mul__") PySem.F.slot_tuple_mul.lookup (by decide +kernel)
    PySem.F.slot_tuple_rmul.lookup (by decide +kernel)
theorem mulSeq : seqRepeat? (.type "tuple") = pure (some (.builtin "tuple.__mul__")) := by
  unfold seqRepeat?
  rw [PySem.seqSlot_of (name := "__mul__") (id := "tuple.__mul__") (T := "tuple") PySem.F.slot_tuple_mul.lookup (by decide +kernel),
    PySem.seqSlot_of (name := "__rmul__") (id := "tuple.__rmul__") (T := "tuple") PySem.F.slot_tuple_rmul.lookup (by decide +kernel)]
  rfl
theorem rmulNo (a : Int) (t : Tok) (l : Addr) (zs : Array Value) (n : Nat) (dd : Option Addr) (sl : Array (Option Value)) :
    Meets (Builtin.«int.__rmul__» ⟨[.int a t, .ref l], []⟩) (fun _ R s =>
      s.heap.get? l = some { cls := .type "tuple", dict := dd, data := .seq zs n, slots := sl } ∧ R (.ok (.ret Value.notImplemented)) s) := by
  refine Meets.of_wp fun prog w A R s h => ?_
  obtain ⟨hq, g, d, tk, o2⟩ := s
  obtain ⟨hl, h⟩ := h
  wp_walk using wpAny_loadPart' hl
  exact ⟨_, rfl, h⟩
/-- one item, no times: a new empty tuple -/
theorem mul0 (l : Addr) (v : Value) (n : Nat) (dd : Option Addr) (sl : Array (Option Value)) (u : Tok) :
    Meets (Builtin.«tuple.__mul__» ⟨[.ref l, .int 0 u], []⟩) (fun _ R s =>
      s.heap.get? l = some { cls := .type "tuple", dict := dd, data := .seq #[v] n, slots := sl } ∧
      R (.ok (.ret (Value.ref s.heap.objs.size))) { s with heap := s.heap.push { cls := Value.type "tuple", data := Data.seq #[] } }) := by
  refine Meets.of_wp fun prog w A R s h => ?_
  obtain ⟨hq, g, d, tk, o2⟩ := s
  obtain ⟨hl, h⟩ := h
  have f1 := AutoSeq1.idx_int
  wp_walk using wpAny_loadPart' hl
  exact ⟨_, rfl, h⟩
/-- one item, once: the tuple itself -/
theorem mul1 (l : Addr) (v : Value) (n : Nat) (dd : Option Addr) (sl : Array (Option Value)) (u : Tok) :
    Meets (Builtin.«tuple.__mul__» ⟨[.ref l, .int 1 u], []⟩) (fun _ R s =>
      s.heap.get? l = some { cls := .type "tuple", dict := dd, data := .seq #[v] n, slots := sl } ∧ R (.ok (.ret (Value.ref l))) s) := by
  refine Meets.of_wp fun prog w A R s h => ?_
  obtain ⟨hq, g, d, tk, o2⟩ := s
  obtain ⟨hl, h⟩ := h
  have f1 := AutoSeq1.idx_int
  have f2 : (⟨hq, g, d, tk, o2⟩ : Shared).TypeIs (.ref l) "tuple" := ⟨_, hl, rfl⟩
  wp_walk using wpAny_loadPart' hl, wpAny_typeOf f2
  exact ⟨_, rfl, h⟩
section
variable {X : Cx}
theorem sameNew {H : Hp} {p : Addr} {o : HO} (h : H p = none) : Same H (upd H p o) := fun b z e => by
  rw [upd_ne (ne_of_none e h)]
  exact e
/-- one item, k times: 0 or 1 -/
def rRep01 : R2 := fun x y H Q => ∃ (l : Addr) (k : Int) (v : V), x = .ref l ∧ y = .int k ∧ H l = some (.tup [v]) ∧ (k = 0 ∨ k = 1) ∧
  ∀ p H', Same H H' → H' p = some (.tup (List.replicate k.toNat v)) → Q (.ref p) H'
theorem op_rep01 : OpR X (binaryOp .Mult) rRep01 := by
  intro pins s σ H x y xv yv Q I rx ry h
  obtain ⟨l, k, v, rfl, rfl, hl, hk, q⟩ := h
  cases rx
  obtain ⟨t, rfl⟩ := ry
  obtain ⟨zs, r, ⟨⟨cl, dd, da, sl⟩, ho, hc, n, hd⟩, hs⟩ := I.tuple (.inl (.inl hl) : SqT X.K H l [v])
  simp only at hc hd
  subst hc hd
  cases r with
  | cons r1 r2 =>
  cases r2
  rename_i u
  rcases hk with e | e <;> subst e
  · refine wpAny_binaryOp_repeat_ref (T := "tuple") (U := "int") (by decide) ⟨_, ho, rfl⟩ (fun s' => typeIs_int s' 0 t) mulFill F.fills_int_mul F.slot_int_rmul mulSeq F.slot_int_index.lookup
      (call_meets F.slot_int_rmul (typeIs_int s 0 t) F.entry_int_rmul (F.args_int_rmul_2 _ _) (rmulNo 0 t l _ n dd sl)
        ⟨ho, rfl, ⟨_, ho, rfl⟩, call_meets F.slot_tuple_mul ⟨_, ho, rfl⟩ F.entry_tuple_mul (F.args_tuple_mul_2 _ _) (mul0 l _ n dd sl t) ⟨ho, ?_⟩⟩)
    have hn : H s.heap.objs.size = none := I.hok.fresh (Nat.le_refl _)
    refine ⟨.ref s.heap.objs.size, _, I.laid (t' := s.toks) (o := .tup []) (fun b ob q => Heap.get?_push_of_some _ q) (Nat.le_refl _) ?_, rfl, q _ _ (sameNew hn) upd_same⟩
    exact ⟨Nat.zero_le _, [], .nil, IsTup.new _ _⟩
  · exact wpAny_binaryOp_repeat_ref (T := "tuple") (U := "int") (by decide) ⟨_, ho, rfl⟩ (fun s' => typeIs_int s' 1 t) mulFill F.fills_int_mul F.slot_int_rmul mulSeq F.slot_int_index.lookup
      (call_meets F.slot_int_rmul (typeIs_int s 1 t) F.entry_int_rmul (F.args_int_rmul_2 _ _) (rmulNo 1 t l _ n dd sl)
        ⟨ho, rfl, ⟨_, ho, rfl⟩, call_meets F.slot_tuple_mul ⟨_, ho, rfl⟩ F.entry_tuple_mul (F.args_tuple_mul_2 _ _) (mul1 l _ n dd sl t)
          ⟨ho, ⟨.ref l, H, I, rfl, q l H (Same.refl H) hl⟩⟩⟩)
/-! ### str(tuple of whole numbers): some text -/
theorem reprInts {prog : Program} {w : World} : ∀ {ns : List Int} {zs : List Value}, Vals (ns.map V.int) zs → (∀ n ∈ ns, n.natAbs.log2 < 1920) → ReprAll prog w zs (ns.map fun n => (toString n : Str))
  | [], _, r, _ => by
    cases r
    exact .nil
  | n :: l, _, r, h => by
    cases r with
    | cons r1 r2 =>
    obtain ⟨t, rfl⟩ := r1
    exact .cons (ReprIs.int t (h n List.mem_cons_self)) (reprInts r2 fun z hz => h z (List.mem_cons_of_mem _ hz))
end
end CK
namespace CK
open PySem PySem.Spec PyProof.Rows L2
section
variable {X : Cx}
/-- one item, k times -/
def rRepOne (K : PySem.W.Frag) : R2 := fun x y H Q => ∃ (l : Addr) (k : Int) (v : V), x = .ref l ∧ y = .int k ∧ H l = some (.tup [v]) ∧ 0 ≤ k ∧ k ≤ 1000 ∧
  ∀ p H', Same H H' → H' p = some (.tup (List.replicate k.toNat v)) → Q (.ref p) H'
theorem flat_rep {α : Type} (v : α) : ∀ n : Nat, (List.replicate n [v]).flatten = List.replicate n v
  | 0 => rfl
  | n + 1 => by rw [List.replicate_succ, List.flatten_cons, flat_rep v n, List.replicate_succ]; rfl
theorem op_repOne : OpR X (binaryOp .Mult) (rRepOne X.K) := by
  intro pins s σ H x y xv yv Q I rx ry h
  obtain ⟨l, k, v, rfl, rfl, hl, h0, h1, q⟩ := h
  by_cases hk : k = 0 ∨ k = 1
  · exact op_rep01 pins s σ H _ _ xv yv Q I rx ry ⟨l, k, v, rfl, rfl, hl, hk, q⟩
  · refine op_repT pins s σ H _ _ xv yv Q I rx ry ⟨l, k, [v], rfl, rfl, .inl (.inl hl), List.cons_ne_nil _ _, by omega, h1, by show 1 ≤ 1000; omega, fun p hp => q p _ (sameNew hp) ?_⟩
    rw [upd_same, flat_rep]
/-- str of a tuple of whole numbers: some text -/
theorem call_str_tup {k : Nat} (hr : Room k X.A) : CallR X (.type "str") (fun xs H Q => ∃ (a : Addr) (ns : List Int), xs = [.ref a] ∧ H a = some (.tup (ns.map V.int)) ∧ ns.length ≤ 100 ∧ (∀ n ∈ ns, n.natAbs.log2 < 1920) ∧ ∀ m : Str, Q (.str m) H) := by
  intro pins s σ H xs us Q I r h
  obtain ⟨a, ns, rfl, ha, hl, hn, q⟩ := h
  obtain ⟨u, rfl, rx⟩ := vals1 r
  cases rx
  obtain ⟨zs, rv, ⟨o, ho, hc, n, hd⟩, hz⟩ := I.tuple (.inl (.inl ha) : SqT X.K H a _)
  have hu := hr.units
  have hT : ReprAll X.prog X.w zs.toArray.toList (ns.map fun n => (toString n : Str)) := by simpa using reprInts rv hn
  have hp : ∀ l : List Int, (∀ n ∈ l, n.natAbs.log2 < 1920) → piled (l.map fun n => (toString n : Str)) ≤ l.length * 1923 := by
    intro l
    induction l with
    | nil => intro _; exact Nat.le_refl _
    | cons z l ih =>
      intro h
      have a1 := int_text_length_le (a := z) (k := 1920) (by omega) (h z List.mem_cons_self)
      have a2 := ih fun n hn => h n (List.mem_cons_of_mem _ hn)
      rw [List.map_cons, piled_cons, List.length_cons]
      have a3 : ((toString z : Str)).length = (toString z).length := PySem.ofString_length _
      omega
  have h1 := fmt_text (ns.map fun n => (toString n : Str))
  have h2 := hp ns hn
  have h3 : ns.length * 1923 ≤ 192300 := by omega
  have h4 : (tupleText (ns.map fun n => (toString n : Str))).length ≤ sizeLine := by
    rw [sizeLine_eq]
    omega
  refine callType_new F.called_str (by decide) (F.typeCall_str_1 _) (F.newCall_str_1 _) (fun obj => F.args_object_init_2 obj _) F.entry_str_new
    (meets_str_new (S := fun A' R s' => A'.units + 4 < cLine ∧ s'.heap.get? a = some o ∧ ∀ (m : Str) (u tk : Tok), R (.ok (.ret (.str m u))) { s' with toks := tk }) fun prog w A' R s' h =>
      wpAny_strOf_slot rfl (by show A'.units + 1 + 1 < cLine; have := h.1; omega) ⟨o, h.2.1, hc⟩ F.slot_tuple_str F.slot_tuple_repr
        (fmt_tuple_repr h.2.1 hc hd ?_ h4 fun m u tk _ => ⟨m, u, rfl, h.2.2 m u tk⟩))
    ⟨by show X.A.units + 1 + 4 < cLine; omega, ho, fun m u tk => ⟨typeIs_str _ _ _, .str m, H, I.tok _, ⟨u, rfl⟩, q m⟩⟩
  exact by simpa using reprInts rv hn
end
end CK

set_option Elab.async false
set_option linter.all false
set_option maxRecDepth 100000
set_option maxHeartbeats 2000000
namespace CK
open PySem PySem.Spec PyProof.Rows L2
/-! ### a def as it stands behind the top, and its promise by its body -/
structure DefF (K : PySem.W.Frag) (mg : Str → Option Value) (x : Str) (st : Stmt) (ps : List Str) : Prop where
  ex : ∃ (f : Addr) (fd : FuncData), C8.Def K mg x st f fd ∧ ∀ us : List Value, us.length = ps.length → bindArgs fd ⟨us, []⟩ = pure (ps.zip us)
theorem defF_mk {K : PySem.W.Frag} {h : Heap} {mg : Str → Option Value} {x : Str} {st : Stmt} {ps : List Str} {f : Addr} {od an : Option Addr} {oc kV dc pm cd ct : Value} {sl : Array (Option Value)}
    (X : K.In h) (G : h.Ns mainGlobals mg) (a : PySem.W.nsIn K mainGlobals x = some (some (.ref f)))
    (l : K.lookup f = some ⟨oc, od, .func (PySem.W.fnOf x x (C8.fnArgs st) (C8.fnBody st) (C8.fnScope st) .none kV dc pm an cd ct), sl⟩)
    (c : PySem.W.codeIn K cd x = true) (k : PySem.W.keepIn K (.ref f) = true)
    (hb : ∀ (kV doc pm : Value) (an : Option Addr) (cdv ct : Value) (us : List Value), us.length = ps.length →
      bindArgs (PySem.W.fnOf x x (C8.fnArgs st) (C8.fnBody st) (C8.fnScope st) .none kV doc pm an cdv ct) ⟨us, []⟩ = pure (ps.zip us)) : DefF K mg x st ps :=
  ⟨f, _, ⟨⟨oc, od, .none, kV, dc, pm, an, cd, ct, sl, rfl, l, c⟩, PySem.W.mg_of X G a, k⟩, hb kV dc pm an cd ct⟩
theorem calF {P : Program} {w : World} {K : PySem.W.Frag} {mg : Str → Option Value} {base : Heap} {x : Str} {st : Stmt} {N ps : List Str} {k : Nat} {sp : Sp} (D : DefF K mg x st ps) (S : FnScope N ps (C8.fnScope st))
    (len : ∀ vs H Q E, sp vs H Q E → vs.length = ps.length)
    (hbody : ∀ (f : Addr) (cdv : Value) (A : Around) (outer : List Env) (s : Shared) (H : Hp) (vs : List V) (Q : VK) (E : XK), Room k (A.deeper (envOfC x (C8.fnScope st) s.heap.objs.size f cdv)) → sp vs H Q E →
      ∃ t, PSs (cxOf C8.CX0 P w K mg base N x (C8.fnScope st) f cdv A outer s H E).nox (C8.fnBody st) t ∧ t { nx := fun _ H' => Q .non H', rt := Q } (start N vs) H) : C8.Cal P w K mg base (k + 1) x sp [] := by
  obtain ⟨f, fd, F, b⟩ := D.ex
  exact C8.cal0 F (.all b) .nil S len (hbody f)
/-- a def of one parameter as it stands, for the law's end -/
theorem DefF.one {K : PySem.W.Frag} {mg : Str → Option Value} {x p : Str} {st : Stmt} (D : DefF K mg x st [p]) : ∃ (f : Addr) (fd : FuncData), mg x = some (.ref f) ∧ (∀ (s : Shared) (v : Value), BindsTo s fd ⟨[v], []⟩ [(p, v)]) ∧
    ∀ {P : Program} {w : World} {base : Heap} {N : List Str} {k : Nat} {sp : Sp} (S : FnScope N [p] (C8.fnScope st)) (len : ∀ vs H Q E, sp vs H Q E → vs.length = 1)
      (hbody : ∀ (f : Addr) (cdv : Value) (A : Around) (outer : List Env) (s : Shared) (H : Hp) (vs : List V) (Q : VK) (E : XK), Room k (A.deeper (envOfC x (C8.fnScope st) s.heap.objs.size f cdv)) → sp vs H Q E →
        ∃ t, PSs (cxOf C8.CX0 P w K mg base N x (C8.fnScope st) f cdv A outer s H E).nox (C8.fnBody st) t ∧ t { nx := fun _ H' => Q .non H', rt := Q } (start N vs) H), FnOk P w K mg base C8.CX0 (k + 1) f fd [p] sp := by
  obtain ⟨f, fd, F, b⟩ := D.ex
  exact ⟨f, fd, F.mgf, fun s v => .of_eq (b [v] rfl), fun S len hbody => C8.fn0 F.fn S len (hbody f)⟩

theorem with_def {K : PySem.W.Frag} {h : Heap} {mg : Str → Option Value} (_ : K.In h) (x : Str) (st : Stmt) (ps : List Str) {R : Prop} (d : DefF K mg x st ps) (r : DefF K mg x st ps → R) : R := r d
/-! ### heaps -/
/-- all that was tracked is as it was, but for g -/
def SameX (g : Addr) (H H' : Hp) : Prop := ∀ b o, b ≠ g → H b = some o → H' b = some o
theorem SameX.refl (g : Addr) (H : Hp) : SameX g H H := fun _ _ _ h => h
theorem SameX.trans {g : Addr} {H H1 H2 : Hp} (a : SameX g H H1) (b : SameX g H1 H2) : SameX g H H2 := fun c o n h => b c o n (a c o n h)
theorem SameX.of {g : Addr} {H H1 : Hp} (a : Same H H1) : SameX g H H1 := fun c o _ h => a c o h
theorem sameX_upd {g : Addr} {H : Hp} {o : HO} : SameX g H (upd H g o) := fun b z n e => by
  rw [upd_ne n]
  exact e
theorem same_upd2 {H H1 : Hp} {D : Addr} {o : HO} (hD : H D = none) (s : Same H H1) : Same H (upd H1 D o) := fun b z e => by
  rw [upd_ne (ne_of_none e hD)]
  exact s b z e

/-! ### what a value is -/
/-- the built-in type of a value that is known -/
def tnm (H : Hp) : V → String
  | .non => "NoneType"
  | .bl _ => "bool"
  | .int _ => "int"
  | .str _ => "str"
  | .ref a => match H a with
    | some (.lst _) => "list"
    | some (.tup _) => "tuple"
    | _ => "?"
  | _ => "?"
theorem tnm_tup {H : Hp} {a : Addr} {xs : List V} (h : H a = some (.tup xs)) : tnm H (.ref a) = "tuple" := by
  simp only [tnm, h]
theorem tnm_lst {H : Hp} {a : Addr} {xs : List V} (h : H a = some (.lst xs)) : tnm H (.ref a) = "list" := by
  simp only [tnm, h]
/-- a value whose type is known -/
inductive Kn (H : Hp) : V → Prop
  | non : Kn H .non
  | bl (b : Bool) : Kn H (.bl b)
  | int (i : Int) : Kn H (.int i)
  | str (x : Str) : Kn H (.str x)
  | lst {a : Addr} {xs : List V} (e : H a = some (.lst xs)) : Kn H (.ref a)
  | tup {a : Addr} {xs : List V} (e : H a = some (.tup xs)) : Kn H (.ref a)
theorem Kn.same {H H' : Hp} {v : V} (k : Kn H v) (s : Same H H') : Kn H' v := by
  cases k with
  | non => exact .non
  | bl b => exact .bl b
  | int i => exact .int i
  | str x => exact .str x
  | lst e => exact .lst (s _ _ e)
  | tup e => exact .tup (s _ _ e)
theorem Kn.ty {K : PySem.W.Frag} {H : Hp} {v : V} (k : Kn H v) : TyX K H v (.type (tnm H v)) := by
  cases k with
  | non => exact .base .non
  | bl b => exact .base (.bl b)
  | int i => exact .base (.int i)
  | str x => exact .base (.str x)
  | lst e => rw [tnm_lst e]; exact .base (.lst e)
  | tup e => rw [tnm_tup e]; exact .base (.tup e)
section
variable {X : Cx}
/-- isinstance(v, T), a known value, a built-in type -/
theorem call_isK : CallR X (.builtin "isinstance") (fun xs H Q => ∃ (v : V) (T : String) (b : Bool), xs = [v, .ty T] ∧ Kn H v ∧ kitB (tnm H v) T = some b ∧ Q (.bl b) H) := by
  intro pins s σ H xs us Q I r h
  obtain ⟨v, T, b, rfl, k, e, q⟩ := h
  exact call_isi pins s σ H _ us Q I r ⟨v, .ty T, _, _, b, rfl, .ty T, k.ty, kit_ty e, q⟩
end
/-- a whole number, no Boolean -/
def isW : V → Bool
  | .int _ => true
  | _ => false
/-- a count -/
def isC : V → Bool
  | .int i => decide (0 ≤ i)
  | _ => false
/-- isinstance(v, int) -/
def isI : V → Bool
  | .int _ => true
  | .bl _ => true
  | _ => false
def isBo : V → Bool
  | .bl _ => true
  | _ => false
def isTu (H : Hp) : V → Bool
  | .ref a => match H a with
    | some (.tup _) => true
    | _ => false
  | _ => false
def isLi (H : Hp) : V → Bool
  | .ref a => match H a with
    | some (.lst _) => true
    | _ => false
  | _ => false
theorem kit_int {H : Hp} {v : V} (k : Kn H v) : kitB (tnm H v) "int" = some (isI v) := by
  cases k with
  | non => show kitB "NoneType" "int" = some false; decide +kernel
  | bl b => show kitB "bool" "int" = some true; decide +kernel
  | int i => show kitB "int" "int" = some true; decide +kernel
  | str x => show kitB "str" "int" = some false; decide +kernel
  | lst e => rw [tnm_lst e]; show kitB "list" "int" = some false; decide +kernel
  | tup e => rw [tnm_tup e]; show kitB "tuple" "int" = some false; decide +kernel
theorem kit_bool {H : Hp} {v : V} (k : Kn H v) : kitB (tnm H v) "bool" = some (isBo v) := by
  cases k with
  | non => show kitB "NoneType" "bool" = some false; decide +kernel
  | bl b => show kitB "bool" "bool" = some true; decide +kernel
  | int i => show kitB "int" "bool" = some false; decide +kernel
  | str x => show kitB "str" "bool" = some false; decide +kernel
  | lst e => rw [tnm_lst e]; show kitB "list" "bool" = some false; decide +kernel
  | tup e => rw [tnm_tup e]; show kitB "tuple" "bool" = some false; decide +kernel
theorem kit_tuple {H : Hp} {v : V} (k : Kn H v) : kitB (tnm H v) "tuple" = some (isTu H v) := by
  cases k with
  | non => show kitB "NoneType" "tuple" = some false; decide +kernel
  | bl b => show kitB "bool" "tuple" = some false; decide +kernel
  | int i => show kitB "int" "tuple" = some false; decide +kernel
  | str x => show kitB "str" "tuple" = some false; decide +kernel
  | lst e => rw [tnm_lst e, show isTu H (.ref _) = false by simp only [isTu, e]]; decide +kernel
  | tup e => rw [tnm_tup e, show isTu H (.ref _) = true by simp only [isTu, e]]; decide +kernel
theorem kit_list {H : Hp} {v : V} (k : Kn H v) : kitB (tnm H v) "list" = some (isLi H v) := by
  cases k with
  | non => show kitB "NoneType" "list" = some false; decide +kernel
  | bl b => show kitB "bool" "list" = some false; decide +kernel
  | int i => show kitB "int" "list" = some false; decide +kernel
  | str x => show kitB "str" "list" = some false; decide +kernel
  | lst e => rw [tnm_lst e, show isLi H (.ref _) = true by simp only [isLi, e]]; decide +kernel
  | tup e => rw [tnm_tup e, show isLi H (.ref _) = false by simp only [isLi, e]]; decide +kernel
theorem isTu_tup {H : Hp} {a : Addr} {xs : List V} (e : H a = some (.tup xs)) : isTu H (.ref a) = true := by simp only [isTu, e]
theorem isLi_lst {H : Hp} {a : Addr} {xs : List V} (e : H a = some (.lst xs)) : isLi H (.ref a) = true := by simp only [isLi, e]

/-! ### comprehensions that map -/
/-- n turns, each giving f i and leaving all that was tracked -/
theorem lc_mapW {J : It} {n : Nat} {G : Hp → Prop} {Y : Nat → Hp → V → Hp → Prop} (w : Walk J n G Y) {g : TG} {te : TE} {vs : List Nat} {σ : L2.St} {H1 : Hp} {D : Addr} {Qd : Hp → Prop} (f : Nat → V) (hn : n < sizeLine)
    (hG : ∀ H, Same H1 H → G H)
    (hs : ∀ (i : Nat) (x : V) (H H' : Hp) (R : VK), i < n → Same H1 H → Y i H x H' → (∀ H'', Same H H'' → R (f i) H'') → g x (wipe σ vs) H' fun σ2 H2 => wipe σ2 vs = wipe σ vs ∧ te σ2 H2 R)
    (hD : H1 D = none) (hd : ∀ H : Hp, Same H1 H → H D = some (.lst ((List.range n).map f)) → Qd H) :
    ∃ W : Nat → Nat → Hp → Prop, (∃ m, W 0 m (upd H1 D (.lst []))) ∧ ∀ i m H, W i m H →
      (J.stop i H ∧ Qd H) ∨ (J.go i H ∧ ∃ Nx : Hp → Prop, (∀ H', Nx H' → ∃ m', m' < m ∧ W (i + 1) m' H') ∧ ∀ x H', J.yld i H x H' → g x (wipe σ vs) H' fun σ2 H2 => wipe σ2 vs = wipe σ vs ∧ tYes σ2 H2 fun b H3 =>
        if b = true then te σ2 H3 fun y H4 => ∃ acc, H4 D = some (.lst acc) ∧ acc.length < sizeLine ∧ Nx (upd H4 D (.lst (acc ++ [y]))) else Nx H3) := by
  refine lc_it w (fun i H => Same H1 H ∧ H D = some (.lst ((List.range i).map f)) ∧ i ≤ n) ⟨sameNew hD, upd_same, Nat.zero_le _⟩ (fun i H _ p => hG H p.1) (fun i x H H' hi p y => ?_) fun H p => hd H p.1 p.2.1
  have q := hs i x H H' (fun y H4 => ∃ acc, H4 D = some (.lst acc) ∧ acc.length < sizeLine ∧ (Same H1 (upd H4 D (.lst (acc ++ [y]))) ∧ upd H4 D (.lst (acc ++ [y])) D = some (.lst ((List.range (i + 1)).map f)) ∧ i + 1 ≤ n)) hi p.1 y fun H'' s => by
    refine ⟨_, s D _ p.2.1, ?_, same_upd2 hD (p.1.trans s), ?_, hi⟩
    · rw [List.length_map, List.length_range]
      omega
    · rw [upd_same, List.range_succ, List.map_append]
      rfl
  exact q
theorem range_map_get {α β : Type} (xs : List α) (f : α → β) (d : Nat → β) (h : ∀ (i : Nat) (x : α), xs[i]? = some x → d i = f x) : (List.range xs.length).map d = xs.map f := by
  refine List.ext_getElem? fun i => ?_
  by_cases hi : i < xs.length
  · rw [List.getElem?_map, List.getElem?_map, List.getElem?_range hi, List.getElem?_eq_getElem hi]
    exact congrArg some (h i _ (List.getElem?_eq_getElem hi))
  · rw [List.getElem?_eq_none (by simp; omega), List.getElem?_eq_none (by simp; omega)]
/-- over a tuple -/
theorem lcT_map {K : PySem.W.Frag} {a : Addr} {xs : List V} {j : Nat} {te : TE} {vs : List Nat} {σ : L2.St} {H1 : Hp} {D : Addr} {Qd : Hp → Prop} (f : V → V) (ha : H1 a = some (.tup xs)) (hn : xs.length < sizeLine)
    (hs : ∀ (i : Nat) (x : V) (H : Hp) (R : VK), xs[i]? = some x → Same H1 H → (∀ H', Same H H' → R (f x) H') → wipe ((wipe σ vs).set j (some x)) vs = wipe σ vs ∧ te ((wipe σ vs).set j (some x)) H R)
    (hD : H1 D = none) (hd : ∀ H : Hp, Same H1 H → H D = some (.lst (xs.map f)) → Qd H) :
    ∃ W : Nat → Nat → Hp → Prop, (∃ m, W 0 m (upd H1 D (.lst []))) ∧ ∀ i m H, W i m H →
      ((Itt K a).stop i H ∧ Qd H) ∨ ((Itt K a).go i H ∧ ∃ Nx : Hp → Prop, (∀ H', Nx H' → ∃ m', m' < m ∧ W (i + 1) m' H') ∧ ∀ x H', (Itt K a).yld i H x H' → gName j x (wipe σ vs) H' fun σ2 H2 => wipe σ2 vs = wipe σ vs ∧ tYes σ2 H2 fun b H3 =>
        if b = true then te σ2 H3 fun y H4 => ∃ acc, H4 D = some (.lst acc) ∧ acc.length < sizeLine ∧ Nx (upd H4 D (.lst (acc ++ [y]))) else Nx H3) := by
  have e : (List.range xs.length).map (fun i => f (xs.getD i .non)) = xs.map f := range_map_get xs f _ fun i x h => by rw [List.getD_eq_getElem?_getD, h]; rfl
  refine lc_mapW (walk_tup (K := K) (a := a) (xs := xs)) (fun i => f (xs.getD i .non)) hn (fun H s => .inl (.inl (s _ _ ha))) (fun i x H H' R hi s y q => ?_) hD fun H s q => hd H s (by rw [q, e])
  obtain ⟨rfl, hx⟩ := y
  refine hs i x H' R hx s fun H'' s' => ?_
  have := q H'' s'
  rw [show xs.getD i .non = x by rw [List.getD_eq_getElem?_getD, hx]; rfl] at this
  exact this
/-- over a list -/
theorem lcL_map {K : PySem.W.Frag} {a : Addr} {xs : List V} {j : Nat} {te : TE} {vs : List Nat} {σ : L2.St} {H1 : Hp} {D : Addr} {Qd : Hp → Prop} (f : V → V) (ha : H1 a = some (.lst xs)) (hn : xs.length < sizeLine)
    (hs : ∀ (i : Nat) (x : V) (H : Hp) (R : VK), xs[i]? = some x → Same H1 H → (∀ H', Same H H' → R (f x) H') → wipe ((wipe σ vs).set j (some x)) vs = wipe σ vs ∧ te ((wipe σ vs).set j (some x)) H R)
    (hD : H1 D = none) (hd : ∀ H : Hp, Same H1 H → H D = some (.lst (xs.map f)) → Qd H) :
    ∃ W : Nat → Nat → Hp → Prop, (∃ m, W 0 m (upd H1 D (.lst []))) ∧ ∀ i m H, W i m H →
      ((Itl K a).stop i H ∧ Qd H) ∨ ((Itl K a).go i H ∧ ∃ Nx : Hp → Prop, (∀ H', Nx H' → ∃ m', m' < m ∧ W (i + 1) m' H') ∧ ∀ x H', (Itl K a).yld i H x H' → gName j x (wipe σ vs) H' fun σ2 H2 => wipe σ2 vs = wipe σ vs ∧ tYes σ2 H2 fun b H3 =>
        if b = true then te σ2 H3 fun y H4 => ∃ acc, H4 D = some (.lst acc) ∧ acc.length < sizeLine ∧ Nx (upd H4 D (.lst (acc ++ [y]))) else Nx H3) := by
  have e : (List.range xs.length).map (fun i => f (xs.getD i .non)) = xs.map f := range_map_get xs f _ fun i x h => by rw [List.getD_eq_getElem?_getD, h]; rfl
  refine lc_mapW (walk_list (K := K) (a := a) (xs := xs)) (fun i => f (xs.getD i .non)) hn (fun H s => .inl (.inl (s _ _ ha))) (fun i x H H' R hi s y q => ?_) hD fun H s q => hd H s (by rw [q, e])
  obtain ⟨rfl, hx⟩ := y
  refine hs i x H' R hx s fun H'' s' => ?_
  have := q H'' s'
  rw [show xs.getD i .non = x by rw [List.getD_eq_getElem?_getD, hx]; rfl] at this
  exact this
/-- over a range -/
theorem lcR_map {lo : Int} {n : Nat} {j : Nat} {te : TE} {vs : List Nat} {σ : L2.St} {H1 : Hp} {D : Addr} {Qd : Hp → Prop} (f : Nat → V) (hn : n < sizeLine)
    (hs : ∀ (i : Nat) (H : Hp) (R : VK), i < n → Same H1 H → (∀ H', Same H H' → R (f i) H') → wipe ((wipe σ vs).set j (some (.int (lo + i)))) vs = wipe σ vs ∧ te ((wipe σ vs).set j (some (.int (lo + i)))) H R)
    (hD : H1 D = none) (hd : ∀ H : Hp, Same H1 H → H D = some (.lst ((List.range n).map f)) → Qd H) :
    ∃ W : Nat → Nat → Hp → Prop, (∃ m, W 0 m (upd H1 D (.lst []))) ∧ ∀ i m H, W i m H →
      ((Itr lo n).stop i H ∧ Qd H) ∨ ((Itr lo n).go i H ∧ ∃ Nx : Hp → Prop, (∀ H', Nx H' → ∃ m', m' < m ∧ W (i + 1) m' H') ∧ ∀ x H', (Itr lo n).yld i H x H' → gName j x (wipe σ vs) H' fun σ2 H2 => wipe σ2 vs = wipe σ vs ∧ tYes σ2 H2 fun b H3 =>
        if b = true then te σ2 H3 fun y H4 => ∃ acc, H4 D = some (.lst acc) ∧ acc.length < sizeLine ∧ Nx (upd H4 D (.lst (acc ++ [y]))) else Nx H3) := by
  refine lc_mapW (walk_range (lo := lo) (n := n)) f hn (fun H s => True.intro) (fun i x H H' R hi s y q => ?_) hD fun H s q => hd H s q
  obtain ⟨rfl, rfl⟩ := y
  exact hs i H' R hi s q
theorem range_map_zip {α β γ : Type} (xs : List α) (ys : List β) (hl : xs.length = ys.length) (f : α → β → γ) (d : Nat → γ) (h : ∀ (i : Nat) (x : α) (y : β), xs[i]? = some x → ys[i]? = some y → d i = f x y) : (List.range xs.length).map d = List.zipWith f xs ys := by
  refine List.ext_getElem? fun i => ?_
  by_cases hi : i < xs.length
  · have hi2 : i < ys.length := by omega
    rw [List.getElem?_map, List.getElem?_range hi, List.getElem?_zipWith, List.getElem?_eq_getElem hi, List.getElem?_eq_getElem hi2]
    exact congrArg some (h i _ _ (List.getElem?_eq_getElem hi) (List.getElem?_eq_getElem hi2))
  · rw [List.getElem?_eq_none (by simp; omega), List.getElem?_eq_none (by simp; omega)]
/-- over zip -/
theorem lcZ_map {K : PySem.W.Frag} {k k' : Kd} {a b : Addr} {xs ys : List V} {i1 i2 : Nat} {te : TE} {vs : List Nat} {σ : L2.St} {H1 : Hp} {D : Addr} {Qd : Hp → Prop} (f : V → V → V) (hl : xs.length = ys.length) (hn : xs.length < sizeLine)
    (ha : ∀ H, Same H1 H → SqB K k H a xs ∧ SqB K k' H b ys)
    (hs : ∀ (i : Nat) (x y : V) (H : Hp) (R : VK), xs[i]? = some x → ys[i]? = some y → Same H1 H → (∀ H', Same H H' → R (f x y) H') → wipe (((wipe σ vs).set i1 (some x)).set i2 (some y)) vs = wipe σ vs ∧ te (((wipe σ vs).set i1 (some x)).set i2 (some y)) H R)
    (hD : H1 D = none) (hd : ∀ H : Hp, Same H1 H → H D = some (.lst (List.zipWith f xs ys)) → Qd H) :
    ∃ W : Nat → Nat → Hp → Prop, (∃ m, W 0 m (upd H1 D (.lst []))) ∧ ∀ i m H, W i m H →
      ((ItB K k k' a b).stop i H ∧ Qd H) ∨ ((ItB K k k' a b).go i H ∧ ∃ Nx : Hp → Prop, (∀ H', Nx H' → ∃ m', m' < m ∧ W (i + 1) m' H') ∧ ∀ x H', (ItB K k k' a b).yld i H x H' → gTup K 2 (gCons (gName i1) (gCons (gName i2) gNil)) x (wipe σ vs) H' fun σ2 H2 => wipe σ2 vs = wipe σ vs ∧ tYes σ2 H2 fun b H3 =>
        if b = true then te σ2 H3 fun y H4 => ∃ acc, H4 D = some (.lst acc) ∧ acc.length < sizeLine ∧ Nx (upd H4 D (.lst (acc ++ [y]))) else Nx H3) := by
  have e : (List.range xs.length).map (fun i => f (xs.getD i .non) (ys.getD i .non)) = List.zipWith f xs ys := range_map_zip xs ys hl f _ fun i x y h h' => by
    rw [List.getD_eq_getElem?_getD, List.getD_eq_getElem?_getD, h, h']
    rfl
  refine lc_mapW (walkB (K := K) (k := k) (k' := k') (a := a) (b := b) hl) (fun i => f (xs.getD i .non) (ys.getD i .non)) hn ha (fun i v H H' R hi s y q => ?_) hD fun H s q => hd H s (by rw [q, e])
  obtain ⟨T, x, y, rfl, hT, rfl, hx, hy⟩ := y
  have hx : xs[i]? = some x := hx
  have hy : ys[i]? = some y := hy
  have st : Same H (upd H T (.tup [x, y])) := sameNew hT
  refine ⟨T, [x, y], rfl, .inl (.inl upd_same), rfl, x, [y], rfl, y, [], rfl, rfl, hs i x y _ R hx hy (s.trans st) fun H'' s' => ?_⟩
  have := q H'' (st.trans s')
  rw [show xs.getD i .non = x by rw [List.getD_eq_getElem?_getD, hx]; rfl, show ys.getD i .non = y by rw [List.getD_eq_getElem?_getD, hy]; rfl] at this
  exact this
end CK

set_option Elab.async false
set_option linter.all false
set_option maxRecDepth 100000
set_option maxHeartbeats 2000000
namespace CK
open PySem PySem.Spec PyProof.Rows L2
theorem cutV_drop (xs : List V) (k : Nat) : cutV xs (some (k : Int)) none = xs.drop k := by
  unfold cutV
  rw [HT.sIx_nat xs.length 0 k, HT.sIx_none]
  by_cases h : k ≤ xs.length
  · rw [Nat.min_eq_left h, List.take_of_length_le (by rw [List.length_drop]; exact Nat.le_refl _)]
  · rw [Nat.min_eq_right (by omega), List.drop_of_length_le (Nat.le_refl _), List.drop_of_length_le (by omega), List.take_nil]
theorem cutV_take (xs : List V) (k : Nat) : cutV xs none (some (k : Int)) = xs.take k := by
  unfold cutV
  rw [HT.sIx_nat xs.length xs.length k, HT.sIx_none]
  show (xs.drop 0).take (min k xs.length - 0) = xs.take k
  rw [List.drop_zero, Nat.sub_zero]
  by_cases h : k ≤ xs.length
  · rw [Nat.min_eq_left h]
  · rw [Nat.min_eq_right (by omega), List.take_of_length_le (Nat.le_refl _), List.take_of_length_le (by omega)]
section
variable {X : Cx}
/-- a, b = a pair -/
theorem pg_two {K : PySem.W.Frag} {i j : Nat} {x y : Str} {px py pos : Pos} {k : Nat} (hK : X.K = K) (hc : X.calm = true) (hN : X.N.Nodup) (hi : X.N[i]? = some x) (hj : X.N[j]? = some y) (hx : Loc X.env.scope x) (hy : Loc X.env.scope y)
    (f1 : X.fn x = true ∨ X.env.scope.names.lookup x = some .local := by first | exact .inl rfl | exact .inr rfl)
    (f2 : X.fn y = true ∨ X.env.scope.names.lookup y = some .local := by first | exact .inl rfl | exact .inr rfl) :
    PG X (.Tuple [.Name x px, .Name y py] k pos) (gTup K 2 (gCons (gName i) (gCons (gName j) gNil))) := by
  subst hK
  exact pg_tup hc (pgs_cons (pg_name hN hi hx f1) (pgs_cons (pg_name hN hj hy f2) pgs_nil))
/-- t[k:], a tuple: what is behind, wherever it stands -/
theorem sl_drop : SlR X (fun x lo hi H Q => ∃ (a : Addr) (xs : List V) (k : Nat), x = .ref a ∧ lo = some (k : Int) ∧ hi = none ∧ H a = some (.tup xs) ∧ ∀ p H', Same H H' → H' p = some (.tup (xs.drop k)) → Q (.ref p) H') := by
  intro pins s σ H x v vl vu lo hi sl Q I rx hs pl pu h
  obtain ⟨a, xs, k, rfl, rfl, rfl, ha, q⟩ := h
  refine sl_tupA pins s σ H _ v vl vu _ _ sl Q I rx hs pl pu ⟨a, xs, rfl, .inl (.inl ha), fun z => q a H (Same.refl H) ?_, fun _ p hp => q p _ (sameNew hp) (by rw [upd_same, cutV_drop])⟩
  rw [ha, ← cutV_drop xs k]
  unfold cutV
  rw [z.1, z.2, Nat.sub_zero, List.drop_zero, List.take_length]
/-- t[:k] -/
theorem sl_take : SlR X (fun x lo hi H Q => ∃ (a : Addr) (xs : List V) (k : Nat), x = .ref a ∧ lo = none ∧ hi = some (k : Int) ∧ H a = some (.tup xs) ∧ ∀ p H', Same H H' → H' p = some (.tup (xs.take k)) → Q (.ref p) H') := by
  intro pins s σ H x v vl vu lo hi sl Q I rx hs pl pu h
  obtain ⟨a, xs, k, rfl, rfl, rfl, ha, q⟩ := h
  refine sl_tupA pins s σ H _ v vl vu _ _ sl Q I rx hs pl pu ⟨a, xs, rfl, .inl (.inl ha), fun z => q a H (Same.refl H) ?_, fun _ p hp => q p _ (sameNew hp) (by rw [upd_same, cutV_take])⟩
  rw [ha, ← cutV_take xs k]
  unfold cutV
  rw [z.1, z.2, Nat.sub_zero, List.drop_zero, List.take_length]
/-- t + u, tuples -/
theorem op_catS : OpR X (binaryOp .Add) (fun x y H Q => ∃ (a b : Addr) (xs ys : List V), x = .ref a ∧ y = .ref b ∧ H a = some (.tup xs) ∧ H b = some (.tup ys) ∧ xs.length + ys.length ≤ 1000 ∧
    ∀ p H', Same H H' → H' p = some (.tup (xs ++ ys)) → Q (.ref p) H') := by
  intro pins s σ H x y v u Q I rx ry h
  obtain ⟨a, b, xs, ys, rfl, rfl, ha, hb, hl, q⟩ := h
  refine op_catA pins s σ H _ _ v u Q I rx ry ⟨a, b, xs, ys, rfl, rfl, .inl (.inl ha), .inl (.inl hb), Nat.le_of_lt (small1000 hl), fun e => ?_, fun _ e => ?_, fun _ _ p hp => q p _ (sameNew hp) upd_same⟩
  · subst e
    exact q b H (Same.refl H) hb
  · subst e
    exact q a H (Same.refl H) (by rw [List.append_nil]; exact ha)
/-- t[i], xs[i] of what is tracked (no word of the written part, so that it stands in a comprehension) -/
theorem ix_tupH : IxR X (fun x y H Q => ∃ (p : Addr) (xs : List V) (i : Int) (v : V), x = .ref p ∧ y = .int i ∧ H p = some (.tup xs) ∧ atI xs i = some v ∧ Q v H) := by
  intro ve se pins s σ H x y xv yv Q I rx ry h e
  obtain ⟨p, xs, i, v, e1, e2, hp, e3, q⟩ := h
  exact ix_tup ve se pins s σ H x y xv yv Q I rx ry ⟨p, xs, i, v, e1, e2, .inl (.inl hp), e3, q⟩ e
theorem ix_listH : IxR X (fun x y H Q => ∃ (p : Addr) (xs : List V) (i : Int) (v : V), x = .ref p ∧ y = .int i ∧ H p = some (.lst xs) ∧ atI xs i = some v ∧ Q v H) := by
  intro ve se pins s σ H x y xv yv Q I rx ry h e
  obtain ⟨p, xs, i, v, e1, e2, hp, e3, q⟩ := h
  exact ix_list ve se pins s σ H x y xv yv Q I rx ry ⟨p, xs, i, v, e1, e2, .inl (.inl hp), e3, q⟩ e
theorem cr_sumH (hc : X.calm = true) : CallR X (.builtin "sum") (fun vs H Q => ∃ (a : Addr) (ns : List Int), vs = [V.ref a] ∧ H a = some (.lst (ns.map V.int)) ∧ Q (.int ns.sum) H) := by
  intro pins s σ H xs us Q I r h
  obtain ⟨a, ns, e, ha, q⟩ := h
  exact cr_sum hc pins s σ H xs us Q I r ⟨a, ns, e, .inl (.inl ha), q⟩
theorem call_listL : CallR X (.type "list") (fun xs H Q => ∃ (p : Addr) (ys : List V), xs = [.ref p] ∧ H p = some (.lst ys) ∧ ∀ l, H l = none → Q (.ref l) (upd H l (.lst ys))) := by
  intro pins s σ H xs us Q I r h
  obtain ⟨p, ys, e, hp, q⟩ := h
  exact call_list_of pins s σ H xs us Q I r ⟨p, ys, e, .inl (.inl (.inl hp)), q⟩
/-- tuple(xs) of a list: a new tuple -/
theorem call_tupL : CallR X (.type "tuple") (fun xs H Q => ∃ (p : Addr) (ys : List V), xs = [.ref p] ∧ H p = some (.lst ys) ∧ ∀ l H', Same H H' → H' l = some (.tup ys) → Q (.ref l) H') := by
  intro pins s σ H xs us Q I r h
  obtain ⟨p, ys, rfl, hp, q⟩ := h
  exact call_tuple_of pins s σ H _ us Q I r ⟨p, ys, rfl, .inl ⟨.inl (.inl hp), fun l hl => q l _ (sameNew hl) upd_same⟩⟩
end
end CK

set_option Elab.async false
set_option linter.all false
set_option maxRecDepth 100000
set_option maxHeartbeats 2000000
/-! the laws' generator of numbers: a list of three whole numbers -/
namespace CK
open PySem PySem.Spec PyProof.Rows L2
/-- the generator at g, from which n more numbers may be drawn -/
def Gn (n : Nat) (H : Hp) (g : Addr) : Prop := ∃ a b c : Int, H g = some (.lst [.int a, .int b, .int c]) ∧ 0 ≤ a ∧ 0 ≤ b ∧ b < 2 ^ 31 ∧ 0 ≤ c ∧ c + 8 * n ≤ 2 ^ 40
theorem Gn.le {n m : Nat} {H : Hp} {g : Addr} (h : Gn n H g) (hm : m ≤ n) : Gn m H g := by
  obtain ⟨a, b, c, h1, h2, h3, h4, h5, h6⟩ := h
  exact ⟨a, b, c, h1, h2, h3, h4, h5, by omega⟩
theorem Gn.same {n : Nat} {H H' : Hp} {g : Addr} (h : Gn n H g) (s : Same H H') : Gn n H' g := by
  obtain ⟨a, b, c, h1, r⟩ := h
  exact ⟨a, b, c, s _ _ h1, r⟩
theorem Gn.at {n : Nat} {H : Hp} {g : Addr} (h : Gn n H g) : ∃ xs, H g = some (.lst xs) := by
  obtain ⟨a, b, c, h1, r⟩ := h
  exact ⟨_, h1⟩
theorem Gn.ne {n : Nat} {H : Hp} {g D : Addr} (h : Gn n H g) (hD : H D = none) : D ≠ g := fun e => by
  obtain ⟨xs, h1⟩ := h.at
  rw [e, h1] at hD
  cases hD
theorem Gn.upd {n : Nat} {H : Hp} {g D : Addr} {o : HO} (h : Gn n H g) (hD : D ≠ g) : Gn n (upd H D o) g := by
  obtain ⟨a, b, c, h1, r⟩ := h
  exact ⟨a, b, c, by rw [upd_ne (Ne.symm hD)]; exact h1, r⟩
theorem sameX_new {g : Addr} {H : Hp} {D : Addr} {o : HO} (hD : H D = none) : SameX g H (L2.upd H D o) := .of (sameNew hD)
theorem SameX.upd2 {g D : Addr} {H H1 : Hp} {o : HO} (s : SameX g H H1) (hD : H D = none) : SameX g H (L2.upd H1 D o) := fun b z n e => by
  rw [upd_ne (ne_of_none e hD)]
  exact s b z n e
theorem SameX.tup {g a : Addr} {H H' : Hp} {xs : List V} {n : Nat} (s : SameX g H H') (G : Gn n H g) (h : H a = some (.tup xs)) : H' a = some (.tup xs) := s a _ (fun e => by
  obtain ⟨ys, h1⟩ := G.at
  rw [e, h1] at h
  cases h) h
theorem ix_at {n j : Nat} (h : j < n) : ixN n (j : Int) = some j := by
  unfold ixN
  rw [if_pos (by omega), if_pos (by omega)]
  rfl
/-- a comprehension that draws: its numbers stay within most -/
theorem lcD_draw {lo : Int} {g : Addr} {n cnt j : Nat} {most : Int} {te : TE} {vs : List Nat} {σ : L2.St} {H1 : Hp} {D : Addr} {Qd : Hp → Prop} (hc : cnt < sizeLine) (hD : H1 D = none) (hg : Gn (n + cnt) H1 g)
    (hs : ∀ (i : Nat) (H : Hp) (R : VK), i < cnt → SameX g H1 H → Gn (n + (cnt - (i + 1)) + 1) H g → (∀ (r : Int) H', SameX g H H' → Gn (n + (cnt - (i + 1))) H' g → 0 ≤ r → r ≤ most → R (.int r) H') →
      wipe ((wipe σ vs).set j (some (.int (lo + i)))) vs = wipe σ vs ∧ te ((wipe σ vs).set j (some (.int (lo + i)))) H R)
    (hd : ∀ (H : Hp) (ns : List Int), SameX g H1 H → Gn n H g → H D = some (.lst (ns.map V.int)) → ns.length = cnt → (∀ x ∈ ns, 0 ≤ x ∧ x ≤ most) → Qd H) :
    ∃ W : Nat → Nat → Hp → Prop, (∃ m, W 0 m (L2.upd H1 D (.lst []))) ∧ ∀ i m H, W i m H →
      ((Itr lo cnt).stop i H ∧ Qd H) ∨ ((Itr lo cnt).go i H ∧ ∃ Nx : Hp → Prop, (∀ H', Nx H' → ∃ m', m' < m ∧ W (i + 1) m' H') ∧ ∀ x H', (Itr lo cnt).yld i H x H' → gName j x (wipe σ vs) H' fun σ2 H2 => wipe σ2 vs = wipe σ vs ∧ tYes σ2 H2 fun b H3 =>
        if b = true then te σ2 H3 fun y H4 => ∃ acc, H4 D = some (.lst acc) ∧ acc.length < sizeLine ∧ Nx (L2.upd H4 D (.lst (acc ++ [y]))) else Nx H3) := by
  have hDg := hg.ne hD
  refine lc_range (fun i H => SameX g H1 H ∧ Gn (n + (cnt - i)) H g ∧ i ≤ cnt ∧ ∃ ns : List Int, H D = some (.lst (ns.map V.int)) ∧ ns.length = i ∧ ∀ x ∈ ns, 0 ≤ x ∧ x ≤ most)
    ⟨sameX_new hD, hg.upd hDg, Nat.zero_le _, [], upd_same, rfl, fun x h => absurd h List.not_mem_nil⟩ (fun i H hi p => ?_) fun H p => ?_
  · obtain ⟨s, G, _, ns, hL, hl, hb⟩ := p
    have G1 : Gn (n + (cnt - (i + 1)) + 1) H g := by
      have e : n + (cnt - (i + 1)) + 1 = n + (cnt - i) := by omega
      rw [e]
      exact G
    refine hs i H _ hi s G1 fun r H' s' G' h0 h1 => ⟨_, s' D _ hDg hL, by rw [List.length_map]; omega, (s.trans s').upd2 hD, G'.upd hDg, hi, ns ++ [r], ?_, ?_, fun x hx => ?_⟩
    · rw [upd_same, List.map_append]
      rfl
    · rw [List.length_append, hl]
      rfl
    · rcases List.mem_append.mp hx with z | z
      · exact hb x z
      · rw [List.mem_singleton.mp z]
        exact ⟨h0, h1⟩
  · obtain ⟨s, G, _, ns, hL, hl, hb⟩ := p
    rw [Nat.sub_self] at G
    exact hd H ns s G hL hl hb
end CK

set_option Elab.async false
set_option linter.all false
set_option maxRecDepth 100000
set_option maxHeartbeats 2000000
namespace CK
open PySem PySem.Spec PyProof.Rows L2
/-! ### data that are compared -/
def dI (ns : List Int) : PyData := .tuple (ns.map PyData.int)
theorem lay_ints : ∀ ns : List Int, PyData.canLayAll0 (ns.map PyData.int) = true
  | [] => by simp [PyData.canLayAll0]
  | n :: ns => by
    rw [List.map_cons, PyData.canLayAll0, lay_ints ns]
    simp [PyData.canLay0]
theorem deep_ints : ∀ ns : List Int, PyData.depthAll (ns.map PyData.int) = 0
  | [] => by simp [PyData.depthAll]
  | n :: ns => by
    rw [List.map_cons, PyData.depthAll, deep_ints ns]
    simp [PyData.depth]
theorem lay_dI (ns : List Int) : (dI ns).canLay0 = true := by
  unfold dI
  rw [PyData.canLay0]
  exact lay_ints ns
theorem deep_dI (ns : List Int) : (dI ns).depth = 1 := by
  unfold dI
  rw [PyData.depth, deep_ints]
theorem shaped_dI (ns : List Int) : SeqAt.shaped (dI ns) = true := by
  unfold SeqAt.shaped
  rw [lay_dI, deep_dI]
  rfl
theorem lay_forms : ∀ fs : List (List Int), PyData.canLayAll0 (fs.map dI) = true
  | [] => by simp [PyData.canLayAll0]
  | f :: fs => by
    rw [List.map_cons, PyData.canLayAll0, lay_forms fs, lay_dI]
    rfl
theorem deep_forms : ∀ fs : List (List Int), PyData.depthAll (fs.map dI) ≤ 1
  | [] => by simp [PyData.depthAll]
  | f :: fs => by
    have := deep_forms fs
    rw [List.map_cons, PyData.depthAll, deep_dI]
    omega
theorem shaped_forms (fs : List (List Int)) : SeqAt.shaped (.list (fs.map dI)) = true := by
  unfold SeqAt.shaped
  rw [PyData.canLay0, lay_forms, PyData.depth]
  have := deep_forms fs
  rw [decide_eq_true (by omega)]
  rfl
section
variable {K : PySem.W.Frag} {H : Hp}
theorem dpAll_ints : ∀ ns : List Int, DpAll K H (ns.map V.int) (ns.map PyData.int)
  | [] => .nil
  | n :: ns => .cons (.int n) (dpAll_ints ns)
theorem dp_ints {a : Addr} {ns : List Int} (h : H a = some (.tup (ns.map V.int))) : Dp K H (.ref a) (dI ns) := .tup (.inl (.inl h)) (dpAll_ints ns)
end
section
variable {X : Cx}
/-- x != y, of equal data -/
theorem op_neSame (hu : X.A.units + 64 < cLine) : OpR X (compareOp .NotEq) (fun x y H Q => ∃ d, Dp X.K H x d ∧ Dp X.K H y d ∧ SeqAt.shaped d = true ∧ Q (.bl false) H) := by
  intro pins s σ H x y v u Q I rx ry h
  obtain ⟨d, h1, h2, h3, q⟩ := h
  refine op_neD hu pins s σ H x y v u Q I rx ry ⟨d, d, h1, h2, h3, h3, ?_⟩
  rw [SeqAt.eqv_refl d (SeqAt.canLay_of_shaped h3)]
  exact q
end
/-! ### comprehensions that map, by the turn's number -/
theorem lcZ_mapI {K : PySem.W.Frag} {k k' : Kd} {a b : Addr} {xs ys : List V} {i1 i2 : Nat} {te : TE} {vs : List Nat} {σ : L2.St} {H1 : Hp} {D : Addr} {Qd : Hp → Prop} (f : Nat → V) (hl : xs.length = ys.length) (hn : xs.length < sizeLine)
    (ha : ∀ H, Same H1 H → SqB K k H a xs ∧ SqB K k' H b ys)
    (hs : ∀ (i : Nat) (x y : V) (H : Hp) (R : VK), xs[i]? = some x → ys[i]? = some y → Same H1 H → (∀ H', Same H H' → R (f i) H') → wipe (((wipe σ vs).set i1 (some x)).set i2 (some y)) vs = wipe σ vs ∧ te (((wipe σ vs).set i1 (some x)).set i2 (some y)) H R)
    (hD : H1 D = none) (hd : ∀ H : Hp, Same H1 H → H D = some (.lst ((List.range xs.length).map f)) → Qd H) :
    ∃ W : Nat → Nat → Hp → Prop, (∃ m, W 0 m (upd H1 D (.lst []))) ∧ ∀ i m H, W i m H →
      ((ItB K k k' a b).stop i H ∧ Qd H) ∨ ((ItB K k k' a b).go i H ∧ ∃ Nx : Hp → Prop, (∀ H', Nx H' → ∃ m', m' < m ∧ W (i + 1) m' H') ∧ ∀ x H', (ItB K k k' a b).yld i H x H' → gTup K 2 (gCons (gName i1) (gCons (gName i2) gNil)) x (wipe σ vs) H' fun σ2 H2 => wipe σ2 vs = wipe σ vs ∧ tYes σ2 H2 fun b H3 =>
        if b = true then te σ2 H3 fun y H4 => ∃ acc, H4 D = some (.lst acc) ∧ acc.length < sizeLine ∧ Nx (upd H4 D (.lst (acc ++ [y]))) else Nx H3) := by
  refine lc_mapW (walkB (K := K) (k := k) (k' := k') (a := a) (b := b) hl) f hn ha (fun i v H H' R hi s y q => ?_) hD hd
  obtain ⟨T, x, y, rfl, hT, rfl, hx, hy⟩ := y
  have hx : xs[i]? = some x := hx
  have hy : ys[i]? = some y := hy
  have st : Same H (upd H T (.tup [x, y])) := sameNew hT
  exact ⟨T, [x, y], rfl, .inl (.inl upd_same), rfl, x, [y], rfl, y, [], rfl, rfl, hs i x y _ R hx hy (s.trans st) fun H'' s' => q H'' (st.trans s')⟩
theorem lcL_mapI {K : PySem.W.Frag} {a : Addr} {xs : List V} {j : Nat} {te : TE} {vs : List Nat} {σ : L2.St} {H1 : Hp} {D : Addr} {Qd : Hp → Prop} (f : Nat → V) (ha : H1 a = some (.lst xs)) (hn : xs.length < sizeLine)
    (hs : ∀ (i : Nat) (x : V) (H : Hp) (R : VK), xs[i]? = some x → Same H1 H → (∀ H', Same H H' → R (f i) H') → wipe ((wipe σ vs).set j (some x)) vs = wipe σ vs ∧ te ((wipe σ vs).set j (some x)) H R)
    (hD : H1 D = none) (hd : ∀ H : Hp, Same H1 H → H D = some (.lst ((List.range xs.length).map f)) → Qd H) :
    ∃ W : Nat → Nat → Hp → Prop, (∃ m, W 0 m (upd H1 D (.lst []))) ∧ ∀ i m H, W i m H →
      ((Itl K a).stop i H ∧ Qd H) ∨ ((Itl K a).go i H ∧ ∃ Nx : Hp → Prop, (∀ H', Nx H' → ∃ m', m' < m ∧ W (i + 1) m' H') ∧ ∀ x H', (Itl K a).yld i H x H' → gName j x (wipe σ vs) H' fun σ2 H2 => wipe σ2 vs = wipe σ vs ∧ tYes σ2 H2 fun b H3 =>
        if b = true then te σ2 H3 fun y H4 => ∃ acc, H4 D = some (.lst acc) ∧ acc.length < sizeLine ∧ Nx (upd H4 D (.lst (acc ++ [y]))) else Nx H3) := by
  refine lc_mapW (walk_list (K := K) (a := a) (xs := xs)) f hn (fun H s => .inl (.inl (s _ _ ha))) (fun i x H H' R hi s y q => ?_) hD hd
  obtain ⟨rfl, hx⟩ := y
  exact hs i x H' R hx s q
end CK

set_option Elab.async false
set_option linter.all false
set_option maxRecDepth 100000
set_option maxHeartbeats 2000000
/-! own classes: their facts, their methods' promises by their bodies -/
namespace CK
open PySem PySem.Spec PyProof.Rows L2
/-- a method's def as it stands behind the top -/
structure MetF (K : PySem.W.Frag) (C : Addr) (m q : Str) (st : Stmt) (ps : List Str) : Prop where
  ex : ∃ (f : Addr) (fd : FuncData), C8.Fun K m q st f fd ∧ Meth K C m f ∧ Binds K fd ps []
/-- a class as it stands -/
structure ClF (K : PySem.W.Frag) (mg : Str → Option Value) (x : Str) (C : Addr) : Prop where
  mgC : mg x = some (.ref C)
  makes : PySem.W.makesIn K C = true
  kp : PySem.W.keepIn K (.ref C) = true
  ins : C8.InsC K C
theorem metF_mk {K : PySem.W.Frag} {mg : Str → Option Value} {x : Str} {C : Addr} (_ : ClF K mg x C) (m q : Str) (st : Stmt) (ps : List Str) {f : Addr} {od an : Option Addr} {oc kV dc pm cd ct : Value} {sl : Array (Option Value)}
    (a : PySem.W.findIn K (.ref C) m = some (some (.ref f))) (i : PySem.W.isFn K (.ref f) = true)
    (l : K.lookup f = some ⟨oc, od, .func (PySem.W.fnOf m q (C8.fnArgs st) (C8.fnBody st) (C8.fnScope st) .none kV dc pm an cd ct), sl⟩)
    (c : PySem.W.codeIn K cd q = true) (k : PySem.W.keepIn K (.ref f) = true)
    (hb : ∀ (kV doc pm : Value) (an : Option Addr) (cdv ct : Value) (us : List Value), us.length = ps.length →
      bindArgs (PySem.W.fnOf m q (C8.fnArgs st) (C8.fnBody st) (C8.fnScope st) .none kV doc pm an cdv ct) ⟨us, []⟩ = pure (ps.zip us)) : MetF K C m q st ps :=
  ⟨f, _, ⟨oc, od, .none, kV, dc, pm, an, cd, ct, sl, rfl, l, c⟩, ⟨a, i, k⟩, C8.Fun.binds ⟨oc, od, .none, kV, dc, pm, an, cd, ct, sl, rfl, l, c⟩ rfl hb⟩
theorem clF_mk {K : PySem.W.Frag} {h : Heap} {mg : Str → Option Value} {x : Str} {C : Addr} (X : K.In h) (G : h.Ns mainGlobals mg)
    (a : PySem.W.nsIn K mainGlobals x = some (some (.ref C))) (pg : PySem.W.plainGet K C Str.empty = true) (hd : PySem.W.hasDictIn K C = true) (po : PySem.W.plainOver K C = true)
    (sa : PySem.W.findIn K (.ref C) "__setattr__" = some (some (.builtin "object.__setattr__"))) (mk : PySem.W.makesIn K C = true) (kp : PySem.W.keepIn K (.ref C) = true)
    (ha : PySem.W.findIn K (.ref C) "__class__" = some (some (.builtin "object.__class__"))) (hn : PySem.W.specialIn K (.builtin "object.__class__") "__get__" = some (some (.builtin "getset_descriptor.__get__")))
    (htk : PySem.W.takesIn K (.builtin "object.__class__") = some true) (hm : PySem.W.mroIn K C (.type "object") = some true) : ClF K mg x C :=
  ⟨PySem.W.mg_of X G a, mk, kp, ⟨⟨pg, hd, po, sa⟩, ha, hn, htk, hm, if_pos (beq_self_eq_true _)⟩⟩
theorem with_cls {K : PySem.W.Frag} {h : Heap} {mg : Str → Option Value} (_ : K.In h) (x : Str) {C : Addr} {R : Prop} (d : ClF K mg x C) (r : ClF K mg x C → R) : R := r d
theorem with_met {K : PySem.W.Frag} {mg : Str → Option Value} {x : Str} {C : Addr} (_ : ClF K mg x C) (m q : Str) (st : Stmt) (ps : List Str) {R : Prop} (d : MetF K C m q st ps) (r : MetF K C m q st ps → R) : R := r d
section
variable {P : Program} {w : World} {K : PySem.W.Frag} {mg : Str → Option Value} {base : Heap} {x : Str} {C : Addr}
theorem metF {m q : Str} {st : Stmt} {N ps : List Str} {k : Nat} {sp : Sp} (c : ClF K mg x C) (D : MetF K C m q st ps) (S : FnScope N ps (C8.fnScope st))
    (len : ∀ vs H Q E, sp vs H Q E → vs.length = ps.length)
    (hbody : ∀ (f : Addr) (cdv : Value) (A : Around) (outer : List Env) (s : Shared) (H : Hp) (vs : List V) (Q : VK) (E : XK), Room k (A.deeper (envOfC q (C8.fnScope st) s.heap.objs.size f cdv)) → sp vs H Q E →
      ∃ t, PSs (cxOf C8.CX0 P w K mg base N q (C8.fnScope st) f cdv A outer s H E).nox (C8.fnBody st) t ∧ t { nx := fun _ H' => Q .non H', rt := Q } (start N vs) H) : C8.Met P w K mg base (k + 1) C m sp [] := by
  obtain ⟨f, fd, F, me, b⟩ := D.ex
  exact C8.met0 c.ins.cl me F b S len (hbody f)
theorem makF {q : Str} {st : Stmt} {N ps : List Str} {k : Nat} {sp : Sp} (c : ClF K mg x C) (D : MetF K C "__init__" q st ps) (S : FnScope N ps (C8.fnScope st))
    (len : ∀ vs H Q E, sp vs H Q E → vs.length = ps.length)
    (hbody : ∀ (f : Addr) (cdv : Value) (A : Around) (outer : List Env) (s : Shared) (H : Hp) (vs : List V) (Q : VK) (E : XK), Room k (A.deeper (envOfC q (C8.fnScope st) s.heap.objs.size f cdv)) → sp vs H Q E →
      ∃ t, PSs (cxOf C8.CX0 P w K mg base N q (C8.fnScope st) f cdv A outer s H E).nox (C8.fnBody st) t ∧ t { nx := fun _ H' => Q .non H', rt := Q } (start N vs) H) : C8.Mak P w K mg base (k + 1) x C sp [] := by
  obtain ⟨f, fd, F, me, b⟩ := D.ex
  exact C8.mak0 ⟨c.makes, me.at_, me.fn, c.kp⟩ c.mgC F b .nil S len (hbody f)
end
end CK
namespace CK
open PySem L2
theorem noA {K : PySem.W.Frag} {mg : Str → Option Value} {x : Str} {C : Addr} (_ : ClF K mg x C) (f : Str) (h : PySem.W.findIn K (.ref C) f = some none) : NoAttr K C f := h
end CK

set_option Elab.async false
set_option linter.all false
set_option maxRecDepth 100000
set_option maxHeartbeats 2000000
/-! texts by their code points -/
namespace CK
open PySem PySem.Spec PyProof.Rows L2 SX
theorem rev_S (z : List Nat) : (⟨((Builtin.Str.strSliceIndices none none (-1) (S z).length).filterMap ((S z).cps[·]?)).toArray⟩ : Str) = S z.reverse := by
  refine TL.ext_tl ?_
  show ((Builtin.Str.strSliceIndices none none (-1) (S z).length).filterMap ((S z).cps[·]?)).toArray.toList = z.reverse
  rw [List.toList_toArray, S_len, picked_rev, filterMap_get, List.map_map]
  · refine List.ext_getElem (by simp) fun i h1 h2 => ?_
    have hi : i < z.length := by simpa using h1
    rw [List.getElem_map, List.getElem_range, List.getElem_reverse]
    show (S z).cps.getD (z.length - 1 - i) 0 = _
    have : z.length - 1 - i < z.length := by omega
    simp [Array.getD, S, this]
  · intro i hi
    obtain ⟨k, hk, rfl⟩ := List.mem_map.mp hi
    have := List.mem_range.mp hk
    show z.length - 1 - k < z.length
    omega
section
variable {X : Cx}
/-- s[::-1] -/
def tRevS (te : TE) : TE := fun σ H Q => te σ H fun x H1 => ∃ z : List Nat, x = .str (S z) ∧ z.length ≤ sizeLine ∧ Q (.str (S z.reverse)) H1
theorem pe_revS {e : Expr} {te : TE} {k : Nat} {p1 p2 p3 pos : Pos} (he : PE X e te) : PE X (.Subscript e (.Slice none none (some (.UnaryOp .USub (.Constant (.int 1) k p1) p2)) p3) pos) (tRevS te) := by
  refine ⟨fun pins s σ H Q I h => ?_⟩
  refine Subscript_ (thn (he.run pins s σ H _ I h) fun v s1 ⟨x, H1, I1, r1, q1⟩ => ?_)
  obtain ⟨z, ex, hz, q⟩ := q1
  subst ex
  obtain ⟨t, rfl⟩ := r1
  have hst : PO X (some (.UnaryOp .USub (.Constant (.int 1) k p1) p2)) (tPart (tUn (rU fun i => .int (-i)) (tC (.int 1)))) := po_some (pe_un un_neg pe_int)
  refine wpAny_Slice (thn (po_none.run pins s1 σ H1 (fun o H2 => o = none ∧ H2 = H1) I1 ⟨rfl, rfl⟩) fun vl s2 ⟨l, H2, I2, pl, el, e2⟩ => ?_)
  subst el e2
  refine thn (po_none.run pins s2 σ H2 (fun o H3 => o = none ∧ H3 = H2) I2 ⟨rfl, rfl⟩) fun vu s3 ⟨u, H3, I3, pu, eu, e3⟩ => ?_
  subst eu e3
  refine thn (hst.run pins s3 σ H3 (fun o H4 => o = some (-1) ∧ H4 = H3) I3 ⟨1, rfl, -1, rfl, rfl, rfl⟩) fun vs s4 ⟨o, H4, I4, ps, eo, e4⟩ => ?_
  subst eo e4
  have I5 : Inv X pins σ H4 { s4 with heap := s4.heap.push { cls := .type "slice", data := .fields #[vl, vu, vs] } } := I4.kept (t' := s4.toks) fun b ob q => Heap.get?_push_of_some _ q
  show wpAny (model X.prog X.w) X.A (subscriptTail e (.Slice none none (some (.UnaryOp .USub (.Constant (.int 1) k p1) p2)) p3) (.str (S z) t) (.ref s4.heap.objs.size)) (EP X pins σ Q) X.xe { s4 with heap := s4.heap.push { cls := .type "slice", data := .fields #[vl, vu, vs] } }
  refine tail_any (ops := [.str (S z) t, .ref s4.heap.objs.size]) (typeIs_str _ _ _) F.slot_str_getitem.lookup ?_ (by with_unfolding_all rfl)
  obtain ⟨l, rfl, el⟩ := IsPart.raw pl
  obtain ⟨u, rfl, eu⟩ := IsPart.raw pu
  obtain ⟨st, rfl, es⟩ := IsPart.raw ps
  refine wpAny_getItem_str_slice (l := l) (u := u) (st := st) ⟨_, Heap.get?_push_size _ rfl, rfl, rfl⟩ (by rw [es]; decide) ?_
  unfold sliceMade slicePicked
  rw [es, el, eu]
  have hr := rev_S z
  show Made.post (.str ⟨((Builtin.Str.strSliceIndices none none (-1) (S z).length).filterMap ((S z).cps[·]?)).toArray⟩) _ _
  rw [hr]
  exact ⟨by rw [S_len, List.length_reverse]; exact hz, .str _, H4, I5.tok _, ⟨_, rfl⟩, q⟩
/-- s * n -/
theorem foldl_arr {α : Type} : ∀ (n : Nat) (w : Array α) (acc : Array α), ((List.replicate n w).foldl (fun a b => a ++ b) acc).toList = acc.toList ++ (List.replicate n w.toList).flatten
  | 0, _, _ => by simp
  | n + 1, w, acc => by
    rw [List.replicate_succ, List.foldl_cons, foldl_arr n w (acc ++ w), List.replicate_succ, List.flatten_cons, Array.toList_append, List.append_assoc]
theorem op_repS : OpR X (binaryOp .Mult) (fun x y H Q => ∃ (z : List Nat) (n : Nat), x = .str (S z) ∧ y = .int n ∧ n ≤ 1000 ∧ z.length ≤ 1000 ∧ Q (.str (S (List.replicate n z).flatten)) H) := by
  intro pins s σ H x y v u Q I rx ry h
  obtain ⟨z, n, rfl, rfl, hn, hz, q⟩ := h
  obtain ⟨t, rfl⟩ := rx
  obtain ⟨t', rfl⟩ := ry
  have hl : (List.replicate n z).flatten.length = n * z.length := by simp
  have hm : n * z.length ≤ 1000 * 1000 := Nat.mul_le_mul hn hz
  refine P.mul_str (by simp; omega) (fun h1 h2 => ?_) (fun h1 h2 => ?_) ?_
  · rw [S_len]
    have hn0 : (0 : Int) < n := by omega
    have h3 : (1000 : Int) ≤ (2 ^ 63 - 1) / (n : Int) := by
      refine (Int.le_ediv_iff_mul_le hn0).mpr ?_
      have : (1000 : Int) * n ≤ 1000 * 1000 := Int.mul_le_mul_of_nonneg_left (by omega) (by decide)
      omega
    omega
  · rw [S_len, Int.toNat_natCast, Nat.mul_comm]
    have : n * z.length ≤ sizeLine := by rw [sizeLine_eq]; omega
    unfold Builtin.Str.tooLong
    simp
    omega
  · by_cases h1 : (n : Int) < 1
    · rw [if_pos h1]
      have e : n = 0 := by omega
      subst e
      exact ⟨by decide, .str _, H, I.tok _, ⟨_, rfl⟩, q⟩
    · rw [if_neg h1]
      by_cases h2 : ((n : Int) == 1 || (S z).length == 0) = true
      · rw [if_pos h2]
        have e : (List.replicate n z).flatten = z := by
          rw [Bool.or_eq_true, beq_iff_eq, beq_iff_eq, S_len] at h2
          rcases h2 with h2 | h2
          · have : n = 1 := by omega
            subst this
            simp
          · rw [List.length_eq_zero_iff.mp h2]
            simp
        rw [e] at q
        exact ⟨.str _, H, I, ⟨_, rfl⟩, q⟩
      · rw [if_neg h2]
        have e : (⟨(List.replicate (n : Int).toNat (S z).cps).foldl (· ++ ·) #[]⟩ : Str) = S (List.replicate n z).flatten := by
          refine TL.ext_tl ?_
          show ((List.replicate (n : Int).toNat (S z).cps).foldl (· ++ ·) #[]).toList = _
          rw [Int.toNat_natCast, foldl_arr]
          rfl
        rw [e]
        exact ⟨by rw [S_len, hl, sizeLine_eq]; omega, .str _, H, I.tok _, ⟨_, rfl⟩, q⟩
/-- a % b, a // b of natural numbers -/
theorem fmodN (k n : Nat) : Int.fmod (k : Int) (n : Int) = ((k % n : Nat) : Int) := by
  rw [Int.fmod_eq_emod_of_nonneg _ (by omega)]
  rfl
theorem op_modZ : OpR X (binaryOp .Mod) (fun x y H Q => ∃ (k n : Nat), x = .int k ∧ y = .int n ∧ n ≠ 0 ∧ Q (.int ((k % n : Nat) : Int)) H) := by
  intro pins s σ H x y v u Q I rx ry h
  obtain ⟨k, n, e1, e2, h0, q⟩ := h
  refine op_modN pins s σ H x y v u Q I rx ry ⟨_, _, e1, e2, by omega, ?_⟩
  rw [← fmodN] at q
  exact q
theorem op_fdivZ : OpR X (binaryOp .FloorDiv) (fun x y H Q => ∃ (k n : Nat), x = .int k ∧ y = .int n ∧ n ≠ 0 ∧ n < 2 ^ 29 ∧ Q (.int ((k / n : Nat) : Int)) H) := by
  intro pins s σ H x y v u Q I rx ry h
  obtain ⟨k, n, e1, e2, h0, h1, q⟩ := h
  refine op_fdivN pins s σ H x y v u Q I rx ry ⟨_, _, e1, e2, ⟨by omega, by omega⟩, ?_⟩
  have : Int.fdiv (k : Int) (n : Int) = ((k / n : Nat) : Int) := by
    rw [Int.fdiv_eq_ediv_of_nonneg _ (by omega)]
    rfl
  rw [← this] at q
  exact q
theorem op_mulZ : OpR X (binaryOp .Mult) (fun x y H Q => ∃ (k n : Nat), x = .int k ∧ y = .int n ∧ k < 2 ^ 1000 ∧ n < 2 ^ 1000 ∧ Q (.int ((k * n : Nat) : Int)) H) := by
  intro pins s σ H x y v u Q I rx ry h
  obtain ⟨k, n, e1, e2, h0, h1, q⟩ := h
  refine op_mulW pins s σ H x y v u Q I rx ry ⟨_, _, e1, e2, wide_mul (a := 1000) (b := 1000) h0 h1 (by decide) (by decide) (by decide), ?_⟩
  rw [Int.natCast_mul] at q
  exact q
/-- len of a list that is tracked (it may stand in a comprehension) -/
theorem call_lenH : CallR X (.builtin "len") (fun xs H Q => ∃ (p : Addr) (ys : List V), xs = [.ref p] ∧ H p = some (.lst ys) ∧ Q (.int (ys.length : Nat)) H) := by
  intro pins s σ H xs us Q I r h
  obtain ⟨p, ys, e, hp, q⟩ := h
  exact call_len_seq pins s σ H xs us Q I r ⟨p, ys, e, .inl (.inl (.inl hp)), q⟩
end
end CK

set_option Elab.async false
set_option linter.all false
set_option maxRecDepth 100000
set_option maxHeartbeats 2000000
/-! any of a tuple of numbers -/
namespace CK
open PySem PySem.Spec PyProof.Rows L2 SX
theorem plain_ints : ∀ ns : List Int, PyData.plainAll (ns.map PyData.int) = true
  | [] => by simp [PyData.plainAll]
  | n :: ns => by
    rw [List.map_cons, PyData.plainAll, plain_ints ns]
    simp [PyData.plain]
theorem any_ints (ns : List Nat) : ((ns.map fun n : Nat => ((n : Nat) : Int)).map PyData.int).any PyData.truthy = ns.any fun x => decide (x ≠ 0) := by
  induction ns with
  | nil => rfl
  | cons n ns ih =>
    rw [List.map_cons, List.map_cons, List.any_cons, List.any_cons, ih]
    congr 1
    show ((n : Int) != 0) = decide (n ≠ 0)
    by_cases h : n = 0
    · subst h
      rfl
    · rw [decide_eq_true h, bne_iff_ne]
      omega
section
variable {X : Cx}
theorem cr_anyN (hc : X.calm = true) : CallR X (.builtin "any") (fun vs H Q => ∃ (a : Addr) (ns : List Nat), vs = [V.ref a] ∧ H a = some (.tup (ns.map fun n : Nat => V.int (n : Nat))) ∧ Q (.bl (ns.any fun x => decide (x ≠ 0))) H) := by
  intro pins s σ H vs us Q I r h
  obtain ⟨a, ns, rfl, ha, q⟩ := h
  obtain ⟨its, rv, hT, _⟩ := I.tuple (.inl (.inl ha))
  rw [Vals.ref1 r]
  have e : (ns.map fun n : Nat => V.int (n : Nat)) = (ns.map fun n : Nat => ((n : Nat) : Int)).map V.int := by
    rw [List.map_map]
    rfl
  rw [e] at rv
  obtain ⟨as, hr⟩ := Dp.readsAll I _ _ its (dpAll_ints _) rv
  refine PySem.W.any_tuple_data (I.ok.hd hc) hT (by rw [List.toList_toArray]; exact hr) (plain_ints _) (fun x hx => ?_) fun h' tk hk => ?_
  · obtain ⟨i, _, rfl⟩ := List.mem_map.mp hx
    trivial
  · rw [any_ints]
    exact ⟨.bl _, H, I.kept (t' := tk) hk, rfl, q⟩
end
end CK
namespace CK
open PySem PySem.Spec PyProof.Rows L2 SX
section
variable {X : Cx}
/-- a whole number and a Boolean -/
theorem op_addB : OpR X (binaryOp .Add) (fun x y H Q => ∃ (i : Int) (b : Bool), x = .int i ∧ y = .bl b ∧ Q (.int (i + if b = true then (1 : Int) else 0)) H) := by
  intro pins s σ H x y v u Q I rx ry h
  obtain ⟨i, b, rfl, rfl, q⟩ := h
  obtain ⟨t, rfl⟩ := rx
  obtain rfl : u = Value.bool b := ry
  exact add_int_bool ⟨.int _, H, I.tok _, ⟨_, rfl⟩, q⟩
end
end CK
namespace CK
open PySem PySem.Spec PyProof.Rows L2 SX
theorem vals_of_get : ∀ (vs : List V) (us : List Value), us.length = vs.length → (∀ (j : Nat) (v : V) (u : Value), vs[j]? = some v → us[j]? = some u → RelV v u) → Vals vs us
  | [], [], _, _ => .nil
  | [], _ :: _, h, _ => by simp at h
  | _ :: _, [], h, _ => by simp at h
  | v :: vs, u :: us, h, g => .cons (g 0 v u rfl rfl) (vals_of_get vs us (by simpa using h) fun j a b ha hb => g (j + 1) a b (by simpa using ha) (by simpa using hb))
section
variable {X : Cx}
/-- list(text): its letters -/
theorem call_listS (hc : X.calm = true) : CallR X (.type "list") (fun xs H Q => ∃ z : List Nat, xs = [.str (S z)] ∧ z.length ≤ 1000000 ∧ ∀ l, H l = none → Q (.ref l) (upd H l (.lst (z.map fun c => V.str (S [c]))))) := by
  intro pins s σ H xs us Q I r h
  obtain ⟨z, rfl, hz, q⟩ := h
  obtain ⟨u, rfl, rx⟩ := vals1 r
  obtain ⟨t, rfl⟩ := rx
  have sz : (S z).cps.size = z.length := S_len z
  refine call_list_str (I.ok.hd hc) (S z) t (fun h' tk acc' c' hk hS hacc => ?_) (by rw [sz, sizeLine_eq]; omega)
  refine ⟨.ref s.heap.objs.size, upd H s.heap.objs.size (.lst (z.map fun c => V.str (S [c]))), I.laid (t' := tk) hk (Nat.le_refl _) ?_, rfl, q _ (I.hok.fresh (Nat.le_refl _))⟩
  refine ⟨by rw [List.length_map, sizeLine_eq]; omega, acc'.toList, c', vals_of_get _ _ (by rw [List.length_map, Array.length_toList, hacc.1, sz]) fun j v u hv hu => ?_, by simpa using hS⟩
  obtain ⟨c, tt, hc', rfl⟩ := hacc.2 j u (by simpa using hu)
  rw [List.getElem?_map] at hv
  have e : z[j]? = some c := by
    have : (S z).cps[j]? = some c := hc'
    simpa [S] using this
  rw [e] at hv
  cases hv
  exact ⟨tt, rfl⟩
end
end CK
namespace CK
open PySem PySem.Spec PyProof.Rows L2 SX
section
variable {X : Cx} {o e : Expr} {es : List Expr} {to : TE} {t : TA} {name : Str} {apos cpos : Pos} {T id : String} {r : V → List V → Hp → VK → Prop}
/-- a built-in's method, where the written part is told apart (it may stand in a comprehension) -/
theorem pe_bmB {K : PySem.W.Frag} (hK : X.K = K) (pa : PlainAttrs T) (slot : Slot T name id) (hty : typeOf (.builtin id) = pure (.type "method_descriptor")) (hm : MtR X id r) (ho : PE X o to) (ha : PA X (e :: es) t)
    (hb : attributeBase o name X.env (eval o X.env) = eval o X.env := by rfl)
    (hf : ((backTo cpos (starEach (e :: es) X.env)).all (fun x => !x.1) && (backToKw cpos (keywordEach [] X.env)).all (fun x => x.1.isSome) && decide ((e :: es).length + ([] : List Keyword).length + (if ([] : List Keyword).isEmpty then 0 else 1) < 30)) = true := by rfl)
    (hl : (apos.endLine == cpos.line) = true := by rfl) (hs : starEach (e :: es) X.env = (false, eval e X.env) :: starEach es X.env := by rfl) (hp : (backTo cpos (starEach es X.env)).any (·.1) = false := by rfl) :
    PE X (.Call (.Attribute o name apos) (e :: es) [] cpos) (tBM K T r to t) := by
  subst hK
  exact pe_bm pa slot hty hm ho ha hb hf hl hs hp
end
end CK

set_option Elab.async false
set_option linter.all false
set_option maxRecDepth 100000
set_option maxHeartbeats 2000000
/-! defs that are called with no repr under way; repr of data -/
namespace CK
open PySem PySem.Spec PyProof.Rows L2
/-- what a def promises where no repr is under way -/
structure FnG (P : Program) (w : World) (K : PySem.W.Frag) (mg : Str → Option Value) (base : Heap) (k : Nat) (f : Addr) (fd : FuncData) (ps : List Str) (sp : Sp) : Prop where
  len : ∀ vs H Q E, sp vs H Q E → vs.length = ps.length
  go : ∀ (A : Around) (outer : List Env) (z : Shared) (H : Hp) (args : Args) (us : List Value) (vs : List V) (Q : VK) (E : XK), Room k A → A.guards = some [] → Env0 P w K mg base A outer z H → BindsTo z fd args (ps.zip us) →
    Vals vs us → sp vs H Q E → codeAny (model P w) A (.call (.ref f) args) (CR C8.CX0 outer P w H z Q E) z
theorem FnG.of {P : Program} {w : World} {K : PySem.W.Frag} {mg : Str → Option Value} {base : Heap} {k : Nat} {f : Addr} {fd : FuncData} {ps : List Str} {sp : Sp} (F : FnOk P w K mg base C8.CX0 k f fd ps sp) : FnG P w K mg base k f fd ps sp :=
  ⟨F.len, fun A outer z H args us vs Q E hr _ e0 hb r h => F.run A outer z H args us vs Q E hr e0 hb r h⟩
theorem fnG_of {P : Program} {w : World} {K : PySem.W.Frag} {mg : Str → Option Value} {base : Heap} {k : Nat} {f : Addr} {x : Str} {st : Stmt} {fd : FuncData} {N ps : List Str} {sp : Sp} (F : C8.Fun K x x st f fd) (S : FnScope N ps (C8.fnScope st))
    (len : ∀ vs H Q E, sp vs H Q E → vs.length = ps.length)
    (body : ∀ (cdv : Value) (A : Around) (outer : List Env) (z : Shared) (H : Hp) (vs : List V) (Q : VK) (E : XK), Room k (A.deeper (envOfC x (C8.fnScope st) z.heap.objs.size f cdv)) → A.guards = some [] → sp vs H Q E →
      ∃ t, PSs (cxOf C8.CX0 P w K mg base N x (C8.fnScope st) f cdv A outer z H E).nox (C8.fnBody st) t ∧ t { nx := fun _ H' => Q .non H', rt := Q } (start N vs) H) : FnG P w K mg base (k + 1) f fd ps sp := by
  obtain ⟨_, _, _, _, _, _, _, cdv, _, _, rfl, lk, hc⟩ := F.ex
  refine ⟨len, fun A outer z H args us vs Q E room gd en bnd va want => ?_⟩
  have ln := len _ _ _ _ want
  have up : ∀ b o, base.get? b = some o → z.heap.get? b = some o := fun b o e => (en.bs b o e).1
  have inK : K.In z.heap := en.mod.kin.keeps up
  have kinds : ∀ y ∈ ps.zip us, (C8.fnScope st).names.lookup y.1 = some .local ∨ ((C8.fnScope st).names.lookup y.1 = some .cell ∧ ((cellsFrom (z.heap.objs.size + 1) (C8.fnScope st).names []).lookup y.1).isSome = true) := by
    intro y hy
    have := S.par y.1 (List.of_mem_zip (a := y.1) (b := y.2) hy).1
    cases this with
    | inl a => exact .inl a
    | inr a => exact .inr ⟨a, PySem.W.cellsFrom_some _ _ _ (.inl a)⟩
  refine codeAny_call_function room.depth (inK _ _ lk) rfl S.co S.gen rfl (PySem.W.codeRec_of inK hc) (bnd _ _ _ _ (wpAny_newFunctionEnv_cells S.kind kinds fun env he z1 call => ?_))
  subst he
  refine ⟨(en.mod.nolimit.keeps up).keeps call.toInCall.keep, codeAny_func ?_⟩
  obtain ⟨t, ht, ok⟩ := body cdv A outer z H vs Q E (room.deeper _) gd want
  refine wpAny_mono (ht.nox.run [] z1 (start N vs) H _ (inv_start S room.hd en ln va call) ok) (fun fl z' got => ?_) fun e z' got => got
  have last : ∀ {σ' : L2.St} {H' : Hp} {v : V} {u : Value}, Inv (cxOf C8.CX0 P w K mg base N x (C8.fnScope st) f cdv A outer z H E) [] σ' H' z' → RelV v u → Q v H' → CE outer P w H z Q u z' :=
    fun {_ H' v _} J a b => ⟨v, H', J.os, J.bare, J.base, J.hok, a, b⟩
  cases fl with
  | ret u =>
    obtain ⟨v, _, H', J, a, b⟩ := got
    exact last J a b
  | next =>
    obtain ⟨_, H', J, b⟩ := got
    exact last (v := V.non) (u := Value.none) J rfl b
  | brk => exact got.choose_spec.choose_spec.2.elim
  | cont => exact got.choose_spec.choose_spec.2.elim
/-- a def by its name -/
structure CalG (P : Program) (w : World) (K : PySem.W.Frag) (mg : Str → Option Value) (base : Heap) (k : Nat) (x : Str) (sp : Sp) : Prop where
  ex : ∃ (f : Addr) (fd : FuncData) (ps : List Str), FnG P w K mg base k f fd ps sp ∧ mg x = some (.ref f) ∧ PySem.W.keepIn K (.ref f) = true ∧ Binds K fd ps []
theorem calG {P : Program} {w : World} {K : PySem.W.Frag} {mg : Str → Option Value} {base : Heap} {x : Str} {st : Stmt} {N ps : List Str} {k : Nat} {sp : Sp} (D : DefF K mg x st ps) (S : FnScope N ps (C8.fnScope st))
    (len : ∀ vs H Q E, sp vs H Q E → vs.length = ps.length)
    (body : ∀ (f : Addr) (cdv : Value) (A : Around) (outer : List Env) (z : Shared) (H : Hp) (vs : List V) (Q : VK) (E : XK), Room k (A.deeper (envOfC x (C8.fnScope st) z.heap.objs.size f cdv)) → A.guards = some [] → sp vs H Q E →
      ∃ t, PSs (cxOf C8.CX0 P w K mg base N x (C8.fnScope st) f cdv A outer z H E).nox (C8.fnBody st) t ∧ t { nx := fun _ H' => Q .non H', rt := Q } (start N vs) H) : CalG P w K mg base (k + 1) x sp := by
  obtain ⟨f, fd, F, b⟩ := D.ex
  exact ⟨f, fd, ps, fnG_of F.fn S len (body f), F.mgf, F.kp, .all b⟩
section
variable {X : Cx} {k j : Nat} {x : Str} {sp : Sp} {p pos : Pos} {e : Expr} {es : List Expr} {t : TA}
theorem run_fnG {pins : List (Addr × Obj)} {σ : L2.St} {H : Hp} {z : Shared} {Q : VK} {us : List Value} {vs : List V} {f : Addr} {fd : FuncData} {ps : List Str} (F : FnG X.prog X.w X.K X.mg X.base k f fd ps sp) (room : Room k X.A) (gd : X.A.guards = some [])
    (b : Binds X.K fd ps []) (I : Inv X pins σ H z) (r : Vals vs us) (h : sp (vs ++ []) H Q E0) : wpAny (model X.prog X.w) X.A (call (.ref f) us) (EP X pins σ Q) X.xe z := by
  rw [List.append_nil] at h
  have ll : (us ++ []).length = ps.length := by
    rw [List.append_nil, ← r.length]
    exact F.len _ _ _ _ h
  have bb := b z us I.kIn ll
  rw [List.append_nil] at bb
  refine wpAny_call (codeAny_mono (F.go X.A X.stack z H ⟨us, []⟩ us vs Q E0 room gd I.env0 bb r h) fun res z' got => ?_)
  match res, got with
  | .ok (.ret u), got => exact I.after got
  | .error e, got => exact pass0 pins σ H z e z' I got
theorem pe_cG (c : CalG X.prog X.w X.K X.mg X.base k x sp) (hr : Room j X.A) (gd : X.A.guards = some []) (hk : k ≤ j) (hg : Gl X x) (ha : PA X (e :: es) t)
    (hdb : (x == ("__debug__" : Str)) = false := by decide) (he : starEach (e :: es) X.env = (false, eval e X.env) :: starEach es X.env := by rfl) (hpl : (backTo pos (starEach es X.env)).any (·.1) = false := by rfl) :
    PE X (.Call (.Name x p) (e :: es) [] pos) (tCall sp [] E0 t) := by
  obtain ⟨f, fd, ps, F, hm, kp, b⟩ := c.ex
  refine ⟨fun pins s σ H Q I h => wpAny_Call_Name_kw (ld_glob I hg hm ?_ hdb)⟩
  exact PySem.W.callWith_K (h₀ := X.base) I.ok.mod.kin kp (thn (ha.run pos pins s σ H _ I h) fun us s1 ⟨vs, H1, I1, r, q⟩ => ⟨I1.kIn, run_fnG F (hr.mono hk) gd b I1 r q⟩) he hpl
theorem pe_cG0 (c : CalG X.prog X.w X.K X.mg X.base k x sp) (hr : Room j X.A) (gd : X.A.guards = some []) (hk : k ≤ j) (hg : Gl X x)
    (hdb : (x == ("__debug__" : Str)) = false := by decide) :
    PE X (.Call (.Name x p) [] [] pos) (tCall sp [] E0 tNil) := by
  obtain ⟨f, fd, ps, F, hm, kp, b⟩ := c.ex
  refine ⟨fun pins s σ H Q I h => wpAny_Call_Name_kw (ld_glob I hg hm ?_ hdb)⟩
  exact PySem.W.callWith_K0 I.kIn kp (run_fnG (us := []) F (hr.mono hk) gd b I .nil h)
/-- repr of data -/
theorem call_repr (hr : Room j X.A) (gd : X.A.guards = some []) : CallR X (.builtin "repr") (fun xs H Q => ∃ (v : V) (d : PyData), xs = [v] ∧ Dp X.K H v d ∧ d.showable = true ∧ d.hasDict = false ∧ d.depth ≤ 60 ∧ d.shown.length ≤ sizeLine ∧ Q (.str d.shown) H) := by
  intro pins s σ H xs us Q I r h
  obtain ⟨v, d, rfl, dp, hs, hd, hdep, hz, q⟩ := h
  obtain ⟨u, rfl, rx⟩ := vals1 r
  obtain ⟨as, rd⟩ := Dp.reads I d v u dp rx
  have hu := hr.units
  have fin : ∀ (a : Addr) (d : PyData), Reads s.heap (.ref a) d as → d.showable = true → d.hasDict = false → d.depth ≤ 60 → d.shown.length ≤ sizeLine → Q (.str d.shown) H →
      wpAny (model X.prog X.w) X.A (call (.builtin "repr") [.ref a]) (EP X pins σ Q) X.xe s := fun a d rd hs hd hdep hz q =>
    repr_of_reads' rd hs (PyData.noDict_hsm hd) gd (by omega) (fun _ _ e => e) (fun h' u tk hk => ⟨.str _, H, I.kept (t' := tk) hk, ⟨u, rfl⟩, q⟩) hz
  cases rd with
  | none => exact PySem.P.repr_of_none ⟨.str _, H, I.tok _, ⟨_, rfl⟩, by simpa only [PyData.shown] using q⟩
  | bool b => exact PySem.P.repr_of_bool ⟨.str _, H, I.tok _, ⟨_, rfl⟩, by simpa only [PyData.shown] using q⟩
  | int i t => exact PySem.P.repr_of_int (by simpa [PyData.showable] using hs) ⟨.str _, H, I.tok _, ⟨_, rfl⟩, by simpa only [PyData.shown] using q⟩
  | str y t => exact PySem.P.repr_of_str ⟨.str _, H, I.tok _, ⟨_, rfl⟩, by simpa only [PyData.shown] using q⟩ (by simpa only [PyData.shown] using hz)
  | list a b c e => exact fin _ _ (.list a b c e) hs hd hdep hz q
  | tuple a b c e => exact fin _ _ (.tuple a b c e) hs hd hdep hz q
  | dict a b c e g => exact fin _ _ (.dict a b c e g) hs hd hdep hz q
end
end CK

set_option Elab.async false
set_option linter.all false
set_option maxRecDepth 100000
set_option maxHeartbeats 2000000
/-! comprehensions with a test; equality of data made of whole numbers -/
namespace CK
open PySem PySem.Spec PyProof.Rows L2
/-- n turns, each kept if b i, giving f i, leaving all that was tracked -/
theorem lc_filtW {J : It} {n : Nat} {G : Hp → Prop} {Y : Nat → Hp → V → Hp → Prop} (w : Walk J n G Y) {g : TG} {tt : TT} {te : TE} {vs : List Nat} {σ : L2.St} {H1 : Hp} {D : Addr} {Qd : Hp → Prop} (b : Nat → Bool) (f : Nat → V) (hn : n < sizeLine)
    (hG : ∀ H, Same H1 H → G H)
    (hs : ∀ (i : Nat) (x : V) (H H' : Hp) (R : VK) (R0 : Hp → Prop), i < n → Same H1 H → Y i H x H' → (b i = true → ∀ H'', Same H H'' → R (f i) H'') → (b i = false → ∀ H'', Same H H'' → R0 H'') →
      g x (wipe σ vs) H' fun σ2 H2 => wipe σ2 vs = wipe σ vs ∧ tt σ2 H2 fun c H3 => if c = true then te σ2 H3 R else R0 H3)
    (hD : H1 D = none) (hd : ∀ H : Hp, Same H1 H → H D = some (.lst (((List.range n).filter b).map f)) → Qd H) :
    ∃ W : Nat → Nat → Hp → Prop, (∃ m, W 0 m (upd H1 D (.lst []))) ∧ ∀ i m H, W i m H →
      (J.stop i H ∧ Qd H) ∨ (J.go i H ∧ ∃ Nx : Hp → Prop, (∀ H', Nx H' → ∃ m', m' < m ∧ W (i + 1) m' H') ∧ ∀ x H', J.yld i H x H' → g x (wipe σ vs) H' fun σ2 H2 => wipe σ2 vs = wipe σ vs ∧ tt σ2 H2 fun b H3 =>
        if b = true then te σ2 H3 fun y H4 => ∃ acc, H4 D = some (.lst acc) ∧ acc.length < sizeLine ∧ Nx (upd H4 D (.lst (acc ++ [y]))) else Nx H3) := by
  refine lc_it w (fun i H => Same H1 H ∧ H D = some (.lst (((List.range i).filter b).map f)) ∧ i ≤ n) ⟨sameNew hD, upd_same, Nat.zero_le _⟩ (fun i H _ p => hG H p.1) (fun i x H H' hi p y => ?_) fun H p => hd H p.1 p.2.1
  refine hs i x H H' _ _ hi p.1 y (fun hb H'' s => ?_) fun hb H'' s => ?_
  · refine ⟨_, s D _ p.2.1, ?_, same_upd2 hD (p.1.trans s), ?_, hi⟩
    · have := List.length_filter_le b (List.range i)
      rw [List.length_range] at this
      rw [List.length_map]
      omega
    · rw [upd_same, List.range_succ, List.filter_append, List.map_append, List.filter_cons_of_pos hb]
      rfl
  · refine ⟨p.1.trans s, ?_, hi⟩
    rw [s D _ p.2.1, List.range_succ, List.filter_append, List.filter_cons_of_neg (by rw [hb]; exact Bool.false_ne_true), List.filter_nil, List.append_nil]
theorem filt_nil (b : Nat → Bool) (f : Nat → V) (n : Nat) : ((List.range n).filter b).map f = [] ↔ ∀ i, i < n → b i = false := by
  rw [List.map_eq_nil_iff, List.filter_eq_nil_iff]
  constructor
  · intro h i hi
    have := h i (List.mem_range.mpr hi)
    simpa using this
  · intro h i hi
    rw [h i (List.mem_range.mp hi)]
    exact Bool.false_ne_true
/-- over zip -/
theorem lcZ_filt {K : PySem.W.Frag} {k k' : Kd} {a c : Addr} {xs ys : List V} {i1 i2 : Nat} {tt : TT} {te : TE} {vs : List Nat} {σ : L2.St} {H1 : Hp} {D : Addr} {Qd : Hp → Prop} (b : Nat → Bool) (f : Nat → V) (hl : xs.length = ys.length) (hn : xs.length < sizeLine)
    (ha : ∀ H, Same H1 H → SqB K k H a xs ∧ SqB K k' H c ys)
    (hs : ∀ (i : Nat) (x y : V) (H : Hp) (R : VK) (R0 : Hp → Prop), xs[i]? = some x → ys[i]? = some y → Same H1 H → (b i = true → ∀ H', Same H H' → R (f i) H') → (b i = false → ∀ H', Same H H' → R0 H') →
      wipe (((wipe σ vs).set i1 (some x)).set i2 (some y)) vs = wipe σ vs ∧ tt (((wipe σ vs).set i1 (some x)).set i2 (some y)) H fun c H3 => if c = true then te (((wipe σ vs).set i1 (some x)).set i2 (some y)) H3 R else R0 H3)
    (hD : H1 D = none) (hd : ∀ H : Hp, Same H1 H → H D = some (.lst (((List.range xs.length).filter b).map f)) → Qd H) :
    ∃ W : Nat → Nat → Hp → Prop, (∃ m, W 0 m (upd H1 D (.lst []))) ∧ ∀ i m H, W i m H →
      ((ItB K k k' a c).stop i H ∧ Qd H) ∨ ((ItB K k k' a c).go i H ∧ ∃ Nx : Hp → Prop, (∀ H', Nx H' → ∃ m', m' < m ∧ W (i + 1) m' H') ∧ ∀ x H', (ItB K k k' a c).yld i H x H' → gTup K 2 (gCons (gName i1) (gCons (gName i2) gNil)) x (wipe σ vs) H' fun σ2 H2 => wipe σ2 vs = wipe σ vs ∧ tt σ2 H2 fun b H3 =>
        if b = true then te σ2 H3 fun y H4 => ∃ acc, H4 D = some (.lst acc) ∧ acc.length < sizeLine ∧ Nx (upd H4 D (.lst (acc ++ [y]))) else Nx H3) := by
  refine lc_filtW (walkB (K := K) (k := k) (k' := k') (a := a) (b := c) hl) b f hn ha (fun i v H H' R R0 hi s y q q0 => ?_) hD hd
  obtain ⟨T, x, y, rfl, hT, rfl, hx, hy⟩ := y
  have hx : xs[i]? = some x := hx
  have hy : ys[i]? = some y := hy
  have st : Same H (upd H T (.tup [x, y])) := sameNew hT
  exact ⟨T, [x, y], rfl, .inl (.inl upd_same), rfl, x, [y], rfl, y, [], rfl, rfl, hs i x y _ R R0 hx hy (s.trans st) (fun hb H'' s' => q hb H'' (st.trans s')) fun hb H'' s' => q0 hb H'' (st.trans s')⟩
/-- over a list -/
theorem lcL_filt {K : PySem.W.Frag} {a : Addr} {xs : List V} {j : Nat} {tt : TT} {te : TE} {vs : List Nat} {σ : L2.St} {H1 : Hp} {D : Addr} {Qd : Hp → Prop} (b : Nat → Bool) (f : Nat → V) (ha : ∀ H, Same H1 H → SqL K H a xs) (hn : xs.length < sizeLine)
    (hs : ∀ (i : Nat) (x : V) (H : Hp) (R : VK) (R0 : Hp → Prop), xs[i]? = some x → Same H1 H → (b i = true → ∀ H', Same H H' → R (f i) H') → (b i = false → ∀ H', Same H H' → R0 H') →
      wipe ((wipe σ vs).set j (some x)) vs = wipe σ vs ∧ tt ((wipe σ vs).set j (some x)) H fun c H3 => if c = true then te ((wipe σ vs).set j (some x)) H3 R else R0 H3)
    (hD : H1 D = none) (hd : ∀ H : Hp, Same H1 H → H D = some (.lst (((List.range xs.length).filter b).map f)) → Qd H) :
    ∃ W : Nat → Nat → Hp → Prop, (∃ m, W 0 m (upd H1 D (.lst []))) ∧ ∀ i m H, W i m H →
      ((Itl K a).stop i H ∧ Qd H) ∨ ((Itl K a).go i H ∧ ∃ Nx : Hp → Prop, (∀ H', Nx H' → ∃ m', m' < m ∧ W (i + 1) m' H') ∧ ∀ x H', (Itl K a).yld i H x H' → gName j x (wipe σ vs) H' fun σ2 H2 => wipe σ2 vs = wipe σ vs ∧ tt σ2 H2 fun b H3 =>
        if b = true then te σ2 H3 fun y H4 => ∃ acc, H4 D = some (.lst acc) ∧ acc.length < sizeLine ∧ Nx (upd H4 D (.lst (acc ++ [y]))) else Nx H3) := by
  refine lc_filtW (walk_list (K := K) (a := a) (xs := xs)) b f hn ha (fun i v H H' R R0 hi s y q q0 => ?_) hD hd
  obtain ⟨rfl, hx⟩ := y
  exact hs i v H' R R0 hx s q q0
/-- over a tuple -/
theorem lcT_filt {K : PySem.W.Frag} {a : Addr} {xs : List V} {j : Nat} {tt : TT} {te : TE} {vs : List Nat} {σ : L2.St} {H1 : Hp} {D : Addr} {Qd : Hp → Prop} (b : Nat → Bool) (f : Nat → V) (ha : ∀ H, Same H1 H → SqT K H a xs) (hn : xs.length < sizeLine)
    (hs : ∀ (i : Nat) (x : V) (H : Hp) (R : VK) (R0 : Hp → Prop), xs[i]? = some x → Same H1 H → (b i = true → ∀ H', Same H H' → R (f i) H') → (b i = false → ∀ H', Same H H' → R0 H') →
      wipe ((wipe σ vs).set j (some x)) vs = wipe σ vs ∧ tt ((wipe σ vs).set j (some x)) H fun c H3 => if c = true then te ((wipe σ vs).set j (some x)) H3 R else R0 H3)
    (hD : H1 D = none) (hd : ∀ H : Hp, Same H1 H → H D = some (.lst (((List.range xs.length).filter b).map f)) → Qd H) :
    ∃ W : Nat → Nat → Hp → Prop, (∃ m, W 0 m (upd H1 D (.lst []))) ∧ ∀ i m H, W i m H →
      ((Itt K a).stop i H ∧ Qd H) ∨ ((Itt K a).go i H ∧ ∃ Nx : Hp → Prop, (∀ H', Nx H' → ∃ m', m' < m ∧ W (i + 1) m' H') ∧ ∀ x H', (Itt K a).yld i H x H' → gName j x (wipe σ vs) H' fun σ2 H2 => wipe σ2 vs = wipe σ vs ∧ tt σ2 H2 fun b H3 =>
        if b = true then te σ2 H3 fun y H4 => ∃ acc, H4 D = some (.lst acc) ∧ acc.length < sizeLine ∧ Nx (upd H4 D (.lst (acc ++ [y]))) else Nx H3) := by
  refine lc_filtW (walk_tup (K := K) (a := a) (xs := xs)) b f hn ha (fun i v H H' R R0 hi s y q q0 => ?_) hD hd
  obtain ⟨rfl, hx⟩ := y
  exact hs i v H' R R0 hx s q q0
/-- a tuple of the module's own -/
theorem tupF {K : PySem.W.Frag} {h : Heap} {mg : Str → Option Value} {x : Str} {f : Addr} {o : Obj} {its : Array Value} {n : Nat} {xs : List V} (X : K.In h) (G : h.Ns mainGlobals mg) (a : PySem.W.nsIn K mainGlobals x = some (some (.ref f))) (l : K.lookup f = some o)
    (hc : o.cls = .type "tuple") (hd : o.data = .seq its n) (hs : its.size ≤ sizeLine) (hv : Vals xs its.toList) : ∃ a, mg x = some (.ref a) ∧ ∀ H, SqT K H a xs :=
  ⟨f, PySem.W.mg_of X G a, fun H => .inr ⟨o, its, n, l, hc, hd, hs, hv⟩⟩
abbrev TupF (K : PySem.W.Frag) (mg : Str → Option Value) (x : Str) (xs : List V) : Prop := ∃ a, mg x = some (.ref a) ∧ ∀ H, SqT K H a xs
theorem with_tup {K : PySem.W.Frag} {h : Heap} {mg : Str → Option Value} (_ : K.In h) (x : Str) (xs : List V) {R : Prop} (d : TupF K mg x xs) (r : TupF K mg x xs → R) : R := r d
/-! data of whole numbers -/
theorem eqvAll_ints : ∀ f g : List Int, PyData.eqvAll (f.map PyData.int) (g.map PyData.int) = decide (f = g)
  | [], [] => by simp [PyData.eqvAll]
  | [], _ :: _ => by simp [PyData.eqvAll]
  | _ :: _, [] => by simp [PyData.eqvAll]
  | x :: f, y :: g => by
    rw [List.map_cons, List.map_cons, PyData.eqvAll, eqvAll_ints f g]
    simp [PyData.eqv, Bool.beq_eq_decide_eq]
theorem eqv_dI (f g : List Int) : PyData.eqv (dI f) (dI g) = decide (f = g) := by
  unfold dI
  simp only [PyData.eqv, eqvAll_ints]
def dLI (ns : List Int) : PyData := .list (ns.map PyData.int)
theorem eqv_dLI (f g : List Int) : PyData.eqv (dLI f) (dLI g) = decide (f = g) := by
  unfold dLI
  simp only [PyData.eqv, eqvAll_ints]
theorem shaped_dLI (ns : List Int) : SeqAt.shaped (dLI ns) = true := by
  unfold SeqAt.shaped dLI
  rw [PyData.canLay0, lay_ints, PyData.depth, deep_ints]
  decide
theorem dp_lints {K : PySem.W.Frag} {H : Hp} {a : Addr} {ns : List Int} (h : H a = some (.lst (ns.map V.int))) : Dp K H (.ref a) (dLI ns) := .lst (.inl (.inl h)) (dpAll_ints ns)
/-! repr of whole numbers -/
theorem shown_ints : ∀ ns : List Int, (∀ n ∈ ns, n.natAbs.log2 < 1920) → PyData.showableAll (ns.map PyData.int) = true
  | [], _ => by simp [PyData.showableAll]
  | n :: ns, h => by
    rw [List.map_cons, PyData.showableAll, shown_ints ns fun z hz => h z (List.mem_cons_of_mem _ hz)]
    simp [PyData.showable, h n List.mem_cons_self]
theorem noDict_ints : ∀ ns : List Int, PyData.hasDictAll (ns.map PyData.int) = false
  | [] => by simp [PyData.hasDictAll]
  | n :: ns => by
    rw [List.map_cons, PyData.hasDictAll, noDict_ints ns]
    simp [PyData.hasDict]
theorem piled_ints : ∀ ns : List Int, (∀ n ∈ ns, n.natAbs.log2 < 1920) → piled (PyData.shownAll (ns.map PyData.int)) ≤ ns.length * 1923
  | [], _ => Nat.zero_le _
  | n :: ns, h => by
    have a1 := int_text_length_le (a := n) (k := 1920) (by omega) (h n List.mem_cons_self)
    have a2 := piled_ints ns fun z hz => h z (List.mem_cons_of_mem _ hz)
    have a3 : ((toString n : Str)).length = (toString n).length := PySem.ofString_length _
    have e : PyData.shown (.int n) = (toString n : Str) := by simp only [PyData.shown]
    rw [List.map_cons, PyData.shownAll, piled_cons, List.length_cons, e]
    omega
theorem show_dI {ns : List Int} (h : ∀ n ∈ ns, n.natAbs.log2 < 1920) (hl : ns.length ≤ 100) : (dI ns).showable = true ∧ (dI ns).hasDict = false ∧ (dI ns).depth ≤ 60 ∧ (dI ns).shown.length ≤ sizeLine := by
  refine ⟨?_, ?_, by rw [deep_dI]; decide, ?_⟩
  · unfold dI
    rw [PyData.showable]
    exact shown_ints ns h
  · unfold dI
    rw [PyData.hasDict]
    exact noDict_ints ns
  · unfold dI
    rw [PyData.shown]
    have := fmt_text (PyData.shownAll (ns.map PyData.int))
    have := piled_ints ns h
    have : ns.length * 1923 ≤ 100 * 1923 := Nat.mul_le_mul_right _ hl
    rw [sizeLine_eq]
    omega
theorem log_lt {n : Int} (h : n.natAbs < 2 ^ 1900) : n.natAbs.log2 < 1920 := by
  by_cases z : n.natAbs = 0
  · rw [z]
    decide
  · have := (Nat.log2_lt z).mpr h
    omega
end CK

set_option Elab.async false
set_option linter.all false
set_option maxRecDepth 100000
set_option maxHeartbeats 2000000
/-! statements in order, tests that may end the call -/
namespace CK
open PySem PySem.Spec PyProof.Rows L2
theorem seq_cut {t u : TS} {D : Ends} {σ : L2.St} {H : Hp} (Mid : L2.St → Hp → Prop) (h1 : ∀ K : L2.St → Hp → Prop, (∀ σ' H', Mid σ' H' → K σ' H') → t { D with nx := K } σ H) (h2 : ∀ σ' H', Mid σ' H' → u D σ' H') : tSeq t u D σ H := h1 _ h2
/-- a test whose answer is b: what is within, and what follows -/
theorem if_dec {c : TT} {t u : TS} {D : Ends} {σ : L2.St} {H : Hp} (b : Bool) (h : ∀ R : Bool → Hp → Prop, (∀ H', Same H H' → R b H') → c σ H R)
    (yes : b = true → ∀ H', Same H H' → t { D with nx := fun σ' H'' => u D σ' H'' } σ H') (no : b = false → ∀ H', Same H H' → u D σ H') : tSeq (tIfS c t tNext) u D σ H :=
  h _ fun H' s => by
    cases b with
    | true => exact iteT (yes rfl H' s)
    | false => exact iteF (no rfl H' s)
/-- the last test of a block -/
theorem if_end {c : TT} {t u : TS} {D : Ends} {σ : L2.St} {H : Hp} (b : Bool) (h : ∀ R : Bool → Hp → Prop, (∀ H', Same H H' → R b H') → c σ H R)
    (yes : b = true → ∀ H', Same H H' → t D σ H') (no : b = false → ∀ H', Same H H' → u D σ H') : tIfS c t u D σ H :=
  h _ fun H' s => by
    cases b with
    | true => exact iteT (yes rfl H' s)
    | false => exact iteF (no rfl H' s)
theorem if_not {c : TT} {t u : TS} {D : Ends} {σ : L2.St} {H : Hp} (h : ∀ R : Bool → Hp → Prop, (∀ H', Same H H' → R false H') → c σ H R) (r : ∀ H', Same H H' → u D σ H') : tSeq (tIfS c t tNext) u D σ H :=
  h _ fun H' s => iteF (r H' s)
theorem yes_if {σ : L2.St} {H : Hp} {A B : Hp → Prop} (h : A H) : tYes σ H fun b H3 => if b = true then A H3 else B H3 := by
  show (if true = true then A H else B H)
  exact if_pos rfl ▸ h
end CK

set_option Elab.async false
set_option linter.all false
set_option maxRecDepth 100000
set_option maxHeartbeats 2000000
/-! sum of a tuple of numbers -/
namespace CK
open PySem PySem.Spec PyProof.Rows L2 SX
section
variable {prog : Program} {w : World} {A : Around} {E : Value → Shared → Prop} {s : Shared} {l : Addr} {xs : Array (Int × Tok)}
theorem sum_tupG {Q : Value → Shared → Prop} (hh : A.handled = none) (hl : s.heap.IsTuple l (intItems xs))
    (h : ∀ h' tk t', (∀ b o, s.heap.get? b = some o → h'.get? b = some o) → Q (.int (preSum (numAt xs) xs.size) t') { s with heap := h', toks := tk }) :
    wpAny (model prog w) A (call (.builtin "sum") [.ref l]) Q E s := by
  have hlt : l < s.heap.objs.size := by obtain ⟨_, e, _⟩ := hl; exact Heap.lt_size e
  refine call_sum_walkG (wpAny_pyIter_tuple hl ?_)
  refine ⟨_, _, _, _, _, _, numAt xs, rfl, Walks.tuple (A := A.in1) hh _ l (Nat.ne_of_lt hlt) (intItems xs), ⟨⟨_, Heap.get?_push_size _ rfl, rfl, rfl⟩, hl.push _⟩, fun b hb => ?_, (fun _ _ => intItems_at), fun h' tk t' hk => ?_⟩
  · show b < (s.heap.push _).objs.size
    rw [Heap.size_push]
    rcases List.mem_cons.mp hb with rfl | hb
    · exact Nat.lt_succ_self _
    · rcases List.mem_cons.mp hb with rfl | hb
      · exact Nat.lt_succ_of_lt hlt
      · cases hb
  · have := h h' tk t' fun b o e => by
      refine hk b o (fun hm => ?_) (Heap.get?_push_of_some _ e)
      have := List.mem_singleton.mp hm
      have hb := Heap.lt_size e
      rw [this] at hb
      exact absurd hb (Nat.lt_irrefl _)
    simpa [intItems] using this
end
section
variable {X : Cx}
theorem cr_sumT (hc : X.calm = true) : CallR X (.builtin "sum") (fun vs H Q => ∃ (a : Addr) (ns : List Int), vs = [V.ref a] ∧ H a = some (.tup (ns.map V.int)) ∧ Q (.int ns.sum) H) := by
  intro pins s σ H vs us Q I r h
  obtain ⟨a, ns, rfl, ha, q⟩ := h
  obtain ⟨its, rv, hl, _⟩ := I.tuple (.inl (.inl ha))
  rw [Vals.ref1 r]
  have hi := rv.ints
  obtain ⟨xs, e⟩ := hi.allInts.items
  have hn : numsOf (intItems xs).toList = ns := by rw [← e]; exact hi.numsOf
  rw [nums_intItems] at hn
  have hl' : s.heap.IsTuple a (intItems xs) := by rw [← e]; exact hl
  refine sum_tupG (I.ok.hd hc) hl' fun h' tk t' hk => ?_
  have es : preSum (numAt xs) xs.size = ns.sum := by rw [preSum_eq, List.take_of_length_le (by simp), hn]
  rw [es]
  exact ⟨.int _, H, I.kept (t' := tk) hk, ⟨_, rfl⟩, q⟩
end
end CK

set_option Elab.async false
set_option linter.all false
set_option maxRecDepth 100000
set_option maxHeartbeats 2000000
/-! defs, methods and classes with defaults, called with keywords alone or with fewer arguments -/
namespace CK
open PySem PySem.Spec PyProof.Rows L2
/-- a def with defaults as it stands -/
structure DefD (K : PySem.W.Frag) (mg : Str → Option Value) (x : Str) (st : Stmt) (dvs : List V) (kws : List (Str × V)) : Prop where
  ex : ∃ (f : Addr) (fd : FuncData), FunD K x x (C8.fnArgs st) (C8.fnBody st) (C8.fnScope st) dvs kws f fd ∧ mg x = some (.ref f)
/-- a method with defaults -/
structure MetD (K : PySem.W.Frag) (C : Addr) (m q : Str) (st : Stmt) (dvs : List V) (kws : List (Str × V)) : Prop where
  ex : ∃ (f : Addr) (fd : FuncData), FunD K m q (C8.fnArgs st) (C8.fnBody st) (C8.fnScope st) dvs kws f fd ∧ Meth K C m f
theorem fun_of {K : PySem.W.Frag} {x q : Str} {st : Stmt} {dvs : List V} {kws : List (Str × V)} {f : Addr} {fd : FuncData} (F : FunD K x q (C8.fnArgs st) (C8.fnBody st) (C8.fnScope st) dvs kws f fd) : C8.Fun K x q st f fd := by
  obtain ⟨oc, od, dV, kV, doc, pm, an, cdv, ct, osl, rfl, lk, hcd, _, _⟩ := F.ex
  exact ⟨oc, od, dV, kV, doc, pm, an, cdv, ct, osl, rfl, lk, hcd⟩
theorem defD_mk {K : PySem.W.Frag} {h : Heap} {mg : Str → Option Value} (x : Str) (st : Stmt) (dvs : List V) (kws : List (Str × V)) {f : Addr} {od an : Option Addr} {oc dV kV dc pm cd ct : Value} {sl : Array (Option Value)}
    (X : K.In h) (G : h.Ns mainGlobals mg) (a : PySem.W.nsIn K mainGlobals x = some (some (.ref f)))
    (l : K.lookup f = some ⟨oc, od, .func (PySem.W.fnOf x x (C8.fnArgs st) (C8.fnBody st) (C8.fnScope st) dV kV dc pm an cd ct), sl⟩)
    (c : PySem.W.codeIn K cd x = true) (k : PySem.W.keepIn K (.ref f) = true) (dd : DflV K dV dvs) (kk : KwdV K kV kws) : DefD K mg x st dvs kws :=
  ⟨f, _, ⟨⟨oc, od, dV, kV, dc, pm, an, cd, ct, sl, rfl, l, c, dd, kk⟩, k⟩, PySem.W.mg_of X G a⟩
theorem metD_mk {K : PySem.W.Frag} {mg : Str → Option Value} {x : Str} {C : Addr} (_ : ClF K mg x C) (m q : Str) (st : Stmt) (dvs : List V) (kws : List (Str × V)) {f : Addr} {od an : Option Addr} {oc dV kV dc pm cd ct : Value} {sl : Array (Option Value)}
    (a : PySem.W.findIn K (.ref C) m = some (some (.ref f))) (i : PySem.W.isFn K (.ref f) = true)
    (l : K.lookup f = some ⟨oc, od, .func (PySem.W.fnOf m q (C8.fnArgs st) (C8.fnBody st) (C8.fnScope st) dV kV dc pm an cd ct), sl⟩)
    (c : PySem.W.codeIn K cd q = true) (k : PySem.W.keepIn K (.ref f) = true) (dd : DflV K dV dvs) (kk : KwdV K kV kws) : MetD K C m q st dvs kws :=
  ⟨f, _, ⟨⟨oc, od, dV, kV, dc, pm, an, cd, ct, sl, rfl, l, c, dd, kk⟩, k⟩, ⟨a, i, k⟩⟩
theorem with_defD {K : PySem.W.Frag} {h : Heap} {mg : Str → Option Value} (_ : K.In h) (x : Str) (st : Stmt) (dvs : List V) (kws : List (Str × V)) {R : Prop} (d : DefD K mg x st dvs kws) (r : DefD K mg x st dvs kws → R) : R := r d
theorem with_metD {K : PySem.W.Frag} {mg : Str → Option Value} {x : Str} {C : Addr} (_ : ClF K mg x C) (m q : Str) (st : Stmt) (dvs : List V) (kws : List (Str × V)) {R : Prop} (d : MetD K C m q st dvs kws) (r : MetD K C m q st dvs kws → R) : R := r d
/-- keyword-only defaults, one by one -/
theorem kwd_nil {K : PySem.W.Frag} {kV : Value} : KwdV K kV [] := .inl rfl
theorem kwd_cons {K : PySem.W.Frag} {D : Addr} {x : Str} {v : V} {u : Value} {kws : List (Str × V)} (h : PySem.W.nsIn K D x = some (some u)) (r : RelV v u) (t : KwdV K (.ref D) kws) : KwdV K (.ref D) ((x, v) :: kws) := by
  refine .inr ⟨D, rfl, fun q hq => ?_⟩
  rcases List.mem_cons.mp hq with rfl | hq
  · exact ⟨u, h, r⟩
  · rcases t with rfl | ⟨D', e, t⟩
    · cases hq
    · cases e
      exact t q hq
theorem dfl_nil {K : PySem.W.Frag} : DflV K .none [] := .inl ⟨rfl, rfl⟩
theorem dfl_one {K : PySem.W.Frag} {T : Addr} {o : Obj} {v : V} {u : Value} {n : Nat} (l : K.lookup T = some o) (d : o.data = .seq #[u] n) (r : RelV v u) : DflV K (.ref T) [v] := .inr ⟨List.cons_ne_nil _ _, T, o, [u], n, rfl, l, d, .cons r .nil⟩
theorem FunD.kbindsN {K : PySem.W.Frag} {x qual : Str} {params : Arguments} {body : List Stmt} {scope : Scope} {f : Addr} {fd : FuncData} {ps : List Str} (F : FunD K x qual params body scope [] [] f fd) (n : Nat) (ks : List Str) (g : {α : Type} → List α → List α → List α)
    (hrel : ∀ {vs zs : List V} {us ws : List Value}, Vals vs us → Vals zs ws → Vals (g vs zs) (g us ws))
    (h : ∀ (kV doc pm : Value) (an : Option Addr) (cdv ct : Value) (us ws : List Value), us.length = n → ws.length = ks.length → bindArgs (PySem.W.fnOf x qual params body scope .none kV doc pm an cdv ct) ⟨us, ks.zip ws⟩ = pure (ps.zip (g us ws))) :
    KBn K fd ps n ks (fun us ws => g us ws) (fun vs zs => g vs zs) := by
  obtain ⟨oc, od, dV, kV, doc, pm, an, cdv, ct, osl, rfl, lk, hcd, hD, hK⟩ := F.ex
  rcases hD with ⟨_, rfl⟩ | ⟨e, _⟩
  · exact ⟨fun s us ws X l1 l2 => .of_eq (h kV doc pm an cdv ct us ws l1 l2), fun r1 r2 => hrel r1 r2⟩
  · exact absurd rfl e
/-! ### calls -/
structure CalN (P : Program) (w : World) (K : PySem.W.Frag) (mg : Str → Option Value) (base : Heap) (k : Nat) (x : Str) (ks : List Str) (sp : Sp) (gV : List V → List V → List V) : Prop where
  ex : ∃ (f : Addr) (fd : FuncData) (ps : List Str) (g : List Value → List Value → List Value), FnOk P w K mg base C8.CX0 k f fd ps sp ∧ mg x = some (.ref f) ∧ PySem.W.keepIn K (.ref f) = true ∧ KBn K fd ps 0 ks g gV
structure MakN (P : Program) (w : World) (K : PySem.W.Frag) (mg : Str → Option Value) (base : Heap) (k : Nat) (x : Str) (C : Addr) (ks : List Str) (sp : Sp) (gV : List V → List V → List V) : Prop where
  ex : ∃ (f : Addr) (fd : FuncData) (ps : List Str) (g : List Value → List Value → List Value), Mk K C f ∧ FnOk P w K mg base C8.CX0 k f fd ps sp ∧ mg x = some (.ref C) ∧ KBn K fd ps 1 ks g gV
structure MetN (P : Program) (w : World) (K : PySem.W.Frag) (mg : Str → Option Value) (base : Heap) (k : Nat) (C : Addr) (m : Str) (ks : List Str) (sp : Sp) (gV : List V → List V → List V) : Prop where
  ex : ∃ (f : Addr) (fd : FuncData) (ps : List Str) (g : List Value → List Value → List Value), Cls K C ∧ Meth K C m f ∧ FnOk P w K mg base C8.CX0 k f fd ps sp ∧ KBn K fd ps 1 ks g gV
def tMethN (C : Addr) (m : Str) (n : Nat) (sp : Sp) (gV : List V → List V → List V) (E : XK) (ta : TE) (tk : TA) : TE := fun σ H Q => ta σ H fun x H1 => ∃ a dx fs, x = .ref a ∧ H1 a = some (.ins C dx fs) ∧ fs.lookup m = none ∧
  tk σ H1 fun zs H2 => zs.length = n ∧ sp (gV [.ref a] zs) H2 Q E
section
variable {X : Cx} {k j : Nat} {C : Addr} {x m : Str} {sp : Sp} {dvs : List V} {p pos apos : Pos} {o : Expr} {kws : List Keyword} {ks : List Str} {ta : TE} {tk : TA} {gV : List V → List V → List V}
theorem pe_cN (c : CalN X.prog X.w X.K X.mg X.base k x ks sp gV) (hr : Room j X.A) (hk : k ≤ j) (hg : Gl X x) (hkw : PK X kws tk)
    (hall : (backToKw pos (keywordEach kws X.env)).all (·.1.isSome) = true := by rfl) (hks : (backToKw pos (keywordEach kws X.env)).filterMap (·.1) = ks := by rfl) (hdb : (x == ("__debug__" : Str)) = false := by decide)
    (hpl : ((backTo pos (starEach [] X.env)).any (·.1) || (backToKw pos (keywordEach kws X.env)).any (·.1.isNone)) = false := by rfl) :
    PE X (.Call (.Name x p) [] kws pos) (tCallN 0 ks.length sp gV C8.E0 tNil tk) := by
  obtain ⟨f, fd, ps, g, F, hm, kp, hb⟩ := c.ex
  refine ⟨fun pins s σ H Q I h => ?_⟩
  refine wpAny_Call_Name_kw (ld_glob I hg hm ?_ hdb)
  refine PySem.W.callWith_KW0 (h₀ := X.base) I.ok.mod.kin kp hall ?_ hpl
  refine thn (hkw.run pos pins s σ H _ I h) fun ws s2 ⟨zs, H2, I2, rz, l1, l2, q2⟩ => ⟨I2.kIn, ?_⟩
  rw [hks]
  exact run_fnN (us := []) (vs := []) F (hr.mono hk) hb C8.pass0 I2 .nil rz rfl l2 q2
theorem pe_mkN (c : MakN X.prog X.w X.K X.mg X.base k x C ks sp gV) (hr : Room j X.A) (hk : k + 1 ≤ j) (hg : Gl X x) (hkw : PK X kws tk)
    (hall : (backToKw pos (keywordEach kws X.env)).all (·.1.isSome) = true := by rfl) (hks : (backToKw pos (keywordEach kws X.env)).filterMap (·.1) = ks := by rfl) (hdb : (x == ("__debug__" : Str)) = false := by decide)
    (hpl : ((backTo pos (starEach [] X.env)).any (·.1) || (backToKw pos (keywordEach kws X.env)).any (·.1.isNone)) = false := by rfl) :
    PE X (.Call (.Name x p) [] kws pos) (tMakeK C 0 ks.length sp gV C8.E0 tNil tk) := by
  obtain ⟨f, fd, ps, g, M, F, hm, hb⟩ := c.ex
  exact pe_makeK0 M F (hr.mono hk) hg hm hb C8.pass0 hkw hall hks hdb hpl
theorem pe_mk0 (c : C8.Mak X.prog X.w X.K X.mg X.base k x C sp dvs) (hr : Room j X.A) (hk : k + 1 ≤ j) (hg : Gl X x)
    (hdb : (x == ("__debug__" : Str)) = false := by decide) : PE X (.Call (.Name x p) [] [] pos) (tMake C sp dvs C8.E0 tNil) := by
  obtain ⟨f, fd, ps, ds, M, F, hm, b, d⟩ := c.ex
  exact pe_make0 M F (hr.mono hk) hg hm b d C8.pass0 hdb
theorem pe_mtN {pl : Sem Bool} (c : MetN X.prog X.w X.K X.mg X.base k C m ks sp gV) (hr : Room j X.A) (hk : k ≤ j) (he : PE X o ta) (hkw : PK X kws tk)
    (hall : (backToKw pos (keywordEach kws X.env)).all (·.1.isSome) = true := by rfl) (hks : (backToKw pos (keywordEach kws X.env)).filterMap (·.1) = ks := by rfl)
    (hpl : ((backTo pos (starEach [] X.env)).any (·.1) || (backToKw pos (keywordEach kws X.env)).any (·.1.isNone)) = false := by rfl)
    (ht : eval (.Call (.Attribute o m apos) [] kws pos) X.env = (do
      let ov ← eval o X.env
      standAt apos.atName
      let (f, first) ← holding [ov] (getMethod ov m pl)
      callWith pos f first (backTo pos (starEach [] X.env)) (backToKw pos (keywordEach kws X.env))) := by rfl) :
    PE X (.Call (.Attribute o m apos) [] kws pos) (tMethN C m ks.length sp gV C8.E0 ta tk) := by
  obtain ⟨f, fd, ps, g, hc, hm, F, hb⟩ := c.ex
  refine ⟨fun pins s σ H Q I h => ?_⟩
  refine PySem.W.methodCall_KW (pl := pl) (thn (he.run pins s σ H _ I h) fun u s1 ⟨x, H1, I1, rx, a, dx, fs, ex, ea, l, q⟩ => ?_) ht
  subst ex
  obtain rfl : u = Value.ref a := rx
  refine getmeth_ok I1 ea hc hm l ?_
  refine PySem.W.callWith_KW0 (first := [.ref a]) (h₀ := X.base) I.ok.mod.kin hm.kp hall ?_ hpl
  refine thn (hkw.run pos pins s1 σ H1 _ I1 q) fun ws s2 ⟨zs, H2, I2, rz, l2, q2⟩ => ⟨I2.kIn, ?_⟩
  rw [hks]
  exact run_fnN (us := [.ref a]) (vs := [.ref a]) F (hr.mono hk) hb C8.pass0 I2 (.cons rfl .nil) rz rfl l2 q2
end
end CK

set_option Elab.async false
set_option linter.all false
set_option maxRecDepth 100000
set_option maxHeartbeats 2000000
/-! a whole number as a test (within a comprehension) -/
namespace CK
open PySem PySem.Spec PyProof.Rows L2
theorem tr_int {X : Cx} : TruR X (fun v H Q => ∃ i : Int, v = .int i ∧ Q (i != 0) H) := by
  intro pins s σ H x v Q I rx h
  obtain ⟨i, rfl, q⟩ := h
  exact tru_ok pins s σ H _ v Q I rx ⟨i != 0, rfl, q⟩
def tTruI (t : TE) : TT := fun σ H Q => t σ H fun x H' => ∃ i : Int, x = .int i ∧ Q (i != 0) H'
theorem pt_truI {X : Cx} {a : Expr} {ta : TE} (ha : PE X a ta) (he : ∀ whole, isTrue a X.env whole = (do let v ← whole; standAt a.pos; holding [v] (truthy v))) : PT X a (tTruI ta) := pt_truthR ha tr_int he
end CK

set_option Elab.async false
set_option linter.all false
set_option maxRecDepth 100000
set_option maxHeartbeats 2000000
/-! the law's end, where no repr is under way -/
namespace CK
open PySem PySem.Spec PyProof.Rows L2
theorem DefF.oneG {K : PySem.W.Frag} {mg : Str → Option Value} {x p : Str} {st : Stmt} (D : DefF K mg x st [p]) : ∃ (f : Addr) (fd : FuncData), mg x = some (.ref f) ∧ (∀ (s : Shared) (v : Value), BindsTo s fd ⟨[v], []⟩ [(p, v)]) ∧
    ∀ {P : Program} {w : World} {base : Heap} {N : List Str} {k : Nat} {sp : Sp} (S : FnScope N [p] (C8.fnScope st)) (len : ∀ vs H Q E, sp vs H Q E → vs.length = 1)
      (body : ∀ (cdv : Value) (A : Around) (outer : List Env) (z : Shared) (H : Hp) (vs : List V) (Q : VK) (E : XK), Room k (A.deeper (envOfC x (C8.fnScope st) z.heap.objs.size f cdv)) → A.guards = some [] → sp vs H Q E →
        ∃ t, PSs (cxOf C8.CX0 P w K mg base N x (C8.fnScope st) f cdv A outer z H E).nox (C8.fnBody st) t ∧ t { nx := fun _ H' => Q .non H', rt := Q } (start N vs) H), FnG P w K mg base (k + 1) f fd [p] sp := by
  obtain ⟨f, fd, F, b⟩ := D.ex
  exact ⟨f, fd, F.mgf, fun s v => .of_eq (b [v] rfl), fun S len body => fnG_of F.fn S len body⟩
section
variable {P : Program} {w : World} {K : PySem.W.Frag} {mg mb : Str → Option Value} {k : Nat} {fa a : Addr} {fd : FuncData} {x : Str} {sp : Sp} {z : Shared} {vs : List Value} {ns : List Int}
/-- from an abstract heap H that tracks the script at most -/
theorem callG_at (inK : K.In z.heap) (gl : z.heap.Ns mainGlobals mg) (bl : z.heap.Ns builtinsNs mb) (bb : ∀ x : Str, x ≠ "__name__" → mb x = bootBuiltins x) (lim : z.heap.NoLimit) (gens : z.gens = #[])
    (scr : z.heap.get? a = some { cls := .type "list", data := .seq vs.toArray }) (room : Room k callerA)
    (F : ∀ base : Heap, K.In base → base.Ns mainGlobals mg → FnG P w K mg base k fa fd [x] sp) (bind : ∀ (s : Shared) (u : Value), BindsTo s fd ⟨[u], []⟩ [(x, u)])
    (H : Hp) (only : Only H) (want : sp [.ref a] H (fun v _ => v = .bl true) fun _ _ _ => False) (hok : HOk P w H z.heap) (alone : ∀ b, H b ≠ none → b = a) (apart : H a ≠ none → K.lookup a = none) :
    codeAny (model P w) callerA (.call (.ref fa) ⟨[.ref a], []⟩) (fun r s' => r = .ok (.ret (.bool true)) ∧ OldK z.heap s'.heap ∧ s'.os = z.os ∧ AllBare s'.gens) z := by
  have isA : ∀ {b : Addr} {u : HO}, H b = some u → b = a := fun {b u} e => alone b fun n => by rw [n] at e; cases e
  have hid : ∀ {b : Addr} {m : Str → Option Value}, z.heap.Ns b m → (hidT z.heap H).Ns b m := by
    intro b m h
    obtain ⟨o, es, ep, e, dt, rest⟩ := h
    refine ⟨o, es, ep, hidT_get e ?_, dt, rest⟩
    match q : H b with
    | none => rfl
    | some u =>
      rw [isA q, scr] at e
      cases e
      exact absurd dt (fun y => by cases y)
  have inB : K.In (hidT z.heap H) := by
    intro b o e
    refine hidT_get (inK b o e) ?_
    match q : H b with
    | none => rfl
    | some u =>
      have ba := isA q
      subst ba
      rw [apart (by rw [q]; exact fun y => by cases y)] at e
      exact absurd e (fun y => by cases y)
  obtain ⟨mc, l1, l2⟩ := lim
  have md : Mod K mg (hidT z.heap H) := ⟨inB, hid gl, ⟨mb, hid bl, bb⟩, ⟨mc, hid l1, l2⟩⟩
  have en : Env0 P w K mg (hidT z.heap H) callerA [] z H :=
    { frames := rfl, mod := md, bs := fun b o e => of_hidT e, bsz := Nat.le_of_eq (hidT_size _ _), funs := trivial, frf := fun b hb => absurd (show b ∈ ([] : List Addr) from hb) List.not_mem_nil, hok := hok, bare := .of_eq gens }
  refine codeAny_mono ((F _ inB (hid gl)).go callerA [] z H ⟨[.ref a], []⟩ [.ref a] [.ref a] _ _ room rfl en (bind z (.ref a)) (.cons rfl .nil) want) fun r s' got => ?_
  match r, got with
  | .ok (.ret u), got =>
    obtain ⟨v, H', os, bare, un, hok', rv, q⟩ := got
    have q : v = .bl true := q
    subst q
    have eu : u = Value.bool true := rv
    subst eu
    refine ⟨rfl, OldK.of_keep fun b o e => ?_, os, bare⟩
    match q : H b with
    | none => exact un.keep b o e q (fun y => absurd (show b ∈ ([] : List Addr) from y) List.not_mem_nil) List.not_mem_nil
    | some u =>
      obtain y | ⟨ob, xs, y⟩ := only b
      · exact absurd (q.symm.trans y) (fun y => by cases y)
      · have o1 := (hok b _ y).1
        have o2 := (hok' b _ (un.frzs b ob _ y)).1
        rw [e] at o1
        rw [Option.some.inj o1]
        exact o2
  | .error e, got => exact absurd got (fun y => nomatch y)
theorem callG (inK : K.In z.heap) (gl : z.heap.Ns mainGlobals mg) (bl : z.heap.Ns builtinsNs mb) (bb : ∀ x : Str, x ≠ "__name__" → mb x = bootBuiltins x) (lim : z.heap.NoLimit) (gens : z.gens = #[])
    (scr : z.heap.get? a = some { cls := .type "list", data := .seq vs.toArray }) (nums : IntsAre vs ns) (len : ns.length ≤ sizeLine) (room : Room k callerA)
    (F : ∀ base : Heap, K.In base → base.Ns mainGlobals mg → FnG P w K mg base k fa fd [x] sp) (bind : ∀ (s : Shared) (u : Value), BindsTo s fd ⟨[u], []⟩ [(x, u)])
    (want : ∀ H : Hp, Only H → SqL K H a (ns.map V.int) → sp [.ref a] H (fun v _ => v = .bl true) fun _ _ _ => False) :
    codeAny (model P w) callerA (.call (.ref fa) ⟨[.ref a], []⟩) (fun r s' => r = .ok (.ret (.bool true)) ∧ OldK z.heap s'.heap ∧ s'.os = z.os ∧ AllBare s'.gens) z := by
  have vals := vals_ints nums
  match look : K.lookup a with
  | some o =>
    have e := inK a o look
    rw [scr] at e
    obtain rfl := Option.some.inj e
    refine callG_at inK gl bl bb lim gens scr room F bind (fun _ => none) (fun _ => .inl rfl) (want _ (fun _ => .inl rfl) (.inr ?_)) (fun b u y => absurd y (fun q => by cases q)) (fun b y => absurd rfl y) (fun y => absurd rfl y)
    exact ⟨_, vs.toArray, _, look, rfl, rfl, rfl, by rw [List.size_toArray, nums.length]; exact len, by simpa using vals⟩
  | none =>
    have at_ : ∀ b, (if b = a then some (HO.frz { cls := .type "list", data := .seq vs.toArray } (.lst (ns.map V.int))) else none) ≠ none → b = a := fun b y => by
      by_cases e : b = a
      · exact e
      · rw [if_neg e] at y
        exact absurd rfl y
    have only : Only fun b => if b = a then some (HO.frz { cls := .type "list", data := .seq vs.toArray } (.lst (ns.map V.int))) else none := fun b => by
      by_cases e : b = a
      · exact .inr ⟨_, _, if_pos e⟩
      · exact .inl (if_neg e)
    refine callG_at inK gl bl bb lim gens scr room F bind _ only (want _ only (.inl (.inr ⟨_, if_pos rfl⟩))) (fun b u y => ?_) at_ fun _ => look
    have e := at_ b (fun q => by have := q.symm.trans y; cases this)
    subst e
    have y' := (if_pos rfl).symm.trans y
    obtain rfl := Option.some.inj y'
    exact ⟨scr, by rw [List.length_map]; exact len, vs, _, vals, scr⟩
end
/-- what k_head leaves, from the law's promise -/
theorem walkG {l : PySem.W.OpenLaw} {n k : Nat} {q : Program} {loose : List Str} {XP : (Str → Option Value) → Heap → Prop} {YP : World → Heap → Prop} {d : DefRec} {K : Params → PySem.W.Frag} {sp : World → Sp} {x : Str}
    (most : l.most = some n) (small : n ≤ sizeLine) (plain : d.params.defaults = []) (room : Room k callerA) (inK : ∀ (w : World) (h : Heap), YP w h → (K w.params).In h)
    (F : ∀ (w : World) (mg : Str → Option Value) (fa : Addr) (h : Heap), (K w.params).In h → h.Ns mainGlobals mg → mg d.name = some (.ref fa) → ∃ fd : FuncData,
      (∀ (s : Shared) (u : Value), BindsTo s fd ⟨[u], []⟩ [(x, u)]) ∧ ∀ base : Heap, (K w.params).In base → base.Ns mainGlobals mg → FnG l.prog w (K w.params) mg base k fa fd [x] (sp w))
    (want : ∀ (w : World) (H : Hp) (a : Addr) (ns : List Int), ns.length ≤ n → Only H → SqL (K w.params) H a (ns.map V.int) → sp w [.ref a] H (fun v _ => v = .bl true) fun _ _ _ => False) :
    PySem.W.WalkO q loose XP YP l.row.toRowW d [] (fun f vs => PySem.call f vs) := by
  refine Att.attach_call most plain fun w _ z mg mb fa _ _ _ _ a vs ns G Y _ _ _ hmg scr nums hl gens => ?_
  have h1 := inK w _ Y
  obtain ⟨fd, bind, hF⟩ := F w mg fa _ h1 G.T.g hmg
  exact callG h1 G.T.g G.T.b G.T.builtins G.T.nolimit gens scr nums (Nat.le_trans hl small) room hF bind fun H hO hS => want w H a ns hl hO hS
end CK

set_option Elab.async false
set_option linter.all false
set_option maxRecDepth 100000
set_option maxHeartbeats 2000000
/-! a tuple of one item, k times, k of at least -1 -/
namespace CK
open PySem PySem.Spec PyProof.Rows L2 SX
theorem mulM1 (l : Addr) (v : Value) (n : Nat) (dd : Option Addr) (sl : Array (Option Value)) (u : Tok) :
    Meets (Builtin.«tuple.__mul__» ⟨[.ref l, .int (-1) u], []⟩) (fun _ R s =>
      s.heap.get? l = some { cls := .type "tuple", dict := dd, data := .seq #[v] n, slots := sl } ∧
      R (.ok (.ret (Value.ref s.heap.objs.size))) { s with heap := s.heap.push { cls := Value.type "tuple", data := Data.seq #[] } }) := by
  refine Meets.of_wp fun prog w A R s h => ?_
  obtain ⟨hq, g, d, tk, o2⟩ := s
  obtain ⟨hl, h⟩ := h
  have f1 := AutoSeq1.idx_int
  wp_walk using wpAny_loadPart' hl
  exact ⟨_, rfl, h⟩
section
variable {X : Cx}
theorem op_repOneZ : OpR X (binaryOp .Mult) (fun x y H Q => ∃ (l : Addr) (k : Int) (v : V), x = .ref l ∧ y = .int k ∧ H l = some (.tup [v]) ∧ -1 ≤ k ∧ k ≤ 1000 ∧
    ∀ p H', Same H H' → H' p = some (.tup (List.replicate k.toNat v)) → Q (.ref p) H') := by
  intro pins s σ H x y xv yv Q I rx ry h
  obtain ⟨l, k, v, rfl, rfl, hl, h0, h1, q⟩ := h
  by_cases hk : k = -1
  · subst hk
    cases rx
    obtain ⟨t, rfl⟩ := ry
    obtain ⟨zs, r, ⟨⟨cl, dd, da, sl⟩, ho, hc, n, hd⟩, hs⟩ := I.tuple (.inl (.inl hl) : SqT X.K H l [v])
    simp only at hc hd
    subst hc hd
    cases r with
    | cons r1 r2 =>
    cases r2
    rename_i u
    refine wpAny_binaryOp_repeat_ref (T := "tuple") (U := "int") (by decide) ⟨_, ho, rfl⟩ (fun s' => typeIs_int s' (-1) t) mulFill F.fills_int_mul F.slot_int_rmul mulSeq F.slot_int_index.lookup
      (call_meets F.slot_int_rmul (typeIs_int s (-1) t) F.entry_int_rmul (F.args_int_rmul_2 _ _) (rmulNo (-1) t l _ n dd sl)
        ⟨ho, rfl, ⟨_, ho, rfl⟩, call_meets F.slot_tuple_mul ⟨_, ho, rfl⟩ F.entry_tuple_mul (F.args_tuple_mul_2 _ _) (mulM1 l _ n dd sl t) ⟨ho, ?_⟩⟩)
    have hn : H s.heap.objs.size = none := I.hok.fresh (Nat.le_refl _)
    refine ⟨.ref s.heap.objs.size, _, I.laid (t' := s.toks) (o := .tup []) (fun b ob q => Heap.get?_push_of_some _ q) (Nat.le_refl _) ?_, rfl, q _ _ (sameNew hn) upd_same⟩
    exact ⟨Nat.zero_le _, [], .nil, IsTup.new _ _⟩
  · exact op_repOne pins s σ H _ _ xv yv Q I rx ry ⟨l, k, v, rfl, rfl, hl, by omega, h1, q⟩
end
end CK

set_option linter.all false
/-! words as lists of numbers: beginnings, borders, periods, powers, roots -/
namespace WM
abbrev W := List Nat
/-! ### beginnings in common -/
def lcp : W → W → Nat
  | x :: xs, y :: ys => if x = y then lcp xs ys + 1 else 0
  | _, _ => 0
theorem lcp_le : ∀ a b : W, lcp a b ≤ a.length ∧ lcp a b ≤ b.length
  | [], b => by simp [lcp]
  | _ :: _, [] => by simp [lcp]
  | x :: xs, y :: ys => by
    have := lcp_le xs ys
    unfold lcp
    split <;> simp <;> omega
theorem lcp_take : ∀ (a b : W) (k : Nat), k ≤ lcp a b → a.take k = b.take k
  | _, _, 0, _ => by simp
  | [], b, k + 1, h => by simp [lcp] at h
  | _ :: _, [], k + 1, h => by simp [lcp] at h
  | x :: xs, y :: ys, k + 1, h => by
    unfold lcp at h
    split at h
    · rename_i e
      subst e
      rw [List.take_succ_cons, List.take_succ_cons, lcp_take xs ys k (by omega)]
    · omega
theorem le_lcp : ∀ (a b : W) (k : Nat), k ≤ a.length → k ≤ b.length → a.take k = b.take k → k ≤ lcp a b
  | _, _, 0, _, _, _ => Nat.zero_le _
  | [], b, k + 1, h, _, _ => by simp at h
  | _ :: _, [], k + 1, _, h, _ => by simp at h
  | x :: xs, y :: ys, k + 1, h1, h2, h => by
    rw [List.take_succ_cons, List.take_succ_cons] at h
    injection h with e1 e2
    subst e1
    have := le_lcp xs ys k (by simpa using h1) (by simpa using h2) e2
    unfold lcp
    rw [if_pos rfl]
    omega
theorem lcp_iff {a b : W} {k : Nat} (h1 : k ≤ a.length) (h2 : k ≤ b.length) : a.take k = b.take k ↔ k ≤ lcp a b := ⟨le_lcp a b k h1 h2, lcp_take a b k⟩

/-! ### periods and borders -/
/-- letters that stand p apart are the same -/
def Per (p : Nat) (w : W) : Prop := ∀ i, i + p < w.length → w[i]? = w[i + p]?
/-- the first b letters are the last b -/
def Bor (b : Nat) (w : W) : Prop := b ≤ w.length ∧ ∀ i, i < b → w[i]? = w[w.length - b + i]?
instance (b : Nat) (w : W) : Decidable (Bor b w) := by unfold Bor; exact inferInstance
theorem bor_per {b : Nat} {w : W} (h : Bor b w) : Per (w.length - b) w := fun i hi => by
  rw [h.2 i (by have := h.1; omega), Nat.add_comm i]
theorem per_bor {p : Nat} {w : W} (hp : p ≤ w.length) (h : Per p w) : Bor (w.length - p) w := by
  refine ⟨Nat.sub_le _ _, fun i hi => ?_⟩
  rw [h i (by omega)]
  congr 1
  omega
theorem per_zero (w : W) : Per 0 w := fun i _ => rfl
theorem per_len {p : Nat} {w : W} (h : w.length ≤ p) : Per p w := fun i hi => by omega
theorem per_take {p k : Nat} {w : W} (h : Per p w) : Per p (w.take k) := fun i hi => by
  rw [List.length_take] at hi
  rw [List.getElem?_take_of_lt (by omega), List.getElem?_take_of_lt (by omega)]
  exact h i (by omega)
theorem per_mul {p : Nat} {w : W} (h : Per p w) : ∀ (k i : Nat), i + p * k < w.length → w[i]? = w[i + p * k]?
  | 0, i, _ => by simp
  | k + 1, i, hi => by
    rw [Nat.mul_succ] at hi ⊢
    rw [per_mul h k i (by omega), h (i + p * k) (by omega)]
    congr 1
    omega
/-- Fine and Wilf's, the weak form -/
theorem per_sub {p q : Nat} {w : W} (hpq : p ≤ q) (hp : Per p w) (hq : Per q w) (hl : p + q ≤ w.length) : Per (q - p) w := fun i hi => by
  by_cases h : i + q < w.length
  · rw [hq i h]
    have := hp (i + (q - p)) (by omega)
    rw [this]
    congr 1
    omega
  · have h1 : p ≤ i := by omega
    have a := hp (i - p) (by omega)
    have b := hq (i - p) (by omega)
    rw [show i - p + p = i by omega] at a
    rw [show i - p + q = i + (q - p) by omega] at b
    rw [← a, b]
theorem fine_wilf : ∀ (n p q : Nat) (w : W), p + q ≤ n → Per p w → Per q w → p + q ≤ w.length → Per (Nat.gcd p q) w
  | 0, p, q, w, hn, hp, hq, _ => by
    have e1 : p = 0 := by omega
    have e2 : q = 0 := by omega
    subst e1 e2
    exact hp
  | n + 1, p, q, w, hn, hp, hq, hl => by
    by_cases p0 : p = 0
    · subst p0
      rw [Nat.gcd_zero_left]
      exact hq
    by_cases q0 : q = 0
    · subst q0
      rw [Nat.gcd_zero_right]
      exact hp
    by_cases h : p ≤ q
    · have := fine_wilf n p (q - p) w (by omega) hp (per_sub h hp hq hl) (by omega)
      rw [Nat.gcd_sub_self_right h] at this
      exact this
    · have := fine_wilf n (p - q) q w (by omega) (per_sub (by omega) hq hp (by omega)) hq (by omega)
      rw [Nat.gcd_sub_self_left (by omega)] at this
      exact this
theorem per_gcd {p q : Nat} {w : W} (hp : Per p w) (hq : Per q w) (hl : p + q ≤ w.length) : Per (Nat.gcd p q) w := fine_wilf _ p q w (Nat.le_refl _) hp hq hl

/-! ### the longest border -/
def lbF (w : W) : Nat → Nat
  | 0 => 0
  | b + 1 => if Bor (b + 1) w then b + 1 else lbF w b
/-- how long the longest border is, besides the word itself -/
def lb (w : W) : Nat := lbF w (w.length - 1)
theorem bor_zero (w : W) : Bor 0 w := ⟨Nat.zero_le _, fun i h => by omega⟩
theorem lbF_bor (w : W) : ∀ b, Bor (lbF w b) w ∧ lbF w b ≤ b
  | 0 => ⟨bor_zero w, Nat.le_refl _⟩
  | b + 1 => by
    unfold lbF
    split
    · rename_i h
      exact ⟨h, Nat.le_refl _⟩
    · have := lbF_bor w b
      exact ⟨this.1, by omega⟩
theorem lbF_max (w : W) : ∀ b c, c ≤ b → Bor c w → c ≤ lbF w b
  | 0, c, h, _ => by omega
  | b + 1, c, h, hc => by
    unfold lbF
    split
    · omega
    · rename_i hn
      by_cases e : c = b + 1
      · subst e
        exact absurd hc hn
      · exact lbF_max w b c (by omega) hc
theorem lb_bor (w : W) : Bor (lb w) w := (lbF_bor w _).1
theorem lb_lt {w : W} (h : w ≠ []) : lb w < w.length := by
  have := (lbF_bor w (w.length - 1)).2
  have := List.length_pos_iff.mpr h
  unfold lb
  omega
theorem lb_max {w : W} {c : Nat} (h : c < w.length) (hc : Bor c w) : c ≤ lb w := lbF_max w _ c (by omega) hc
/-- a border of a border is a border; a shorter border is one of the longer -/
theorem bor_take {w : W} {b c : Nat} (hb : Bor b w) (hc : c ≤ b) : Bor c w ↔ Bor c (w.take b) := by
  have l : (w.take b).length = b := by rw [List.length_take]; have := hb.1; omega
  constructor
  · intro h
    refine ⟨by rw [l]; exact hc, fun i hi => ?_⟩
    rw [l, List.getElem?_take_of_lt (by omega), List.getElem?_take_of_lt (by omega), h.2 i hi, hb.2 (b - c + i) (by omega)]
    congr 1
    have := hb.1
    omega
  · intro h
    refine ⟨Nat.le_trans hc hb.1, fun i hi => ?_⟩
    have := h.2 i hi
    rw [l, List.getElem?_take_of_lt (by omega), List.getElem?_take_of_lt (by omega)] at this
    rw [this, hb.2 (b - c + i) (by omega)]
    congr 1
    have := hb.1
    omega
/-- a border, one letter longer -/
theorem bor_succ {w : W} {n b : Nat} (hn : n < w.length) (hb : b < n) : Bor (b + 1) (w.take (n + 1)) ↔ Bor b (w.take n) ∧ w[b]? = w[n]? := by
  have l1 : (w.take (n + 1)).length = n + 1 := by rw [List.length_take]; omega
  have l0 : (w.take n).length = n := by rw [List.length_take]; omega
  constructor
  · intro h
    refine ⟨⟨by omega, fun i hi => ?_⟩, ?_⟩
    · have := h.2 i (by omega)
      rw [l1, List.getElem?_take_of_lt (by omega), List.getElem?_take_of_lt (by omega)] at this
      rw [l0, List.getElem?_take_of_lt (by omega), List.getElem?_take_of_lt (by omega), this]
      congr 1
      omega
    · have := h.2 b (by omega)
      rw [l1, List.getElem?_take_of_lt (by omega), List.getElem?_take_of_lt (by omega)] at this
      rw [this]
      congr 1
      omega
  · rintro ⟨h, e⟩
    refine ⟨by omega, fun i hi => ?_⟩
    rw [l1, List.getElem?_take_of_lt (by omega), List.getElem?_take_of_lt (by omega)]
    by_cases z : i < b
    · have := h.2 i z
      rw [l0, List.getElem?_take_of_lt (by omega), List.getElem?_take_of_lt (by omega)] at this
      rw [this]
      congr 1
      omega
    · have e1 : i = b := by omega
      subst e1
      rw [e]
      congr 1
      omega
/-- the walk down the borders: the state at a turn of the inner loop -/
def Cand (w : W) (n s : Nat) : Prop := s < n ∧ Bor s (w.take n) ∧ ∀ b, b < n → Bor b (w.take n) → w[b]? = w[n]? → b ≤ s
theorem cand_start {w : W} {n : Nat} (hn : n ≤ w.length) (h0 : 0 < n) : Cand w n (lb (w.take n)) := by
  have l0 : (w.take n).length = n := by rw [List.length_take]; omega
  have ne : w.take n ≠ [] := fun z => by rw [z] at l0; simp at l0; omega
  refine ⟨by have := lb_lt ne; omega, lb_bor _, fun b hb h _ => lb_max (by omega) h⟩
theorem cand_down {w : W} {n s : Nat} (hn : n ≤ w.length) (h : Cand w n s) (hs : 0 < s) (hd : w[s]? ≠ w[n]?) : Cand w n (lb (w.take s)) := by
  obtain ⟨h1, h2, h3⟩ := h
  have ls : (w.take s).length = s := by rw [List.length_take]; omega
  have ne : w.take s ≠ [] := fun z => by rw [z] at ls; simp at ls; omega
  have lt := lb_lt ne
  have tt : (w.take n).take s = w.take s := by rw [List.take_take]; congr 1; omega
  have bs : Bor (lb (w.take s)) (w.take n) := by
    rw [bor_take h2 (by omega), tt]
    exact lb_bor _
  refine ⟨by omega, bs, fun b hb hB e => ?_⟩
  have le := h3 b hb hB e
  have ne2 : b ≠ s := fun z => hd (by rw [← z]; exact e)
  have : Bor b (w.take s) := by
    rw [← tt, ← bor_take h2 (by omega)]
    exact hB
  exact lb_max (by omega) this
theorem cand_hit {w : W} {n s : Nat} (hn : n < w.length) (h : Cand w n s) (e : w[s]? = w[n]?) : lb (w.take (n + 1)) = s + 1 := by
  obtain ⟨h1, h2, h3⟩ := h
  have l1 : (w.take (n + 1)).length = n + 1 := by rw [List.length_take]; omega
  have ne : w.take (n + 1) ≠ [] := fun z => by rw [z] at l1; simp at l1
  have hB : Bor (s + 1) (w.take (n + 1)) := (bor_succ hn h1).mpr ⟨h2, e⟩
  have le := lb_max (by omega) hB
  have lt := lb_lt ne
  have lB := lb_bor (w.take (n + 1))
  generalize lb (w.take (n + 1)) = x at le lt lB ⊢
  cases x with
  | zero => omega
  | succ x =>
    obtain ⟨a, b⟩ := (bor_succ hn (by omega)).mp lB
    have := h3 x (by omega) a b
    omega
theorem cand_miss {w : W} {n : Nat} (hn : n < w.length) (h : Cand w n 0) (e : w[0]? ≠ w[n]?) : lb (w.take (n + 1)) = 0 := by
  obtain ⟨h1, h2, h3⟩ := h
  have l1 : (w.take (n + 1)).length = n + 1 := by rw [List.length_take]; omega
  have ne : w.take (n + 1) ≠ [] := fun z => by rw [z] at l1; simp at l1
  have lt := lb_lt ne
  have lB := lb_bor (w.take (n + 1))
  generalize lb (w.take (n + 1)) = x at lt lB ⊢
  cases x with
  | zero => rfl
  | succ x =>
    obtain ⟨a, b⟩ := (bor_succ hn (by omega)).mp lB
    have := h3 x (by omega) a b
    have z : x = 0 := by omega
    subst z
    exact absurd b e
theorem lb_one {w : W} : lb (w.take 1) = 0 := by
  cases w with
  | nil => simp [lb, lbF]
  | cons x r => simp [lb, lbF]

/-! ### powers and roots -/
/-- w taken k times -/
def pw (w : W) (k : Nat) : W := (List.replicate k w).flatten
theorem pw_succ (w : W) (k : Nat) : pw w (k + 1) = w ++ pw w k := by unfold pw; rw [List.replicate_succ, List.flatten_cons]
theorem pw_zero (w : W) : pw w 0 = [] := rfl
theorem pw_len (w : W) : ∀ k, (pw w k).length = w.length * k
  | 0 => by simp [pw_zero]
  | k + 1 => by rw [pw_succ, List.length_append, pw_len w k, Nat.mul_succ, Nat.add_comm]
theorem pw_add (w : W) : ∀ a b, pw w (a + b) = pw w a ++ pw w b
  | 0, b => by rw [Nat.zero_add, pw_zero, List.nil_append]
  | a + 1, b => by rw [show a + 1 + b = a + b + 1 by omega, pw_succ, pw_add w a b, pw_succ, List.append_assoc]
theorem pw_get {w : W} (h : w ≠ []) : ∀ (k i : Nat), i < w.length * k → (pw w k)[i]? = w[i % w.length]?
  | 0, i, hi => by simp at hi
  | k + 1, i, hi => by
    have n0 := List.length_pos_iff.mpr h
    rw [pw_succ]
    by_cases z : i < w.length
    · rw [List.getElem?_append_left z, Nat.mod_eq_of_lt z]
    · have hm : w.length * (k + 1) = w.length * k + w.length := Nat.mul_succ ..
      rw [List.getElem?_append_right (by omega), pw_get h k _ (by omega), Nat.mod_eq_sub_mod (show i ≥ w.length by omega)]
/-- a word with a period that divides its length is a power -/
theorem per_pw {w : W} {d : Nat} (hd : 0 < d) (hp : Per d w) (hv : d ∣ w.length) : w = pw (w.take d) (w.length / d) := by
  obtain ⟨k, hk⟩ := hv
  by_cases k0 : k = 0
  · subst k0
    rw [Nat.mul_zero] at hk
    rw [List.length_eq_zero_iff.mp hk]
    simp [pw]
  have dl : d ≤ w.length := by rw [hk]; exact Nat.le_mul_of_pos_right d (by omega)
  have lt : (w.take d).length = d := by rw [List.length_take]; omega
  have ne : w.take d ≠ [] := fun z => by rw [z] at lt; simp at lt; omega
  have ek : w.length / d = k := by rw [hk]; exact Nat.mul_div_cancel_left k hd
  rw [ek]
  refine List.ext_getElem? fun i => ?_
  by_cases hi : i < w.length
  · rw [pw_get ne k i (by rw [lt, ← hk]; exact hi), lt, List.getElem?_take_of_lt (Nat.mod_lt i hd)]
    have := per_mul hp (i / d) (i % d) (by rw [Nat.mod_add_div]; exact hi)
    rw [this, Nat.mod_add_div]
  · rw [List.getElem?_eq_none (by omega), List.getElem?_eq_none (by rw [pw_len, lt, ← hk]; omega)]
theorem pw_per {u : W} (h : u ≠ []) (k : Nat) : Per u.length (pw u k) := fun i hi => by
  rw [pw_len] at hi
  rw [pw_get h k i (by omega), pw_get h k _ hi, Nat.add_mod_right]
/-- not empty, and no shorter word taken several times -/
def Prim (w : W) : Prop := w ≠ [] ∧ ∀ d, 0 < d → d ∣ w.length → Per d w → d = w.length
theorem prim_pw {w u : W} {k : Nat} (h : Prim w) (e : w = pw u k) : k = 1 ∧ u = w := by
  have une : u ≠ [] := fun z => by
    subst z
    apply h.1
    rw [e]
    simp [pw]
  have l : w.length = u.length * k := by rw [e, pw_len]
  have := h.2 u.length (List.length_pos_iff.mpr une) ⟨k, l⟩ (by rw [e]; exact pw_per une k)
  have n0 := List.length_pos_iff.mpr une
  have k1 : k = 1 := by
    rw [this] at l
    have : w.length * 1 = w.length * k := by omega
    exact (Nat.eq_of_mul_eq_mul_left (by omega) this).symm
  subst k1
  exact ⟨rfl, by rw [e, pw_succ, pw_zero, List.append_nil]⟩
/-- the root's length, as the program finds it -/
def rootN (w : W) : Nat := if w.length % (w.length - lb w) = 0 then w.length - lb w else w.length
theorem rootN_dvd (w : W) : rootN w ∣ w.length := by
  unfold rootN
  split
  · rename_i h
    exact Nat.dvd_of_mod_eq_zero h
  · exact Nat.dvd_refl _
theorem rootN_pos {w : W} (h : w ≠ []) : 0 < rootN w := by
  have := lb_lt h
  have := List.length_pos_iff.mpr h
  unfold rootN
  split <;> omega
theorem rootN_le {w : W} (h : w ≠ []) : rootN w ≤ w.length := Nat.le_of_dvd (List.length_pos_iff.mpr h) (rootN_dvd w)
theorem rootN_per (w : W) : Per (rootN w) w := by
  unfold rootN
  split
  · exact bor_per (lb_bor w)
  · exact per_len (Nat.le_refl _)
/-- no period is less than the program's step -/
theorem step_least {w : W} {p : Nat} (hp : 0 < p) (hl : p ≤ w.length) (h : Per p w) : w.length - lb w ≤ p := by
  have := lb_max (c := w.length - p) (by omega) (per_bor hl h)
  omega
/-- a period of the word that divides its length is a multiple of the root's -/
theorem root_div {w : W} (hw : w ≠ []) {d : Nat} (hd : 0 < d) (hv : d ∣ w.length) (h : Per d w) : rootN w ∣ d := by
  have n0 := List.length_pos_iff.mpr hw
  have dl := Nat.le_of_dvd n0 hv
  have lt := lb_lt hw
  have s := step_least hd dl h
  by_cases e : d = w.length
  · rw [e]
    exact rootN_dvd w
  · have two : d + d ≤ w.length := by
      obtain ⟨k, hk⟩ := hv
      have : k ≠ 0 := fun z => by subst z; omega
      have : k ≠ 1 := fun z => by subst z; omega
      have : d * 2 ≤ d * k := Nat.mul_le_mul_left d (by omega)
      omega
    have g := per_gcd (bor_per (lb_bor w)) h (by omega)
    have gp : 0 < Nat.gcd (w.length - lb w) d := Nat.gcd_pos_of_pos_right _ hd
    have g1 := step_least gp (Nat.le_trans (Nat.gcd_le_right _ hd) dl) g
    have g2 : Nat.gcd (w.length - lb w) d ∣ w.length - lb w := Nat.gcd_dvd_left _ _
    have g3 : Nat.gcd (w.length - lb w) d = w.length - lb w := Nat.le_antisymm (Nat.le_of_dvd (by omega) g2) g1
    have g4 : w.length - lb w ∣ d := by rw [← g3]; exact Nat.gcd_dvd_right _ _
    have : w.length % (w.length - lb w) = 0 := Nat.mod_eq_zero_of_dvd (Nat.dvd_trans g4 hv)
    unfold rootN
    rw [if_pos this]
    exact g4
theorem root_prim {w : W} (hw : w ≠ []) : Prim (w.take (rootN w)) := by
  have r0 := rootN_pos hw
  have rl := rootN_le hw
  have l : (w.take (rootN w)).length = rootN w := by rw [List.length_take]; omega
  refine ⟨fun z => by rw [z] at l; simp at l; omega, fun d hd hv h => ?_⟩
  rw [l] at hv ⊢
  -- a period of the root that divides it is one of the word
  have hw' : Per d w := fun i hi => by
    have mul : ∀ j, j < w.length → w[j]? = w[j % rootN w]? := fun j hj => by
      have := per_mul (rootN_per w) (j / rootN w) (j % rootN w) (by rw [Nat.mod_add_div]; exact hj)
      rw [Nat.mod_add_div] at this
      exact this.symm
    have inner : ∀ j, j < rootN w → w[j]? = w[j % d]? := fun j hj => by
      have := per_mul h (j / d) (j % d) (by rw [Nat.mod_add_div, l]; exact hj)
      rw [Nat.mod_add_div, List.getElem?_take_of_lt hj, List.getElem?_take_of_lt (by have := Nat.mod_le j d; omega)] at this
      exact this.symm
    rw [mul i (by omega), mul (i + d) hi, inner _ (Nat.mod_lt _ r0), inner ((i + d) % rootN w) (Nat.mod_lt _ r0)]
    congr 1
    rw [Nat.mod_mod_of_dvd _ hv, Nat.mod_mod_of_dvd _ hv, Nat.add_mod_right]
  exact Nat.dvd_antisymm hv (root_div hw hd (Nat.dvd_trans hv (rootN_dvd w)) hw')
theorem root_pw {w : W} (hw : w ≠ []) : w = pw (w.take (rootN w)) (w.length / rootN w) := per_pw (rootN_pos hw) (rootN_per w) (rootN_dvd w)
end WM

set_option linter.all false
set_option maxRecDepth 100000
namespace NM
open WM
/-! ### the last letters of a word taken without end; rotations -/
theorem mod_of {a b L x y : Nat} (h : a + L * x = b + L * y) : a % L = b % L := by
  rw [← Nat.add_mul_mod_self_left a L x, h, Nat.add_mul_mod_self_left]
def rotR (u : W) (k : Nat) : W := u.drop (u.length - k % u.length) ++ u.take (u.length - k % u.length)
def tailE (u : W) (k : Nat) : W := u.drop (u.length - k % u.length) ++ pw u (k / u.length)
theorem tailE_len {u : W} (h : u ≠ []) (k : Nat) : (tailE u k).length = k := by
  have n0 := List.length_pos_iff.mpr h
  have := Nat.mod_lt k n0
  have := Nat.mod_add_div k u.length
  unfold tailE
  rw [List.length_append, List.length_drop, pw_len]
  omega
theorem tailE_get {u : W} (h : u ≠ []) {k i : Nat} (hi : i < k) : (tailE u k)[i]? = u[(i + (u.length - k % u.length)) % u.length]? := by
  have n0 := List.length_pos_iff.mpr h
  have hm := Nat.mod_lt k n0
  have hd := Nat.mod_add_div k u.length
  unfold tailE
  by_cases z : i < k % u.length
  · rw [List.getElem?_append_left (by rw [List.length_drop]; omega), List.getElem?_drop, Nat.mod_eq_of_lt (show i + (u.length - k % u.length) < u.length by omega), Nat.add_comm]
  · rw [List.getElem?_append_right (by rw [List.length_drop]; omega), List.length_drop, pw_get h _ _ (by omega)]
    congr 1
    exact mod_of (x := 1) (y := 0) (by omega)
theorem tailE_drop {u : W} (h : u ≠ []) {n k : Nat} (hk : k ≤ n) : (tailE u n).drop (n - k) = tailE u k := by
  have n0 := List.length_pos_iff.mpr h
  refine List.ext_getElem? fun i => ?_
  by_cases hi : i < k
  · rw [List.getElem?_drop, tailE_get h (by omega), tailE_get h hi]
    congr 1
    have h1 := Nat.mod_add_div n u.length
    have h2 := Nat.mod_add_div k u.length
    have h3 := Nat.mod_lt n n0
    have h4 := Nat.mod_lt k n0
    exact mod_of (x := k / u.length) (y := n / u.length) (by omega)
  · rw [List.getElem?_eq_none (by rw [List.length_drop, tailE_len h]; omega), List.getElem?_eq_none (by rw [tailE_len h]; omega)]
theorem pw_comm (p s : W) : ∀ j, pw (s ++ p) j ++ s = s ++ pw (p ++ s) j
  | 0 => by simp [pw]
  | j + 1 => by
    rw [pw_succ, pw_succ, List.append_assoc, pw_comm p s j]
    simp [List.append_assoc]
theorem rotR_split (u : W) (k : Nat) : rotR u k = u.drop (u.length - k % u.length) ++ u.take (u.length - k % u.length) := rfl
theorem rotR_len (u : W) (k : Nat) : (rotR u k).length = u.length := by
  unfold rotR
  rw [List.length_append, List.length_drop, List.length_take]
  omega
/-- what is moved behind a power, and the power turned -/
theorem move_pw (u : W) (k j : Nat) : pw (rotR u k) j ++ tailE u k = tailE u k ++ pw u j := by
  have e : u.take (u.length - k % u.length) ++ u.drop (u.length - k % u.length) = u := List.take_append_drop _ _
  unfold tailE rotR
  rw [← List.append_assoc, pw_comm, e, List.append_assoc, ← pw_add, List.append_assoc, ← pw_add, Nat.add_comm]
theorem rotR_get {u : W} (h : u ≠ []) (k : Nat) {i : Nat} (hi : i < u.length) : (rotR u k)[i]? = u[(i + (u.length - k % u.length)) % u.length]? := by
  have n0 := List.length_pos_iff.mpr h
  have hm := Nat.mod_lt k n0
  unfold rotR
  by_cases z : i < k % u.length
  · rw [List.getElem?_append_left (by rw [List.length_drop]; omega), List.getElem?_drop, Nat.mod_eq_of_lt (show i + (u.length - k % u.length) < u.length by omega), Nat.add_comm]
  · rw [List.getElem?_append_right (by rw [List.length_drop]; omega), List.length_drop, List.getElem?_take_of_lt (by omega)]
    congr 1
    rw [show i - (u.length - (u.length - k % u.length)) = i - k % u.length by omega]
    have := mod_of (a := i + (u.length - k % u.length)) (b := i - k % u.length) (L := u.length) (x := 0) (y := 1) (by omega)
    rw [this, Nat.mod_eq_of_lt (show i - k % u.length < u.length by omega)]
theorem rotR_ne {u : W} (h : u ≠ []) (k : Nat) : rotR u k ≠ [] := fun z => by
  have := rotR_len u k
  rw [z] at this
  exact h (List.length_eq_zero_iff.mp this.symm)
theorem rotR_zero (u : W) : rotR u 0 = u := by
  unfold rotR
  simp
theorem last_get {w : W} (h : w ≠ []) : w.getLast? = w[w.length - 1]? := List.getLast?_eq_getElem? ..
/-- the last letter of the turned word is the letter ahead of what was moved -/
theorem rotR_last {u : W} (h : u ≠ []) {n k : Nat} (hk : k < n) : (rotR u k).getLast? = (tailE u n)[n - k - 1]? := by
  have n0 := List.length_pos_iff.mpr h
  rw [last_get (rotR_ne h k), rotR_len, rotR_get h k (by omega), tailE_get h (by omega)]
  congr 1
  have h1 := Nat.mod_add_div n u.length
  have h2 := Nat.mod_add_div k u.length
  have h3 := Nat.mod_lt n n0
  have h4 := Nat.mod_lt k n0
  exact mod_of (x := n / u.length) (y := k / u.length + 1) (by rw [Nat.mul_add]; omega)
theorem per_at {d : Nat} {w : W} (hd : 0 < d) (h : Per d w) {i : Nat} (hi : i < w.length) : w[i]? = w[i % d]? := by
  have := per_mul h (i / d) (i % d) (by rw [Nat.mod_add_div]; exact hi)
  rw [Nat.mod_add_div] at this
  exact this.symm
theorem prim_rotR {u : W} (h : Prim u) (k : Nat) : Prim (rotR u k) := by
  have ne := h.1
  have n0 := List.length_pos_iff.mpr ne
  refine ⟨rotR_ne ne k, fun d hd hv hp => ?_⟩
  rw [rotR_len] at hv ⊢
  refine h.2 d hd hv fun i hi => ?_
  -- letter i of u stands in the turned word at the place i + k
  have at_ : ∀ j, j < u.length → u[j]? = (rotR u k)[(j + k) % u.length]? := fun j hj => by
    rw [rotR_get ne k (Nat.mod_lt _ n0)]
    congr 1
    have h1 := Nat.mod_add_div (j + k) u.length
    have h2 := Nat.mod_add_div k u.length
    have h4 := Nat.mod_lt k n0
    have := mod_of (a := (j + k) % u.length + (u.length - k % u.length)) (b := j) (L := u.length) (x := (j + k) / u.length) (y := k / u.length + 1) (by rw [Nat.mul_add]; omega)
    rw [this, Nat.mod_eq_of_lt hj]
  have l := rotR_len u k
  rw [at_ i (by omega), at_ (i + d) hi, per_at hd hp (by rw [l]; exact Nat.mod_lt _ n0), per_at hd hp (i := (i + d + k) % u.length) (by rw [l]; exact Nat.mod_lt _ n0)]
  congr 1
  rw [Nat.mod_mod_of_dvd _ hv, Nat.mod_mod_of_dvd _ hv, show i + d + k = i + k + d by omega, Nat.add_mod_right]
/-! ### how many letters are moved -/
def movedE (ahead u : W) : Nat := lcp ahead.reverse (tailE u ahead.length).reverse
theorem movedE_le (ahead u : W) : movedE ahead u ≤ ahead.length := by
  have := (lcp_le ahead.reverse (tailE u ahead.length).reverse).1
  rw [List.length_reverse] at this
  exact this
theorem moved_drop {ahead u : W} (h : u ≠ []) : ahead.drop (ahead.length - movedE ahead u) = tailE u (movedE ahead u) := by
  have hle := movedE_le ahead u
  have e := lcp_take ahead.reverse (tailE u ahead.length).reverse _ (Nat.le_refl _)
  rw [List.take_reverse, List.take_reverse] at e
  have e2 := List.reverse_inj.mp e
  rw [tailE_len h] at e2
  rw [← tailE_drop h hle]
  exact e2
theorem lcp_next : ∀ (a b : W), lcp a b < a.length → lcp a b < b.length → a[lcp a b]? ≠ b[lcp a b]?
  | [], b, h, _ => by simp at h
  | _ :: _, [], _, h => by simp at h
  | x :: xs, y :: ys, h1, h2 => by
    unfold lcp at h1 h2 ⊢
    by_cases e : x = y
    · rw [if_pos e] at h1 h2 ⊢
      rw [List.getElem?_cons_succ, List.getElem?_cons_succ]
      exact lcp_next xs ys (by simpa using h1) (by simpa using h2)
    · rw [if_neg e]
      simp [e]
theorem moved_next {ahead u : W} (h : u ≠ []) (hk : movedE ahead u < ahead.length) : (ahead.take (ahead.length - movedE ahead u)).getLast? ≠ (rotR u (movedE ahead u)).getLast? := by
  rw [rotR_last h hk, List.getLast?_eq_getElem?, List.length_take, Nat.min_eq_left (by omega), List.getElem?_take_of_lt (by omega)]
  have := lcp_next ahead.reverse (tailE u ahead.length).reverse (by rw [List.length_reverse]; exact hk) (by rw [List.length_reverse, tailE_len h]; exact hk)
  rw [List.getElem?_reverse (by exact hk), List.getElem?_reverse (by rw [tailE_len h]; exact hk), tailE_len h] at this
  have e : ahead.length - movedE ahead u - 1 = ahead.length - 1 - movedE ahead u := by omega
  rw [e]
  exact this
theorem moved_zero {ahead u : W} (h : u ≠ []) (ha : ahead ≠ []) (hl : ahead.getLast? ≠ u.getLast?) : movedE ahead u = 0 := by
  have n0 := List.length_pos_iff.mpr ha
  have u0 := List.length_pos_iff.mpr h
  by_cases z : movedE ahead u = 0
  · exact z
  exfalso
  apply hl
  have e := moved_drop (ahead := ahead) h
  have hle := movedE_le ahead u
  rw [List.getLast?_eq_getElem?, List.getLast?_eq_getElem?]
  have h1 : (ahead.drop (ahead.length - movedE ahead u))[movedE ahead u - 1]? = (tailE u (movedE ahead u))[movedE ahead u - 1]? := by rw [e]
  rw [List.getElem?_drop, tailE_get h (by omega)] at h1
  rw [show ahead.length - 1 = ahead.length - movedE ahead u + (movedE ahead u - 1) by omega, h1]
  congr 1
  have h2 := Nat.mod_add_div (movedE ahead u) u.length
  have h4 := Nat.mod_lt (movedE ahead u) u0
  have := mod_of (a := movedE ahead u - 1 + (u.length - movedE ahead u % u.length)) (b := u.length - 1) (L := u.length) (x := 0) (y := movedE ahead u / u.length) (by omega)
  rw [this, Nat.mod_eq_of_lt (show u.length - 1 < u.length by omega)]
end NM

set_option linter.all false
set_option maxRecDepth 100000
/-! normal lists of pieces: the program's steps as functions, and what they keep -/
namespace NM
open WM
abbrev F := List Nat
abbrev Pn := W × F
def isOpen (f : F) : Bool := f.tail.any fun x => decide (x ≠ 0)
def isPow (p : Pn) : Bool := decide (p.2.headD 0 = 0)
def one1 (m : Nat) : F := 1 :: List.replicate m 0
def fixP (w : W) (m : Nat) : Pn := (w, one1 m)
def addF (f g : F) : F := List.zipWith (fun x y => x + y) f g
def timesF (k : Nat) (f : F) : F := f.map fun x => k * x
def joinF (acc : List Pn) (w : W) (m : Nat) : List Pn :=
  match acc.getLast? with
  | some q => if isPow q then (if w = [] then acc else acc ++ [fixP w m]) else (if q.1 ++ w = [] then acc.dropLast else acc.dropLast ++ [fixP (q.1 ++ w) m])
  | none => if w = [] then acc else acc ++ [fixP w m]
/-- a power, behind what is no fixed piece -/
def pushP (acc : List Pn) (u : W) (f : F) : List Pn :=
  match acc.getLast? with
  | some q => if isPow q ∧ q.1 = u then acc.dropLast ++ [(u, addF q.2 f)] else acc ++ [(u, f)]
  | none => acc ++ [(u, f)]
def putP (acc : List Pn) (u : W) (f : F) : List Pn :=
  match acc.getLast? with
  | some q => if isPow q then joinF (pushP acc u f) [] (f.length - 1)
    else joinF (pushP (joinF acc.dropLast (q.1.take (q.1.length - movedE q.1 u)) (f.length - 1)) (rotR u (movedE q.1 u)) f) (q.1.drop (q.1.length - movedE q.1 u)) (f.length - 1)
  | none => joinF (pushP acc u f) [] (f.length - 1)
def stepA (acc : List Pn) (p : Pn) : List Pn := if p.1 ≠ [] ∧ isOpen p.2 then putP acc (p.1.take (rootN p.1)) (timesF (p.1.length / rootN p.1) (0 :: p.2.tail)) else acc
def stepB (acc : List Pn) (p : Pn) : List Pn := if p.1 ≠ [] ∧ p.2.headD 0 ≠ 0 then joinF acc (pw p.1 (p.2.headD 0)) (p.2.length - 1) else acc
def stepN (acc : List Pn) (p : Pn) : List Pn := stepB (stepA acc p) p
def normL (ps : List Pn) : List Pn := ps.foldl stepN []

/-! ### what is written at a point -/
def dot : List Nat → List Nat → Nat
  | x :: xs, y :: ys => x * y + dot xs ys
  | _, _ => 0
def valF (f : F) (pt : List Nat) : Nat := f.headD 0 + dot f.tail pt
def wrt (pt : List Nat) (p : Pn) : W := pw p.1 (valF p.2 pt)
def wr (pt : List Nat) : List Pn → W
  | [] => []
  | p :: r => wrt pt p ++ wr pt r
theorem wr_app (pt : List Nat) : ∀ a b, wr pt (a ++ b) = wr pt a ++ wr pt b
  | [], b => rfl
  | p :: r, b => by rw [List.cons_append, wr, wr, wr_app pt r b, List.append_assoc]
theorem wr_one (pt : List Nat) (p : Pn) : wr pt [p] = wrt pt p := by rw [wr, wr, List.append_nil]
theorem dot_zero : ∀ (m : Nat) (pt : List Nat), dot (List.replicate m 0) pt = 0
  | 0, _ => by simp [dot]
  | m + 1, [] => by simp [dot, List.replicate_succ]
  | m + 1, y :: ys => by rw [List.replicate_succ, dot, dot_zero m ys]; simp
theorem val_one (m : Nat) (pt : List Nat) : valF (one1 m) pt = 1 := by
  unfold valF one1
  simp [dot_zero]
theorem pw_one (w : W) : pw w 1 = w := by rw [pw_succ, pw_zero, List.append_nil]
theorem wrt_fix (pt : List Nat) (w : W) (m : Nat) : wrt pt (fixP w m) = w := by
  unfold wrt fixP
  rw [val_one, pw_one]
theorem last_split {α : Type} {l : List α} {q : α} (h : l.getLast? = some q) : l = l.dropLast ++ [q] := by
  obtain ⟨ne, e⟩ := List.getLast?_eq_some_iff.mp h
  subst e
  simp
theorem dot_add : ∀ (f g pt : List Nat), f.length = g.length → dot (List.zipWith (fun x y => x + y) f g) pt = dot f pt + dot g pt
  | [], [], _, _ => by simp [dot]
  | _ :: _, [], _, h => by simp at h
  | [], _ :: _, _, h => by simp at h
  | x :: f, y :: g, [], _ => by simp [dot]
  | x :: f, y :: g, z :: pt, h => by
    rw [List.zipWith_cons_cons, dot, dot, dot, dot_add f g pt (by simpa using h), Nat.add_mul]
    omega
theorem val_add {f g : F} (pt : List Nat) (h : f.length = g.length) : valF (addF f g) pt = valF f pt + valF g pt := by
  cases f with
  | nil =>
    cases g with
    | nil => simp [valF, addF, dot]
    | cons _ _ => simp at h
  | cons x f =>
    cases g with
    | nil => simp at h
    | cons y g =>
      unfold valF addF
      rw [List.zipWith_cons_cons]
      simp only [List.headD_cons, List.tail_cons]
      rw [dot_add f g pt (by simpa using h)]
      omega
theorem dot_times (k : Nat) : ∀ (f pt : List Nat), dot (f.map fun x => k * x) pt = k * dot f pt
  | [], _ => by simp [dot]
  | x :: f, [] => by simp [dot]
  | x :: f, y :: pt => by rw [List.map_cons, dot, dot, dot_times k f pt, Nat.mul_add, Nat.mul_assoc]
theorem val_times (k : Nat) (f : F) (pt : List Nat) : valF (timesF k f) pt = k * valF f pt := by
  cases f with
  | nil => simp [valF, timesF, dot]
  | cons x f =>
    unfold valF timesF
    rw [List.map_cons]
    simp only [List.headD_cons, List.tail_cons]
    rw [dot_times, Nat.mul_add]
/-- forms as they stand in a list for m unknowns -/
def LenF (m : Nat) (ps : List Pn) : Prop := ∀ p ∈ ps, p.2.length = m + 1
/-- the fixed pieces have the form of one -/
def FixOk (m : Nat) (ps : List Pn) : Prop := ∀ p ∈ ps, isPow p = false → p.2 = one1 m
theorem isPow_fix (w : W) (m : Nat) : isPow (fixP w m) = false := rfl
theorem wr_joinF {acc : List Pn} {m : Nat} (h : FixOk m acc) (w : W) (pt : List Nat) : wr pt (joinF acc w m) = wr pt acc ++ w := by
  unfold joinF
  split
  · next q hq =>
    have e := last_split hq
    have mem : q ∈ acc := List.mem_of_getLast? hq
    split
    · split
      · next z => rw [z, List.append_nil]
      · rw [wr_app, wr_one, wrt_fix]
    · next np =>
      have f1 := h q mem (by simpa using np)
      have wq : wrt pt q = q.1 := by unfold wrt; rw [f1, val_one, pw_one]
      have ew : wr pt acc = wr pt acc.dropLast ++ q.1 := by
        conv => lhs; rw [e]
        rw [wr_app, wr_one, wq]
      split
      · next z =>
        rw [ew]
        have z1 := (List.append_eq_nil_iff.mp z).1
        have z2 := (List.append_eq_nil_iff.mp z).2
        rw [z1, z2, List.append_nil, List.append_nil]
      · rw [wr_app, wr_one, wrt_fix, ew, List.append_assoc]
  · split
    · next z => rw [z, List.append_nil]
    · rw [wr_app, wr_one, wrt_fix]
theorem wr_pushP {acc : List Pn} {m : Nat} (h : LenF m acc) {u : W} {f : F} (hf : f.length = m + 1) (pt : List Nat) : wr pt (pushP acc u f) = wr pt acc ++ wrt pt (u, f) := by
  unfold pushP
  split
  · next q hq =>
    have e := last_split hq
    have mem : q ∈ acc := List.mem_of_getLast? hq
    split
    · next z =>
      have ew : wr pt acc = wr pt acc.dropLast ++ wrt pt q := by
        conv => lhs; rw [e]
        rw [wr_app, wr_one]
      rw [wr_app, wr_one, ew, List.append_assoc]
      congr 1
      show pw u (valF (addF q.2 f) pt) = pw q.1 (valF q.2 pt) ++ pw u (valF f pt)
      rw [val_add pt (by rw [h q mem, hf]), pw_add, z.2]
    · rw [wr_app, wr_one]
  · rw [wr_app, wr_one]

/-! ### the fold's facts -/
theorem get_dropLast {α : Type} {l : List α} {i : Nat} {x : α} (h : l.dropLast[i]? = some x) : l[i]? = some x := by
  rw [List.getElem?_dropLast] at h
  split at h
  · exact h
  · cases h
theorem mem_dropLast {α : Type} {l : List α} {x : α} (h : x ∈ l.dropLast) : x ∈ l := List.dropLast_subset _ h
structure NormP (m : Nat) (p : Pn) : Prop where
  ne : p.1 ≠ []
  len : p.2.length = m + 1
  fix : isPow p = false → p.2 = one1 m
  pow : isPow p = true → Prim p.1 ∧ isOpen p.2 = true
structure Adj (p q : Pn) : Prop where
  fix : isPow p = false → isPow q = true ∧ p.1.getLast? ≠ q.1.getLast?
  pow : isPow p = true → isPow q = true → p.1 ≠ q.1
structure Nm (m : Nat) (ps : List Pn) : Prop where
  all : ∀ p ∈ ps, NormP m p
  adj : ∀ i p q, ps[i]? = some p → ps[i + 1]? = some q → Adj p q
theorem Nm.nil {m : Nat} : Nm m [] := ⟨fun p h => absurd h List.not_mem_nil, fun i p q h => by simp at h⟩
theorem Nm.init {m : Nat} {l : List Pn} (h : Nm m l) : Nm m l.dropLast :=
  ⟨fun p hp => h.all p (mem_dropLast hp), fun i p q hp hq => h.adj i p q (get_dropLast hp) (get_dropLast hq)⟩
theorem Nm.snoc {m : Nat} {l : List Pn} {p : Pn} (h : Nm m l) (hp : NormP m p) (ha : ∀ q, l.getLast? = some q → Adj q p) : Nm m (l ++ [p]) := by
  refine ⟨fun q hq => ?_, fun i a b hi hj => ?_⟩
  · rcases List.mem_append.mp hq with z | z
    · exact h.all q z
    · rw [List.mem_singleton.mp z]
      exact hp
  · by_cases z : i + 1 < l.length
    · rw [List.getElem?_append_left (by omega)] at hi
      rw [List.getElem?_append_left z] at hj
      exact h.adj i a b hi hj
    · by_cases y : i + 1 = l.length
      · rw [List.getElem?_append_left (by omega)] at hi
        rw [List.getElem?_append_right (by omega), y, Nat.sub_self] at hj
        cases hj
        refine ha a ?_
        rw [List.getLast?_eq_getElem?, ← hi]
        congr 1
        omega
      · rw [List.getElem?_append_right (by omega), List.getElem?_eq_none (by simp; omega)] at hj
        cases hj
/-- the piece ahead of the last one -/
theorem Nm.pre {m : Nat} {l : List Pn} {p q : Pn} (h : Nm m l) (hp : l.getLast? = some p) (hq : l.dropLast.getLast? = some q) : Adj q p := by
  rw [List.getLast?_eq_getElem?] at hp hq
  have hq' := get_dropLast hq
  rw [List.length_dropLast] at hq'
  have hl := (List.getElem?_eq_some_iff.mp hq).1
  rw [List.length_dropLast] at hl
  refine h.adj (l.length - 1 - 1) q p hq' ?_
  rw [← hp]
  congr 1
  omega
theorem fixP_norm {m : Nat} {w : W} (h : w ≠ []) : NormP m (fixP w m) := ⟨h, by simp [fixP, one1], fun _ => rfl, fun z => by cases z⟩
/-- a fixed word behind a normal list -/
theorem nm_joinF {m : Nat} {acc : List Pn} (h : Nm m acc) (w : W) : Nm m (joinF acc w m) := by
  unfold joinF
  split
  · next q hq =>
    split
    · next pq =>
      split
      · exact h
      · next ne =>
        refine h.snoc (fixP_norm ne) fun q' hq' => ?_
        rw [hq] at hq'
        cases hq'
        exact ⟨fun z => (by rw [pq] at z; cases z), fun _ z => (by cases z)⟩
    · next pq =>
      split
      · exact h.init
      · next ne =>
        refine h.init.snoc (fixP_norm ne) fun q' hq' => ?_
        have a := h.pre hq hq'
        have pq' : isPow q = false := by simpa using pq
        exact ⟨fun z => (by have := (a.fix z).1; rw [pq'] at this; cases this), fun _ z => (by cases z)⟩
  · next hn =>
    split
    · exact h
    · next ne =>
      refine h.snoc (fixP_norm ne) fun q' hq' => ?_
      rw [hn] at hq'
      cases hq'
theorem isOpen_iff {f : F} : isOpen f = true ↔ ∃ x ∈ f.tail, x ≠ 0 := by
  unfold isOpen
  rw [List.any_eq_true]
  constructor
  · rintro ⟨x, hx, h⟩
    exact ⟨x, hx, by simpa using h⟩
  · rintro ⟨x, hx, h⟩
    exact ⟨x, hx, by simpa using h⟩
theorem open_add {f g : F} (hl : f.length = g.length) (h : isOpen g = true) : isOpen (addF f g) = true := by
  obtain ⟨x, hx, h0⟩ := isOpen_iff.mp h
  refine isOpen_iff.mpr ?_
  cases f with
  | nil =>
    cases g with
    | nil => cases hx
    | cons _ _ => simp at hl
  | cons a f =>
    cases g with
    | nil => simp at hl
    | cons b g =>
      obtain ⟨i, hi⟩ := List.getElem?_of_mem (show x ∈ g from hx)
      have hi2 := (List.getElem?_eq_some_iff.mp hi).1
      have hf : i < f.length := by simp at hl; omega
      refine ⟨f[i] + x, ?_, by omega⟩
      refine List.mem_of_getElem? (i := i) ?_
      show (List.zipWith (fun x y => x + y) f g)[i]? = _
      rw [List.getElem?_zipWith, List.getElem?_eq_getElem hf, hi]
theorem len_add {f g : F} (hl : f.length = g.length) : (addF f g).length = g.length := by
  unfold addF
  rw [List.length_zipWith]
  omega
theorem head_add {f g : F} (hl : f.length = g.length) (h1 : f.headD 0 = 0) (h2 : g.headD 0 = 0) : (addF f g).headD 0 = 0 := by
  cases f with
  | nil => simp [addF]
  | cons a f =>
    cases g with
    | nil => simp at hl
    | cons b g =>
      simp only [List.headD_cons] at h1 h2
      show a + b = 0
      omega
theorem pow_norm {m : Nat} {u : W} {f : F} (hu : Prim u) (hl : f.length = m + 1) (h0 : f.headD 0 = 0) (ho : isOpen f = true) : NormP m (u, f) ∧ isPow (u, f) = true := by
  have e : isPow (u, f) = true := decide_eq_true h0
  exact ⟨⟨hu.1, hl, fun z => (by rw [e] at z; cases z), fun _ => ⟨hu, ho⟩⟩, e⟩
/-- a power behind what does not end with its last letter -/
theorem nm_pushP {m : Nat} {acc : List Pn} (h : Nm m acc) {u : W} {f : F} (hu : Prim u) (hl : f.length = m + 1) (h0 : f.headD 0 = 0) (ho : isOpen f = true)
    (hx : ∀ q, acc.getLast? = some q → isPow q = false → q.1.getLast? ≠ u.getLast?) : Nm m (pushP acc u f) ∧ ∃ g, (pushP acc u f).getLast? = some (u, g) ∧ isPow (u, g) = true := by
  obtain ⟨np, pp⟩ := pow_norm hu hl h0 ho
  unfold pushP
  split
  · next q hq =>
    have mq := h.all q (List.mem_of_getLast? hq)
    split
    · next z =>
      obtain ⟨z1, z2⟩ := z
      have lq : q.2.length = f.length := by rw [mq.len, hl]
      have hq0 : q.2.headD 0 = 0 := of_decide_eq_true z1
      obtain ⟨np2, pp2⟩ := pow_norm (m := m) (f := addF q.2 f) hu (by rw [len_add lq, hl]) (head_add lq hq0 h0) (open_add lq ho)
      refine ⟨h.init.snoc np2 fun q' hq' => ?_, _, by simp, pp2⟩
      have a := h.pre hq hq'
      exact ⟨fun y => ⟨pp2, by have := (a.fix y).2; rw [z2] at this; exact this⟩, fun y _ => by have := a.pow y z1; rw [z2] at this; exact this⟩
    · next z =>
      refine ⟨h.snoc np fun q' hq' => ?_, _, by simp, pp⟩
      rw [hq] at hq'
      cases hq'
      exact ⟨fun y => ⟨pp, hx q hq y⟩, fun y _ e => z ⟨y, e⟩⟩
  · next hn =>
    refine ⟨h.snoc np fun q' hq' => ?_, _, by simp, pp⟩
    rw [hn] at hq'
    cases hq'
theorem joinF_nil {acc : List Pn} {q : Pn} {m : Nat} (h : acc.getLast? = some q) (hp : isPow q = true) : joinF acc [] m = acc := by
  unfold joinF
  rw [h]
  simp [hp]
theorem nm_putP {m : Nat} {acc : List Pn} (h : Nm m acc) {u : W} {f : F} (hu : Prim u) (hl : f.length = m + 1) (h0 : f.headD 0 = 0) (ho : isOpen f = true) : Nm m (putP acc u f) := by
  have em : f.length - 1 = m := by omega
  unfold putP
  rw [em]
  split
  · next q hq =>
    split
    · next pq =>
      exact nm_joinF (nm_pushP h hu hl h0 ho fun q' hq' z => by rw [hq] at hq'; cases hq'; rw [pq] at z; cases z).1 _
    · next pq =>
      have pq' : isPow q = false := by simpa using pq
      refine nm_joinF (nm_pushP (nm_joinF h.init _) (prim_rotR hu _) hl h0 ho fun q' hq' z => ?_).1 _
      by_cases e : q.1.take (q.1.length - movedE q.1 u) = []
      · -- nothing is left of the fixed piece: what is ahead is a power
        exfalso
        rw [e] at hq'
        have : joinF acc.dropLast [] m = acc.dropLast := by
          cases hd : acc.dropLast.getLast? with
          | none =>
            unfold joinF
            rw [hd]
            simp
          | some r =>
            have a := h.pre hq hd
            have pr : isPow r = true := by
              cases y : isPow r with
              | true => rfl
              | false =>
                have := (a.fix y).1
                rw [pq'] at this
                cases this
            exact joinF_nil hd pr
        rw [this] at hq'
        have a := h.pre hq hq'
        have := (a.fix z).1
        rw [pq'] at this
        cases this
      · have lt : movedE q.1 u < q.1.length := by
          have := List.length_pos_iff.mpr e
          rw [List.length_take] at this
          omega
        have eq : joinF acc.dropLast (q.1.take (q.1.length - movedE q.1 u)) m = acc.dropLast ++ [fixP (q.1.take (q.1.length - movedE q.1 u)) m] := by
          unfold joinF
          split
          · next r hr =>
            have a := h.pre hq hr
            have pr : isPow r = true := by
              cases y : isPow r with
              | true => rfl
              | false =>
                have := (a.fix y).1
                rw [pq'] at this
                cases this
            rw [if_pos pr, if_neg e]
          · rw [if_neg e]
        rw [eq] at hq'
        rw [List.getLast?_append] at hq'
        cases hq'
        exact moved_next hu.1 lt
  · next hn =>
    exact nm_joinF (nm_pushP h hu hl h0 ho fun q' hq' => by rw [hn] at hq'; cases hq').1 _
theorem open_times {k : Nat} (hk : 0 < k) {f : F} (h : isOpen f = true) : isOpen (timesF k (0 :: f.tail)) = true := by
  obtain ⟨x, hx, h0⟩ := isOpen_iff.mp h
  refine isOpen_iff.mpr ⟨k * x, List.mem_map.mpr ⟨x, hx, rfl⟩, ?_⟩
  have := Nat.mul_pos hk (Nat.pos_of_ne_zero h0)
  omega
theorem root_times {w : W} (h : w ≠ []) : 0 < w.length / rootN w := Nat.div_pos (rootN_le h) (rootN_pos h)
theorem nm_stepA {m : Nat} {acc : List Pn} (h : Nm m acc) {p : Pn} (hl : p.2.length = m + 1) : Nm m (stepA acc p) := by
  unfold stepA
  split
  · next z =>
    refine nm_putP h (root_prim z.1) ?_ ?_ (open_times (root_times z.1) z.2)
    · unfold timesF
      simp [hl]
    · simp [timesF]
  · exact h
theorem nm_stepB {m : Nat} {acc : List Pn} (h : Nm m acc) {p : Pn} (hl : p.2.length = m + 1) : Nm m (stepB acc p) := by
  unfold stepB
  split
  · have e : p.2.length - 1 = m := by omega
    rw [e]
    exact nm_joinF h _
  · exact h
theorem nm_fold {m : Nat} : ∀ (ps acc : List Pn), Nm m acc → LenF m ps → Nm m (ps.foldl stepN acc)
  | [], _, h, _ => h
  | p :: r, acc, h, hl => nm_fold r _ (nm_stepB (nm_stepA h (hl p List.mem_cons_self)) (hl p List.mem_cons_self)) fun q hq => hl q (List.mem_cons_of_mem _ hq)
theorem nm_normL {m : Nat} {ps : List Pn} (h : LenF m ps) : Nm m (normL ps) := nm_fold ps [] .nil h
theorem Nm.lenF {m : Nat} {ps : List Pn} (h : Nm m ps) : LenF m ps := fun p hp => (h.all p hp).len
theorem Nm.fixOk {m : Nat} {ps : List Pn} (h : Nm m ps) : FixOk m ps := fun p hp => (h.all p hp).fix
/-! ### what is written stays -/
theorem wr_putP {m : Nat} {acc : List Pn} (h : Nm m acc) {u : W} {f : F} (hu : Prim u) (hl : f.length = m + 1) (h0 : f.headD 0 = 0) (ho : isOpen f = true) (pt : List Nat) : wr pt (putP acc u f) = wr pt acc ++ wrt pt (u, f) := by
  have em : f.length - 1 = m := by omega
  have one : ∀ {acc : List Pn}, Nm m acc → (∀ q, acc.getLast? = some q → isPow q = true) → wr pt (joinF (pushP acc u f) [] m) = wr pt acc ++ wrt pt (u, f) := fun {acc} h hp => by
    obtain ⟨n, g, hg, pg⟩ := nm_pushP h hu hl h0 ho fun q' hq' z => by rw [hp q' hq'] at z; cases z
    rw [joinF_nil hg pg, wr_pushP h.lenF hl]
  unfold putP
  rw [em]
  split
  · next q hq =>
    split
    · next pq => exact one h fun q' hq' => by rw [hq] at hq'; cases hq'; exact pq
    · next pq =>
      have pq' : isPow q = false := by simpa using pq
      have e := last_split hq
      have mq := h.all q (List.mem_of_getLast? hq)
      have wq : wrt pt q = q.1 := by unfold wrt; rw [mq.fix pq', val_one, pw_one]
      have n1 := nm_joinF h.init (q.1.take (q.1.length - movedE q.1 u)) (m := m)
      have n2 : Nm m (putP acc u f) := nm_putP h hu hl h0 ho
      have l2 : FixOk m (pushP (joinF acc.dropLast (q.1.take (q.1.length - movedE q.1 u)) m) (rotR u (movedE q.1 u)) f) := by
        intro p hp z
        unfold pushP at hp
        have pr : isPow (rotR u (movedE q.1 u), f) = true := decide_eq_true h0
        split at hp
        · next r hr =>
          split at hp
          · next y =>
            rcases List.mem_append.mp hp with x | x
            · exact n1.fixOk p (mem_dropLast x) z
            · rw [List.mem_singleton.mp x] at z
              have : isPow (rotR u (movedE q.1 u), addF r.2 f) = true := decide_eq_true (head_add (by rw [n1.lenF r (List.mem_of_getLast? hr), hl]) (of_decide_eq_true y.1) h0)
              rw [this] at z
              cases z
          · rcases List.mem_append.mp hp with x | x
            · exact n1.fixOk p x z
            · rw [List.mem_singleton.mp x, pr] at z
              cases z
        · rcases List.mem_append.mp hp with x | x
          · exact n1.fixOk p x z
          · rw [List.mem_singleton.mp x, pr] at z
            cases z
      rw [wr_joinF l2, wr_pushP n1.lenF hl, wr_joinF h.init.fixOk]
      have ew : wr pt acc = wr pt acc.dropLast ++ q.1 := by
        conv => lhs; rw [e]
        rw [wr_app, wr_one, wq]
      rw [ew, moved_drop hu.1]
      have mv := move_pw u (movedE q.1 u) (valF f pt)
      rw [List.append_assoc, List.append_assoc, List.append_assoc]
      congr 1
      show q.1.take _ ++ (pw (rotR u (movedE q.1 u)) (valF f pt) ++ tailE u (movedE q.1 u)) = q.1 ++ pw u (valF f pt)
      rw [mv, ← moved_drop hu.1, ← List.append_assoc, List.take_append_drop]
  · next hn => exact one h fun q' hq' => by rw [hn] at hq'; cases hq'
theorem pw_mul (w : W) (a : Nat) : ∀ b, pw (pw w a) b = pw w (a * b)
  | 0 => by simp [pw]
  | b + 1 => by rw [pw_succ, pw_mul w a b, ← pw_add, Nat.mul_succ, Nat.add_comm]
theorem pw_nil (n : Nat) : pw [] n = [] := List.length_eq_zero_iff.mp (by rw [pw_len]; simp)
theorem val_split (f : F) (pt : List Nat) : valF f pt = valF (0 :: f.tail) pt + f.headD 0 := by
  unfold valF
  simp
  omega
theorem dot_closed : ∀ {f : List Nat}, (∀ x ∈ f, x = 0) → ∀ pt : List Nat, dot f pt = 0
  | [], _, _ => by simp [dot]
  | x :: f, h, [] => by simp [dot]
  | x :: f, h, y :: pt => by
    rw [dot, dot_closed (fun z hz => h z (List.mem_cons_of_mem _ hz)) pt, h x List.mem_cons_self]
    simp
theorem wr_stepN {m : Nat} {acc : List Pn} (h : Nm m acc) {p : Pn} (hl : p.2.length = m + 1) (pt : List Nat) : wr pt (stepN acc p) = wr pt acc ++ wrt pt p := by
  have hA := nm_stepA h hl
  have wA : wr pt (stepA acc p) = wr pt acc ++ pw p.1 (valF (0 :: p.2.tail) pt) := by
    unfold stepA
    split
    · next z =>
      have lt : (timesF (p.1.length / rootN p.1) (0 :: p.2.tail)).length = m + 1 := by unfold timesF; simp [hl]
      rw [wr_putP h (root_prim z.1) lt (by simp [timesF]) (open_times (root_times z.1) z.2)]
      congr 1
      show pw (p.1.take (rootN p.1)) (valF (timesF _ _) pt) = _
      rw [val_times, ← pw_mul, ← root_pw z.1]
    · next z =>
      by_cases ne : p.1 = []
      · rw [ne, pw_nil, List.append_nil]
      · have hc : ∀ x ∈ p.2.tail, x = 0 := fun x hx => Classical.byContradiction fun y => z ⟨ne, isOpen_iff.mpr ⟨x, hx, y⟩⟩
        rw [show valF (0 :: p.2.tail) pt = 0 by unfold valF; simp [dot_closed hc], pw_zero, List.append_nil]
  have wB : wr pt (stepB (stepA acc p) p) = wr pt (stepA acc p) ++ pw p.1 (p.2.headD 0) := by
    unfold stepB
    split
    · have e : p.2.length - 1 = m := by omega
      rw [e, wr_joinF hA.fixOk]
    · next z =>
      by_cases ne : p.1 = []
      · rw [ne, pw_nil, List.append_nil]
      · have : p.2.headD 0 = 0 := Classical.byContradiction fun y => z ⟨ne, y⟩
        rw [this, pw_zero, List.append_nil]
  unfold stepN
  rw [wB, wA, List.append_assoc, ← pw_add, ← val_split]
  rfl
theorem wr_fold {m : Nat} (pt : List Nat) : ∀ (ps acc : List Pn), Nm m acc → LenF m ps → wr pt (ps.foldl stepN acc) = wr pt acc ++ wr pt ps
  | [], acc, _, _ => by simp [wr]
  | p :: r, acc, h, hl => by
    have lp := hl p List.mem_cons_self
    rw [List.foldl_cons, show stepN acc p = stepB (stepA acc p) p from rfl, wr_fold pt r _ (nm_stepB (nm_stepA h lp) lp) (fun q hq => hl q (List.mem_cons_of_mem _ hq)), show stepB (stepA acc p) p = stepN acc p from rfl, wr_stepN h lp, List.append_assoc]
    rfl
/-- the normal list writes the same -/
theorem wr_normL {m : Nat} {ps : List Pn} (h : LenF m ps) (pt : List Nat) : wr pt (normL ps) = wr pt ps := wr_fold pt ps [] .nil h
end NM

set_option linter.all false
set_option maxRecDepth 100000
namespace NM
open WM
/-! ### the measure -/
def measP (p : Pn) : Nat := p.1.length * (p.2.headD 0 + (if isOpen p.2 then 1 else 0))
def meas (ps : List Pn) : Nat := (ps.map measP).sum
theorem meas_app (a b : List Pn) : meas (a ++ b) = meas a + meas b := by unfold meas; rw [List.map_append, List.sum_append]
theorem meas_one (p : Pn) : meas [p] = measP p := by simp [meas]
theorem open_one (m : Nat) : isOpen (one1 m) = false := by
  unfold isOpen one1
  rw [List.any_eq_false]
  intro x hx
  have := List.eq_of_mem_replicate (show x ∈ List.replicate m 0 from hx)
  simp [this]
theorem measP_fix (w : W) (m : Nat) : measP (fixP w m) = w.length := by
  unfold measP fixP
  simp only [open_one]
  simp [one1]
theorem meas_last {l : List Pn} {q : Pn} (h : l.getLast? = some q) : meas l = meas l.dropLast + measP q := by
  conv => lhs; rw [last_split h]
  rw [meas_app, meas_one]
theorem meas_joinF {m : Nat} {acc : List Pn} (h : FixOk m acc) (w : W) : meas (joinF acc w m) = meas acc + w.length := by
  unfold joinF
  split
  · next q hq =>
    split
    · split
      · next z => rw [z]; rfl
      · rw [meas_app, meas_one, measP_fix]
    · next np =>
      have f1 := h q (List.mem_of_getLast? hq) (by simpa using np)
      have mq : measP q = q.1.length := by
        have : q = fixP q.1 m := by unfold fixP; rw [← f1]
        conv => lhs; rw [this]
        rw [measP_fix]
      have ml := meas_last hq
      split
      · next z =>
        have z1 := congrArg List.length z
        rw [List.length_append, List.length_nil] at z1
        omega
      · rw [meas_app, meas_one, measP_fix, List.length_append]
        omega
  · split
    · next z => rw [z]; rfl
    · rw [meas_app, meas_one, measP_fix]
theorem measP_pow {u : W} {f : F} (h0 : f.headD 0 = 0) : measP (u, f) ≤ u.length := by
  unfold measP
  simp only [h0, Nat.zero_add]
  split
  · rw [Nat.mul_one]
    exact Nat.le_refl _
  · rw [Nat.mul_zero]
    exact Nat.zero_le _
theorem meas_pushP {acc : List Pn} {u : W} {f : F} (h0 : f.headD 0 = 0) (hx : ∀ q, acc.getLast? = some q → isPow q = true → q.1 = u → (addF q.2 f).headD 0 = 0 ∧ u.length ≤ measP q) : meas (pushP acc u f) ≤ meas acc + u.length := by
  unfold pushP
  split
  · next q hq =>
    have ml := meas_last hq
    split
    · next z =>
      obtain ⟨a, b⟩ := hx q hq z.1 z.2
      have := measP_pow (u := u) a
      rw [meas_app, meas_one]
      omega
    · have := measP_pow (u := u) h0
      rw [meas_app, meas_one]
      omega
  · have := measP_pow (u := u) h0
    rw [meas_app, meas_one]
    omega
theorem measP_le {m : Nat} {q : Pn} (h : NormP m q) : q.1.length ≤ measP q := by
  unfold measP
  cases e : isPow q with
  | false =>
    rw [h.fix e]
    simp [one1]
    exact Nat.le_mul_of_pos_right _ (by omega)
  | true =>
    rw [if_pos (h.pow e).2]
    exact Nat.le_mul_of_pos_right _ (by omega)
theorem meas_pushN {m : Nat} {acc : List Pn} (h : Nm m acc) {u : W} {f : F} (hl : f.length = m + 1) (h0 : f.headD 0 = 0) : meas (pushP acc u f) ≤ meas acc + u.length :=
  meas_pushP h0 fun q hq pq e => by
    have nq := h.all q (List.mem_of_getLast? hq)
    refine ⟨head_add (by rw [nq.len, hl]) (of_decide_eq_true pq) h0, ?_⟩
    rw [← e]
    exact measP_le nq
theorem fix_pushP {m : Nat} {acc : List Pn} (h : Nm m acc) {u : W} {f : F} (hl : f.length = m + 1) (h0 : f.headD 0 = 0) : FixOk m (pushP acc u f) := by
  intro p hp z
  unfold pushP at hp
  have pr : isPow (u, f) = true := decide_eq_true h0
  split at hp
  · next r hr =>
    split at hp
    · next y =>
      rcases List.mem_append.mp hp with x | x
      · exact h.fixOk p (mem_dropLast x) z
      · rw [List.mem_singleton.mp x] at z
        have : isPow (u, addF r.2 f) = true := decide_eq_true (head_add (by rw [h.lenF r (List.mem_of_getLast? hr), hl]) (of_decide_eq_true y.1) h0)
        rw [this] at z
        cases z
    · rcases List.mem_append.mp hp with x | x
      · exact h.fixOk p x z
      · rw [List.mem_singleton.mp x, pr] at z
        cases z
  · rcases List.mem_append.mp hp with x | x
    · exact h.fixOk p x z
    · rw [List.mem_singleton.mp x, pr] at z
      cases z
theorem meas_putP {m : Nat} {acc : List Pn} (h : Nm m acc) {u : W} {f : F} (hl : f.length = m + 1) (h0 : f.headD 0 = 0) : meas (putP acc u f) ≤ meas acc + u.length := by
  have em : f.length - 1 = m := by omega
  have one : ∀ {acc : List Pn}, Nm m acc → meas (joinF (pushP acc u f) [] m) ≤ meas acc + u.length := fun {acc} h => by
    rw [meas_joinF (fix_pushP h hl h0)]
    exact meas_pushN h hl h0
  unfold putP
  rw [em]
  split
  · next q hq =>
    split
    · exact one h
    · next pq =>
      have pq' : isPow q = false := by simpa using pq
      have mq := h.all q (List.mem_of_getLast? hq)
      have e : measP q = q.1.length := by
        have : q = fixP q.1 m := by unfold fixP; rw [← mq.fix pq']
        conv => lhs; rw [this]
        rw [measP_fix]
      have ml := meas_last hq
      have n1 := nm_joinF h.init (q.1.take (q.1.length - movedE q.1 u)) (m := m)
      rw [meas_joinF (fix_pushP n1 hl h0)]
      have a := meas_pushN n1 (u := rotR u (movedE q.1 u)) hl h0
      rw [meas_joinF h.init.fixOk, List.length_take, rotR_len] at a
      rw [List.length_drop]
      have := movedE_le q.1 u
      omega
  · exact one h
theorem meas_stepN {m : Nat} {acc : List Pn} (h : Nm m acc) {p : Pn} (hl : p.2.length = m + 1) : meas (stepN acc p) ≤ meas acc + measP p := by
  have hA := nm_stepA h hl
  have a : meas (stepA acc p) ≤ meas acc + p.1.length * (if isOpen p.2 then 1 else 0) := by
    unfold stepA
    split
    · next z =>
      have lt : (timesF (p.1.length / rootN p.1) (0 :: p.2.tail)).length = m + 1 := by unfold timesF; simp [hl]
      have := meas_putP h (u := p.1.take (rootN p.1)) lt (by simp [timesF])
      rw [if_pos z.2]
      rw [List.length_take] at this
      omega
    · omega
  have b : meas (stepB (stepA acc p) p) ≤ meas (stepA acc p) + p.1.length * p.2.headD 0 := by
    unfold stepB
    split
    · have e : p.2.length - 1 = m := by omega
      rw [e, meas_joinF hA.fixOk, pw_len]
      exact Nat.le_refl _
    · omega
  unfold stepN measP
  rw [Nat.mul_add]
  omega
theorem meas_fold {m : Nat} : ∀ (ps acc : List Pn), Nm m acc → LenF m ps → meas (ps.foldl stepN acc) ≤ meas acc + meas ps
  | [], acc, _, _ => by simp [meas]
  | p :: r, acc, h, hl => by
    have lp := hl p List.mem_cons_self
    have a := meas_stepN h lp
    have b := meas_fold r (stepN acc p) (nm_stepB (nm_stepA h lp) lp) fun q hq => hl q (List.mem_cons_of_mem _ hq)
    rw [List.foldl_cons]
    have : meas (p :: r) = measP p + meas r := by simp [meas]
    omega
theorem meas_normL {m : Nat} {ps : List Pn} (h : LenF m ps) : meas (normL ps) ≤ meas ps := by
  have := meas_fold ps [] (Nm.nil (m := m)) h
  unfold normL
  have e : meas [] = 0 := rfl
  omega
/-! ### a normal list stays -/
theorem joinF_app {m : Nat} {acc : List Pn} {w : W} (hw : w ≠ []) (h : ∀ q, acc.getLast? = some q → isPow q = true) : joinF acc w m = acc ++ [fixP w m] := by
  unfold joinF
  split
  · next q hq => rw [if_pos (h q hq), if_neg hw]
  · rw [if_neg hw]
theorem pushP_app {acc : List Pn} {u : W} {f : F} (h : ∀ q, acc.getLast? = some q → ¬ (isPow q = true ∧ q.1 = u)) : pushP acc u f = acc ++ [(u, f)] := by
  unfold pushP
  split
  · next q hq => rw [if_neg (h q hq)]
  · rfl
theorem prim_root {w : W} (h : Prim w) : rootN w = w.length := h.2 _ (rootN_pos h.1) (rootN_dvd w) (rootN_per w)
theorem times_one {f : F} (h : f.headD 0 = 0) (hl : 0 < f.length) : timesF 1 (0 :: f.tail) = f := by
  cases f with
  | nil => simp at hl
  | cons a f =>
    simp only [List.headD_cons] at h
    subst h
    simp [timesF]
theorem step_fix {m : Nat} {l : List Pn} {p : Pn} (h : Nm m l) (hp : NormP m p) (ha : ∀ q, l.getLast? = some q → Adj q p) : stepN l p = l ++ [p] := by
  cases e : isPow p with
  | false =>
    have f1 := hp.fix e
    have ep : fixP p.1 m = p := by unfold fixP; rw [← f1]
    have no : isOpen p.2 = false := by rw [f1, open_one]
    have h1 : p.2.headD 0 = 1 := by rw [f1]; rfl
    have eA : stepA l p = l := by
      unfold stepA
      rw [if_neg fun z => by rw [no] at z; exact Bool.false_ne_true z.2]
    unfold stepN
    rw [eA]
    unfold stepB
    rw [if_pos ⟨hp.ne, by rw [h1]; decide⟩, h1, pw_one, show p.2.length - 1 = m by rw [hp.len]; rfl, joinF_app hp.ne fun q hq => ?_, ep]
    cases y : isPow q with
    | true => rfl
    | false =>
      have := ((ha q hq).fix y).1
      rw [e] at this
      cases this
  | true =>
    obtain ⟨pr, op⟩ := hp.pow e
    have h0 : p.2.headD 0 = 0 := of_decide_eq_true e
    have n0 := List.length_pos_iff.mpr hp.ne
    have eA : stepA l p = putP l p.1 p.2 := by
      unfold stepA
      rw [if_pos ⟨hp.ne, op⟩, prim_root pr, List.take_length, Nat.div_self n0, times_one h0 (by rw [hp.len]; omega)]
    have eB : ∀ acc, stepB acc p = acc := fun acc => by
      unfold stepB
      rw [if_neg fun z => z.2 h0]
    have last : ∀ l : List Pn, (l ++ [p]).getLast? = some p := fun l => by simp
    unfold stepN
    rw [eB, eA]
    unfold putP
    rw [show p.2.length - 1 = m by rw [hp.len]; rfl]
    split
    · next q hq =>
      have a := ha q hq
      split
      · next pq =>
        rw [pushP_app fun q' hq' => by rw [hq] at hq'; cases hq'; exact fun z => a.pow pq e z.2]
        exact joinF_nil (last l) e
      · next pq =>
        have pq' : isPow q = false := by simpa using pq
        have mq := h.all q (List.mem_of_getLast? hq)
        have mz : movedE q.1 p.1 = 0 := moved_zero hp.ne mq.ne (a.fix pq').2
        have el : joinF l.dropLast q.1 m = l := by
          rw [joinF_app mq.ne fun r hr => ?_]
          · have : fixP q.1 m = q := by unfold fixP; rw [← mq.fix pq']
            rw [this]
            exact (last_split hq).symm
          · have b := h.pre hq hr
            cases y : isPow r with
            | true => rfl
            | false =>
              have := (b.fix y).1
              rw [pq'] at this
              cases this
        rw [mz, Nat.sub_zero, List.take_length, List.drop_length, rotR_zero, el, pushP_app fun q' hq' => by rw [hq] at hq'; cases hq'; exact fun z => pq z.1]
        exact joinF_nil (last l) e
    · next hn =>
      rw [pushP_app fun q' hq' => by rw [hn] at hq'; cases hq']
      exact joinF_nil (last l) e
theorem Nm.take {m : Nat} {l : List Pn} (h : Nm m l) (i : Nat) : Nm m (l.take i) := by
  refine ⟨fun p hp => h.all p (List.mem_of_mem_take hp), fun j p q hj hq => ?_⟩
  rw [List.getElem?_take] at hj hq
  split at hq
  · split at hj
    · exact h.adj j p q hj hq
    · cases hj
  · cases hq
theorem normL_take {m : Nat} {ps : List Pn} (h : Nm m ps) : ∀ i, i ≤ ps.length → normL (ps.take i) = ps.take i
  | 0, _ => by simp [normL]
  | i + 1, hi => by
    have hp := List.getElem?_eq_getElem (show i < ps.length by omega)
    generalize ps[i] = p at hp
    have e : ps.take (i + 1) = ps.take i ++ [p] := by rw [List.take_succ, hp]; rfl
    rw [e]
    unfold normL
    rw [List.foldl_append]
    have := normL_take h i (by omega)
    unfold normL at this
    rw [this]
    refine step_fix (h.take i) (h.all p (List.mem_of_getElem? hp)) fun q hq => ?_
    rw [List.getLast?_eq_getElem?, List.length_take, Nat.min_eq_left (by omega)] at hq
    rw [List.getElem?_take] at hq
    split at hq
    · refine h.adj (i - 1) q p hq ?_
      rw [show i - 1 + 1 = i by omega]
      exact hp
    · cases hq
/-- a normal list is its own -/
theorem normL_id {m : Nat} {ps : List Pn} (h : Nm m ps) : normL ps = ps := by
  have := normL_take h ps.length (Nat.le_refl _)
  rw [List.take_length] at this
  exact this
end NM

set_option linter.all false
set_option maxRecDepth 100000
namespace NM
open WM
/-! ### a word is no power exactly if it stands in itself doubled, without the first letter, at the end first -/
/-- w stands at the place k + 1 of w w -/
def Occ (w : W) (k : Nat) : Prop := ((w ++ w).drop (k + 1)).take w.length = w
theorem dbl_get {w : W} (h : w ≠ []) {i : Nat} (hi : i < 2 * w.length) : (w ++ w)[i]? = w[i % w.length]? := by
  have n0 := List.length_pos_iff.mpr h
  by_cases z : i < w.length
  · rw [List.getElem?_append_left z, Nat.mod_eq_of_lt z]
  · rw [List.getElem?_append_right (by omega), Nat.mod_eq_sub_mod (show i ≥ w.length by omega), Nat.mod_eq_of_lt (by omega)]
theorem occ_get {w : W} (h : w ≠ []) {k : Nat} (hk : k + 1 ≤ w.length) : Occ w k ↔ ∀ i, i < w.length → w[(k + 1 + i) % w.length]? = w[i]? := by
  unfold Occ
  constructor
  · intro e i hi
    have : (((w ++ w).drop (k + 1)).take w.length)[i]? = w[i]? := by rw [e]
    rw [List.getElem?_take_of_lt hi, List.getElem?_drop, dbl_get h (by omega)] at this
    exact this
  · intro e
    refine List.ext_getElem? fun i => ?_
    by_cases hi : i < w.length
    · rw [List.getElem?_take_of_lt hi, List.getElem?_drop, dbl_get h (by omega)]
      exact e i hi
    · rw [List.getElem?_eq_none (by rw [List.length_take]; omega), List.getElem?_eq_none (by omega)]
theorem occ_last {w : W} (h : w ≠ []) : Occ w (w.length - 1) := by
  have n0 := List.length_pos_iff.mpr h
  refine (occ_get h (by omega)).mpr fun i hi => ?_
  rw [show w.length - 1 + 1 + i = i + w.length by omega, Nat.add_mod_right, Nat.mod_eq_of_lt hi]
/-- an earlier place makes a shorter period -/
theorem occ_not_prim {w : W} (h : w ≠ []) {k : Nat} (hk : k + 1 < w.length) (o : Occ w k) : ¬ Prim w := by
  intro pr
  have n0 := List.length_pos_iff.mpr h
  have e := (occ_get h (by omega)).mp o
  -- the word doubled has the periods k + 1 and its half
  have dl : (w ++ w).length = 2 * w.length := by rw [List.length_append]; omega
  have p1 : Per (k + 1) (w ++ w) := fun i hi => by
    rw [dl] at hi
    rw [dbl_get h (by omega), dbl_get h hi]
    have := e (i % w.length) (Nat.mod_lt _ n0)
    rw [← this]
    congr 1
    rw [Nat.add_mod_mod, Nat.add_comm]
  have p2 : Per w.length (w ++ w) := fun i hi => by
    rw [dl] at hi
    rw [dbl_get h (by omega), dbl_get h hi, Nat.add_mod_right]
  have g := per_gcd p1 p2 (by rw [dl]; omega)
  have gp : 0 < Nat.gcd (k + 1) w.length := Nat.gcd_pos_of_pos_left _ (by omega)
  have gd : Nat.gcd (k + 1) w.length ∣ w.length := Nat.gcd_dvd_right _ _
  have gl : Nat.gcd (k + 1) w.length ≤ k + 1 := Nat.le_of_dvd (by omega) (Nat.gcd_dvd_left _ _)
  have pw' : Per (Nat.gcd (k + 1) w.length) w := by
    have := per_take (k := w.length) g
    rw [List.take_left] at this
    exact this
  have := pr.2 _ gp gd pw'
  omega
theorem not_prim_occ {w : W} (h : w ≠ []) (np : ¬ Prim w) : ∃ k, k + 1 < w.length ∧ Occ w k := by
  have n0 := List.length_pos_iff.mpr h
  have : ∃ d, 0 < d ∧ d ∣ w.length ∧ Per d w ∧ d ≠ w.length := Classical.byContradiction fun z => np ⟨h, fun d h1 h2 h3 => Classical.byContradiction fun y => z ⟨d, h1, h2, h3, y⟩⟩
  obtain ⟨d, h1, h2, h3, h4⟩ := this
  have dl := Nat.le_of_dvd n0 h2
  refine ⟨d - 1, by omega, (occ_get h (by omega)).mpr fun i hi => ?_⟩
  rw [show d - 1 + 1 + i = i + d by omega, per_at h1 h3 (Nat.mod_lt _ n0), per_at h1 h3 hi, Nat.mod_mod_of_dvd _ h2, Nat.add_mod_right]
/-! ### the law's rules -/
theorem isPow_one {p : Pn} {m : Nat} (h : p.2 = one1 m) : isPow p = false := by
  unfold isPow
  rw [h]
  rfl
theorem sum_zero : ∀ {l : List Nat}, l.sum = 0 ↔ ∀ x ∈ l, x = 0
  | [] => by simp
  | a :: l => by
    rw [List.sum_cons]
    constructor
    · intro h x hx
      rcases List.mem_cons.mp hx with z | z
      · omega
      · exact sum_zero.mp (show l.sum = 0 by omega) x z
    · intro h
      have a0 := h a List.mem_cons_self
      have := sum_zero.mpr fun x hx => h x (List.mem_cons_of_mem _ hx)
      omega
/-- what the law asks of a piece -/
def okP (m : Nat) (p : Pn) : Prop := (Prim p.1 ∨ p.2 = one1 m) ∧ p.1 ≠ [] ∧ (p.2 = one1 m ∨ (p.2.headD 0 = 0 ∧ p.2.sum ≠ 0))
theorem okP_iff {m : Nat} {p : Pn} (hl : p.2.length = m + 1) : okP m p ↔ NormP m p := by
  constructor
  · rintro ⟨h1, h2, h3⟩
    refine ⟨h2, hl, fun z => ?_, fun z => ?_⟩
    · rcases h3 with y | y
      · exact y
      · have : isPow p = true := decide_eq_true y.1
        rw [this] at z
        cases z
    · rcases h3 with y | y
      · rw [isPow_one y] at z
        cases z
      · have ne1 : p.2 ≠ one1 m := fun x => by rw [isPow_one x] at z; cases z
        refine ⟨h1.resolve_right ne1, ?_⟩
        cases e : isOpen p.2 with
        | true => rfl
        | false =>
          exfalso
          apply y.2
          refine sum_zero.mpr fun x hx => ?_
          cases ep : p.2 with
          | nil => rw [ep] at hx; cases hx
          | cons a f =>
            rw [ep] at hx
            rcases List.mem_cons.mp hx with w | w
            · have := y.1
              rw [ep] at this
              rw [w]
              exact this
            · refine Classical.byContradiction fun x0 => ?_
              have : isOpen p.2 = true := isOpen_iff.mpr ⟨x, by rw [ep]; exact w, x0⟩
              rw [e] at this
              cases this
  · intro h
    cases e : isPow p with
    | false => exact ⟨.inr (h.fix e), h.ne, .inl (h.fix e)⟩
    | true =>
      obtain ⟨a, b⟩ := h.pow e
      refine ⟨.inl a, h.ne, .inr ⟨of_decide_eq_true e, fun z => ?_⟩⟩
      obtain ⟨x, hx, x0⟩ := isOpen_iff.mp b
      exact x0 (sum_zero.mp z x (List.mem_of_mem_tail hx))
/-- what the law asks of two neighbours -/
def okA (m : Nat) (p q : Pn) : Prop := ¬ (p.2 = one1 m ∧ q.2 = one1 m) ∧ ¬ (p.2 ≠ one1 m ∧ q.2 ≠ one1 m ∧ p.1 = q.1) ∧ ¬ (p.2 = one1 m ∧ p.1.getLast? = q.1.getLast?)
theorem fix_iff {m : Nat} {p : Pn} (h : NormP m p) : isPow p = false ↔ p.2 = one1 m := ⟨h.fix, isPow_one⟩
theorem okA_iff {m : Nat} {p q : Pn} (hp : NormP m p) (hq : NormP m q) : okA m p q ↔ Adj p q := by
  have fp := fix_iff hp
  have fq := fix_iff hq
  constructor
  · rintro ⟨h1, h2, h3⟩
    refine ⟨fun z => ⟨?_, fun y => h3 ⟨fp.mp z, y⟩⟩, fun z y x => ?_⟩
    · cases e : isPow q with
      | true => rfl
      | false => exact absurd ⟨fp.mp z, fq.mp e⟩ h1
    · refine h2 ⟨fun w => ?_, fun w => ?_, x⟩
      · rw [fp.mpr w] at z
        cases z
      · rw [fq.mpr w] at y
        cases y
  · intro h
    refine ⟨fun z => ?_, fun z => ?_, fun z => (h.fix (fp.mpr z.1)).2 z.2⟩
    · have := (h.fix (fp.mpr z.1)).1
      rw [fq.mpr z.2] at this
      cases this
    · have e1 : isPow p = true := by
        cases e : isPow p with
        | true => rfl
        | false => exact absurd (fp.mp e) z.1
      have e2 : isPow q = true := by
        cases e : isPow q with
        | true => rfl
        | false => exact absurd (fq.mp e) z.2.1
      exact h.pow e1 e2 z.2.2
theorem nm_iff {m : Nat} {ps : List Pn} (hl : LenF m ps) : Nm m ps ↔ (∀ p ∈ ps, okP m p) ∧ ∀ (i : Nat) (p q : Pn), ps[i]? = some p → ps[i + 1]? = some q → okA m p q := by
  constructor
  · intro h
    exact ⟨fun p hp => (okP_iff (hl p hp)).mpr (h.all p hp), fun i p q hi hj => (okA_iff (h.all p (List.mem_of_getElem? hi)) (h.all q (List.mem_of_getElem? hj))).mpr (h.adj i p q hi hj)⟩
  · rintro ⟨h1, h2⟩
    have all : ∀ p ∈ ps, NormP m p := fun p hp => (okP_iff (hl p hp)).mp (h1 p hp)
    exact ⟨all, fun i p q hi hj => (okA_iff (all p (List.mem_of_getElem? hi)) (all q (List.mem_of_getElem? hj))).mp (h2 i p q hi hj)⟩
theorem normL_iff {m : Nat} {ps : List Pn} (hl : LenF m ps) : normL ps = ps ↔ Nm m ps := ⟨fun e => by rw [← e]; exact nm_normL hl, normL_id⟩
theorem wr_flat (pt : List Nat) : ∀ ps : List Pn, ((ps.filter fun p => decide (p.1 ≠ [])).map (wrt pt)).flatten = wr pt ps
  | [] => rfl
  | p :: r => by
    by_cases h : p.1 = []
    · rw [List.filter_cons_of_neg (by simp [h]), wr_flat pt r, wr]
      unfold wrt
      rw [h, pw_nil, List.nil_append]
    · rw [List.filter_cons_of_pos (by simp [h]), List.map_cons, List.flatten_cons, wr_flat pt r, wr]
theorem wrt_le {pt : List Nat} : ∀ {ps : List Pn} {p : Pn}, p ∈ ps → (wrt pt p).length ≤ (wr pt ps).length
  | q :: r, p, h => by
    rw [wr, List.length_append]
    rcases List.mem_cons.mp h with z | z
    · rw [z]
      omega
    · have := wrt_le (pt := pt) z
      omega
end NM

set_option linter.all false
set_option maxRecDepth 100000
namespace NM
open WM
/-! ### how long what is written can be -/
theorem le_sumN : ∀ {f : List Nat} {x : Nat}, x ∈ f → x ≤ f.sum
  | a :: l, x, h => by
    rw [List.sum_cons]
    rcases List.mem_cons.mp h with z | z
    · omega
    · have := le_sumN z
      omega
theorem dot_ones : ∀ (f : List Nat), dot f (List.replicate f.length 1) = f.sum
  | [] => rfl
  | a :: l => by
    rw [List.length_cons, List.replicate_succ, dot, dot_ones l, List.sum_cons]
    omega
theorem mem_val {f : F} {m x : Nat} (hl : f.length = m + 1) (hx : x ∈ f) : x ≤ valF f (List.replicate m 1) := by
  cases f with
  | nil => cases hx
  | cons a l =>
    have e : l.length = m := by simpa using hl
    unfold valF
    rw [List.tail_cons, ← e, dot_ones]
    show x ≤ a + l.sum
    rcases List.mem_cons.mp hx with z | z
    · omega
    · have := le_sumN z
      omega
theorem dot_le {B c : Nat} : ∀ (f pt : List Nat), (∀ x ∈ f, x ≤ B) → (∀ x ∈ pt, x ≤ c) → dot f pt ≤ f.length * (B * c)
  | [], _, _, _ => by simp [dot]
  | _ :: _, [], _, _ => by simp [dot]
  | x :: xs, y :: ys, h, g => by
    have a := dot_le xs ys (fun z hz => h z (List.mem_cons_of_mem _ hz)) (fun z hz => g z (List.mem_cons_of_mem _ hz))
    have b : x * y ≤ B * c := Nat.mul_le_mul (h x List.mem_cons_self) (g y List.mem_cons_self)
    rw [dot, List.length_cons, Nat.succ_mul]
    omega
theorem wr_le {pt : List Nat} {k : Nat} : ∀ ps : List Pn, (∀ p ∈ ps, (wrt pt p).length ≤ k) → (wr pt ps).length ≤ ps.length * k
  | [], _ => by simp [wr]
  | p :: r, h => by
    have a := wr_le r fun q hq => h q (List.mem_cons_of_mem _ hq)
    have b := h p List.mem_cons_self
    rw [wr, List.length_append, List.length_cons, Nat.succ_mul]
    omega
theorem val_le3 {f : F} {pt : List Nat} {m : Nat} (hl : f.length = m + 1) (hm : m ≤ 3) (hf : ∀ x ∈ f, x ≤ 3) (hp : ∀ x ∈ pt, x ≤ 3) : valF f pt ≤ 30 := by
  cases f with
  | nil => simp at hl
  | cons a l =>
    have e : l.length = m := by simpa using hl
    have d := dot_le (B := 3) (c := 3) l pt (fun x hx => hf x (List.mem_cons_of_mem _ hx)) hp
    have h0 := hf a List.mem_cons_self
    have : l.length * (3 * 3) ≤ 3 * 9 := Nat.mul_le_mul (by omega) (by decide)
    unfold valF
    show a + dot l pt ≤ 30
    omega
theorem wrt_le3 {p : Pn} {pt : List Nat} {m : Nat} (hl : p.2.length = m + 1) (hm : m ≤ 3) (hw : p.1.length ≤ 12) (hf : ∀ x ∈ p.2, x ≤ 3) (hp : ∀ x ∈ pt, x ≤ 3) : (wrt pt p).length ≤ 360 := by
  have v := val_le3 hl hm hf hp
  have e : (wrt pt p).length = p.1.length * valF p.2 pt := pw_len _ _
  rw [e]
  exact Nat.mul_le_mul hw v
theorem meas_le {k : Nat} : ∀ ps : List Pn, (∀ p ∈ ps, measP p ≤ k) → meas ps ≤ ps.length * k
  | [], _ => by simp [meas]
  | p :: r, h => by
    have a := meas_le r fun q hq => h q (List.mem_cons_of_mem _ hq)
    have b := h p List.mem_cons_self
    have e : meas (p :: r) = measP p + meas r := by simp [meas]
    rw [e, List.length_cons, Nat.succ_mul]
    omega
theorem measP_le48 {p : Pn} {m : Nat} (hl : p.2.length = m + 1) (hw : p.1.length ≤ 12) (hf : ∀ x ∈ p.2, x ≤ 3) : measP p ≤ 48 := by
  have h0 : p.2.headD 0 ≤ 3 := by
    cases e : p.2 with
    | nil => rw [e] at hl; simp at hl
    | cons a l => exact hf a (by rw [e]; exact List.mem_cons_self)
  unfold measP
  have : p.2.headD 0 + (if isOpen p.2 = true then 1 else 0) ≤ 4 := by split <;> omega
  exact Nat.mul_le_mul hw this
/-- the numbers of a normal list are no greater than what it writes at ones -/
theorem num_le {m k : Nat} {ps : List Pn} (h : LenF m ps) (hk : (wr (List.replicate m 1) ps).length ≤ k) {p : Pn} (hp : p ∈ normL ps) {x : Nat} (hx : x ∈ p.2) : x ≤ k := by
  have nm := nm_normL h
  have np := nm.all p hp
  have n0 := List.length_pos_iff.mpr np.ne
  have a := mem_val np.len hx
  have b := wrt_le (pt := List.replicate m 1) hp
  rw [wr_normL h] at b
  have e : (wrt (List.replicate m 1) p).length = p.1.length * valF p.2 (List.replicate m 1) := pw_len _ _
  have c : valF p.2 (List.replicate m 1) ≤ p.1.length * valF p.2 (List.replicate m 1) := Nat.le_mul_of_pos_left _ n0
  omega
/-! ### lists that are spoilt -/
theorem nm_mem {m : Nat} {ps : List Pn} {p : Pn} (hp : p ∈ ps) (h : ¬ NormP m p) : ¬ Nm m ps := fun z => h (z.all p hp)
theorem norm_empty {m : Nat} {f : F} : ¬ NormP m ([], f) := fun z => z.ne rfl
theorem norm_zeros {m : Nat} {w : W} : ¬ NormP m (w, 0 :: List.replicate m 0) := fun z => by
  have a := (z.pow rfl).2
  obtain ⟨x, hx, h⟩ := isOpen_iff.mp a
  exact h (List.eq_of_mem_replicate hx)
/-! ### a fixed piece, a letter's power, a fixed piece -/
theorem prim_one (c : Nat) : Prim [c] := ⟨by simp, fun d h1 h2 _ => by
  have := Nat.le_of_dvd (by simp) h2
  simp at this ⊢
  omega⟩
def longP (m a b c i j : Nat) : List Pn := [(List.replicate i a, one1 m), ([b], 0 :: 1 :: List.replicate (m - 1) 0), (List.replicate j c, one1 m)]
theorem nm_long {m a b c i j : Nat} (hm : 1 ≤ m) (hab : a ≠ b) (hi : 0 < i) (hj : 0 < j) : Nm m (longP m a b c i j) := by
  have l2 : (0 :: 1 :: List.replicate (m - 1) 0).length = m + 1 := by simp; omega
  refine ⟨fun p hp => ?_, fun k p q hk hk' => ?_⟩
  · rcases List.mem_cons.mp hp with z | z
    · rw [z]
      exact fixP_norm (fun y => by have := congrArg List.length y; simp at this; omega)
    rcases List.mem_cons.mp z with z | z
    · rw [z]
      exact (pow_norm (prim_one b) l2 rfl rfl).1
    · rw [List.mem_singleton.mp z]
      exact fixP_norm (fun y => by have := congrArg List.length y; simp at this; omega)
  · match k, hk, hk' with
    | 0, hk, hk' =>
      cases hk
      cases hk'
      refine ⟨fun _ => ⟨rfl, fun y => hab ?_⟩, fun z => by cases z⟩
      have e1 : (List.replicate i a).getLast? = some a := by
        rw [List.getLast?_eq_getElem?, List.length_replicate, List.getElem?_replicate, if_pos (by omega)]
      have y' : (List.replicate i a).getLast? = [b].getLast? := y
      rw [e1] at y'
      simpa using y'
    | 1, hk, hk' =>
      cases hk
      cases hk'
      exact ⟨fun z => (by cases z), fun _ z => (by cases z)⟩
    | 2, hk, hk' => simp [longP] at hk'
    | (k + 3), hk, hk' => simp [longP] at hk
theorem meas_long {m a b c i j : Nat} (hm : 1 ≤ m) : meas (longP m a b c i j) = i + 1 + j := by
  have h1 : ∀ (w : W), measP (w, one1 m) = w.length := fun w => measP_fix w m
  have h2 : measP ([b], 0 :: 1 :: List.replicate (m - 1) 0) = 1 := rfl
  unfold longP meas
  simp [h1, h2]
  omega
end NM

set_option linter.all false
set_option maxRecDepth 100000
/-! two normal lists that write the same word at enough points are the same -/
namespace NM
open WM
theorem gcd_last {a b : Nat} (ha : 0 < a) (hb : 0 < b) : (a - 1) % Nat.gcd a b = (b - 1) % Nat.gcd a b := by
  have g0 : 0 < Nat.gcd a b := Nat.gcd_pos_of_pos_left _ ha
  have key : ∀ c, 0 < c → Nat.gcd a b ∣ c → (c - 1) % Nat.gcd a b = Nat.gcd a b - 1 := fun c hc hd => by
    obtain ⟨k, rfl⟩ := hd
    cases k with
    | zero => simp at hc
    | succ k =>
      rw [Nat.mul_succ, show Nat.gcd a b * k + Nat.gcd a b - 1 = Nat.gcd a b * k + (Nat.gcd a b - 1) by omega, Nat.mul_add_mod, Nat.mod_eq_of_lt (by omega)]
  rw [key a ha (Nat.gcd_dvd_left _ _), key b hb (Nat.gcd_dvd_right _ _)]
theorem app_get {α : Type} {A B : List α} {i : Nat} (h : i < A.length) : (A ++ B)[i]? = A[i]? := List.getElem?_append_left h
/-- letters ahead of a power that go on with another power could have been moved -/
theorem turn_last {u v x A B : W} {i j : Nat} (hu : u ≠ []) (hv : v ≠ []) (hx : x ≠ []) (h : pw u i ++ A = x ++ (pw v j ++ B)) (hi : x.length + u.length + v.length ≤ u.length * i) (hj : u.length + v.length ≤ v.length * j) : x.getLast? = v.getLast? := by
  have u0 := List.length_pos_iff.mpr hu
  have v0 := List.length_pos_iff.mpr hv
  have x0 := List.length_pos_iff.mpr hx
  have lu : (pw u i).length = u.length * i := pw_len _ _
  have lv : (pw v j).length = v.length * j := pw_len _ _
  have left : ∀ k, k < x.length + u.length + v.length → (x ++ (pw v j ++ B))[k]? = u[k % u.length]? := fun k hk => by
    rw [← h, app_get (by omega), pw_get hu i k (by omega)]
  have right : ∀ k, k < u.length + v.length → (x ++ (pw v j ++ B))[x.length + k]? = (pw v j)[k]? := fun k hk => by
    rw [List.getElem?_append_right (by omega), show x.length + k - x.length = k by omega, app_get (by omega)]
  have lz : ((pw v j).take (u.length + v.length)).length = u.length + v.length := by rw [List.length_take]; omega
  have zget : ∀ k, k < u.length + v.length → ((pw v j).take (u.length + v.length))[k]? = (pw v j)[k]? := fun k hk => List.getElem?_take_of_lt hk
  have p1 : Per v.length ((pw v j).take (u.length + v.length)) := per_take (pw_per hv j)
  have p2 : Per u.length ((pw v j).take (u.length + v.length)) := fun k hk => by
    rw [lz] at hk
    rw [zget k (by omega), zget (k + u.length) hk, ← right k (by omega), ← right (k + u.length) hk, left _ (by omega), left _ (by omega)]
    congr 1
    rw [← Nat.add_assoc, Nat.add_mod_right]
  have pd := per_gcd p2 p1 (by rw [lz]; exact Nat.le_refl _)
  have d0 : 0 < Nat.gcd u.length v.length := Nat.gcd_pos_of_pos_left _ u0
  have a1 := per_at d0 pd (i := u.length - 1) (by rw [lz]; omega)
  have a2 := per_at d0 pd (i := v.length - 1) (by rw [lz]; omega)
  rw [gcd_last u0 v0, ← a2] at a1
  have e1 : x.getLast? = (x ++ (pw v j ++ B))[x.length - 1]? := by
    rw [List.getLast?_eq_getElem?, app_get (by omega)]
  have e2 : (x ++ (pw v j ++ B))[x.length - 1]? = (x ++ (pw v j ++ B))[x.length + (u.length - 1)]? := by
    rw [left _ (by omega), left _ (by omega)]
    congr 1
    rw [show x.length + (u.length - 1) = x.length - 1 + u.length by omega, Nat.add_mod_right]
  have e3 : (pw v j)[v.length - 1]? = v.getLast? := by
    rw [pw_get hv j _ (by omega), Nat.mod_eq_of_lt (by omega), List.getLast?_eq_getElem?]
  rw [e1, e2, right _ (by omega), ← zget _ (by omega), a1, zget _ (by omega), e3]
/-- two powers of primitive words that begin alike are of one word -/
theorem pow_same {u v A B : W} {i j : Nat} (hu : Prim u) (hv : Prim v) (h : pw u i ++ A = pw v j ++ B) (hi : u.length + v.length ≤ u.length * i) (hj : u.length + v.length ≤ v.length * j) : u = v := by
  have u0 := List.length_pos_iff.mpr hu.1
  have v0 := List.length_pos_iff.mpr hv.1
  have lu : (pw u i).length = u.length * i := pw_len _ _
  have lv : (pw v j).length = v.length * j := pw_len _ _
  have ez : (pw u i).take (u.length + v.length) = (pw v j).take (u.length + v.length) := by
    have : (pw u i ++ A).take (u.length + v.length) = (pw v j ++ B).take (u.length + v.length) := by rw [h]
    rw [List.take_append_of_le_length (by omega), List.take_append_of_le_length (by omega)] at this
    exact this
  have lz : ((pw u i).take (u.length + v.length)).length = u.length + v.length := by rw [List.length_take]; omega
  have p1 : Per u.length ((pw u i).take (u.length + v.length)) := per_take (pw_per hu.1 i)
  have p2 : Per v.length ((pw u i).take (u.length + v.length)) := by rw [ez]; exact per_take (pw_per hv.1 j)
  have pd := per_gcd p1 p2 (by rw [lz]; exact Nat.le_refl _)
  have tu : ((pw u i).take (u.length + v.length)).take u.length = u := by
    rw [List.take_take, Nat.min_eq_left (by omega)]
    refine List.ext_getElem? fun k => ?_
    by_cases hk : k < u.length
    · rw [List.getElem?_take_of_lt hk, pw_get hu.1 i k (by omega), Nat.mod_eq_of_lt hk]
    · rw [List.getElem?_eq_none (by rw [List.length_take]; omega), List.getElem?_eq_none (by omega)]
  have tv : ((pw u i).take (u.length + v.length)).take v.length = v := by
    rw [ez, List.take_take, Nat.min_eq_left (by omega)]
    refine List.ext_getElem? fun k => ?_
    by_cases hk : k < v.length
    · rw [List.getElem?_take_of_lt hk, pw_get hv.1 j k (by omega), Nat.mod_eq_of_lt hk]
    · rw [List.getElem?_eq_none (by rw [List.length_take]; omega), List.getElem?_eq_none (by omega)]
  have d0 : 0 < Nat.gcd u.length v.length := Nat.gcd_pos_of_pos_left _ u0
  have pu : Per (Nat.gcd u.length v.length) u := by
    have := per_take (k := u.length) pd
    rw [tu] at this
    exact this
  have pv : Per (Nat.gcd u.length v.length) v := by
    have := per_take (k := v.length) pd
    rw [tv] at this
    exact this
  have du := hu.2 _ d0 (Nat.gcd_dvd_left _ _) pu
  have dv := hv.2 _ d0 (Nat.gcd_dvd_right _ _) pv
  have el : u.length = v.length := du.symm.trans dv
  exact (tu.symm.trans (congrArg (fun n => ((pw u i).take (u.length + v.length)).take n) el)).trans tv
/-- a point of numbers of at least N -/
def Far (m N : Nat) (pt : List Nat) : Prop := pt.length = m ∧ ∀ x ∈ pt, N ≤ x
theorem dot_far {N : Nat} : ∀ (f pt : List Nat), f.length = pt.length → (∃ x ∈ f, x ≠ 0) → (∀ x ∈ pt, N ≤ x) → N ≤ dot f pt
  | [], _, _, h, _ => by obtain ⟨x, hx, _⟩ := h; cases hx
  | _ :: _, [], hl, _, _ => by simp at hl
  | a :: f, b :: pt, hl, h, hp => by
    rw [dot]
    by_cases z : a = 0
    · have : ∃ x ∈ f, x ≠ 0 := by
        obtain ⟨x, hx, x0⟩ := h
        rcases List.mem_cons.mp hx with y | y
        · exact absurd (y.trans z) x0
        · exact ⟨x, y, x0⟩
      have := dot_far f pt (by simpa using hl) this fun x hx => hp x (List.mem_cons_of_mem _ hx)
      omega
    · have := hp b List.mem_cons_self
      have : b ≤ a * b := Nat.le_mul_of_pos_left _ (by omega)
      omega
theorem val_far {m N : Nat} {f : F} {pt : List Nat} (hl : f.length = m + 1) (ho : isOpen f = true) (hp : Far m N pt) : N ≤ valF f pt := by
  have := dot_far f.tail pt (by rw [List.length_tail, hl, hp.1]; rfl) (isOpen_iff.mp ho) hp.2
  unfold valF
  omega
def tot (ps : List Pn) : Nat := (ps.map fun p => p.1.length).sum
theorem tot_cons (p : Pn) (r : List Pn) : tot (p :: r) = p.1.length + tot r := by simp [tot]
theorem Nm.tail {m : Nat} {p : Pn} {r : List Pn} (h : Nm m (p :: r)) : Nm m r := ⟨fun q hq => h.all q (List.mem_cons_of_mem _ hq), fun i a b ha hb => h.adj (i + 1) a b ha hb⟩
theorem Nm.head {m : Nat} {p : Pn} {r : List Pn} (h : Nm m (p :: r)) : NormP m p := h.all p List.mem_cons_self
theorem Nm.adj0 {m : Nat} {p q : Pn} {r : List Pn} (h : Nm m (p :: q :: r)) : Adj p q := h.adj 0 p q rfl rfl
/-- what does not begin with u does not begin with a great power of u -/
theorem no_begin {m N k : Nat} {u R : W} {pt : List Nat} (hu : Prim u) : ∀ {r : List Pn}, Nm m r → (∀ q, r.head? = some q → isPow q = true → q.1 ≠ u) → Far m N pt → u.length + tot r + 1 ≤ N → N ≤ k → wr pt r = pw u k ++ R → False
  | [], _, _, _, _, hk, e => by
    have u0 := List.length_pos_iff.mpr hu.1
    have := congrArg List.length e
    rw [List.length_append, pw_len, wr] at this
    have : k ≤ u.length * k := Nat.le_mul_of_pos_left _ u0
    simp at *
    omega
  | q :: t, nm, hq, far, hN, hk, e => by
    have u0 := List.length_pos_iff.mpr hu.1
    have uk : k ≤ u.length * k := Nat.le_mul_of_pos_left _ u0
    have nq := nm.head
    have q0 := List.length_pos_iff.mpr nq.ne
    rw [tot_cons] at hN
    rw [wr] at e
    cases ep : isPow q with
    | true =>
      obtain ⟨pr, op⟩ := nq.pow ep
      have v := val_far nq.len op far
      have qv : valF q.2 pt ≤ q.1.length * valF q.2 pt := Nat.le_mul_of_pos_left _ q0
      exact hq q rfl ep (pow_same pr hu e (by omega) (by omega))
    | false =>
      have ef : wrt pt q = q.1 := by
        have := nq.fix ep
        unfold wrt
        rw [this, val_one, pw_one]
      rw [ef] at e
      match t, nm, e, hN with
      | [], nm, e, hN =>
        have := congrArg List.length e
        rw [wr, List.append_nil, List.length_append, pw_len] at this
        omega
      | q2 :: t2, nm, e, hN =>
        have ad := nm.adj0.fix ep
        have n2 := nm.tail.head
        obtain ⟨_, op⟩ := n2.pow ad.1
        have v := val_far n2.len op far
        have q20 := List.length_pos_iff.mpr n2.ne
        have qv : valF q2.2 pt ≤ q2.1.length * valF q2.2 pt := Nat.le_mul_of_pos_left _ q20
        rw [tot_cons] at hN
        rw [wr] at e
        have e' : pw u k ++ R = q.1 ++ (pw q2.1 (valF q2.2 pt) ++ wr pt t2) := e.symm
        exact ad.2 (turn_last hu.1 n2.ne nq.ne e' (by omega) (by omega))
/-- points that tell forms apart, with great numbers -/
structure Rich (m : Nat) (Sp : List Nat → Prop) : Prop where
  far : ∀ N, ∃ pt, Sp pt ∧ Far m N pt
  part : ∀ (N : Nat) (f g : F), f.length = m + 1 → g.length = m + 1 → f.headD 0 = 0 → g.headD 0 = 0 → f ≠ g → ∃ pt, Sp pt ∧ Far m N pt ∧ (valF f pt + N ≤ valF g pt ∨ valF g pt + N ≤ valF f pt)
theorem uni {m : Nat} {Sp : List Nat → Prop} (hS : Rich m Sp) : ∀ {a b : List Pn}, Nm m a → Nm m b → (∀ pt, Sp pt → wr pt a = wr pt b) → a = b
  | [], [], _, _, _ => rfl
  | [], q :: t, _, nb, e => by
    exfalso
    obtain ⟨pt, sp, far⟩ := hS.far 1
    have := congrArg List.length (e pt sp)
    have nq := nb.head
    have q0 := List.length_pos_iff.mpr nq.ne
    have v : 1 ≤ valF q.2 pt := by
      cases ep : isPow q with
      | true => exact val_far nq.len (nq.pow ep).2 far
      | false => rw [nq.fix ep, val_one]; exact Nat.le_refl _
    have lw : (wrt pt q).length = q.1.length * valF q.2 pt := pw_len _ _
    have : 0 < q.1.length * valF q.2 pt := Nat.mul_pos q0 v
    have h := e pt sp
    rw [wr, wr] at h
    have h2 := congrArg List.length h
    rw [List.length_append] at h2
    simp only [List.length_nil] at h2
    omega
  | p :: r, [], na, _, e => by
    exfalso
    obtain ⟨pt, sp, far⟩ := hS.far 1
    have := congrArg List.length (e pt sp)
    have nq := na.head
    have q0 := List.length_pos_iff.mpr nq.ne
    have v : 1 ≤ valF p.2 pt := by
      cases ep : isPow p with
      | true => exact val_far nq.len (nq.pow ep).2 far
      | false => rw [nq.fix ep, val_one]; exact Nat.le_refl _
    have lw : (wrt pt p).length = p.1.length * valF p.2 pt := pw_len _ _
    have : 0 < p.1.length * valF p.2 pt := Nat.mul_pos q0 v
    have h := e pt sp
    rw [wr, wr] at h
    have h2 := congrArg List.length h
    rw [List.length_append] at h2
    simp only [List.length_nil] at h2
    omega
  | p :: r, q :: t, na, nb, e => by
    have np := na.head
    have nq := nb.head
    have p0 := List.length_pos_iff.mpr np.ne
    have q0 := List.length_pos_iff.mpr nq.ne
    have one : ∀ {c : Pn}, NormP m c → isPow c = false → ∀ pt, wrt pt c = c.1 := fun {c} nc ec pt => by
      unfold wrt
      rw [nc.fix ec, val_one, pw_one]
    -- a power against a fixed piece
    have mixed : ∀ {c d : Pn} {l k : List Pn}, Nm m (c :: l) → Nm m (d :: k) → isPow c = true → isPow d = false → (∀ pt, Sp pt → wr pt (c :: l) = wr pt (d :: k)) → False := fun {c d l k} nc nd ec ed he => by
      obtain ⟨pt, sp, far⟩ := hS.far (c.1.length + tot (d :: k) + 1)
      obtain ⟨prc, opc⟩ := nc.head.pow ec
      refine no_begin (R := wr pt l) (k := valF c.2 pt) prc nd (fun z hz hp => ?_) far (Nat.le_refl _) (val_far nc.head.len opc far) (he pt sp).symm
      cases hz
      rw [ed] at hp
      cases hp
    -- two fixed pieces, the one shorter
    have shorter : ∀ {c d : Pn} {l k : List Pn}, Nm m (c :: l) → Nm m (d :: k) → isPow c = false → isPow d = false → c.1.length < d.1.length → (∀ pt, Sp pt → wr pt (c :: l) = wr pt (d :: k)) → False := fun {c d l k} nc nd ec ed hl he => by
      have ex : ∀ pt, Sp pt → d.1 = c.1 ++ d.1.drop c.1.length ∧ wr pt l = d.1.drop c.1.length ++ wr pt k := fun pt sp => by
        have := he pt sp
        rw [wr, wr, one nc.head ec, one nd.head ed] at this
        have h1 : (c.1 ++ wr pt l).take c.1.length = (d.1 ++ wr pt k).take c.1.length := by rw [this]
        rw [List.take_left, List.take_append_of_le_length (by omega)] at h1
        have sp' : d.1 = c.1 ++ d.1.drop c.1.length := by
          conv => lhs; rw [← List.take_append_drop c.1.length d.1, ← h1]
        refine ⟨sp', ?_⟩
        rw [sp', List.append_assoc] at this
        exact List.append_cancel_left this
      have xne : d.1.drop c.1.length ≠ [] := fun z => by
        have := congrArg List.length z
        rw [List.length_drop, List.length_nil] at this
        omega
      match l, nc, ex with
      | [], _, ex =>
        obtain ⟨pt, sp, _⟩ := hS.far 0
        have := (ex pt sp).2
        rw [wr] at this
        exact xne (List.append_eq_nil_iff.mp this.symm).1
      | y :: l', nc, ex =>
        have ad := nc.adj0.fix ec
        have ny := nc.tail.head
        obtain ⟨pry, opy⟩ := ny.pow ad.1
        obtain ⟨pt, sp, far⟩ := hS.far (y.1.length + tot ((d.1.drop c.1.length, one1 m) :: k) + 1)
        have nx : Nm m ((d.1.drop c.1.length, one1 m) :: k) := by
          refine ⟨fun z hz => ?_, fun i a b ha hb => ?_⟩
          · rcases List.mem_cons.mp hz with w | w
            · rw [w]; exact fixP_norm xne
            · exact nd.all z (List.mem_cons_of_mem _ w)
          · cases i with
            | succ i => exact nd.adj (i + 1) a b ha hb
            | zero =>
              cases ha
              have hb' : (d :: k)[0 + 1]? = some b := hb
              have := (nd.adj 0 d b rfl hb').fix ed
              refine ⟨fun _ => ⟨this.1, fun w => this.2 ?_⟩, fun z => by cases z⟩
              have e1 := (ex pt sp).1
              have w' : (d.1.drop c.1.length).getLast? = b.1.getLast? := w
              rw [← w']
              conv => lhs; rw [e1]
              rw [List.getLast?_append]
              cases hz : (d.1.drop c.1.length).getLast? with
              | none => exact absurd (List.getLast?_eq_none_iff.mp hz) xne
              | some c => rfl
        refine no_begin (R := wr pt l') (k := valF y.2 pt) pry nx (fun z hz hp => ?_) far (Nat.le_refl _) (val_far ny.len opy far) ?_
        · cases hz
          cases hp
        · have := (ex pt sp).2
          rw [wr] at this
          rw [wr, one (c := (d.1.drop c.1.length, one1 m)) (fixP_norm xne) rfl]
          exact this.symm
    have same : p = q → p :: r = q :: t := fun e1 => by
      subst e1
      have : r = t := uni hS na.tail nb.tail fun pt sp => by
        have := e pt sp
        rw [wr, wr] at this
        exact List.append_cancel_left this
      rw [this]
    cases ep : isPow p with
    | true =>
      cases eq' : isPow q with
      | false => exact (mixed na nb ep eq' e).elim
      | true =>
        obtain ⟨prp, opp⟩ := np.pow ep
        obtain ⟨prq, opq⟩ := nq.pow eq'
        have ew : p.1 = q.1 := by
          obtain ⟨pt, sp, far⟩ := hS.far (p.1.length + q.1.length)
          have v1 := val_far np.len opp far
          have v2 := val_far nq.len opq far
          have m1 : valF p.2 pt ≤ p.1.length * valF p.2 pt := Nat.le_mul_of_pos_left _ p0
          have m2 : valF q.2 pt ≤ q.1.length * valF q.2 pt := Nat.le_mul_of_pos_left _ q0
          have h := e pt sp
          rw [wr, wr] at h
          exact pow_same prp prq h (by omega) (by omega)
        by_cases ef : p.2 = q.2
        · exact same (Prod.ext ew ef)
        · exfalso
          have h0 : p.2.headD 0 = 0 := of_decide_eq_true ep
          have h1 : q.2.headD 0 = 0 := of_decide_eq_true eq'
          obtain ⟨pt, sp, far, hd⟩ := hS.part (p.1.length + tot r + tot t + 1) p.2 q.2 np.len nq.len h0 h1 ef
          have h := e pt sp
          rw [wr, wr] at h
          unfold wrt at h
          rcases hd with hd | hd
          · have s : pw q.1 (valF q.2 pt) = pw p.1 (valF p.2 pt) ++ pw p.1 (valF q.2 pt - valF p.2 pt) := by rw [← pw_add, ew]; congr 1; omega
            rw [s, List.append_assoc] at h
            refine no_begin (r := r) prp na.tail (fun z hz hp => ?_) far (by omega) (show _ ≤ valF q.2 pt - valF p.2 pt by omega) (List.append_cancel_left h)
            match r, na, hz with
            | z' :: r', na, hz =>
              cases hz
              exact fun y => na.adj0.pow ep hp y.symm
          · have s : pw p.1 (valF p.2 pt) = pw q.1 (valF q.2 pt) ++ pw q.1 (valF p.2 pt - valF q.2 pt) := by rw [← pw_add, ew]; congr 1; omega
            rw [s, List.append_assoc] at h
            refine no_begin (r := t) prq nb.tail (fun z hz hp => ?_) far (by rw [← ew]; omega) (show _ ≤ valF p.2 pt - valF q.2 pt by omega) (List.append_cancel_left h).symm
            match t, nb, hz with
            | z' :: r', nb, hz =>
              cases hz
              exact fun y => nb.adj0.pow eq' hp y.symm
    | false =>
      cases eq' : isPow q with
      | true => exact (mixed nb na eq' ep fun pt sp => (e pt sp).symm).elim
      | false =>
        have h1 := np.fix ep
        have h2 := nq.fix eq'
        by_cases hl : p.1.length < q.1.length
        · exact (shorter na nb ep eq' hl e).elim
        · by_cases hl2 : q.1.length < p.1.length
          · exact (shorter nb na eq' ep hl2 fun pt sp => (e pt sp).symm).elim
          · obtain ⟨pt, sp, _⟩ := hS.far 0
            have h := e pt sp
            rw [wr, wr, one np ep, one nq eq'] at h
            have := (List.append_inj h (by omega)).1
            exact same (Prod.ext this (h1.trans h2.symm))
/-! ### enough points -/
theorem dot_split : ∀ (f pt : List Nat) (j x y : Nat), f[j]? = some x → pt[j]? = some y → x * y ≤ dot f pt
  | a :: f, b :: pt, 0, x, y, hf, hp => by
    cases hf
    cases hp
    rw [dot]
    omega
  | a :: f, b :: pt, j + 1, x, y, hf, hp => by
    have := dot_split f pt j x y hf hp
    rw [dot]
    omega
  | [], _, _, _, _, hf, _ => by simp at hf
  | _ :: _, [], _, _, _, _, hp => by simp at hp
theorem dot_rest {M : Nat} : ∀ (f pt : List Nat) (j x y : Nat), f[j]? = some x → pt[j]? = some y → (∀ i z, i ≠ j → pt[i]? = some z → z ≤ M) → dot f pt ≤ x * y + f.sum * M
  | a :: f, b :: pt, 0, x, y, hf, hp, h => by
    cases hf
    cases hp
    have : dot f pt ≤ f.sum * M := by
      have key : ∀ (f pt : List Nat), (∀ z ∈ pt, z ≤ M) → dot f pt ≤ f.sum * M := fun f => by
        induction f with
        | nil => intro pt _; simp [dot]
        | cons a f ih =>
          intro pt hp
          cases pt with
          | nil => simp [dot]
          | cons b pt =>
            have h1 := ih pt fun z hz => hp z (List.mem_cons_of_mem _ hz)
            have h2 : a * b ≤ a * M := Nat.mul_le_mul_left _ (hp b List.mem_cons_self)
            rw [dot, List.sum_cons, Nat.add_mul]
            omega
      refine key f pt fun z hz => ?_
      obtain ⟨i, hi⟩ := List.getElem?_of_mem hz
      exact h (i + 1) z (by omega) hi
    rw [dot, List.sum_cons, Nat.add_mul]
    omega
  | a :: f, b :: pt, j + 1, x, y, hf, hp, h => by
    have h1 := dot_rest f pt j x y hf hp fun i z hi hz => h (i + 1) z (by omega) hz
    have h2 : a * b ≤ a * M := Nat.mul_le_mul_left _ (h 0 b (by omega) rfl)
    rw [dot, List.sum_cons, Nat.add_mul]
    omega
  | [], _, _, _, _, hf, _, _ => by simp at hf
  | _ :: _, [], _, _, _, _, hp, _ => by simp at hp
theorem head0 {f : F} {m : Nat} (hl : f.length = m + 1) (h : f.headD 0 = 0) : f = 0 :: f.tail := by
  cases f with
  | nil => simp at hl
  | cons a f =>
    have : a = 0 := h
    rw [this]
    rfl
theorem rich_of {m : Nat} {Sp : List Nat → Prop} (h0 : ∀ N, ∃ pt, Sp pt ∧ Far m N pt) (h : ∀ N, ∃ M, ∀ j K, j < m → ∃ pt, Sp pt ∧ Far m N pt ∧ (∀ i z, i ≠ j → pt[i]? = some z → z ≤ M) ∧ ∃ y, pt[j]? = some y ∧ K ≤ y) : Rich m Sp := by
  refine ⟨h0, fun N f g lf lg hf hg ne => ?_⟩
  have ef := head0 lf hf
  have eg := head0 lg hg
  have tne : f.tail ≠ g.tail := fun z => ne (by rw [ef, eg, z])
  have lt1 : f.tail.length = m := by rw [List.length_tail, lf]; rfl
  have lt2 : g.tail.length = m := by rw [List.length_tail, lg]; rfl
  have hv : ∀ (f : F) (pt : List Nat), f.headD 0 = 0 → valF f pt = dot f.tail pt := fun f pt z => by unfold valF; rw [z, Nat.zero_add]
  obtain ⟨j, hj⟩ : ∃ j, f.tail[j]? ≠ g.tail[j]? := Classical.byContradiction fun z => tne (List.ext_getElem? fun i => Classical.byContradiction fun y => z ⟨i, y⟩)
  have jm : j < m := Classical.byContradiction fun z => hj (by rw [List.getElem?_eq_none (by omega), List.getElem?_eq_none (by omega)])
  obtain ⟨x1, e1⟩ : ∃ x, f.tail[j]? = some x := ⟨_, List.getElem?_eq_getElem (by omega)⟩
  obtain ⟨x2, e2⟩ : ∃ x, g.tail[j]? = some x := ⟨_, List.getElem?_eq_getElem (by omega)⟩
  have xne : x1 ≠ x2 := fun z => hj (by rw [e1, e2, z])
  obtain ⟨M, hM⟩ := h N
  obtain ⟨pt, sp, far, small, y, hy, ky⟩ := hM j (f.tail.sum * M + g.tail.sum * M + N) jm
  refine ⟨pt, sp, far, ?_⟩
  rw [hv f pt hf, hv g pt hg]
  have a1 := dot_split f.tail pt j x1 y e1 hy
  have a2 := dot_split g.tail pt j x2 y e2 hy
  have b1 := dot_rest f.tail pt j x1 y e1 hy small
  have b2 := dot_rest g.tail pt j x2 y e2 hy small
  rcases Nat.lt_or_gt_of_ne xne with z | z
  · refine .inl ?_
    have : (x1 + 1) * y ≤ x2 * y := Nat.mul_le_mul_right _ z
    rw [Nat.add_mul, Nat.one_mul] at this
    omega
  · refine .inr ?_
    have : (x2 + 1) * y ≤ x1 * y := Nat.mul_le_mul_right _ z
    rw [Nat.add_mul, Nat.one_mul] at this
    omega
/-- all points -/
def AllPt (m : Nat) (pt : List Nat) : Prop := pt.length = m
theorem rich_all (m : Nat) : Rich m (AllPt m) := by
  refine rich_of (fun N => ⟨List.replicate m N, by simp [AllPt], by simp [Far]⟩) fun N => ⟨N, fun j K hj => ⟨(List.replicate m N).set j (N + K), by simp [AllPt], ⟨by simp, fun x hx => ?_⟩, fun i z hi hz => ?_, N + K, ?_, by omega⟩⟩
  · rcases List.mem_or_eq_of_mem_set hx with w | w
    · rw [List.eq_of_mem_replicate w]; exact Nat.le_refl _
    · rw [w]; omega
  · rw [List.getElem?_set_ne (Ne.symm hi)] at hz
    have := List.mem_of_getElem? hz
    rw [List.eq_of_mem_replicate this]
    exact Nat.le_refl _
  · rw [List.getElem?_set_self (by simpa using hj)]
/-- lists that write the same words have one normal list -/
theorem norm_same {m : Nat} {a b : List Pn} (ha : LenF m a) (hb : LenF m b) (h : ∀ pt, pt.length = m → wr pt a = wr pt b) : normL a = normL b :=
  uni (rich_all m) (nm_normL ha) (nm_normL hb) fun pt sp => by rw [wr_normL ha, wr_normL hb]; exact h pt sp
end NM

set_option linter.all false
set_option maxRecDepth 100000
namespace NM
open WM
/-! ### what keeps two texts apart -/
theorem norm_iff {m : Nat} {a b : List Pn} (ha : LenF m a) (hb : LenF m b) : normL a = normL b ↔ ∀ pt, pt.length = m → wr pt a = wr pt b := by
  refine ⟨fun e pt _ => ?_, norm_same ha hb⟩
  rw [← wr_normL ha, e, wr_normL hb]
/-- two lists made of two texts: they write the same exactly where the texts do -/
theorem made_iff {m m' : Nat} {a b a' b' : List Pn} {Sp : List Nat → Prop} (hS : Rich m Sp) (ha : LenF m a) (hb : LenF m b) (ha' : LenF m' a') (hb' : LenF m' b')
    (h1 : (∀ pt, pt.length = m → wr pt a = wr pt b) → ∀ pt, pt.length = m' → wr pt a' = wr pt b') (h2 : (∀ pt, pt.length = m' → wr pt a' = wr pt b') → ∀ pt, Sp pt → wr pt a = wr pt b) : normL a' = normL b' ↔ normL a = normL b := by
  constructor
  · intro e
    refine uni hS (nm_normL ha) (nm_normL hb) fun pt sp => ?_
    rw [wr_normL ha, wr_normL hb]
    exact h2 ((norm_iff ha' hb').mp e) pt sp
  · intro e
    exact (norm_iff ha' hb').mpr (h1 ((norm_iff ha hb).mp e))
theorem lenF_app {m : Nat} {a b : List Pn} (ha : LenF m a) (hb : LenF m b) : LenF m (a ++ b) := fun p hp => (List.mem_append.mp hp).elim (ha p) (hb p)
theorem join_iff {m : Nat} {a b c : List Pn} (ha : LenF m a) (hb : LenF m b) (hc : LenF m c) : normL (a ++ c) = normL (b ++ c) ↔ normL a = normL b := by
  refine made_iff (rich_all m) ha hb (lenF_app ha hc) (lenF_app hb hc) (fun h pt hp => ?_) fun h pt hp => ?_
  · rw [wr_app, wr_app, h pt hp]
  · have := h pt hp
    rw [wr_app, wr_app] at this
    exact List.append_cancel_right this
theorem join_iff2 {m : Nat} {a b c : List Pn} (ha : LenF m a) (hb : LenF m b) (hc : LenF m c) : normL (c ++ a) = normL (c ++ b) ↔ normL a = normL b := by
  refine made_iff (rich_all m) ha hb (lenF_app hc ha) (lenF_app hc hb) (fun h pt hp => ?_) fun h pt hp => ?_
  · rw [wr_app, wr_app, h pt hp]
  · have := h pt hp
    rw [wr_app, wr_app] at this
    exact List.append_cancel_left this
def repP (t : Nat) (ps : List Pn) : List Pn := (List.replicate t ps).flatten
theorem mem_repP {ps : List Pn} : ∀ {t : Nat} {p : Pn}, p ∈ repP t ps → p ∈ ps
  | 0, _, h => by simp [repP] at h
  | t + 1, p, h => by
    unfold repP at h
    rw [List.replicate_succ, List.flatten_cons] at h
    exact (List.mem_append.mp h).elim id mem_repP
theorem wr_repP (pt : List Nat) (ps : List Pn) : ∀ t, wr pt (repP t ps) = pw (wr pt ps) t
  | 0 => rfl
  | t + 1 => by
    have := wr_repP pt ps t
    unfold repP at this ⊢
    rw [List.replicate_succ, List.flatten_cons, wr_app, this, pw_succ]
theorem pw_inj {a b : W} {t : Nat} (ht : 1 ≤ t) (h : pw a t = pw b t) : a = b := by
  obtain ⟨k, rfl⟩ : ∃ k, t = k + 1 := ⟨t - 1, by omega⟩
  have hl : a.length = b.length := by
    have := congrArg List.length h
    rw [pw_len, pw_len] at this
    exact Nat.eq_of_mul_eq_mul_right (by omega) this
  rw [pw_succ, pw_succ] at h
  exact (List.append_inj h hl).1
theorem rep_iff {m t : Nat} {a b : List Pn} (ht : 1 ≤ t) (ha : LenF m a) (hb : LenF m b) : normL (repP t a) = normL (repP t b) ↔ normL a = normL b := by
  refine made_iff (rich_all m) ha hb (fun p hp => ha p (mem_repP hp)) (fun p hp => hb p (mem_repP hp)) (fun h pt hp => ?_) fun h pt hp => ?_
  · rw [wr_repP, wr_repP, h pt hp]
  · have := h pt hp
    rw [wr_repP, wr_repP] at this
    exact pw_inj ht this
def mirP (ps : List Pn) : List Pn := ps.reverse.map fun p => (p.1.reverse, p.2)
theorem pw_rev (w : W) : ∀ k, pw w.reverse k = (pw w k).reverse
  | 0 => rfl
  | k + 1 => by
    have e : pw w (k + 1) = pw w k ++ w := by
      rw [pw_add w k 1, pw_one]
    rw [pw_succ, e, List.reverse_append, pw_rev w k]
theorem wr_mirP (pt : List Nat) : ∀ ps : List Pn, wr pt (mirP ps) = (wr pt ps).reverse
  | [] => rfl
  | p :: r => by
    have := wr_mirP pt r
    unfold mirP at this ⊢
    rw [List.reverse_cons, List.map_append, wr_app, this, wr, List.reverse_append, List.map_cons, List.map_nil, wr_one]
    congr 1
    unfold wrt
    rw [pw_rev]
theorem lenF_mir {m : Nat} {a : List Pn} (ha : LenF m a) : LenF m (mirP a) := fun p hp => by
  obtain ⟨q, hq, rfl⟩ := List.mem_map.mp hp
  exact ha q (List.mem_reverse.mp hq)
theorem mir_iff {m : Nat} {a b : List Pn} (ha : LenF m a) (hb : LenF m b) : normL (mirP a) = normL (mirP b) ↔ normL a = normL b := by
  refine made_iff (rich_all m) ha hb (lenF_mir ha) (lenF_mir hb) (fun h pt hp => ?_) fun h pt hp => ?_
  · rw [wr_mirP, wr_mirP, h pt hp]
  · have := h pt hp
    rw [wr_mirP, wr_mirP] at this
    exact List.reverse_inj.mp this
/-! ### letters replaced -/
def mapW (img : Nat → List Nat) (w : List Nat) : List Nat := (w.map img).flatten
def mapP (img : Nat → List Nat) (ps : List Pn) : List Pn := ps.map fun p => (mapW img p.1, p.2)
theorem mapW_app (img : Nat → List Nat) (a b : List Nat) : mapW img (a ++ b) = mapW img a ++ mapW img b := by
  unfold mapW
  rw [List.map_append, List.flatten_append]
theorem mapW_pw (img : Nat → List Nat) (w : List Nat) : ∀ k, mapW img (pw w k) = pw (mapW img w) k
  | 0 => rfl
  | k + 1 => by rw [pw_succ, pw_succ, mapW_app, mapW_pw img w k]
theorem wr_mapP (img : Nat → List Nat) (pt : List Nat) : ∀ ps : List Pn, wr pt (mapP img ps) = mapW img (wr pt ps)
  | [] => rfl
  | p :: r => by
    have := wr_mapP img pt r
    unfold mapP at this ⊢
    rw [List.map_cons, wr, wr, this, mapW_app]
    congr 1
    unfold wrt
    rw [mapW_pw]
theorem lenF_map {m : Nat} {a : List Pn} {img : Nat → List Nat} (ha : LenF m a) : LenF m (mapP img a) := fun p hp => by
  obtain ⟨q, hq, rfl⟩ := List.mem_map.mp hp
  exact ha q hq
/-- no word begins another one -/
structure Code (Lt : Nat → Prop) (img : Nat → List Nat) : Prop where
  ne : ∀ c, Lt c → img c ≠ []
  pre : ∀ c d, Lt c → Lt d → img c <+: img d → c = d
theorem Code.inj {Lt : Nat → Prop} {img : Nat → List Nat} (h : Code Lt img) : ∀ {a b : List Nat}, (∀ c ∈ a, Lt c) → (∀ c ∈ b, Lt c) → mapW img a = mapW img b → a = b
  | [], [], _, _, _ => rfl
  | [], d :: b, _, hb, e => by
    have e' : [] = img d ++ mapW img b := e
    exact absurd (List.append_eq_nil_iff.mp e'.symm).1 (h.ne d (hb d List.mem_cons_self))
  | c :: a, [], ha, _, e => by
    have e' : img c ++ mapW img a = [] := e
    exact absurd (List.append_eq_nil_iff.mp e').1 (h.ne c (ha c List.mem_cons_self))
  | c :: a, d :: b, ha, hb, e => by
    have e' : img c ++ mapW img a = img d ++ mapW img b := e
    have hc := ha c List.mem_cons_self
    have hd := hb d List.mem_cons_self
    have cd : c = d := by
      rcases List.append_eq_append_iff.mp e' with ⟨x, hx, _⟩ | ⟨x, hx, _⟩
      · exact h.pre c d hc hd ⟨x, hx.symm⟩
      · exact (h.pre d c hd hc ⟨x, hx.symm⟩).symm
    subst cd
    rw [h.inj (fun x hx => ha x (List.mem_cons_of_mem _ hx)) (fun x hx => hb x (List.mem_cons_of_mem _ hx)) (List.append_cancel_left e')]
theorem mem_pw {w : W} {c : Nat} : ∀ {k : Nat}, c ∈ pw w k → c ∈ w
  | 0, h => by simp [pw_zero] at h
  | k + 1, h => by
    rw [pw_succ] at h
    exact (List.mem_append.mp h).elim id mem_pw
theorem mem_wr {pt : List Nat} {c : Nat} : ∀ {ps : List Pn}, c ∈ wr pt ps → ∃ p ∈ ps, c ∈ p.1
  | [], h => by simp [wr] at h
  | p :: r, h => by
    rw [wr] at h
    rcases List.mem_append.mp h with z | z
    · exact ⟨p, List.mem_cons_self, mem_pw z⟩
    · obtain ⟨q, hq, hc⟩ := mem_wr z
      exact ⟨q, List.mem_cons_of_mem _ hq, hc⟩
theorem map_iff {m : Nat} {a b : List Pn} {Lt : Nat → Prop} {img : Nat → List Nat} (hc : Code Lt img) (la : ∀ p ∈ a, ∀ c ∈ p.1, Lt c) (lb : ∀ p ∈ b, ∀ c ∈ p.1, Lt c) (ha : LenF m a) (hb : LenF m b) :
    normL (mapP img (normL a)) = normL (mapP img (normL b)) ↔ normL a = normL b := by
  have na := (nm_normL ha).lenF
  have nb := (nm_normL hb).lenF
  refine made_iff (rich_all m) ha hb (lenF_map na) (lenF_map nb) (fun h pt hp => ?_) fun h pt hp => ?_
  · rw [wr_mapP, wr_mapP, wr_normL ha, wr_normL hb, h pt hp]
  · have e := h pt hp
    rw [wr_mapP, wr_mapP, wr_normL ha, wr_normL hb] at e
    refine hc.inj (fun c hm => ?_) (fun c hm => ?_) e
    · obtain ⟨p, hp, hcp⟩ := mem_wr hm
      exact la p hp c hcp
    · obtain ⟨p, hp, hcp⟩ := mem_wr hm
      exact lb p hp c hcp
/-! ### unknowns replaced -/
theorem rich_mul {m t b : Nat} {Sp : List Nat → Prop} (ht : 1 ≤ t) (h : ∀ pt : List Nat, pt.length = m → (∀ x ∈ pt, b ≤ x ∧ t ∣ x) → Sp pt) : Rich m Sp := by
  have ge : ∀ N, N + b ≤ t * (N + b) := fun N => Nat.le_mul_of_pos_left _ ht
  refine rich_of (fun N => ⟨List.replicate m (t * (N + b)), h _ (by simp) fun x hx => ?_, by simp, fun x hx => ?_⟩) fun N => ⟨t * (N + b), fun j K hj => ⟨(List.replicate m (t * (N + b))).set j (t * (N + b + K)), h _ (by simp) fun x hx => ?_, ⟨by simp, fun x hx => ?_⟩, fun i z hi hz => ?_, t * (N + b + K), ?_, ?_⟩⟩
  · rw [List.eq_of_mem_replicate hx]
    have := ge N
    exact ⟨by omega, Nat.dvd_mul_right _ _⟩
  · rw [List.eq_of_mem_replicate hx]
    have := ge N
    omega
  · rcases List.mem_or_eq_of_mem_set hx with w | w
    · rw [List.eq_of_mem_replicate w]
      have := ge N
      exact ⟨by omega, Nat.dvd_mul_right _ _⟩
    · rw [w]
      have := ge (N + K)
      rw [Nat.add_right_comm] at this
      exact ⟨by omega, Nat.dvd_mul_right _ _⟩
  · have g1 := ge N
    have g2 := ge (N + K)
    rw [Nat.add_right_comm] at g2
    rcases List.mem_or_eq_of_mem_set hx with w | w
    · rw [List.eq_of_mem_replicate w]; omega
    · rw [w]; omega
  · rw [List.getElem?_set_ne (Ne.symm hi)] at hz
    have := List.mem_of_getElem? hz
    rw [List.eq_of_mem_replicate this]
    exact Nat.le_refl _
  · rw [List.getElem?_set_self (by simpa using hj)]
  · have g2 := ge (N + K)
    rw [Nat.add_right_comm] at g2
    omega
end NM

set_option linter.all false
set_option maxRecDepth 100000
/-! a text whose number at an unknown is taken less: what the program's steps from the last piece on find -/
namespace NM
open WM
/-! ### a word as a beginning of another one taken without end -/
def preE (u : W) (n : Nat) : W := (pw u (n / u.length + 1)).take n
theorem preE_len {u : W} (h : u ≠ []) (n : Nat) : (preE u n).length = n := by
  have n0 := List.length_pos_iff.mpr h
  have := Nat.mod_add_div n u.length
  have := Nat.mod_lt n n0
  unfold preE
  rw [List.length_take, pw_len, Nat.mul_succ]
  omega
theorem preE_get {u : W} (h : u ≠ []) {n i : Nat} (hi : i < n) : (preE u n)[i]? = u[i % u.length]? := by
  have n0 := List.length_pos_iff.mpr h
  have := Nat.mod_add_div n u.length
  have := Nat.mod_lt n n0
  unfold preE
  rw [List.getElem?_take_of_lt hi, pw_get h _ _ (by rw [Nat.mul_succ]; omega)]
/-- what begins a great power of u, is a beginning of u without end -/
theorem pre_of {u x A B : W} {k : Nat} (h : u ≠ []) (e : pw u k ++ A = x ++ B) (hk : x.length ≤ u.length * k) : x = preE u x.length := by
  refine List.ext_getElem? fun i => ?_
  by_cases hi : i < x.length
  · rw [preE_get h hi]
    have : (pw u k ++ A)[i]? = (x ++ B)[i]? := by rw [e]
    rw [List.getElem?_append_left (by rw [pw_len]; omega), pw_get h k i (by omega), List.getElem?_append_left hi] at this
    exact this.symm
  · rw [List.getElem?_eq_none (by omega), List.getElem?_eq_none (by rw [preE_len h]; omega)]
def rotL (u : W) (n : Nat) : W := u.drop (n % u.length) ++ u.take (n % u.length)
theorem rotL_len (u : W) (n : Nat) : (rotL u n).length = u.length := by
  unfold rotL
  rw [List.length_append, List.length_drop, List.length_take]
  omega
theorem rotL_get {u : W} (h : u ≠ []) (n : Nat) {i : Nat} (hi : i < u.length) : (rotL u n)[i]? = u[(i + n) % u.length]? := by
  have n0 := List.length_pos_iff.mpr h
  have hm := Nat.mod_lt n n0
  unfold rotL
  have e : (i + n) % u.length = (i + n % u.length) % u.length := (Nat.add_mod_mod ..).symm
  rw [e]
  by_cases z : i < u.length - n % u.length
  · rw [List.getElem?_append_left (by rw [List.length_drop]; omega), List.getElem?_drop, Nat.add_comm, Nat.mod_eq_of_lt (show i + n % u.length < u.length by omega)]
  · rw [List.getElem?_append_right (by rw [List.length_drop]; omega), List.length_drop, List.getElem?_take_of_lt (by omega)]
    congr 1
    have : i + n % u.length = u.length + (i - (u.length - n % u.length)) := by omega
    rw [this, Nat.add_mod_left, Nat.mod_eq_of_lt (show i - (u.length - n % u.length) < u.length by omega)]
theorem rotL_ne {u : W} (h : u ≠ []) (n : Nat) : rotL u n ≠ [] := fun z => by
  have := rotL_len u n
  rw [z] at this
  exact h (List.length_eq_zero_iff.mp this.symm)
theorem rotL_rotR {u : W} (h : u ≠ []) (n : Nat) : ∃ k, rotL u n = rotR u k := by
  have n0 := List.length_pos_iff.mpr h
  have hm := Nat.mod_lt n n0
  by_cases z : n % u.length = 0
  · exact ⟨0, by rw [rotR_zero]; unfold rotL; rw [z]; simp⟩
  · refine ⟨u.length - n % u.length, ?_⟩
    unfold rotL rotR
    rw [Nat.mod_eq_of_lt (show u.length - n % u.length < u.length by omega), show u.length - (u.length - n % u.length) = n % u.length by omega]
theorem prim_rotL {u : W} (h : Prim u) (n : Nat) : Prim (rotL u n) := by
  obtain ⟨k, e⟩ := rotL_rotR h.1 n
  rw [e]
  exact prim_rotR h k
/-- a beginning goes through a power -/
theorem pre_step {u x : W} (h : u ≠ []) (hx : x = preE u x.length) : u ++ x = x ++ rotL u x.length := by
  have n0 := List.length_pos_iff.mpr h
  have xg : ∀ i, i < x.length → x[i]? = u[i % u.length]? := fun i hi => by
    have := preE_get h hi
    rw [← hx] at this
    exact this
  refine List.ext_getElem? fun i => ?_
  by_cases hi : i < u.length + x.length
  · have l : (u ++ x)[i]? = u[i % u.length]? := by
      by_cases a : i < u.length
      · rw [List.getElem?_append_left a, Nat.mod_eq_of_lt a]
      · rw [List.getElem?_append_right (by omega), xg _ (by omega)]
        congr 1
        conv => rhs; rw [show i = i - u.length + u.length by omega, Nat.add_mod_right]
    have r : (x ++ rotL u x.length)[i]? = u[i % u.length]? := by
      by_cases a : i < x.length
      · rw [List.getElem?_append_left a, xg i a]
      · rw [List.getElem?_append_right (by omega), rotL_get h _ (by omega)]
        congr 2
        omega
    rw [l, r]
  · rw [List.getElem?_eq_none (by rw [List.length_append]; omega), List.getElem?_eq_none (by rw [List.length_append, rotL_len]; omega)]
theorem pre_pw {u x : W} (h : u ≠ []) (hx : x = preE u x.length) : ∀ k, pw u k ++ x = x ++ pw (rotL u x.length) k
  | 0 => by rw [pw_zero, pw_zero, List.append_nil, List.nil_append]
  | k + 1 => by rw [pw_succ, pw_succ, List.append_assoc, pre_pw h hx k, ← List.append_assoc, pre_step h hx, List.append_assoc]
/-! ### the steps -/
/-- a word taken from the start -/
def stripS : List Pn → W → Option (List Pn)
  | [], x => if x = [] then some [] else none
  | p :: r, x =>
    if x = [] then some (p :: r)
    else if isPow p = true then (if x = preE p.1 x.length then (stripS r x).map fun l => (rotL p.1 x.length, p.2) :: l else none)
    else if x <+: p.1 then some ((p.1.drop x.length, p.2) :: r)
    else if p.1 <+: x then stripS r (x.drop p.1.length)
    else none
def backL (j k : Nat) : List Pn → Option (List Pn)
  | [] => some []
  | p :: r => (backL j k r).bind fun L => if isPow p = true then (stripS L (pw p.1 (p.2.getD (j + 1) 0 * k))).map fun l => p :: l else some (p :: L)
/-- pieces as they stand in a normal list, or behind a step -/
structure OkP (m : Nat) (p : Pn) : Prop where
  len : p.2.length = m + 1
  fix : isPow p = false → p.2 = one1 m
  pow : isPow p = true → Prim p.1 ∧ isOpen p.2 = true
def OkL (m : Nat) (l : List Pn) : Prop := ∀ p ∈ l, OkP m p
theorem Nm.ok {m : Nat} {l : List Pn} (h : Nm m l) : OkL m l := fun p hp => ⟨(h.all p hp).len, (h.all p hp).fix, (h.all p hp).pow⟩
theorem OkL.tail {m : Nat} {p : Pn} {r : List Pn} (h : OkL m (p :: r)) : OkL m r := fun q hq => h q (List.mem_cons_of_mem _ hq)
theorem OkL.lenF {m : Nat} {l : List Pn} (h : OkL m l) : LenF m l := fun p hp => (h p hp).len
theorem OkP.wrt {m : Nat} {p : Pn} (h : OkP m p) (e : isPow p = false) (pt : List Nat) : wrt pt p = p.1 := by
  unfold NM.wrt
  rw [h.fix e, val_one, pw_one]
/-- what the step keeps, and what it writes -/
theorem strip_sound {m : Nat} : ∀ {L L' : List Pn} {x : W}, OkL m L → stripS L x = some L' → OkL m L' ∧ ∀ pt, wr pt L = x ++ wr pt L'
  | [], L', x, _, h => by
    unfold stripS at h
    split at h
    · next e =>
      cases h
      exact ⟨fun p hp => absurd hp List.not_mem_nil, fun pt => by rw [e]; rfl⟩
    · cases h
  | p :: r, L', x, ok, h => by
    unfold stripS at h
    have op := ok p List.mem_cons_self
    split at h
    · next e =>
      cases h
      exact ⟨ok, fun pt => by rw [e]; rfl⟩
    · next xe =>
      split at h
      · next ep =>
        split at h
        · next hx =>
          cases hs : stripS r x with
          | none => rw [hs] at h; cases h
          | some l =>
            rw [hs] at h
            cases h
            obtain ⟨ol, wl⟩ := strip_sound ok.tail hs
            obtain ⟨pr, opn⟩ := op.pow ep
            refine ⟨fun q hq => ?_, fun pt => ?_⟩
            · rcases List.mem_cons.mp hq with z | z
              · rw [z]
                have ep' : isPow (rotL p.1 x.length, p.2) = true := ep
                exact ⟨op.len, fun y => (by rw [ep'] at y; cases y), fun _ => ⟨prim_rotL pr _, opn⟩⟩
              · exact ol q z
            · rw [wr, wr, wl pt]
              show pw p.1 (valF p.2 pt) ++ (x ++ wr pt l) = x ++ (pw (rotL p.1 x.length) (valF p.2 pt) ++ wr pt l)
              rw [← List.append_assoc, pre_pw pr.1 hx, List.append_assoc]
        · cases h
      · next ep =>
        have ep : isPow p = false := by simpa using ep
        split at h
        · next hx =>
          cases h
          obtain ⟨y, e⟩ := hx
          refine ⟨fun q hq => ?_, fun pt => ?_⟩
          · rcases List.mem_cons.mp hq with z | z
            · rw [z]
              have ep' : isPow (p.1.drop x.length, p.2) = false := ep
              exact ⟨op.len, fun _ => op.fix ep, fun y => by rw [ep'] at y; cases y⟩
            · exact ok q (List.mem_cons_of_mem _ z)
          · rw [wr, wr, op.wrt ep, ← List.append_assoc]
            congr 1
            show p.1 = x ++ pw (p.1.drop x.length) (valF p.2 pt)
            rw [op.fix ep, val_one, pw_one, ← e]
            simp
        · split at h
          · next hx =>
            obtain ⟨y, e⟩ := hx
            obtain ⟨ol, wl⟩ := strip_sound ok.tail h
            refine ⟨ol, fun pt => ?_⟩
            rw [wr, wl pt, op.wrt ep, ← List.append_assoc]
            congr 1
            rw [← e]
            simp
          · cases h
/-- a point moved on -/
def onP (j k : Nat) (pt : List Nat) : List Nat := pt.set j (pt.getD j 0 + k)
theorem onP_len (j k : Nat) (pt : List Nat) : (onP j k pt).length = pt.length := List.length_set
theorem dot_on (k : Nat) : ∀ (f pt : List Nat) (j : Nat), f.length = pt.length → j < pt.length → dot f (onP j k pt) = dot f pt + f.getD j 0 * k
  | [], pt, j, h, hj => by
    have h : 0 = pt.length := h
    omega
  | _ :: _, [], _, h, _ => by simp at h
  | a :: f, b :: pt, 0, h, _ => by
    show a * (b + k) + dot f pt = a * b + dot f pt + a * k
    rw [Nat.mul_add]
    omega
  | a :: f, b :: pt, j + 1, h, hj => by
    have := dot_on k f pt j (by simpa using h) (by simpa using hj)
    unfold onP at this ⊢
    show a * b + dot f (pt.set j (pt.getD j 0 + k)) = a * b + dot f pt + f.getD j 0 * k
    rw [this]
    omega
theorem val_on {f : F} {pt : List Nat} {m j k : Nat} (hf : f.length = m + 1) (hp : pt.length = m) (hj : j < m) : valF f (onP j k pt) = valF f pt + f.getD (j + 1) 0 * k := by
  cases f with
  | nil => simp at hf
  | cons a f =>
    have := dot_on k f pt j (by simp at hf; omega) (by omega)
    unfold valF
    show a + dot f (onP j k pt) = a + dot f pt + f.getD j 0 * k
    rw [this]
    omega
theorem back_sound {m j k : Nat} (hj : j < m) : ∀ {T L : List Pn}, OkL m T → backL j k T = some L → OkL m L ∧ ∀ pt, pt.length = m → wr (onP j k pt) L = wr pt T
  | [], L, _, h => by
    cases h
    exact ⟨fun p hp => absurd hp List.not_mem_nil, fun pt _ => rfl⟩
  | p :: r, L, ok, h => by
    have op := ok p List.mem_cons_self
    unfold backL at h
    cases hb : backL j k r with
    | none => rw [hb] at h; cases h
    | some l =>
      rw [hb] at h
      obtain ⟨ol, wl⟩ := back_sound hj ok.tail hb
      have h : (if isPow p = true then (stripS l (pw p.1 (p.2.getD (j + 1) 0 * k))).map fun l => p :: l else some (p :: l)) = some L := h
      split at h
      · next ep =>
        cases hs : stripS l (pw p.1 (p.2.getD (j + 1) 0 * k)) with
        | none => rw [hs] at h; cases h
        | some l2 =>
          rw [hs] at h
          cases h
          obtain ⟨o2, w2⟩ := strip_sound ol hs
          refine ⟨fun q hq => ?_, fun pt hp => ?_⟩
          · rcases List.mem_cons.mp hq with z | z
            · rw [z]; exact op
            · exact o2 q z
          · rw [wr, wr, ← wl pt hp, w2]
            show pw p.1 (valF p.2 (onP j k pt)) ++ _ = pw p.1 (valF p.2 pt) ++ _
            rw [val_on op.len hp hj, pw_add, List.append_assoc]
      · next ep =>
        have ep : isPow p = false := by simpa using ep
        cases h
        refine ⟨fun q hq => ?_, fun pt hp => ?_⟩
        · rcases List.mem_cons.mp hq with z | z
          · rw [z]; exact op
          · exact ol q z
        · rw [wr, wr, wl pt hp, op.wrt ep, op.wrt ep]
/-! ### no great power of the same word behind a power -/
def NB (m : Nat) (u : W) (R : List Pn) : Prop := ∃ N, ∀ pt, Far m N pt → ∀ k, N ≤ k → ∀ Z, wr pt R ≠ pw u k ++ Z
def Irr (m : Nat) : List Pn → Prop
  | [] => True
  | p :: r => (isPow p = true → NB m p.1 r) ∧ Irr m r
theorem Far.le {m N M : Nat} {pt : List Nat} (h : Far m N pt) (l : M ≤ N) : Far m M pt := ⟨h.1, fun x hx => Nat.le_trans l (h.2 x hx)⟩
theorem nb_of {m : Nat} {u : W} {r : List Pn} (hu : Prim u) (nm : Nm m r) (hq : ∀ q, r.head? = some q → isPow q = true → q.1 ≠ u) : NB m u r :=
  ⟨u.length + tot r + 1, fun pt far k hk Z e => no_begin hu nm hq far (Nat.le_refl _) hk e⟩
theorem nb_tail {m : Nat} {p : Pn} {r : List Pn} (h : Nm m (p :: r)) (ep : isPow p = true) : NB m p.1 r := by
  obtain ⟨pr, _⟩ := h.head.pow ep
  refine nb_of pr h.tail fun q hq hp => ?_
  match r, h, hq with
  | z :: r', h, hq =>
    cases hq
    exact fun y => h.adj0.pow ep hp y.symm
theorem irr_nm {m : Nat} : ∀ {l : List Pn}, Nm m l → Irr m l
  | [], _ => True.intro
  | p :: r, h => ⟨nb_tail h, irr_nm h.tail⟩
theorem strip_irr {m : Nat} : ∀ {L L' : List Pn} {x : W}, OkL m L → Irr m L → stripS L x = some L' → Irr m L'
  | [], L', x, _, _, h => by
    unfold stripS at h
    split at h
    · cases h
      exact True.intro
    · cases h
  | p :: r, L', x, ok, ir, h => by
    unfold stripS at h
    have op := ok p List.mem_cons_self
    split at h
    · cases h
      exact ir
    · split at h
      · next ep =>
        split at h
        · next hx =>
          cases hs : stripS r x with
          | none => rw [hs] at h; cases h
          | some l =>
            rw [hs] at h
            cases h
            obtain ⟨ol, wl⟩ := strip_sound ok.tail hs
            obtain ⟨pr, opn⟩ := op.pow ep
            obtain ⟨N, hN⟩ := ir.1 ep
            refine ⟨fun _ => ⟨N, fun pt far k hk Z e => ?_⟩, strip_irr ok.tail ir.2 hs⟩
            have e : wr pt l = pw (rotL p.1 x.length) k ++ Z := e
            refine hN pt far k hk (x ++ Z) ?_
            rw [wl pt, e, ← List.append_assoc, ← pre_pw pr.1 hx, List.append_assoc]
        · cases h
      · next ep =>
        have ep : isPow p = false := by simpa using ep
        split at h
        · cases h
          exact ⟨fun y => (by have ep' : isPow (p.1.drop x.length, p.2) = false := ep; rw [ep'] at y; cases y), ir.2⟩
        · split at h
          · exact strip_irr ok.tail ir.2 h
          · cases h
/-- a great power begins with what is a beginning of it -/
theorem pw_pre {u x : W} (h : u ≠ []) (hx : x = preE u x.length) {b : Nat} (hb : x.length ≤ u.length * b) : ∃ t, pw u b = x ++ t := by
  refine ⟨(pw u b).drop x.length, ?_⟩
  have e : (pw u b).take x.length = x := by
    refine List.ext_getElem? fun i => ?_
    by_cases hi : i < x.length
    · rw [List.getElem?_take_of_lt hi, pw_get h b i (by omega), hx]
      conv => rhs; rw [preE_get h hi]
    · rw [List.getElem?_eq_none (by rw [List.length_take]; omega), List.getElem?_eq_none (by omega)]
  conv => lhs; rw [← List.take_append_drop x.length (pw u b), e]
/-- a great power less a beginning goes on with a great power of the turned word -/
theorem pw_less {u x A B : W} {v : Nat} (h : u ≠ []) (hx : x = preE u x.length) (hv : x.length ≤ v) (e : pw u v ++ A = x ++ B) : ∃ Z, B = pw (rotL u x.length) (v - x.length) ++ Z := by
  have n0 := List.length_pos_iff.mpr h
  obtain ⟨t, ht⟩ := pw_pre h hx (b := x.length) (Nat.le_mul_of_pos_left _ n0)
  have s : pw u v = x ++ (pw (rotL u x.length) (v - x.length) ++ t) := by
    have : v = (v - x.length) + x.length := by omega
    conv => lhs; rw [this, pw_add, ht, ← List.append_assoc, pre_pw h hx]
    rw [List.append_assoc]
  rw [s, List.append_assoc, List.append_assoc] at e
  exact ⟨t ++ A, (List.append_cancel_left e).symm⟩
theorem nat_pt (m : Nat) : (List.replicate m 0).length = m := by simp
/-- what begins with x as a text, is found -/
theorem strip_complete {m : Nat} : ∀ {L : List Pn} {x : W} {Y : List Pn}, OkL m L → Irr m L → LenF m Y → (∀ pt, pt.length = m → wr pt L = x ++ wr pt Y) → ∃ L', stripS L x = some L'
  | [], x, Y, _, _, _, h => by
    have e := h _ (nat_pt m)
    have : x = [] := (List.append_eq_nil_iff.mp e.symm).1
    exact ⟨[], by unfold stripS; rw [if_pos this]⟩
  | p :: r, x, Y, ok, ir, hY, h => by
    have op := ok p List.mem_cons_self
    unfold stripS
    by_cases xe : x = []
    · exact ⟨_, if_pos xe⟩
    rw [if_neg xe]
    cases ep : isPow p with
    | false =>
      rw [if_neg Bool.false_ne_true]
      have e0 : ∀ pt, pt.length = m → p.1 ++ wr pt r = x ++ wr pt Y := fun pt hp => by
        have := h pt hp
        rw [wr, op.wrt ep] at this
        exact this
      by_cases h1 : x <+: p.1
      · exact ⟨_, if_pos h1⟩
      rw [if_neg h1]
      have e1 := e0 _ (nat_pt m)
      rcases List.prefix_or_prefix_of_prefix (l₁ := x) (l₂ := p.1) (l₃ := p.1 ++ wr (List.replicate m 0) r) (by rw [e1]; exact List.prefix_append _ _) (List.prefix_append _ _) with z | z
      · exact absurd z h1
      rw [if_pos z]
      obtain ⟨y, hy⟩ := z
      refine strip_complete ok.tail ir.2 hY fun pt hp => ?_
      have := e0 pt hp
      rw [← hy, List.append_assoc] at this
      rw [← hy, List.drop_left]
      exact List.append_cancel_left this
    | true =>
      rw [if_pos rfl]
      obtain ⟨pr, opn⟩ := op.pow ep
      have u0 := List.length_pos_iff.mpr pr.1
      have nY := nm_normL hY
      have e0 : ∀ pt, pt.length = m → pw p.1 (valF p.2 pt) ++ wr pt r = x ++ wr pt (normL Y) := fun pt hp => by
        have := h pt hp
        rw [wr] at this
        rw [wr_normL hY]
        exact this
      obtain ⟨q1, s1, f1⟩ := (rich_all m).far (x.length + 1)
      have v1 := val_far op.len opn f1
      have hx : x = preE p.1 x.length := pre_of pr.1 (e0 q1 s1) (Nat.le_trans (by omega) (Nat.le_mul_of_pos_left _ u0))
      rw [if_pos hx]
      have prz := prim_rotL pr x.length
      generalize ez : rotL p.1 x.length = z at prz
      -- what is left begins with the turned power
      have hd : ∃ g Y1, normL Y = (z, g) :: Y1 ∧ isPow (z, g) = true := by
        refine Classical.byContradiction fun no => ?_
        obtain ⟨q2, s2, f2⟩ := (rich_all m).far (z.length + tot (normL Y) + 1 + x.length)
        have v2 := val_far op.len opn f2
        obtain ⟨Z, eZ⟩ := pw_less pr.1 hx (v := valF p.2 q2) (by omega) (e0 q2 s2)
        rw [ez] at eZ
        refine no_begin prz nY (fun q hq hp e => no ?_) (f2.le (Nat.le_add_right _ _)) (Nat.le_refl _) (show _ ≤ valF p.2 q2 - x.length by omega) eZ
        cases hn : normL Y with
        | nil => rw [hn] at hq; cases hq
        | cons a b =>
          rw [hn] at hq
          cases hq
          exact ⟨q.2, b, by rw [← e], by rw [← e]; exact hp⟩
      obtain ⟨g, Y1, eY, eg⟩ := hd
      rw [eY] at nY e0
      have ng := nY.head
      have e2 : ∀ pt, pt.length = m → pw p.1 (valF p.2 pt) ++ wr pt r = pw p.1 (valF g pt) ++ (x ++ wr pt Y1) := fun pt hp => by
        have := e0 pt hp
        rw [wr] at this
        rw [this, ← List.append_assoc, ← List.append_assoc]
        congr 1
        show x ++ pw z (valF g pt) = _
        rw [← ez, pre_pw pr.1 hx]
      have fg : p.2 = g := by
        refine Classical.byContradiction fun ne => ?_
        obtain ⟨N, hN⟩ := ir.1 ep
        obtain ⟨N1, hN1⟩ := nb_tail nY eg
        obtain ⟨pt, sp, far, hd⟩ := (rich_all m).part (N + N1 + x.length) p.2 g op.len ng.len (of_decide_eq_true ep) (of_decide_eq_true eg) ne
        have e := e2 pt sp
        rcases hd with hd | hd
        · have s : pw p.1 (valF g pt) = pw p.1 (valF p.2 pt) ++ pw p.1 (valF g pt - valF p.2 pt) := by rw [← pw_add]; congr 1; omega
          rw [s, List.append_assoc] at e
          exact hN pt (far.le (by omega)) _ (show N ≤ valF g pt - valF p.2 pt by omega) _ (List.append_cancel_left e)
        · have s : pw p.1 (valF p.2 pt) = pw p.1 (valF g pt) ++ pw p.1 (valF p.2 pt - valF g pt) := by rw [← pw_add]; congr 1; omega
          rw [s, List.append_assoc] at e
          obtain ⟨Z, eZ⟩ := pw_less pr.1 hx (v := valF p.2 pt - valF g pt) (by omega) (List.append_cancel_left e)
          rw [ez] at eZ
          exact hN1 pt (far.le (by omega)) _ (show N1 ≤ valF p.2 pt - valF g pt - x.length by omega) _ eZ
      subst fg
      obtain ⟨l, hl⟩ := strip_complete ok.tail ir.2 (nY.tail.lenF) fun pt hp => List.append_cancel_left (e2 pt hp)
      exact ⟨_, by rw [hl]; rfl⟩
theorem far_on {m N j k : Nat} {pt : List Nat} (h : Far m N pt) : Far m N (onP j k pt) := by
  refine ⟨by rw [onP_len]; exact h.1, fun x hx => ?_⟩
  rcases List.mem_or_eq_of_mem_set hx with z | z
  · exact h.2 x z
  · rw [z]
    by_cases hj : j < pt.length
    · have := h.2 _ (List.getElem_mem hj)
      rw [List.getD_eq_getElem?_getD, List.getElem?_eq_getElem hj]
      show N ≤ pt[j] + k
      omega
    · unfold onP at hx
      rw [List.set_eq_of_length_le (by omega)] at hx
      have := h.2 x hx
      rw [z] at this
      exact this
/-- points that were moved on tell texts apart -/
theorem rich_on {m j k : Nat} (hj : j < m) : Rich m (fun pt => ∃ q, q.length = m ∧ onP j k q = pt) := by
  refine rich_mul (t := 1) (b := k) (by decide) fun pt hl h => ⟨pt.set j (pt.getD j 0 - k), by rw [List.length_set]; exact hl, ?_⟩
  have hj' : j < pt.length := by omega
  have g1 : k ≤ pt.getD j 0 := by
    rw [List.getD_eq_getElem?_getD, List.getElem?_eq_getElem hj']
    exact (h _ (List.getElem_mem hj')).1
  have g0 : (pt.set j (pt.getD j 0 - k)).getD j 0 = pt.getD j 0 - k := by
    rw [List.getD_eq_getElem?_getD, List.getElem?_set_self hj']
    rfl
  unfold onP
  rw [g0, Nat.sub_add_cancel g1, List.set_set]
  refine List.ext_getElem? fun i => ?_
  rw [List.getElem?_set]
  by_cases z : j = i
  · subst z
    rw [if_pos rfl, if_pos hj', List.getD_eq_getElem?_getD, List.getElem?_eq_getElem hj']
    rfl
  · rw [if_neg z]
/-- lists that write the same at the points moved on write the same -/
theorem same_on {m j k : Nat} {a b : List Pn} (hj : j < m) (ha : LenF m a) (hb : LenF m b) (h : ∀ pt, pt.length = m → wr (onP j k pt) a = wr (onP j k pt) b) : normL a = normL b :=
  uni (rich_on (k := k) hj) (nm_normL ha) (nm_normL hb) fun pt ⟨q, hq, e⟩ => by
    rw [wr_normL ha, wr_normL hb, ← e]
    exact h q hq
/-- letters ahead of what goes on as a text with great powers -/
theorem no_ahead {m j k : Nat} {y : W} {q : Pn} {M r : List Pn} (hy : y ≠ []) (oq : NormP m q) (eq' : isPow q = true) (hr : OkL m r) (hh : ∀ p, r.head? = some p → isPow p = true ∧ y.getLast? ≠ p.1.getLast?) (h : ∀ pt, pt.length = m → wr (onP j k pt) (q :: M) = y ++ wr pt r) : False := by
  obtain ⟨pr, opn⟩ := oq.pow eq'
  have q0 := List.length_pos_iff.mpr pr.1
  match r, hr, hh, h with
  | [], _, _, h =>
    obtain ⟨pt, sp, far⟩ := (rich_all m).far (y.length + 1)
    have v := val_far oq.len opn (far_on (j := j) (k := k) far)
    have e := congrArg List.length (h pt sp)
    rw [wr, List.length_append] at e
    have e1 : (wrt (onP j k pt) q).length = q.1.length * valF q.2 (onP j k pt) := pw_len _ _
    have e2 : valF q.2 (onP j k pt) ≤ q.1.length * valF q.2 (onP j k pt) := Nat.le_mul_of_pos_left _ q0
    rw [wr, List.length_append, List.length_nil] at e
    omega
  | p :: r1, hr, hh, h =>
    obtain ⟨ep, hl⟩ := hh p rfl
    have op := hr p List.mem_cons_self
    obtain ⟨pru, opu⟩ := op.pow ep
    have p0 := List.length_pos_iff.mpr pru.1
    obtain ⟨pt, sp, far⟩ := (rich_all m).far (y.length + q.1.length + p.1.length)
    have v := val_far oq.len opn (far_on (j := j) (k := k) far)
    have v2 := val_far op.len opu far
    have e := h pt sp
    rw [wr, wr] at e
    have e2 : valF q.2 (onP j k pt) ≤ q.1.length * valF q.2 (onP j k pt) := Nat.le_mul_of_pos_left _ q0
    have e3 : valF p.2 pt ≤ p.1.length * valF p.2 pt := Nat.le_mul_of_pos_left _ p0
    exact hl (turn_last pr.1 pru.1 hy e (by omega) (by omega))
theorem last_app {y z : W} (h : y ≠ []) : (z ++ y).getLast? = y.getLast? := by
  rw [List.getLast?_append]
  cases e : y.getLast? with
  | none => exact absurd (List.getLast?_eq_none_iff.mp e) h
  | some c => rfl
/-- a word ahead may be taken away -/
theorem cut_fix {m j k : Nat} {p : Pn} {r M : List Pn} (hT : Nm m (p :: r)) (ep : isPow p = false) (hM : Nm m M) (h : ∀ pt, pt.length = m → wr (onP j k pt) M = p.1 ++ wr pt r) : ∃ M', LenF m M' ∧ ∀ pt, pt.length = m → wr (onP j k pt) M' = wr pt r := by
  have hp := hT.head
  have hh : ∀ y z : W, p.1 = z ++ y → y ≠ [] → ∀ c, r.head? = some c → isPow c = true ∧ y.getLast? ≠ c.1.getLast? := fun y z e hy c hc => by
    match r, hT, hc with
    | c' :: r', hT, hc =>
      cases hc
      have a := hT.adj0.fix ep
      refine ⟨a.1, fun w => a.2 ?_⟩
      rw [e, last_app hy]
      exact w
  match M, hM, h with
  | [], _, h =>
    have e := h _ (nat_pt m)
    exact absurd (List.append_eq_nil_iff.mp e.symm).1 hp.ne
  | q :: M1, hM, h =>
    have hq := hM.head
    cases eq' : isPow q with
    | true => exact (no_ahead hp.ne hq eq' hT.ok.tail (hh p.1 [] rfl hp.ne) h).elim
    | false =>
      have wq : ∀ pt, wrt pt q = q.1 := fun pt => (hM.ok q List.mem_cons_self).wrt eq' pt
      have e0 : ∀ pt, pt.length = m → q.1 ++ wr (onP j k pt) M1 = p.1 ++ wr pt r := fun pt hl => by
        have := h pt hl
        rw [wr, wq] at this
        exact this
      have e1 := e0 _ (nat_pt m)
      rcases List.prefix_or_prefix_of_prefix (l₁ := p.1) (l₂ := q.1) (l₃ := q.1 ++ wr (onP j k (List.replicate m 0)) M1) (by rw [e1]; exact List.prefix_append _ _) (List.prefix_append _ _) with z | z
      · obtain ⟨y, hy⟩ := z
        refine ⟨fixP y m :: M1, fun c hc => ?_, fun pt hl => ?_⟩
        · rcases List.mem_cons.mp hc with w | w
          · rw [w]; simp [fixP, one1]
          · exact hM.tail.lenF c w
        · have := e0 pt hl
          rw [← hy, List.append_assoc] at this
          rw [wr, wrt_fix]
          exact List.append_cancel_left this
      · obtain ⟨y, hy⟩ := z
        by_cases hy0 : y = []
        · refine ⟨M1, hM.tail.lenF, fun pt hl => ?_⟩
          have := e0 pt hl
          rw [← hy, hy0, List.append_nil] at this
          exact List.append_cancel_left this
        · have e2 : ∀ pt, pt.length = m → wr (onP j k pt) M1 = y ++ wr pt r := fun pt hl => by
            have := e0 pt hl
            rw [← hy, List.append_assoc] at this
            exact List.append_cancel_left this
          match M1, hM, e2 with
          | [], _, e2 => exact absurd (List.append_eq_nil_iff.mp (e2 _ (nat_pt m)).symm).1 hy0
          | q2 :: M2, hM, e2 => exact (no_ahead hy0 hM.tail.head (hM.adj0.fix eq').1 hT.ok.tail (hh y q.1 hy.symm hy0) e2).elim
/-- what can be moved back is found -/
theorem back_complete {m j k : Nat} (hj : j < m) : ∀ {T M : List Pn}, Nm m T → LenF m M → (∀ pt, pt.length = m → wr (onP j k pt) M = wr pt T) → ∃ L, backL j k T = some L ∧ Irr m L
  | [], M, _, _, _ => ⟨[], rfl, True.intro⟩
  | p :: r, M, hT, hM, h => by
    have hp := hT.head
    have op := hT.ok p List.mem_cons_self
    have nM := nm_normL hM
    have h0 : ∀ pt, pt.length = m → wr (onP j k pt) (normL M) = wrt pt p ++ wr pt r := fun pt hl => by
      rw [wr_normL hM, h pt hl, wr]
    cases ep : isPow p with
    | false =>
      obtain ⟨M', lM, hM'⟩ := cut_fix hT ep nM fun pt hl => by rw [h0 pt hl, op.wrt ep]
      obtain ⟨L, hL, iL⟩ := back_complete hj hT.tail lM hM'
      refine ⟨p :: L, ?_, fun y => (by rw [ep] at y; cases y), iL⟩
      unfold backL
      rw [hL]
      show (if isPow p = true then _ else _) = _
      rw [ep, if_neg Bool.false_ne_true]
    | true =>
      obtain ⟨pr, opn⟩ := op.pow ep
      have u0 := List.length_pos_iff.mpr pr.1
      have hd : ∃ g M1, normL M = (p.1, g) :: M1 ∧ isPow (p.1, g) = true := by
        refine Classical.byContradiction fun no => ?_
        obtain ⟨pt, sp, far⟩ := (rich_all m).far (p.1.length + tot (normL M) + 1)
        have v := val_far op.len opn far
        refine no_begin pr nM (fun q hq hp' e => no ?_) (far_on (j := j) (k := k) far) (Nat.le_refl _) v (h0 pt sp)
        cases hn : normL M with
        | nil => rw [hn] at hq; cases hq
        | cons a b =>
          rw [hn] at hq
          cases hq
          exact ⟨q.2, b, by rw [← e], by rw [← e]; exact hp'⟩
      obtain ⟨g, M1, eM, eg⟩ := hd
      rw [eM] at nM h0
      have ng := nM.head
      have e2 : ∀ pt, pt.length = m → pw p.1 (valF g pt + g.getD (j + 1) 0 * k) ++ wr (onP j k pt) M1 = pw p.1 (valF p.2 pt) ++ wr pt r := fun pt hl => by
        have := h0 pt hl
        rw [wr] at this
        rw [← val_on ng.len hl hj]
        exact this
      have fg : p.2 = g := by
        refine Classical.byContradiction fun ne => ?_
        obtain ⟨N, hN⟩ := nb_tail hT ep
        obtain ⟨N1, hN1⟩ := nb_tail nM eg
        obtain ⟨pt, sp, far, hd⟩ := (rich_all m).part (N + N1 + g.getD (j + 1) 0 * k) p.2 g op.len ng.len (of_decide_eq_true ep) (of_decide_eq_true eg) ne
        have e := e2 pt sp
        rcases hd with hd | hd
        · have s : pw p.1 (valF g pt + g.getD (j + 1) 0 * k) = pw p.1 (valF p.2 pt) ++ pw p.1 (valF g pt + g.getD (j + 1) 0 * k - valF p.2 pt) := by rw [← pw_add]; congr 1; omega
          rw [s, List.append_assoc] at e
          exact hN pt (far.le (by omega)) _ (show N ≤ valF g pt + g.getD (j + 1) 0 * k - valF p.2 pt by omega) _ (List.append_cancel_left e).symm
        · have s : pw p.1 (valF p.2 pt) = pw p.1 (valF g pt + g.getD (j + 1) 0 * k) ++ pw p.1 (valF p.2 pt - (valF g pt + g.getD (j + 1) 0 * k)) := by rw [← pw_add]; congr 1; omega
          rw [s, List.append_assoc] at e
          exact hN1 (onP j k pt) (far_on (far.le (by omega))) _ (show N1 ≤ valF p.2 pt - (valF g pt + g.getD (j + 1) 0 * k) by omega) _ (List.append_cancel_left e)
      subst fg
      have e3 : ∀ pt, pt.length = m → wr pt r = pw p.1 (p.2.getD (j + 1) 0 * k) ++ wr (onP j k pt) M1 := fun pt hl => by
        have := e2 pt hl
        rw [pw_add, List.append_assoc] at this
        exact (List.append_cancel_left this).symm
      have lM : LenF m ((p.1, (p.2.getD (j + 1) 0 * k) :: List.replicate m 0) :: M1) := fun c hc => by
        rcases List.mem_cons.mp hc with w | w
        · rw [w]; simp
        · exact nM.tail.lenF c w
      have wM : ∀ pt, wr pt ((p.1, (p.2.getD (j + 1) 0 * k) :: List.replicate m 0) :: M1) = pw p.1 (p.2.getD (j + 1) 0 * k) ++ wr pt M1 := fun pt => by
        rw [wr]
        congr 1
        show pw p.1 (p.2.getD (j + 1) 0 * k + dot (List.replicate m 0) pt) = _
        rw [dot_zero, Nat.add_zero]
      obtain ⟨L, hL, iL⟩ := back_complete hj hT.tail lM fun pt hl => by rw [wM, e3 pt hl]
      obtain ⟨oL, wL⟩ := back_sound hj hT.ok.tail hL
      have en := same_on (k := k) hj oL.lenF lM fun pt hl => by rw [wL pt hl, wM, e3 pt hl]
      have eL : ∀ pt, wr pt L = pw p.1 (p.2.getD (j + 1) 0 * k) ++ wr pt M1 := fun pt => by
        rw [← wr_normL oL.lenF, en, wr_normL lM, wM]
      obtain ⟨L', hL'⟩ := strip_complete oL iL nM.tail.lenF fun pt _ => eL pt
      obtain ⟨oL', wL'⟩ := strip_sound oL hL'
      refine ⟨p :: L', ?_, fun _ => ?_, strip_irr oL iL hL'⟩
      · unfold backL
        rw [hL]
        show (if isPow p = true then _ else _) = _
        rw [ep, if_pos rfl, hL']
        rfl
      · obtain ⟨N, hN⟩ := nb_tail hT ep
        refine ⟨N + k, fun pt far a ha Z e => ?_⟩
        have hj' : j < pt.length := by rw [far.1]; exact hj
        have pj := far.2 _ (List.getElem_mem hj')
        have gj : pt.getD j 0 = pt[j] := by rw [List.getD_eq_getElem?_getD, List.getElem?_eq_getElem hj']; rfl
        have back : onP j k (pt.set j (pt[j] - k)) = pt := by
          unfold onP
          rw [List.getD_eq_getElem?_getD, List.getElem?_set_self hj', List.set_set]
          show pt.set j (pt[j] - k + k) = pt
          rw [Nat.sub_add_cancel (by omega)]
          exact List.set_getElem_self hj'
        have far' : Far m N (pt.set j (pt[j] - k)) := by
          refine ⟨by rw [List.length_set]; exact far.1, fun x hx => ?_⟩
          rcases List.mem_or_eq_of_mem_set hx with w | w
          · have := far.2 x w
            omega
          · rw [w]; omega
        have e5 := wL (pt.set j (pt[j] - k)) far'.1
        rw [back, wL', e, ← List.append_assoc, ← pw_add] at e5
        exact hN _ far' _ (show N ≤ p.2.getD (j + 1) 0 * k + a by omega) _ e5.symm
/-! ### what is found is no greater -/
structure LesP (q p : Pn) : Prop where
  form : q.2 = p.2
  len : q.1.length ≤ p.1.length
  sub : ∀ c ∈ q.1, c ∈ p.1
inductive Les : List Pn → List Pn → Prop
  | nil : Les [] []
  | drop {p : Pn} {l r : List Pn} : Les l r → Les l (p :: r)
  | cons {q p : Pn} {l r : List Pn} : LesP q p → Les l r → Les (q :: l) (p :: r)
theorem LesP.refl (p : Pn) : LesP p p := ⟨rfl, Nat.le_refl _, fun c h => h⟩
theorem LesP.trans {a b c : Pn} (h : LesP a b) (g : LesP b c) : LesP a c := ⟨h.form.trans g.form, Nat.le_trans h.len g.len, fun x hx => g.sub x (h.sub x hx)⟩
theorem Les.refl : ∀ l : List Pn, Les l l
  | [] => .nil
  | p :: r => .cons (.refl p) (.refl r)
theorem Les.trans {a b c : List Pn} (h : Les a b) (g : Les b c) : Les a c := by
  induction g generalizing a with
  | nil => exact h
  | drop _ ih => exact .drop (ih h)
  | cons x _ ih =>
    cases h with
    | drop h => exact .drop (ih h)
    | cons y h => exact .cons (y.trans x) (ih h)
theorem Les.length {a b : List Pn} (h : Les a b) : a.length ≤ b.length := by
  induction h with
  | nil => exact Nat.le_refl _
  | drop _ ih => rw [List.length_cons]; omega
  | cons _ _ ih => rw [List.length_cons, List.length_cons]; omega
theorem Les.mem {a b : List Pn} (h : Les a b) : ∀ q ∈ a, ∃ p ∈ b, LesP q p := by
  induction h with
  | nil => exact fun q hq => absurd hq List.not_mem_nil
  | drop _ ih => exact fun q hq => let ⟨p, hp, e⟩ := ih q hq; ⟨p, List.mem_cons_of_mem _ hp, e⟩
  | cons x _ ih =>
    intro q hq
    rcases List.mem_cons.mp hq with z | z
    · exact ⟨_, List.mem_cons_self, by rw [z]; exact x⟩
    · obtain ⟨p, hp, e⟩ := ih q z
      exact ⟨p, List.mem_cons_of_mem _ hp, e⟩
theorem Les.meas {a b : List Pn} (h : Les a b) : NM.meas a ≤ NM.meas b := by
  have e : ∀ (p : Pn) (r : List Pn), NM.meas (p :: r) = measP p + NM.meas r := fun p r => by simp [NM.meas]
  induction h with
  | nil => exact Nat.le_refl _
  | drop _ ih => rw [e]; omega
  | cons x _ ih =>
    rw [e, e]
    refine Nat.add_le_add ?_ ih
    unfold measP
    rw [x.form]
    exact Nat.mul_le_mul x.len (Nat.le_refl _)
theorem Les.wr {a b : List Pn} (h : Les a b) (pt : List Nat) : (NM.wr pt a).length ≤ (NM.wr pt b).length := by
  induction h with
  | nil => exact Nat.le_refl _
  | drop _ ih => rw [NM.wr.eq_2, List.length_append]; omega
  | @cons q p l r x _ ih =>
    rw [NM.wr.eq_2, NM.wr.eq_2, List.length_append, List.length_append]
    have e1 : (wrt pt q).length = q.1.length * valF q.2 pt := pw_len _ _
    have e2 : (wrt pt p).length = p.1.length * valF p.2 pt := pw_len _ _
    have : q.1.length * valF q.2 pt ≤ p.1.length * valF p.2 pt := by rw [x.form]; exact Nat.mul_le_mul x.len (Nat.le_refl _)
    omega
theorem rotL_les (u : W) (n : Nat) (f : F) : LesP (rotL u n, f) (u, f) := ⟨rfl, by rw [show (rotL u n, f).1 = rotL u n from rfl, rotL_len]; exact Nat.le_refl _, fun c hc => (List.mem_append.mp hc).elim List.mem_of_mem_drop List.mem_of_mem_take⟩
theorem strip_les : ∀ {L L' : List Pn} {x : W}, stripS L x = some L' → Les L' L
  | [], L', x, h => by
    unfold stripS at h
    split at h
    · cases h; exact .nil
    · cases h
  | p :: r, L', x, h => by
    unfold stripS at h
    split at h
    · cases h; exact .refl _
    · split at h
      · split at h
        · cases hs : stripS r x with
          | none => rw [hs] at h; cases h
          | some l =>
            rw [hs] at h
            cases h
            exact .cons (rotL_les p.1 _ p.2) (strip_les hs)
        · cases h
      · split at h
        · cases h
          exact .cons ⟨rfl, by rw [show (p.1.drop x.length, p.2).1 = p.1.drop x.length from rfl, List.length_drop]; omega, fun c hc => List.mem_of_mem_drop hc⟩ (.refl _)
        · split at h
          · exact .drop (strip_les h)
          · cases h
theorem back_les {j k : Nat} : ∀ {T L : List Pn}, backL j k T = some L → Les L T
  | [], L, h => by cases h; exact .nil
  | p :: r, L, h => by
    unfold backL at h
    cases hb : backL j k r with
    | none => rw [hb] at h; cases h
    | some l =>
      rw [hb] at h
      have h : (if isPow p = true then (stripS l (pw p.1 (p.2.getD (j + 1) 0 * k))).map fun l => p :: l else some (p :: l)) = some L := h
      split at h
      · cases hs : stripS l (pw p.1 (p.2.getD (j + 1) 0 * k)) with
        | none => rw [hs] at h; cases h
        | some l2 =>
          rw [hs] at h
          cases h
          exact .cons (.refl p) ((strip_les hs).trans (back_les hb))
      · cases h
        exact .cons (.refl p) (back_les hb)
theorem back_cons {j k : Nat} {p : Pn} {r : List Pn} : backL j k (p :: r) = (backL j k r).bind fun L => if isPow p = true then (stripS L (pw p.1 (p.2.getD (j + 1) 0 * k))).map fun l => p :: l else some (p :: L) := rfl
end NM

set_option linter.all false
set_option maxRecDepth 100000
/-! lean lists: powers of one word gathered, and how many powers a normal list has -/
namespace NM
open WM
/-! ### turned words and their endings -/
theorem mod_one {a L : Nat} (h : 0 < L) : ∃ q, a = a % L + L * q := ⟨a / L, (Nat.mod_add_div a L).symm⟩
theorem rot_idx {L a b i : Nat} (h : 0 < L) : ((i + (L - a % L)) % L + (L - b % L)) % L = (i + (L - (a + b) % L)) % L := by
  have h1 := Nat.mod_add_div a L
  have h2 := Nat.mod_add_div b L
  have h3 := Nat.mod_add_div (a + b) L
  have h4 := Nat.mod_lt a h
  have h5 := Nat.mod_lt b h
  have h6 := Nat.mod_lt (a + b) h
  have h7 := Nat.mod_add_div (i + (L - a % L)) L
  refine mod_of (x := (i + (L - a % L)) / L + (a + b) / L + 0) (y := a / L + b / L + 1) ?_
  rw [Nat.mul_add, Nat.mul_add, Nat.mul_add, Nat.mul_add]
  omega
theorem rotR_rotR {v : W} (h : v ≠ []) (a b : Nat) : rotR (rotR v b) a = rotR v (a + b) := by
  have n0 := List.length_pos_iff.mpr h
  refine List.ext_getElem? fun i => ?_
  by_cases hi : i < v.length
  · rw [rotR_get (rotR_ne h b) a (by rw [rotR_len]; exact hi), rotR_len, rotR_get h b (Nat.mod_lt _ n0), rotR_get h (a + b) hi, rot_idx n0]
  · rw [List.getElem?_eq_none (by rw [rotR_len, rotR_len]; omega), List.getElem?_eq_none (by rw [rotR_len]; omega)]
theorem tailE_take {v : W} (h : v ≠ []) (a b : Nat) : (tailE v (a + b)).take a = tailE (rotR v b) a := by
  have n0 := List.length_pos_iff.mpr h
  refine List.ext_getElem? fun i => ?_
  by_cases hi : i < a
  · rw [List.getElem?_take_of_lt hi, tailE_get h (by omega), tailE_get (rotR_ne h b) hi, rotR_len, rotR_get h b (Nat.mod_lt _ n0), rot_idx n0]
  · rw [List.getElem?_eq_none (by rw [List.length_take]; omega), List.getElem?_eq_none (by rw [tailE_len (rotR_ne h b)]; omega)]
theorem tailE_add {v : W} (h : v ≠ []) (a b : Nat) : tailE v (a + b) = tailE (rotR v b) a ++ tailE v b := by
  have e := List.take_append_drop a (tailE v (a + b))
  rw [← e, tailE_take h]
  congr 1
  have := tailE_drop h (n := a + b) (k := b) (by omega)
  rw [show a + b - b = a by omega] at this
  exact this
theorem tailE_pre {v : W} (h : v ≠ []) (b : Nat) : tailE v b = preE (rotR v b) b := by
  have n0 := List.length_pos_iff.mpr h
  have e := move_pw v b b
  have := pre_of (rotR_ne h b) e (by
    rw [tailE_len h, rotR_len]
    exact Nat.le_mul_of_pos_left b n0)
  rw [tailE_len h] at this
  exact this
theorem rotR_inj {a b : W} (hl : a.length = b.length) (k : Nat) (h : rotR a k = rotR b k) : a = b := by
  by_cases z : a = []
  · rw [z] at hl ⊢
    exact (List.length_eq_zero_iff.mp hl.symm).symm
  have zb : b ≠ [] := fun y => z (List.length_eq_zero_iff.mp (by rw [hl, y]; rfl))
  have n0 := List.length_pos_iff.mpr z
  have at_ : ∀ {u : W}, u ≠ [] → ∀ j, j < u.length → u[j]? = (rotR u k)[(j + k) % u.length]? := fun {u} hu j hj => by
    have u0 := List.length_pos_iff.mpr hu
    rw [rotR_get hu k (Nat.mod_lt _ u0)]
    congr 1
    have h1 := Nat.mod_add_div (j + k) u.length
    have h2 := Nat.mod_add_div k u.length
    have h4 := Nat.mod_lt k u0
    have := mod_of (a := (j + k) % u.length + (u.length - k % u.length)) (b := j) (L := u.length) (x := (j + k) / u.length) (y := k / u.length + 1) (by rw [Nat.mul_add]; omega)
    rw [this, Nat.mod_eq_of_lt hj]
  refine List.ext_getElem? fun i => ?_
  by_cases hi : i < a.length
  · rw [at_ z i hi, at_ zb i (by omega), h, hl]
  · rw [List.getElem?_eq_none (by omega), List.getElem?_eq_none (by omega)]
theorem moved_full {v y : W} (h : v ≠ []) (e : y = tailE v y.length) : movedE y v = y.length := by
  unfold movedE
  rw [← e]
  have a := (lcp_le y.reverse y.reverse).1
  have b := le_lcp y.reverse y.reverse y.length (by rw [List.length_reverse]; exact Nat.le_refl _) (by rw [List.length_reverse]; exact Nat.le_refl _) rfl
  rw [List.length_reverse] at a
  omega
/-- a power of v behind z comes to the power of u ahead of it -/
def Sam (u z v : W) : Prop := rotR v z.length = u ∧ z = preE u z.length
theorem sam_iff {u x z v : W} (hu : u ≠ []) (hv : v ≠ []) (hx : x = tailE u x.length) : (movedE (x ++ z) v = (x ++ z).length ∧ rotR v (x ++ z).length = rotR u x.length) ↔ Sam u z v := by
  have lxz : (x ++ z).length = x.length + z.length := List.length_append
  constructor
  · rintro ⟨h1, h2⟩
    have e := moved_drop (ahead := x ++ z) hv
    rw [h1, Nat.sub_self, List.drop_zero, lxz, tailE_add hv] at e
    have ez : z = tailE v z.length := by
      have l1 : x.length = (tailE (rotR v z.length) x.length).length := (tailE_len (rotR_ne hv _) _).symm
      exact (List.append_inj e l1).2
    rw [lxz, ← rotR_rotR hv] at h2
    have lu : (rotR v z.length).length = u.length := by
      have := congrArg List.length h2
      simp only [rotR_len] at this
      rw [rotR_len]
      exact this
    have eu := rotR_inj lu _ h2
    refine ⟨eu, ?_⟩
    rw [← eu, ← tailE_pre hv]
    exact ez
  · rintro ⟨h1, h2⟩
    have ez : z = tailE v z.length := by
      rw [tailE_pre hv, h1]
      exact h2
    have e : x ++ z = tailE v (x ++ z).length := by
      rw [lxz, tailE_add hv, h1, ← hx, ← ez]
    exact ⟨moved_full hv e, by rw [lxz, ← rotR_rotR hv, h1]⟩
/-! ### powers gathered -/
/-- what stands gathered: ahead of the last power, that power, behind it, and the word since -/
structure GS where
  pre : List Pn
  last : Option Pn
  post : List Pn
  bare : W
def cons0 (p : Pn) : List Pn := if p.2.headD 0 = 0 then [] else [(p.1, p.2.headD 0 :: List.replicate (p.2.length - 1) 0)]
instance (u z v : W) : Decidable (Sam u z v) := inferInstanceAs (Decidable (rotR v z.length = u ∧ z = preE u z.length))
def stepG (s : GS) (p : Pn) : GS :=
  if isOpen p.2 then
    match s.last with
    | some q => if Sam q.1 s.bare p.1 then ⟨s.pre, some (q.1, addF q.2 (0 :: p.2.tail)), s.post ++ cons0 p, s.bare ++ pw p.1 (p.2.headD 0)⟩
      else ⟨s.pre ++ [q] ++ s.post, some p, [], pw p.1 (p.2.headD 0)⟩
    | none => ⟨s.pre ++ s.post, some p, [], pw p.1 (p.2.headD 0)⟩
  else ⟨s.pre, s.last, s.post ++ [p], s.bare ++ pw p.1 (p.2.headD 0)⟩
def GS.out (s : GS) : List Pn := s.pre ++ s.last.toList ++ s.post
def gath (ps : List Pn) : GS := ps.foldl stepG ⟨[], none, [], []⟩
/-- how many powers -/
def nOpen (ps : List Pn) : Nat := (ps.filter fun p => isOpen p.2).length
def nPow (ps : List Pn) : Nat := (ps.filter isPow).length
theorem nOpen_app (a b : List Pn) : nOpen (a ++ b) = nOpen a + nOpen b := by unfold nOpen; rw [List.filter_append, List.length_append]
theorem nPow_app (a b : List Pn) : nPow (a ++ b) = nPow a + nPow b := by unfold nPow; rw [List.filter_append, List.length_append]
def fixL (y : W) (m : Nat) : List Pn := if y = [] then [] else [fixP y m]
theorem nPow_fixL (y : W) (m : Nat) : nPow (fixL y m) = 0 := by
  unfold fixL
  split
  · rfl
  · rfl
theorem joinF_fix {acc : List Pn} {q : Pn} {w : W} {m : Nat} (h : acc.getLast? = some q) (hp : isPow q = false) : joinF acc w m = if q.1 ++ w = [] then acc.dropLast else acc.dropLast ++ [fixP (q.1 ++ w) m] := by
  unfold joinF
  rw [h]
  show (if isPow q = true then _ else _) = _
  rw [hp, if_neg Bool.false_ne_true]
theorem joinF_powq {acc : List Pn} {q : Pn} {w : W} {m : Nat} (h : acc.getLast? = some q) (hp : isPow q = true) : joinF acc w m = if w = [] then acc else acc ++ [fixP w m] := by
  unfold joinF
  rw [h]
  show (if isPow q = true then _ else _) = _
  rw [hp, if_pos rfl]
theorem last_snoc {α : Type} (l : List α) (a : α) : (l ++ [a]).getLast? = some a := by simp
/-- a fixed word behind a power and a word -/
theorem joinF_pow {B : List Pn} {q : Pn} {y w : W} {m : Nat} (hq : isPow q = true) : joinF (B ++ [q] ++ fixL y m) w m = B ++ [q] ++ fixL (y ++ w) m := by
  unfold fixL
  by_cases z : y = []
  · rw [if_pos z, z, List.append_nil, List.nil_append, joinF_powq (last_snoc _ _) hq]
    by_cases zw : w = []
    · rw [if_pos zw, if_pos zw, List.append_nil]
    · rw [if_neg zw, if_neg zw]
  · rw [if_neg z, if_neg (show ¬ y ++ w = [] from fun e => z (List.append_eq_nil_iff.mp e).1), joinF_fix (last_snoc _ _) (isPow_fix y m), List.dropLast_concat]
    exact if_neg (show ¬ y ++ w = [] from fun e => z (List.append_eq_nil_iff.mp e).1)
theorem joinF_none {y w : W} {m : Nat} : joinF (fixL y m) w m = fixL (y ++ w) m := by
  unfold fixL
  by_cases z : y = []
  · rw [if_pos z, z, List.nil_append]
    rfl
  · rw [if_neg z, if_neg (show ¬ y ++ w = [] from fun e => z (List.append_eq_nil_iff.mp e).1), joinF_fix (q := fixP y m) rfl (isPow_fix y m)]
    exact if_neg (show ¬ y ++ w = [] from fun e => z (List.append_eq_nil_iff.mp e).1)
/-- a power behind a power and a word -/
theorem putP_pow {B : List Pn} {q : Pn} {y v : W} {g : F} {m : Nat} (hq : isPow q = true) (hl : g.length = m + 1) (g0 : g.headD 0 = 0) (hs : isPow (q.1, addF q.2 g) = true) :
    putP (B ++ [q] ++ fixL y m) v g = if movedE y v = y.length ∧ rotR v y.length = q.1 then B ++ [(q.1, addF q.2 g)] ++ fixL y m
      else B ++ [q] ++ fixL (y.take (y.length - movedE y v)) m ++ [(rotR v (movedE y v), g)] ++ fixL (y.drop (y.length - movedE y v)) m := by
  have em : g.length - 1 = m := by omega
  have pg : isPow (v, g) = true := decide_eq_true g0
  by_cases z : y = []
  · subst z
    have m0 : movedE [] v = 0 := Nat.le_zero.mp (movedE_le [] v)
    rw [m0]
    unfold fixL
    simp only [if_pos, List.append_nil, List.length_nil, List.take_nil, List.drop_nil, rotR_zero, true_and]
    unfold putP
    rw [last_snoc]
    show (if isPow q = true then _ else _) = _
    rw [hq, if_pos rfl, em]
    have ep : pushP (B ++ [q]) v g = if v = q.1 then B ++ [(q.1, addF q.2 g)] else B ++ [q] ++ [(v, g)] := by
      unfold pushP
      rw [last_snoc]
      show (if isPow q = true ∧ q.1 = v then _ else _) = _
      by_cases e : v = q.1
      · rw [if_pos ⟨hq, e.symm⟩, if_pos e, List.dropLast_concat, e]
      · rw [if_neg (fun h => e h.2.symm), if_neg e]
    rw [ep]
    by_cases e : v = q.1
    · rw [if_pos e, joinF_powq (last_snoc _ _) hs]
      exact if_pos rfl
    · rw [if_neg e, joinF_powq (last_snoc _ _) pg]
      exact if_pos rfl
  · have fy : fixL y m = [fixP y m] := if_neg z
    rw [fy]
    have e0 : putP (B ++ [q] ++ [fixP y m]) v g = joinF (pushP (joinF (B ++ [q]) (y.take (y.length - movedE y v)) m) (rotR v (movedE y v)) g) (y.drop (y.length - movedE y v)) m := by
      unfold putP
      rw [last_snoc]
      show (if isPow (fixP y m) = true then _ else _) = _
      rw [isPow_fix, if_neg Bool.false_ne_true, List.dropLast_concat, em]
      rfl
    have hle := movedE_le y v
    have pr : isPow (rotR v (movedE y v), g) = true := decide_eq_true g0
    rw [e0]
    by_cases k : movedE y v = y.length
    · rw [k, Nat.sub_self, List.take_zero, List.drop_zero, joinF_powq (last_snoc _ _) hq, if_pos rfl]
      have ep : pushP (B ++ [q]) (rotR v y.length) g = if rotR v y.length = q.1 then B ++ [(q.1, addF q.2 g)] else B ++ [q] ++ [(rotR v y.length, g)] := by
        unfold pushP
        rw [last_snoc]
        show (if isPow q = true ∧ q.1 = rotR v y.length then _ else _) = _
        by_cases e : rotR v y.length = q.1
        · rw [if_pos ⟨hq, e.symm⟩, if_pos e, List.dropLast_concat, e]
        · rw [if_neg (fun h => e h.2.symm), if_neg e]
      rw [ep]
      by_cases e : rotR v y.length = q.1
      · rw [if_pos e, if_pos ⟨rfl, e⟩, joinF_powq (last_snoc _ _) hs, if_neg z]
      · rw [if_neg e, if_neg (fun h => e h.2)]
        rw [k] at pr
        rw [joinF_powq (last_snoc _ _) pr, if_neg z]
        unfold fixL
        rw [if_pos rfl, if_neg z, List.append_nil]
    · rw [if_neg (fun h => k h.1)]
      have tn : ¬ y.take (y.length - movedE y v) = [] := fun e => by
        have := congrArg List.length e
        rw [List.length_take, List.length_nil] at this
        have := List.length_pos_iff.mpr z
        omega
      rw [joinF_powq (last_snoc _ _) hq, if_neg tn]
      have ep : pushP (B ++ [q] ++ [fixP (y.take (y.length - movedE y v)) m]) (rotR v (movedE y v)) g = B ++ [q] ++ [fixP (y.take (y.length - movedE y v)) m] ++ [(rotR v (movedE y v), g)] := by
        refine pushP_app fun q' hq' h => ?_
        rw [last_snoc] at hq'
        cases hq'
        rw [isPow_fix] at h
        exact Bool.false_ne_true h.1
      rw [ep, joinF_powq (last_snoc _ _) pr]
      unfold fixL
      rw [if_neg tn]
      by_cases d : y.drop (y.length - movedE y v) = []
      · rw [if_pos d, if_pos d, List.append_nil]
      · rw [if_neg d, if_neg d]
/-- the first power, behind a word -/
theorem putP_none {y v : W} {g : F} {m : Nat} (hl : g.length = m + 1) (g0 : g.headD 0 = 0) :
    putP (fixL y m) v g = fixL (y.take (y.length - movedE y v)) m ++ [(rotR v (movedE y v), g)] ++ fixL (y.drop (y.length - movedE y v)) m := by
  have em : g.length - 1 = m := by omega
  have pr : isPow (rotR v (movedE y v), g) = true := decide_eq_true g0
  by_cases z : y = []
  · subst z
    have m0 : movedE [] v = 0 := Nat.le_zero.mp (movedE_le [] v)
    rw [m0] at pr ⊢
    unfold fixL
    rw [if_pos rfl, List.take_nil, List.drop_nil, if_pos rfl]
    unfold putP
    show joinF (pushP [] v g) [] (g.length - 1) = _
    rw [rotR_zero] at pr ⊢
    show joinF ([] ++ [(v, g)]) [] (g.length - 1) = _
    rw [joinF_powq (last_snoc _ _) pr, if_pos rfl]
    simp
  · have fy : fixL y m = [] ++ [fixP y m] := if_neg z
    have e0 : putP (fixL y m) v g = joinF (pushP (joinF [] (y.take (y.length - movedE y v)) m) (rotR v (movedE y v)) g) (y.drop (y.length - movedE y v)) m := by
      rw [fy]
      unfold putP
      rw [last_snoc]
      show (if isPow (fixP y m) = true then _ else _) = _
      rw [isPow_fix, if_neg Bool.false_ne_true, List.dropLast_concat, em]
      rfl
    rw [e0]
    have ej : joinF [] (y.take (y.length - movedE y v)) m = fixL (y.take (y.length - movedE y v)) m := rfl
    rw [ej]
    have ep : pushP (fixL (y.take (y.length - movedE y v)) m) (rotR v (movedE y v)) g = fixL (y.take (y.length - movedE y v)) m ++ [(rotR v (movedE y v), g)] := by
      refine pushP_app fun q' hq' h => ?_
      unfold fixL at hq'
      split at hq'
      · cases hq'
      · cases hq'
        have h1 : isPow (fixP (y.take (y.length - movedE y v)) m) = true := h.1
        rw [isPow_fix] at h1
        exact Bool.false_ne_true h1
    rw [ep, joinF_powq (last_snoc _ _) pr]
    by_cases d : y.drop (y.length - movedE y v) = []
    · rw [if_pos d]
      unfold fixL
      rw [if_pos d, List.append_nil]
    · rw [if_neg d]
      unfold fixL
      rw [if_neg d]
/-- a rooted piece -/
structure OkR (m : Nat) (p : Pn) : Prop where
  len : p.2.length = m + 1
  ne : p.1 ≠ []
  prim : isOpen p.2 = true → Prim p.1
  any : ∃ x ∈ p.2, x ≠ 0
theorem stepB_pow {B : List Pn} {q p : Pn} {y : W} {m : Nat} (hq : isPow q = true) (hp : OkR m p) : stepB (B ++ [q] ++ fixL y m) p = B ++ [q] ++ fixL (y ++ pw p.1 (p.2.headD 0)) m := by
  unfold stepB
  by_cases z : p.2.headD 0 = 0
  · rw [if_neg (fun h => h.2 z), z, pw_zero, List.append_nil]
  · rw [if_pos ⟨hp.ne, z⟩, show p.2.length - 1 = m by have := hp.len; omega, joinF_pow hq]
theorem stepB_none {p : Pn} {y : W} {m : Nat} (hp : OkR m p) : stepB (fixL y m) p = fixL (y ++ pw p.1 (p.2.headD 0)) m := by
  unfold stepB
  by_cases z : p.2.headD 0 = 0
  · rw [if_neg (fun h => h.2 z), z, pw_zero, List.append_nil]
  · rw [if_pos ⟨hp.ne, z⟩, show p.2.length - 1 = m by have := hp.len; omega, joinF_none]
theorem stepA_open {acc : List Pn} {p : Pn} {m : Nat} (hp : OkR m p) (ho : isOpen p.2 = true) : stepA acc p = putP acc p.1 (0 :: p.2.tail) := by
  unfold stepA
  rw [if_pos ⟨hp.ne, ho⟩, prim_root (hp.prim ho), List.take_length, Nat.div_self (List.length_pos_iff.mpr hp.ne)]
  have e : timesF 1 (0 :: p.2.tail) = 0 :: p.2.tail := times_one (f := 0 :: p.2.tail) rfl (by simp)
  rw [e]
theorem stepA_shut {acc : List Pn} {p : Pn} (ho : isOpen p.2 = false) : stepA acc p = acc := by
  unfold stepA
  rw [if_neg (fun h => by rw [ho] at h; exact Bool.false_ne_true h.2)]
theorem open_rep0 (k m : Nat) : isOpen (k :: List.replicate m 0) = false := (rfl : isOpen (k :: List.replicate m 0) = isOpen (one1 m)).trans (open_one m)
theorem nOpen_cons0 (p : Pn) : nOpen (cons0 p) = 0 := by
  unfold cons0
  split
  · rfl
  · unfold nOpen
    rw [List.filter_cons, open_rep0]
    rfl
theorem nOpen_shut {p : Pn} (h : isOpen p.2 = false) : nOpen [p] = 0 := by
  unfold nOpen
  rw [List.filter_cons, h]
  rfl
theorem nOpen_open {p : Pn} (h : isOpen p.2 = true) : nOpen [p] = 1 := by
  unfold nOpen
  rw [List.filter_cons, h]
  rfl
theorem nPow_pow {p : Pn} (h : isPow p = true) : nPow [p] = 1 := by
  unfold nPow
  rw [List.filter_cons, h]
  rfl
/-- the gathered list beside the normal one -/
def Sim (m : Nat) (s : GS) (acc : List Pn) : Prop :=
  match s.last with
  | none => acc = fixL s.bare m ∧ nOpen s.pre = 0 ∧ nOpen s.post = 0
  | some u => ∃ (B : List Pn) (q : Pn) (x : W), acc = B ++ [q] ++ fixL (x ++ s.bare) m ∧ isPow q = true ∧ q.2.length = m + 1 ∧ q.1 = rotR u.1 x.length ∧ x = tailE u.1 x.length ∧ u.1 ≠ [] ∧ isOpen u.2 = true ∧ u.2.length = m + 1 ∧ nPow B = nOpen s.pre ∧ nOpen s.post = 0
theorem sim_step {m : Nat} {s : GS} {acc : List Pn} {p : Pn} (h : Sim m s acc) (hp : OkR m p) : Sim m (stepG s p) (stepN acc p) := by
  obtain ⟨pre, last, post, z⟩ := s
  unfold stepN
  have g0 : (0 :: p.2.tail : F).headD 0 = 0 := rfl
  have gl : (0 :: p.2.tail : F).length = m + 1 := by have := hp.len; rw [List.length_cons, List.length_tail]; omega
  cases ho : isOpen p.2 with
  | false =>
    rw [stepA_shut ho]
    unfold stepG
    rw [ho, if_neg Bool.false_ne_true]
    cases last with
    | none =>
      obtain ⟨rfl, h1, h2⟩ := h
      exact ⟨stepB_none hp, h1, by show nOpen (post ++ [p]) = 0; rw [nOpen_app, nOpen_shut ho]; exact h2⟩
    | some u =>
      obtain ⟨B, q, x, rfl, hq, ql, q1, hx, un, uo, ul, h1, h2⟩ := h
      refine ⟨B, q, x, ?_, hq, ql, q1, hx, un, uo, ul, h1, by show nOpen (post ++ [p]) = 0; rw [nOpen_app, nOpen_shut ho]; exact h2⟩
      rw [stepB_pow hq hp, List.append_assoc x]
  | true =>
    have pv := hp.prim ho
    rw [stepA_open hp ho]
    unfold stepG
    rw [ho, if_pos rfl]
    -- a new power
    have new : ∀ {B0 : List Pn} {y : W} {pre' : List Pn}, nPow B0 = nOpen pre' → Sim m ⟨pre', some p, [], pw p.1 (p.2.headD 0)⟩ (stepB (B0 ++ [(rotR p.1 (movedE y p.1), (0 :: p.2.tail : F))] ++ fixL (y.drop (y.length - movedE y p.1)) m) p) := fun {B0 y pre'} hB => by
      have pr : isPow (rotR p.1 (movedE y p.1), (0 :: p.2.tail : F)) = true := decide_eq_true g0
      refine ⟨B0, (rotR p.1 (movedE y p.1), 0 :: p.2.tail), tailE p.1 (movedE y p.1), ?_, pr, gl, ?_, ?_, hp.ne, ho, hp.len, hB, rfl⟩
      · rw [stepB_pow pr hp, moved_drop hp.ne]
      · rw [tailE_len hp.ne]
      · rw [tailE_len hp.ne]
    cases last with
    | none =>
      obtain ⟨rfl, h1, h2⟩ := h
      rw [putP_none gl g0]
      refine new ?_
      show nPow (fixL _ m) = nOpen (pre ++ post)
      rw [nPow_fixL, nOpen_app]
      have h1 : nOpen pre = 0 := h1
      have h2 : nOpen post = 0 := h2
      omega
    | some u =>
      obtain ⟨B, q, x, rfl, hq, ql, q1, hx, un, uo, ul, h1, h2⟩ := h
      have h1 : nPow B = nOpen pre := h1
      have h2 : nOpen post = 0 := h2
      have hs : isPow (q.1, addF q.2 (0 :: p.2.tail)) = true := decide_eq_true (head_add (by omega) (of_decide_eq_true hq) g0)
      rw [putP_pow hq gl g0 hs, q1]
      have iff' := sam_iff (u := u.1) (x := x) (z := z) (v := p.1) un hp.ne hx
      by_cases c : Sam u.1 z p.1
      · rw [if_pos (iff'.mpr c)]
        show Sim m (if Sam u.1 z p.1 then _ else _) _
        rw [if_pos c]
        rw [q1] at hs
        refine ⟨B, (rotR u.1 x.length, addF q.2 (0 :: p.2.tail)), x, ?_, hs, by rw [len_add (by omega)]; exact gl, rfl, hx, un, open_add (by omega) ho, by rw [len_add (by omega)]; exact gl, h1, ?_⟩
        · rw [stepB_pow hs hp, List.append_assoc x]
        · show nOpen (post ++ cons0 p) = 0
          rw [nOpen_app, nOpen_cons0]
          exact h2
      · rw [if_neg (fun h => c (iff'.mp h))]
        show Sim m (if Sam u.1 z p.1 then _ else _) _
        rw [if_neg c]
        refine new ?_
        rw [nPow_app, nPow_app, nPow_fixL, nPow_pow hq, nOpen_app, nOpen_app, nOpen_open uo]
        omega
theorem sim_fold {m : Nat} : ∀ (ps : List Pn) (s : GS) (acc : List Pn), Sim m s acc → (∀ p ∈ ps, OkR m p) → Sim m (ps.foldl stepG s) (ps.foldl stepN acc)
  | [], _, _, h, _ => h
  | p :: ps, s, acc, h, hp => sim_fold ps _ _ (sim_step h (hp p List.mem_cons_self)) fun q hq => hp q (List.mem_cons_of_mem _ hq)
theorem sim_count {m : Nat} {s : GS} {acc : List Pn} (h : Sim m s acc) : nPow acc = nOpen s.out := by
  obtain ⟨pre, last, post, z⟩ := s
  unfold GS.out
  cases last with
  | none =>
    obtain ⟨rfl, h1, h2⟩ := h
    have h1 : nOpen pre = 0 := h1
    have h2 : nOpen post = 0 := h2
    show nPow (fixL z m) = nOpen (pre ++ [] ++ post)
    rw [nPow_fixL, nOpen_app, nOpen_app, h1, h2]
    rfl
  | some u =>
    obtain ⟨B, q, x, rfl, hq, ql, q1, hx, un, uo, ul, h1, h2⟩ := h
    have h1 : nPow B = nOpen pre := h1
    have h2 : nOpen post = 0 := h2
    show nPow _ = nOpen (pre ++ [u] ++ post)
    rw [nPow_app, nPow_app, nPow_fixL, nPow_pow hq, nOpen_app, nOpen_app, nOpen_open uo, h1, h2]
/-- a gathered list has as many powers as the normal one -/
theorem gath_count {m : Nat} {ps : List Pn} (h : ∀ p ∈ ps, OkR m p) : nPow (normL ps) = nOpen (gath ps).out := sim_count (sim_fold ps _ _ ⟨rfl, rfl, rfl⟩ h)
end NM

set_option linter.all false
set_option maxRecDepth 100000
/-! what a gathered list writes, its pieces, its sums; fixed neighbours joined -/
namespace NM
open WM
theorem OkR.any_open {m : Nat} {p : Pn} (h : OkR m p) : isOpen p.2 = true ∨ p.2.headD 0 ≠ 0 := by
  obtain ⟨x, hx, hz⟩ := h.any
  cases e : p.2 with
  | nil => rw [e] at hx; cases hx
  | cons a f =>
    rw [e] at hx
    rcases List.mem_cons.mp hx with rfl | hx
    · exact .inr hz
    · exact .inl (isOpen_iff.mpr ⟨x, hx, hz⟩)
theorem shut_val {f : F} (h : isOpen f = false) (pt : List Nat) : valF f pt = f.headD 0 := by
  unfold valF
  rw [dot_closed (fun x hx => ?_) pt]
  · rfl
  · by_cases z : x = 0
    · exact z
    · have := isOpen_iff.mpr ⟨x, hx, z⟩
      rw [h] at this
      cases this
theorem wr_cons0 (p : Pn) (pt : List Nat) : wr pt (cons0 p) = pw p.1 (p.2.headD 0) := by
  unfold cons0
  by_cases z : p.2.headD 0 = 0
  · rw [if_pos z, z]
    rfl
  · rw [if_neg z, wr_one]
    unfold wrt
    rw [shut_val (open_rep0 _ _)]
    rfl
theorem addF_head {h t : F} (hl : h.length = t.length + 1) : (addF h (0 :: t)).headD 0 = h.headD 0 := by
  cases h with
  | nil => simp at hl
  | cons a h => rfl
def Wri (pt : List Nat) (m : Nat) (s : GS) (w : W) : Prop := wr pt s.out = w ∧ ∀ u, s.last = some u → pw u.1 (u.2.headD 0) ++ wr pt s.post = s.bare ∧ u.2.length = m + 1
theorem wri_step {pt : List Nat} {m : Nat} {s : GS} {w : W} {p : Pn} (h : Wri pt m s w) (hp : OkR m p) : Wri pt m (stepG s p) (w ++ wrt pt p) := by
  obtain ⟨pre, last, post, z⟩ := s
  obtain ⟨h1, h2⟩ := h
  have h1 : wr pt (pre ++ last.toList ++ post) = w := h1
  have vs := val_split p.2 pt
  have gl : (0 :: p.2.tail : F).length = m + 1 := by have := hp.len; rw [List.length_cons, List.length_tail]; omega
  unfold stepG
  cases ho : isOpen p.2 with
  | false =>
    rw [if_neg Bool.false_ne_true]
    have ew : wrt pt p = pw p.1 (p.2.headD 0) := by unfold wrt; rw [shut_val ho]
    refine ⟨?_, fun u hu => ?_⟩
    · show wr pt (pre ++ last.toList ++ (post ++ [p])) = _
      rw [← List.append_assoc, wr_app, h1, wr_one]
    · obtain ⟨a, b⟩ := h2 u hu
      refine ⟨?_, b⟩
      show _ ++ wr pt (post ++ [p]) = z ++ _
      have a : pw u.1 (u.2.headD 0) ++ wr pt post = z := a
      rw [wr_app, wr_one, ew, ← List.append_assoc, a]
  | true =>
    rw [if_pos rfl]
    have new : ∀ {pre' : List Pn}, wr pt pre' = w → Wri pt m ⟨pre', some p, [], pw p.1 (p.2.headD 0)⟩ (w ++ wrt pt p) := fun {pre'} e => by
      refine ⟨?_, fun u hu => ?_⟩
      · show wr pt (pre' ++ [p] ++ []) = _
        rw [List.append_nil, wr_app, e, wr_one]
      · cases hu
        refine ⟨?_, hp.len⟩
        show _ ++ [] = _
        rw [List.append_nil]
    cases last with
    | none =>
      refine new ?_
      rw [← h1]
      show wr pt (pre ++ post) = wr pt (pre ++ [] ++ post)
      rw [List.append_nil]
    | some u =>
      obtain ⟨a, b⟩ := h2 u rfl
      have a : pw u.1 (u.2.headD 0) ++ wr pt post = z := a
      show Wri pt m (if Sam u.1 z p.1 then _ else _) _
      by_cases c : Sam u.1 z p.1
      · rw [if_pos c]
        obtain ⟨c1, c2⟩ := id c
        have ez : z = tailE p.1 z.length := by
          rw [tailE_pre hp.ne, c1]
          exact c2
        have mv : ∀ n, pw u.1 n ++ z = z ++ pw p.1 n := fun n => by
          have := move_pw p.1 z.length n
          rw [c1, ← ez] at this
          exact this
        have hul : u.2.length = (0 :: p.2.tail : F).length := by omega
        refine ⟨?_, fun u' hu' => ?_⟩
        · show wr pt (pre ++ [(u.1, addF u.2 (0 :: p.2.tail))] ++ (post ++ cons0 p)) = _
          have h1' : wr pt pre ++ wrt pt u ++ wr pt post = w := by
            rw [← h1]
            show _ = wr pt (pre ++ [u] ++ post)
            rw [wr_app, wr_app, wr_one]
          have vu := val_split u.2 pt
          have e1 : wrt pt (u.1, addF u.2 (0 :: p.2.tail)) = pw u.1 (valF (0 :: u.2.tail) pt) ++ pw u.1 (valF (0 :: p.2.tail) pt) ++ pw u.1 (u.2.headD 0) := by
            unfold wrt
            show pw u.1 (valF (addF u.2 (0 :: p.2.tail)) pt) = _
            rw [val_add pt hul, ← pw_add, ← pw_add]
            congr 1
            omega
          have e2 : wrt pt u = pw u.1 (valF (0 :: u.2.tail) pt) ++ pw u.1 (u.2.headD 0) := by
            unfold wrt
            rw [vu, pw_add]
          have e3 : wrt pt p = pw p.1 (valF (0 :: p.2.tail) pt) ++ pw p.1 (p.2.headD 0) := by
            unfold wrt
            rw [vs, pw_add]
          rw [wr_app, wr_app, wr_app, wr_one, wr_cons0, e1, e3, ← h1', e2]
          have key : pw u.1 (valF (0 :: p.2.tail) pt) ++ (pw u.1 (u.2.headD 0) ++ wr pt post) = (pw u.1 (u.2.headD 0) ++ wr pt post) ++ pw p.1 (valF (0 :: p.2.tail) pt) := by rw [a]; exact mv _
          have key2 := congrArg (fun w : W => wr pt pre ++ pw u.1 (valF (0 :: u.2.tail) pt) ++ w ++ pw p.1 (p.2.headD 0)) key
          simpa only [List.append_assoc] using key2
        · cases hu'
          refine ⟨?_, by show (addF u.2 (0 :: p.2.tail)).length = m + 1; rw [len_add hul]; exact gl⟩
          show pw u.1 ((addF u.2 (0 :: p.2.tail)).headD 0) ++ wr pt (post ++ cons0 p) = z ++ _
          rw [addF_head (by rw [hul]; simp), wr_app, wr_cons0, ← List.append_assoc, a]
      · rw [if_neg c]
        refine new ?_
        rw [← h1]
        rfl
theorem wri_fold {pt : List Nat} {m : Nat} : ∀ (ps : List Pn) (s : GS) (w : W), Wri pt m s w → (∀ p ∈ ps, OkR m p) → Wri pt m (ps.foldl stepG s) (w ++ wr pt ps)
  | [], s, w, h, _ => by rw [wr, List.append_nil]; exact h
  | p :: ps, s, w, h, hp => by
    rw [wr, ← List.append_assoc]
    exact wri_fold ps _ _ (wri_step h (hp p List.mem_cons_self)) fun q hq => hp q (List.mem_cons_of_mem _ hq)
theorem gath_wr {m : Nat} {ps : List Pn} (h : ∀ p ∈ ps, OkR m p) (pt : List Nat) : wr pt (gath ps).out = wr pt ps := (wri_fold ps _ [] ⟨rfl, fun u hu => by cases hu⟩ h).1
/-! the pieces -/
theorem cons0_ok {m : Nat} {p : Pn} (hp : OkR m p) : ∀ q ∈ cons0 p, OkR m q := fun q hq => by
  unfold cons0 at hq
  split at hq
  · cases hq
  · next z =>
    rw [List.mem_singleton.mp hq]
    exact ⟨(by rw [List.length_cons, List.length_replicate, hp.len]; omega), hp.ne, (fun h => by rw [open_rep0] at h; cases h), ⟨_, List.mem_cons_self, z⟩⟩
def AllR (m : Nat) (s : GS) : Prop := (∀ p ∈ s.out, OkR m p) ∧ ∀ u, s.last = some u → isOpen u.2 = true
theorem open_any {f : F} (h : isOpen f = true) : ∃ x ∈ f, x ≠ 0 := by
  obtain ⟨x, hx, z⟩ := isOpen_iff.mp h
  exact ⟨x, List.mem_of_mem_tail hx, z⟩
theorem all_step {m : Nat} {s : GS} {p : Pn} (h : AllR m s) (hp : OkR m p) : AllR m (stepG s p) := by
  obtain ⟨pre, last, post, z⟩ := s
  obtain ⟨h1, h2⟩ := h
  have h1 : ∀ p ∈ pre ++ last.toList ++ post, OkR m p := h1
  unfold stepG
  cases ho : isOpen p.2 with
  | false =>
    rw [if_neg Bool.false_ne_true]
    refine ⟨fun q hq => ?_, h2⟩
    have hq : q ∈ pre ++ last.toList ++ (post ++ [p]) := hq
    rw [← List.append_assoc] at hq
    rcases List.mem_append.mp hq with y | y
    · exact h1 q y
    · rw [List.mem_singleton.mp y]; exact hp
  | true =>
    rw [if_pos rfl]
    cases last with
    | none =>
      refine ⟨fun q hq => ?_, fun u hu => by cases hu; exact ho⟩
      have hq : q ∈ pre ++ post ++ [p] ++ [] := hq
      rw [List.append_nil] at hq
      rcases List.mem_append.mp hq with y | y
      · exact h1 q (by show q ∈ pre ++ [] ++ post; rw [List.append_nil]; exact y)
      · rw [List.mem_singleton.mp y]; exact hp
    | some u =>
      have hu : OkR m u := h1 u (by show u ∈ pre ++ [u] ++ post; simp)
      have uo := h2 u rfl
      show AllR m (if Sam u.1 z p.1 then _ else _)
      by_cases c : Sam u.1 z p.1
      · rw [if_pos c]
        have hl : u.2.length = (0 :: p.2.tail : F).length := by rw [hu.len, List.length_cons, List.length_tail, hp.len]; omega
        have oo : isOpen (addF u.2 (0 :: p.2.tail)) = true := open_add hl ho
        refine ⟨fun q hq => ?_, fun u' hu' => by cases hu'; exact oo⟩
        have hq : q ∈ pre ++ [(u.1, addF u.2 (0 :: p.2.tail))] ++ (post ++ cons0 p) := hq
        rcases List.mem_append.mp hq with y | y
        · rcases List.mem_append.mp y with y | y
          · exact h1 q (List.mem_append_left _ (List.mem_append_left _ y))
          · rw [List.mem_singleton.mp y]
            exact ⟨(len_add hl).trans (hl.symm.trans hu.len), hu.ne, fun _ => hu.prim uo, open_any oo⟩
        · rcases List.mem_append.mp y with y | y
          · exact h1 q (List.mem_append_right _ y)
          · exact cons0_ok hp q y
      · rw [if_neg c]
        refine ⟨fun q hq => ?_, fun u hu => by cases hu; exact ho⟩
        have hq : q ∈ pre ++ [u] ++ post ++ [p] ++ [] := hq
        rw [List.append_nil] at hq
        rcases List.mem_append.mp hq with y | y
        · exact h1 q y
        · rw [List.mem_singleton.mp y]; exact hp
theorem all_fold {m : Nat} : ∀ (ps : List Pn) (s : GS), AllR m s → (∀ p ∈ ps, OkR m p) → AllR m (ps.foldl stepG s)
  | [], _, h, _ => h
  | p :: ps, s, h, hp => all_fold ps _ (all_step h (hp p List.mem_cons_self)) fun q hq => hp q (List.mem_cons_of_mem _ hq)
theorem gath_ok {m : Nat} {ps : List Pn} (h : ∀ p ∈ ps, OkR m p) : ∀ p ∈ (gath ps).out, OkR m p := (all_fold ps _ ⟨fun p hp => absurd hp List.not_mem_nil, fun u hu => by cases hu⟩ h).1
/-! sums -/
theorem gath_sum {m : Nat} (e : Pn → Nat) (he : ∀ (u p : Pn), OkR m u → OkR m p → isOpen u.2 = true → isOpen p.2 = true → e (u.1, addF u.2 (0 :: p.2.tail)) + ((cons0 p).map e).sum ≤ e u + e p) :
    ∀ (ps : List Pn) (s : GS), AllR m s → (∀ p ∈ ps, OkR m p) → ((ps.foldl stepG s).out.map e).sum ≤ (s.out.map e).sum + (ps.map e).sum
  | [], s, _, _ => Nat.le_refl _
  | p :: ps, s, h, hp => by
    have h0 := hp p List.mem_cons_self
    have ih := gath_sum e he ps _ (all_step h h0) fun q hq => hp q (List.mem_cons_of_mem _ hq)
    have key : ((stepG s p).out.map e).sum ≤ (s.out.map e).sum + e p := by
      obtain ⟨pre, last, post, z⟩ := s
      obtain ⟨h1, h2⟩ := h
      have h1 : ∀ p ∈ pre ++ last.toList ++ post, OkR m p := h1
      unfold stepG
      cases ho : isOpen p.2 with
      | false =>
        rw [if_neg Bool.false_ne_true]
        show ((pre ++ last.toList ++ (post ++ [p])).map e).sum ≤ ((pre ++ last.toList ++ post).map e).sum + e p
        simp only [List.map_append, List.sum_append, List.map_cons, List.map_nil, List.sum_cons, List.sum_nil]
        omega
      | true =>
        rw [if_pos rfl]
        cases last with
        | none =>
          show ((pre ++ post ++ [p] ++ []).map e).sum ≤ ((pre ++ [] ++ post).map e).sum + e p
          simp only [List.map_append, List.sum_append, List.map_cons, List.map_nil, List.sum_cons, List.sum_nil]
          omega
        | some u =>
          have hu : OkR m u := h1 u (by show u ∈ pre ++ [u] ++ post; simp)
          have uo := h2 u rfl
          show ((GS.out (if Sam u.1 z p.1 then _ else _)).map e).sum ≤ ((pre ++ [u] ++ post).map e).sum + e p
          by_cases c : Sam u.1 z p.1
          · rw [if_pos c]
            have k := he u p hu h0 uo ho
            show ((pre ++ [(u.1, addF u.2 (0 :: p.2.tail))] ++ (post ++ cons0 p)).map e).sum ≤ _
            simp only [List.map_append, List.sum_append, List.map_cons, List.map_nil, List.sum_cons, List.sum_nil]
            omega
          · rw [if_neg c]
            show ((pre ++ [u] ++ post ++ [p] ++ []).map e).sum ≤ _
            simp only [List.map_append, List.sum_append, List.map_cons, List.map_nil, List.sum_cons, List.sum_nil]
            omega
    rw [List.map_cons, List.sum_cons]
    show ((ps.foldl stepG (stepG s p)).out.map e).sum ≤ _
    omega
theorem gath_le {m : Nat} (e : Pn → Nat) (he : ∀ (u p : Pn), OkR m u → OkR m p → isOpen u.2 = true → isOpen p.2 = true → e (u.1, addF u.2 (0 :: p.2.tail)) + ((cons0 p).map e).sum ≤ e u + e p) {ps : List Pn} (h : ∀ p ∈ ps, OkR m p) : ((gath ps).out.map e).sum ≤ (ps.map e).sum := by
  have := gath_sum e he ps ⟨[], none, [], []⟩ ⟨fun p hp => absurd hp List.not_mem_nil, fun u hu => by cases hu⟩ h
  have e0 : ((GS.out ⟨[], none, [], []⟩).map e).sum = 0 := rfl
  unfold gath
  omega
/-! ### fixed neighbours joined -/
def one1B (p : Pn) : Bool := decide (p.2 = one1 (p.2.length - 1))
/-- fixed ones that stand side by side are made one -/
def stepJ (acc : List Pn) (p : Pn) : List Pn :=
  match acc.getLast? with
  | some q => if p.2 = one1 (p.2.length - 1) ∧ q.2 = one1 (p.2.length - 1) then acc.dropLast ++ [(q.1 ++ p.1, p.2)] else acc ++ [p]
  | none => acc ++ [p]
def joinL (ps : List Pn) : List Pn := ps.foldl stepJ []
theorem stepJ_two {acc : List Pn} {p q : Pn} {m : Nat} (hl : acc.getLast? = some q) (hp : p.2 = one1 m) (hq : q.2 = one1 m) : stepJ acc p = acc.dropLast ++ [(q.1 ++ p.1, p.2)] := by
  have e : p.2.length - 1 = m := by rw [hp]; unfold one1; simp
  unfold stepJ
  rw [hl]
  show (if _ then _ else _) = _
  rw [if_pos ⟨by rw [e]; exact hp, by rw [e]; exact hq⟩]
theorem stepJ_cases {m : Nat} {acc : List Pn} {p : Pn} (hp : p.2.length = m + 1) : stepJ acc p = acc ++ [p] ∧ (∀ q, acc.getLast? = some q → ¬ (p.2 = one1 m ∧ q.2 = one1 m)) ∨ ∃ (B : List Pn) (q : Pn), acc = B ++ [q] ∧ p.2 = one1 m ∧ q.2 = one1 m ∧ stepJ acc p = B ++ [(q.1 ++ p.1, p.2)] := by
  have e : p.2.length - 1 = m := by omega
  unfold stepJ
  cases h : acc.getLast? with
  | none => exact .inl ⟨rfl, fun q hq => by cases hq⟩
  | some q =>
    rw [e]
    show (if _ then _ else _) = _ ∧ _ ∨ _
    by_cases c : p.2 = one1 m ∧ q.2 = one1 m
    · refine .inr ⟨acc.dropLast, q, ?_, c.1, c.2, if_pos c⟩
      obtain ⟨B, rfl⟩ := List.getLast?_eq_some_iff.mp h
      rw [List.dropLast_concat]
    · exact .inl ⟨if_neg c, fun q' hq' => by cases hq'; exact c⟩
/-- what joining keeps -/
structure Jn (pt : List Nat) (m : Nat) (acc ps : List Pn) : Prop where
  w : wr pt acc = wr pt ps
  n : nOpen acc = nOpen ps
  ok : ∀ p ∈ acc, OkR m p
  ap : ∀ (A B : List Pn) (p q : Pn), acc = A ++ [p, q] ++ B → ¬ (p.2 = one1 m ∧ q.2 = one1 m)
theorem val_one1 (m : Nat) (pt : List Nat) : valF (one1 m) pt = 1 := shut_val (open_one m) pt
theorem wrt_one1 {p : Pn} {m : Nat} (h : p.2 = one1 m) (pt : List Nat) : wrt pt p = p.1 := by
  unfold wrt
  rw [h, val_one1]
  exact pw_one _
theorem nOpen_one1 {p : Pn} {m : Nat} (h : p.2 = one1 m) : nOpen [p] = 0 := nOpen_shut (by rw [h]; exact open_one m)
theorem jn_step {pt : List Nat} {m : Nat} {acc ps : List Pn} {p : Pn} (h : Jn pt m acc ps) (hp : OkR m p) : Jn pt m (stepJ acc p) (ps ++ [p]) := by
  rcases stepJ_cases (acc := acc) hp.len with ⟨e, hn⟩ | ⟨B, q, rfl, h1, h2, e⟩
  · rw [e]
    refine ⟨by rw [wr_app, wr_app, h.w], by rw [nOpen_app, nOpen_app, h.n], fun x hx => ?_, fun A B x y hxy hc => ?_⟩
    · rcases List.mem_append.mp hx with z | z
      · exact h.ok x z
      · rw [List.mem_singleton.mp z]; exact hp
    · rcases List.eq_nil_or_concat B with rfl | ⟨B', b, rfl⟩
      · have h2 : acc ++ [p] = (A ++ [x]) ++ [y] := by rw [hxy]; simp
        obtain ⟨e1, e2⟩ := List.append_inj' h2 rfl
        have e3 : p = y := (List.cons.inj e2).1
        refine hn x (by rw [e1]; simp) ?_
        rw [e3]
        exact ⟨hc.2, hc.1⟩
      · have h2 : acc ++ [p] = (A ++ [x, y] ++ B') ++ [b] := by rw [hxy]; simp
        obtain ⟨e1, e2⟩ := List.append_inj' h2 rfl
        exact h.ap A B' x y e1 hc
  · rw [e]
    have hq : OkR m q := h.ok q (by simp)
    have hw : wr pt B ++ wrt pt q = wr pt ps := by rw [← h.w, wr_app, wr_one]
    have hnn : nOpen B + nOpen [q] = nOpen ps := by rw [← h.n, nOpen_app]
    have nj : (q.1 ++ p.1, p.2).2 = one1 m := h1
    refine ⟨?_, ?_, fun x hx => ?_, fun A B2 x y hxy hc => ?_⟩
    · rw [wr_app, wr_app, wr_one, wr_one, ← hw, wrt_one1 h2, wrt_one1 h1, wrt_one1 nj, List.append_assoc]
    · rw [nOpen_app, nOpen_app, ← hnn, nOpen_one1 h1, nOpen_one1 h2, nOpen_one1 nj]
    · rcases List.mem_append.mp hx with z | z
      · exact h.ok x (List.mem_append_left _ z)
      · rw [List.mem_singleton.mp z]
        refine ⟨hp.len, fun z => hp.ne (List.append_eq_nil_iff.mp z).2, fun ho => ?_, hp.any⟩
        rw [show (q.1 ++ p.1, p.2).2 = one1 m from h1, open_one] at ho
        cases ho
    · rcases List.eq_nil_or_concat B2 with rfl | ⟨B', b, rfl⟩
      · have h3 : B ++ [(q.1 ++ p.1, p.2)] = (A ++ [x]) ++ [y] := by rw [hxy]; simp
        obtain ⟨e1, e2⟩ := List.append_inj' h3 rfl
        exact h.ap A [] x q (by rw [e1]; simp) ⟨hc.1, h2⟩
      · have h3 : B ++ [(q.1 ++ p.1, p.2)] = (A ++ [x, y] ++ B') ++ [b] := by rw [hxy]; simp
        obtain ⟨e1, e2⟩ := List.append_inj' h3 rfl
        exact h.ap A (B' ++ [q]) x y (by rw [e1]; simp) hc
theorem jn_fold {pt : List Nat} {m : Nat} : ∀ (ps : List Pn) (acc qs : List Pn), Jn pt m acc qs → (∀ p ∈ ps, OkR m p) → Jn pt m (ps.foldl stepJ acc) (qs ++ ps)
  | [], acc, qs, h, _ => by rw [List.append_nil]; exact h
  | p :: ps, acc, qs, h, hp => by
    have := jn_fold ps _ _ (jn_step h (hp p List.mem_cons_self)) fun q hq => hp q (List.mem_cons_of_mem _ hq)
    rw [List.append_assoc] at this
    exact this
theorem joinL_jn {m : Nat} {ps : List Pn} (h : ∀ p ∈ ps, OkR m p) (pt : List Nat) : Jn pt m (joinL ps) ps := jn_fold ps [] [] ⟨rfl, rfl, fun p hp => absurd hp List.not_mem_nil, fun A B p q e => by simp at e⟩ h
theorem joinL_sum {m : Nat} (e : Pn → Nat) (he : ∀ (u v : W), u ≠ [] → v ≠ [] → e (u ++ v, one1 m) ≤ e (u, one1 m) + e (v, one1 m)) : ∀ (ps acc : List Pn), (∀ p ∈ acc, OkR m p) → (∀ p ∈ ps, OkR m p) → ((ps.foldl stepJ acc).map e).sum ≤ (acc.map e).sum + (ps.map e).sum
  | [], acc, _, _ => Nat.le_refl _
  | p :: ps, acc, ha, hp => by
    have h0 := hp p List.mem_cons_self
    have ok := (jn_step (pt := []) (ps := acc) (m := m) (acc := acc) (p := p))
    have key : ((stepJ acc p).map e).sum ≤ (acc.map e).sum + e p ∧ ∀ q ∈ stepJ acc p, OkR m q := by
      rcases stepJ_cases (acc := acc) h0.len with ⟨e1, _⟩ | ⟨B, q, rfl, h1, h2, e1⟩
      · rw [e1]
        refine ⟨by simp only [List.map_append, List.sum_append, List.map_cons, List.map_nil, List.sum_cons, List.sum_nil]; omega, fun x hx => ?_⟩
        rcases List.mem_append.mp hx with z | z
        · exact ha x z
        · rw [List.mem_singleton.mp z]; exact h0
      · rw [e1]
        have hq : OkR m q := ha q (by simp)
        have k := he q.1 p.1 hq.ne h0.ne
        obtain ⟨q1, q2⟩ := q
        obtain ⟨p1, p2⟩ := p
        have h1 : p2 = one1 m := h1
        have h2 : q2 = one1 m := h2
        subst h1 h2
        refine ⟨by simp only [List.map_append, List.sum_append, List.map_cons, List.map_nil, List.sum_cons, List.sum_nil]; have k : e (q1 ++ p1, one1 m) ≤ e (q1, one1 m) + e (p1, one1 m) := k; omega, fun x hx => ?_⟩
        rcases List.mem_append.mp hx with z | z
        · exact ha x (List.mem_append_left _ z)
        · rw [List.mem_singleton.mp z]
          refine ⟨h0.len, fun z => h0.ne (List.append_eq_nil_iff.mp z).2, fun ho => ?_, h0.any⟩
          have ho : isOpen (one1 m) = true := ho
          rw [open_one] at ho
          cases ho
    have ih := joinL_sum e he ps _ key.2 fun q hq => hp q (List.mem_cons_of_mem _ hq)
    rw [List.map_cons, List.sum_cons]
    show ((ps.foldl stepJ (stepJ acc p)).map e).sum ≤ _
    have := key.1
    omega
/-! ### the roots -/
def rootP (p : Pn) : Pn := if isOpen p.2 then (p.1.take (rootN p.1), timesF (p.1.length / rootN p.1) p.2) else (p.1, p.2)
def keepR (p : Pn) : Bool := decide (p.1 ≠ []) && p.2.any fun x => decide (x ≠ 0)
def rootedL (ps : List Pn) : List Pn := (ps.filter keepR).map rootP
theorem keepR_iff {p : Pn} : keepR p = true ↔ p.1 ≠ [] ∧ ∃ x ∈ p.2, x ≠ 0 := by
  unfold keepR
  simp
theorem open_timesA {k : Nat} {f : F} (hk : 0 < k) : isOpen (timesF k f) = isOpen f := by
  have : ∀ l : List Nat, (∃ x ∈ l.map (fun x => k * x), x ≠ 0) ↔ ∃ x ∈ l, x ≠ 0 := fun l => by
    constructor
    · rintro ⟨x, hx, z⟩
      obtain ⟨y, hy, rfl⟩ := List.mem_map.mp hx
      exact ⟨y, hy, fun e => z (by rw [e]; rfl)⟩
    · rintro ⟨y, hy, z⟩
      exact ⟨k * y, List.mem_map.mpr ⟨y, hy, rfl⟩, fun e => by rcases Nat.mul_eq_zero.mp e with h | h <;> omega⟩
  have e : isOpen (timesF k f) = true ↔ isOpen f = true := by
    rw [isOpen_iff, isOpen_iff]
    unfold timesF
    rw [← List.map_tail]
    exact this _
  cases h1 : isOpen (timesF k f) <;> cases h2 : isOpen f <;> simp_all
theorem rootP_ok {m : Nat} {p : Pn} (hl : p.2.length = m + 1) (hk : keepR p = true) : OkR m (rootP p) := by
  obtain ⟨hn, hx⟩ := keepR_iff.mp hk
  unfold rootP
  cases ho : isOpen p.2 with
  | false => exact ⟨hl, hn, (fun h => by have h : isOpen p.2 = true := h; rw [ho] at h; cases h), hx⟩
  | true =>
    have hr := root_times hn
    have o2 : isOpen (timesF (p.1.length / rootN p.1) p.2) = true := by rw [open_timesA hr]; exact ho
    refine ⟨(by show (timesF _ _).length = _; unfold timesF; rw [List.length_map]; exact hl), fun z => ?_, fun _ => root_prim hn, open_any o2⟩
    have : (p.1.take (rootN p.1)).length = 0 := by rw [show p.1.take (rootN p.1) = [] from z]; rfl
    rw [List.length_take] at this
    have := rootN_pos hn
    have := List.length_pos_iff.mpr hn
    omega
theorem rootedL_ok {m : Nat} {ps : List Pn} (h : ∀ p ∈ ps, p.2.length = m + 1) : ∀ p ∈ rootedL ps, OkR m p := fun p hp => by
  obtain ⟨q, hq, rfl⟩ := List.mem_map.mp hp
  obtain ⟨h1, h2⟩ := List.mem_filter.mp hq
  exact rootP_ok (h q h1) h2
theorem rootP_wrt {p : Pn} (hn : p.1 ≠ []) (pt : List Nat) : wrt pt (rootP p) = wrt pt p := by
  unfold rootP
  cases ho : isOpen p.2 with
  | false => rfl
  | true =>
    show wrt pt (p.1.take (rootN p.1), timesF (p.1.length / rootN p.1) p.2) = _
    unfold wrt
    show pw (p.1.take (rootN p.1)) (valF (timesF _ p.2) pt) = _
    rw [val_times]
    conv => rhs; rw [root_pw hn]
    rw [pw_mul]
theorem skipR_wrt {p : Pn} (h : keepR p = false) (pt : List Nat) : wrt pt p = [] := by
  unfold wrt
  by_cases z : p.1 = []
  · rw [z]; exact pw_nil _
  · have hz : ∀ x ∈ p.2, x = 0 := fun x hx => by
      by_cases y : x = 0
      · exact y
      · have := keepR_iff.mpr ⟨z, x, hx, y⟩
        rw [h] at this
        cases this
    have ho : isOpen p.2 = false := by
      cases e : isOpen p.2
      · rfl
      · obtain ⟨x, hx, y⟩ := isOpen_iff.mp e
        exact absurd (hz x (List.mem_of_mem_tail hx)) y
    rw [shut_val ho]
    have h0 : p.2.headD 0 = 0 := by
      cases e : p.2 with
      | nil => rfl
      | cons a f => exact hz a (by rw [e]; exact List.mem_cons_self)
    rw [h0]
    exact pw_zero _
theorem rootedL_wr (pt : List Nat) : ∀ ps : List Pn, wr pt (rootedL ps) = wr pt ps
  | [] => rfl
  | p :: ps => by
    have ih := rootedL_wr pt ps
    unfold rootedL at ih ⊢
    rw [List.filter_cons, wr]
    cases h : keepR p with
    | false => rw [if_neg Bool.false_ne_true, ih, skipR_wrt h, List.nil_append]
    | true => rw [if_pos rfl, List.map_cons, wr, rootP_wrt (keepR_iff.mp h).1, ih]
theorem rootedL_sum (e : Pn → Nat) {m : Nat} (he : ∀ p : Pn, p.2.length = m + 1 → keepR p = true → e (rootP p) ≤ e p) : ∀ ps : List Pn, (∀ p ∈ ps, p.2.length = m + 1) → ((rootedL ps).map e).sum ≤ (ps.map e).sum
  | [], _ => Nat.le_refl _
  | p :: ps, hl => by
    have ih := rootedL_sum e he ps fun q hq => hl q (List.mem_cons_of_mem _ hq)
    unfold rootedL at ih ⊢
    rw [List.filter_cons, List.map_cons, List.sum_cons]
    cases h : keepR p with
    | false => rw [if_neg Bool.false_ne_true]; omega
    | true =>
      rw [if_pos rfl, List.map_cons, List.map_cons, List.sum_cons]
      have := he p (hl p List.mem_cons_self) h
      omega
/-- what leaned returns -/
def leanL (ps : List Pn) : List Pn := joinL (gath (rootedL ps)).out
theorem leanL_jn {m : Nat} {ps : List Pn} (h : ∀ p ∈ ps, p.2.length = m + 1) (pt : List Nat) : Jn pt m (leanL ps) (gath (rootedL ps)).out := joinL_jn (gath_ok (rootedL_ok h)) pt
theorem leanL_wr {m : Nat} {ps : List Pn} (h : ∀ p ∈ ps, p.2.length = m + 1) (pt : List Nat) : wr pt (leanL ps) = wr pt ps := (leanL_jn h pt).w.trans ((gath_wr (rootedL_ok h) pt).trans (rootedL_wr pt ps))
theorem leanL_open {m : Nat} {ps : List Pn} (h : ∀ p ∈ ps, p.2.length = m + 1) : nOpen (leanL ps) = nPow (normL (rootedL ps)) := (leanL_jn h []).n.trans (gath_count (rootedL_ok h)).symm
theorem leanL_sum {m : Nat} (e : Pn → Nat) (e1 : ∀ p : Pn, p.2.length = m + 1 → keepR p = true → e (rootP p) ≤ e p)
    (e2 : ∀ (u p : Pn), OkR m u → OkR m p → isOpen u.2 = true → isOpen p.2 = true → e (u.1, addF u.2 (0 :: p.2.tail)) + ((cons0 p).map e).sum ≤ e u + e p)
    (e3 : ∀ (u v : W), u ≠ [] → v ≠ [] → e (u ++ v, one1 m) ≤ e (u, one1 m) + e (v, one1 m)) {ps : List Pn} (h : ∀ p ∈ ps, p.2.length = m + 1) : ((leanL ps).map e).sum ≤ (ps.map e).sum := by
  have a := joinL_sum e e3 (gath (rootedL ps)).out [] (fun p hp => absurd hp List.not_mem_nil) (gath_ok (rootedL_ok h))
  have b := gath_le e e2 (rootedL_ok h)
  have c := rootedL_sum e e1 ps h
  have z : (([] : List Pn).map e).sum = 0 := rfl
  unfold leanL joinL
  omega
/-! ### the four of a vector -/
def fxV (p : Pn) : Bool := decide (p.2 = one1 (p.2.length - 1))
def v0 (p : Pn) : Nat := p.1.length
def v1 (p : Pn) : Nat := if fxV p then 0 else 1
def v2 (p : Pn) : Nat := if fxV p then 0 else (p.2.tail.filter fun n => decide (n ≠ 0)).length
def v3 (p : Pn) : Nat := if fxV p then 0 else if p.2.headD 0 = 0 then 0 else 1
theorem fx_open {p : Pn} (h : isOpen p.2 = true) : fxV p = false := decide_eq_false fun e => by rw [e, open_one] at h; cases h
theorem fx_one (w : W) (m : Nat) : fxV (w, one1 m) = true := decide_eq_true (by show one1 m = one1 ((one1 m).length - 1); unfold one1; simp)
theorem nz_map (k : Nat) (hk : 0 < k) : ∀ l : List Nat, ((l.map fun x => k * x).filter fun n => decide (n ≠ 0)).length = (l.filter fun n => decide (n ≠ 0)).length
  | [] => rfl
  | a :: l => by
    rw [List.map_cons, List.filter_cons, List.filter_cons]
    by_cases z : a = 0
    · rw [if_neg (by rw [z]; simp), if_neg (by rw [z]; simp), nz_map k hk l]
    · rw [if_pos (by have : k * a ≠ 0 := Nat.mul_ne_zero (by omega) z; simp [this]), if_pos (by simp [z]), List.length_cons, List.length_cons, nz_map k hk l]
theorem nz_add : ∀ a b : List Nat, ((addF a b).filter fun n => decide (n ≠ 0)).length ≤ (a.filter fun n => decide (n ≠ 0)).length + (b.filter fun n => decide (n ≠ 0)).length
  | [], b => by unfold addF; simp
  | a :: as, [] => by unfold addF; simp
  | a :: as, b :: bs => by
    have ih := nz_add as bs
    have e : addF (a :: as) (b :: bs) = (a + b) :: addF as bs := rfl
    rw [e, List.filter_cons, List.filter_cons, List.filter_cons]
    by_cases za : a = 0
    · by_cases zb : b = 0
      · rw [if_neg (by simp [za, zb]), if_neg (by simp [za]), if_neg (by simp [zb])]; exact ih
      · rw [if_pos (by simp [zb]), if_neg (by simp [za]), if_pos (by simp [zb]), List.length_cons, List.length_cons]; omega
    · rw [if_pos (by simp [za]), if_pos (by simp [za]), List.length_cons, List.length_cons]
      split
      · rw [List.length_cons]; omega
      · omega
theorem tail_add {a b : F} : (addF a b).tail = addF a.tail b.tail := by
  cases a with
  | nil => rfl
  | cons x a => cases b with
    | nil => unfold addF; simp
    | cons y b => rfl
theorem cons0_sum (e : Pn → Nat) (p : Pn) : ((cons0 p).map e).sum = if p.2.headD 0 = 0 then 0 else e (p.1, p.2.headD 0 :: List.replicate (p.2.length - 1) 0) := by
  unfold cons0
  split <;> simp
theorem nz_rep : ∀ m : Nat, ((List.replicate m 0).filter fun n => decide (n ≠ 0)).length = 0 := fun m => by
  rw [List.filter_eq_nil_iff.mpr fun x hx => by rw [(List.mem_replicate.mp hx).2]; decide]
  rfl
theorem lean_v0 {m : Nat} {ps : List Pn} (h : ∀ p ∈ ps, p.2.length = m + 1) : ((leanL ps).map v0).sum ≤ (ps.map v0).sum := by
  refine leanL_sum v0 (fun p _ hk => ?_) (fun u p hu hp ou op => ?_) (fun u v _ _ => ?_) h
  · unfold rootP v0
    split
    · show (p.1.take _).length ≤ _
      rw [List.length_take]; omega
    · exact Nat.le_refl _
  · rw [cons0_sum]
    show u.1.length + (if _ then 0 else p.1.length) ≤ u.1.length + p.1.length
    split <;> omega
  · show (u ++ v).length ≤ u.length + v.length
    rw [List.length_append]
    exact Nat.le_refl _
theorem sum_open {m : Nat} {u p : Pn} (hu : OkR m u) (hp : OkR m p) (op : isOpen p.2 = true) : isOpen (addF u.2 (0 :: p.2.tail)) = true := open_add (by rw [hu.len, List.length_cons, List.length_tail, hp.len]; omega) op
theorem lean_v1 {m : Nat} {ps : List Pn} (h : ∀ p ∈ ps, p.2.length = m + 1) : ((leanL ps).map v1).sum ≤ (ps.map v1).sum := by
  have one : ∀ q, v1 q ≤ 1 := fun q => by unfold v1; split <;> omega
  refine leanL_sum v1 (fun p _ hk => ?_) (fun u p hu hp ou op => ?_) (fun u v _ _ => ?_) h
  · unfold rootP
    cases ho : isOpen p.2 with
    | false => exact Nat.le_refl _
    | true =>
      have a : v1 p = 1 := by unfold v1; rw [fx_open ho]; rfl
      rw [a]
      exact one _
  · rw [cons0_sum]
    have a : v1 p = 1 := by unfold v1; rw [fx_open op]; rfl
    have b : v1 u = 1 := by unfold v1; rw [fx_open ou]; rfl
    have c : ∀ q, v1 q ≤ 1 := fun q => by unfold v1; split <;> omega
    have := c (u.1, addF u.2 (0 :: p.2.tail))
    have := c (p.1, p.2.headD 0 :: List.replicate (p.2.length - 1) 0)
    split <;> omega
  · unfold v1
    rw [fx_one, fx_one, fx_one]
    exact Nat.le_refl _
theorem lean_v2 {m : Nat} {ps : List Pn} (h : ∀ p ∈ ps, p.2.length = m + 1) : ((leanL ps).map v2).sum ≤ (ps.map v2).sum := by
  refine leanL_sum v2 (fun p _ hk => ?_) (fun u p hu hp ou op => ?_) (fun u v _ _ => ?_) h
  · unfold rootP
    cases ho : isOpen p.2 with
    | false => exact Nat.le_refl _
    | true =>
      have a : v2 p = (p.2.tail.filter fun n => decide (n ≠ 0)).length := by unfold v2; rw [fx_open ho]; rfl
      rw [a]
      show v2 (p.1.take (rootN p.1), timesF (p.1.length / rootN p.1) p.2) ≤ _
      have b : v2 (p.1.take (rootN p.1), timesF (p.1.length / rootN p.1) p.2) = ((timesF (p.1.length / rootN p.1) p.2).tail.filter fun n => decide (n ≠ 0)).length := by
        unfold v2
        rw [fx_open (p := (p.1.take (rootN p.1), timesF (p.1.length / rootN p.1) p.2)) (by show isOpen (timesF _ p.2) = true; rw [open_timesA (root_times (keepR_iff.mp hk).1)]; exact ho)]
        rfl
      rw [b]
      unfold timesF
      rw [← List.map_tail, nz_map _ (root_times (keepR_iff.mp hk).1)]
      exact Nat.le_refl _
  · rw [cons0_sum]
    have a : v2 p = (p.2.tail.filter fun n => decide (n ≠ 0)).length := by unfold v2; rw [fx_open op]; rfl
    have b : v2 u = (u.2.tail.filter fun n => decide (n ≠ 0)).length := by unfold v2; rw [fx_open ou]; rfl
    have c : v2 (u.1, addF u.2 (0 :: p.2.tail)) ≤ v2 u + v2 p := by
      rw [a, b]
      unfold v2
      split
      · omega
      · show ((addF u.2 (0 :: p.2.tail)).tail.filter _).length ≤ _
        rw [tail_add]
        exact nz_add _ _
    have d : v2 (p.1, p.2.headD 0 :: List.replicate (p.2.length - 1) 0) = 0 := by
      unfold v2
      split
      · rfl
      · exact nz_rep _
    rw [d]
    split <;> omega
  · unfold v2
    rw [fx_one, fx_one, fx_one]
    exact Nat.le_refl _
theorem lean_v3 {m : Nat} {ps : List Pn} (h : ∀ p ∈ ps, p.2.length = m + 1) : ((leanL ps).map v3).sum ≤ (ps.map v3).sum := by
  have one : ∀ q, v3 q ≤ 1 := fun q => by unfold v3; split <;> (try split) <;> omega
  refine leanL_sum v3 (fun p _ hk => ?_) (fun u p hu hp ou op => ?_) (fun u v _ _ => ?_) h
  · unfold rootP
    cases ho : isOpen p.2 with
    | false => exact Nat.le_refl _
    | true =>
      have a : v3 p = if p.2.headD 0 = 0 then 0 else 1 := by unfold v3; rw [fx_open ho]; rfl
      rw [a]
      by_cases z : p.2.headD 0 = 0
      · rw [if_pos z]
        have : (timesF (p.1.length / rootN p.1) p.2).headD 0 = 0 := by
          unfold timesF
          cases e : p.2 with
          | nil => rfl
          | cons x f =>
            rw [e] at z
            have z : x = 0 := z
            rw [z]
            rfl
        have b : v3 (p.1.take (rootN p.1), timesF (p.1.length / rootN p.1) p.2) = 0 := by
          unfold v3
          split
          · rfl
          · first | rfl | exact if_pos this
        exact Nat.le_of_eq b
      · rw [if_neg z]
        exact one _
  · rw [cons0_sum]
    have a : v3 p = if p.2.headD 0 = 0 then 0 else 1 := by unfold v3; rw [fx_open op]; rfl
    have b : v3 u = if u.2.headD 0 = 0 then 0 else 1 := by unfold v3; rw [fx_open ou]; rfl
    have c : v3 (u.1, addF u.2 (0 :: p.2.tail)) = v3 u := by
      rw [b]
      unfold v3
      rw [fx_open (p := (u.1, addF u.2 (0 :: p.2.tail))) (sum_open hu hp op)]
      show (if (addF u.2 (0 :: p.2.tail)).headD 0 = 0 then 0 else 1) = _
      rw [addF_head (by rw [hu.len, List.length_tail, hp.len]; omega)]
    rw [c, a]
    have := one (p.1, p.2.headD 0 :: List.replicate (p.2.length - 1) 0)
    split <;> omega
  · unfold v3
    rw [fx_one, fx_one, fx_one]
    exact Nat.le_refl _
end NM

set_option Elab.async false
set_option linter.all false
set_option maxRecDepth 100000
set_option maxHeartbeats 4000000
namespace K67
open PySem PySem.Spec PyProof.Rows L2 CK
def topS (i : Nat) : Stmt := PySem.Challenge.pw_countscribe_k67_whole_leaned_writers.main.body.getD i (.Pass ⟨0, 0, 0, 0⟩)
theorem sc_is_whole : FnScope ["value"] ["value"] (C8.fnScope (topS 8)) := C8.fnScope_by (by decide +kernel)
theorem sc_is_count : FnScope ["value"] ["value"] (C8.fnScope (topS 9)) := C8.fnScope_by (by decide +kernel)
theorem sc_is_within : FnScope ["value", "low", "high"] ["value", "low", "high"] (C8.fnScope (topS 10)) := C8.fnScope_by (by decide +kernel)
theorem sc_is_lettered : FnScope ["value", "most"] ["value", "most"] (C8.fnScope (topS 11)) := C8.fnScope_by (by decide +kernel)
theorem sc_need_within : FnScope ["value", "low", "high"] ["value", "low", "high"] (C8.fnScope (topS 12)) := C8.fnScope_by (by decide +kernel)
theorem sc_need_many : FnScope ["value"] ["value"] (C8.fnScope (topS 13)) := C8.fnScope_by (by decide +kernel)
theorem sc_is_form_for : FnScope ["many", "value", "number"] ["many", "value"] (C8.fnScope (topS 15)) := C8.fnScope_by (by decide +kernel)
theorem sc_plain_form : FnScope ["number", "many"] ["number", "many"] (C8.fnScope (topS 16)) := C8.fnScope_by (by decide +kernel)
theorem sc_form_sum : FnScope ["one", "other", "left", "right"] ["one", "other"] (C8.fnScope (topS 17)) := C8.fnScope_by (by decide +kernel)
theorem sc_form_times : FnScope ["number", "form", "own"] ["number", "form"] (C8.fnScope (topS 18)) := C8.fnScope_by (by decide +kernel)
theorem sc_turned_word : FnScope ["word", "by", "at"] ["word", "by"] (C8.fnScope (topS 20)) := C8.fnScope_by (by decide +kernel)
theorem sc_stretch : FnScope ["word", "start", "size", "at"] ["word", "start", "size"] (C8.fnScope (topS 21)) := C8.fnScope_by (by decide +kernel)
theorem sc_alike_ahead : FnScope ["one", "other", "low", "high", "middle"] ["one", "other"] (C8.fnScope (topS 22)) := C8.fnScope_by (by decide +kernel)
theorem sc_alike_behind : FnScope ["one", "other"] ["one", "other"] (C8.fnScope (topS 23)) := C8.fnScope_by (by decide +kernel)
theorem sc_follows : FnScope ["word", "text"] ["word", "text"] (C8.fnScope (topS 24)) := C8.fnScope_by (by decide +kernel)
theorem sc_border_sizes : FnScope ["word", "sizes", "size", "at"] ["word"] (C8.fnScope (topS 25)) := C8.fnScope_by (by decide +kernel)
theorem sc_root_size : FnScope ["word", "step"] ["word"] (C8.fnScope (topS 26)) := C8.fnScope_by (by decide +kernel)
theorem sc_is_piece : FnScope ["many", "value"] ["many", "value"] (C8.fnScope (topS 31)) := C8.fnScope_by (by decide +kernel)
theorem sc_is_open_form : FnScope ["form"] ["form"] (C8.fnScope (topS 32)) := C8.fnScope_by (by decide +kernel)
theorem sc_is_power : FnScope ["piece"] ["piece"] (C8.fnScope (topS 33)) := C8.fnScope_by (by decide +kernel)
theorem sc_fixed_piece : FnScope ["word", "many"] ["word", "many"] (C8.fnScope (topS 34)) := C8.fnScope_by (by decide +kernel)
theorem sc_measure : FnScope ["pieces", "word", "form"] ["pieces"] (C8.fnScope (topS 35)) := C8.fnScope_by (by decide +kernel)
theorem sc_normal_pieces : FnScope ["pieces", "ready", "word", "form", "size"] ["pieces"] (C8.fnScope (topS 36)) := C8.fnScope_by (by decide +kernel)
theorem sc_put_fixed : FnScope ["ready", "word", "many"] ["ready", "word", "many"] (C8.fnScope (topS 37)) := C8.fnScope_by (by decide +kernel)
theorem sc_put_power : FnScope ["ready", "word", "form", "many", "behind", "ahead", "moved"] ["ready", "word", "form"] (C8.fnScope (topS 38)) := C8.fnScope_by (by decide +kernel)
theorem sc_need_pieces : FnScope ["many", "pieces", "item"] ["many", "pieces"] (C8.fnScope (topS 40)) := C8.fnScope_by (by decide +kernel)
theorem sc_need_measure : FnScope ["total"] ["total"] (C8.fnScope (topS 41)) := C8.fnScope_by (by decide +kernel)
theorem sc_normal : FnScope ["many", "pieces"] ["many", "pieces"] (C8.fnScope (topS 42)) := C8.fnScope_by (by decide +kernel)
theorem sc_OpenText___init__ : FnScope ["self", "many", "pieces"] ["self", "many", "pieces"] (C8.fnScope (inClass (topS 44) 0)) := C8.fnScope_by (by decide +kernel)
theorem sc_OpenText___eq__ : FnScope ["self", "other"] ["self", "other"] (C8.fnScope (inClass (topS 44) 1)) := C8.fnScope_by (by decide +kernel)
theorem sc_OpenText_many : FnScope ["self"] ["self"] (C8.fnScope (inClass (topS 44) 2)) := C8.fnScope_by (by decide +kernel)
theorem sc_OpenText_pieces : FnScope ["self"] ["self"] (C8.fnScope (inClass (topS 44) 3)) := C8.fnScope_by (by decide +kernel)
theorem sc_leaned : FnScope ["many", "pieces"] ["many", "pieces"] (C8.fnScope (topS 46)) := C8.fnScope_by (by decide +kernel)
theorem sc_rooted : FnScope ["pieces", "found", "word", "form", "size", "number"] ["pieces"] (C8.fnScope (topS 47)) := C8.fnScope_by (by decide +kernel)
theorem sc_powers_gathered : FnScope ["pieces", "ready", "last", "start", "bare", "word", "form"] ["pieces"] (C8.fnScope (topS 48)) := C8.fnScope_by (by decide +kernel)
theorem sc_is_same_power : FnScope ["ahead", "between", "word"] ["ahead", "between", "word"] (C8.fnScope (topS 49)) := C8.fnScope_by (by decide +kernel)
theorem sc_fixed_joined : FnScope ["pieces", "ready", "word", "form", "single"] ["pieces"] (C8.fnScope (topS 50)) := C8.fnScope_by (by decide +kernel)
theorem sc_law_hash : FnScope ["_law_seed", "_law_index", "_law_mixed"] ["_law_seed", "_law_index"] (C8.fnScope (topS 52)) := C8.fnScope_by (by decide +kernel)
theorem sc_law_random : FnScope ["_law_generator_here", "_law_bound", "_law_drawn", "_law_turn"] ["_law_generator_here", "_law_bound"] (C8.fnScope (topS 53)) := C8.fnScope_by (by decide +kernel)
theorem sc_law_cell : FnScope ["_law_script", "_law_index"] ["_law_script", "_law_index"] (C8.fnScope (topS 54)) := C8.fnScope_by (by decide +kernel)
theorem sc_law_generator : FnScope ["_law_script", "_law_index", "_law_seed"] ["_law_script", "_law_index"] (C8.fnScope (topS 55)) := C8.fnScope_by (by decide +kernel)
theorem sc_law_letters : FnScope ["_law_generator_here", "_law_left", "_law_turn"] ["_law_generator_here"] (C8.fnScope (topS 56)) := C8.fnScope_by (by decide +kernel)
theorem sc_law_word : FnScope ["_law_generator_here", "_law_signs", "_law_least", "_law_most", "_law_many", "_law_turn"] ["_law_generator_here", "_law_signs", "_law_least", "_law_most"] (C8.fnScope (topS 57)) := C8.fnScope_by (by decide +kernel)
theorem sc_law_number : FnScope ["_law_generator_here", "_law_great", "_law_way"] ["_law_generator_here", "_law_great"] (C8.fnScope (topS 58)) := C8.fnScope_by (by decide +kernel)
theorem sc_law_form : FnScope ["_law_generator_here", "_law_many", "_law_most", "_law_great", "_law_turn"] ["_law_generator_here", "_law_many", "_law_most", "_law_great"] (C8.fnScope (topS 59)) := C8.fnScope_by (by decide +kernel)
theorem sc_law_piece : FnScope ["_law_generator_here", "_law_many", "_law_signs", "_law_base", "_law_great", "_law_way", "_law_turn", "_law_one", "_law_word_here"] ["_law_generator_here", "_law_many", "_law_signs", "_law_base", "_law_great"] (C8.fnScope (topS 60)) := C8.fnScope_by (by decide +kernel)
theorem sc_law_raw : FnScope ["_law_generator_here", "_law_many", "_law_signs", "_law_most", "_law_great", "_law_base", "_law_found", "_law_turn"] ["_law_generator_here", "_law_many", "_law_signs", "_law_most", "_law_great"] (C8.fnScope (topS 61)) := C8.fnScope_by (by decide +kernel)
theorem sc_law_write : FnScope ["_law_pieces", "_law_point", "_law_found", "_law_word_here", "_law_form_here", "_law_times", "_law_number_here", "_law_count_here"] ["_law_pieces", "_law_point"] (C8.fnScope (topS 62)) := C8.fnScope_by (by decide +kernel)
theorem sc_law_vector : FnScope ["_law_pieces", "_law_letters_here", "_law_signs", "_law_unknowns", "_law_numbers", "_law_word_here", "_law_form_here", "_law_number_here"] ["_law_pieces"] (C8.fnScope (topS 63)) := C8.fnScope_by (by decide +kernel)
theorem sc_law_count : FnScope ["_law_thing"] ["_law_thing"] (C8.fnScope (topS 64)) := C8.fnScope_by (by decide +kernel)
theorem sc_law_is_piece : FnScope ["_law_many", "_law_thing", "_law_number_here"] ["_law_many", "_law_thing"] (C8.fnScope (topS 65)) := C8.fnScope_by (by decide +kernel)
theorem sc_law_are_pieces : FnScope ["_law_many", "_law_things", "_law_thing"] ["_law_many", "_law_things"] (C8.fnScope (topS 66)) := C8.fnScope_by (by decide +kernel)
theorem sc_law_primitive : FnScope ["_law_word_here"] ["_law_word_here"] (C8.fnScope (topS 67)) := C8.fnScope_by (by decide +kernel)
theorem sc_law_lean : FnScope ["_law_text", "_law_value", "_law_many", "_law_one", "_law_none", "_law_word_here", "_law_form_here", "_law_place", "_law_found", "_law_pieces"] ["_law_text", "_law_value"] (C8.fnScope (topS 68)) := C8.fnScope_by (by decide +kernel)
theorem sc_law_stepped : FnScope ["_law_generator_here", "_law_many", "_law_pieces", "_law_at", "_law_one", "_law_word_here", "_law_form_here", "_law_way", "_law_first", "_law_number_here", "_law_rest", "_law_taken", "_law_turned"] ["_law_generator_here", "_law_many", "_law_pieces"] (C8.fnScope (topS 69)) := C8.fnScope_by (by decide +kernel)
theorem sc_law_one_right : FnScope ["_law_many", "_law_pieces", "_law_text", "_law_kept", "_law_told", "_law_low", "_law_high", "_law_again"] ["_law_many", "_law_pieces"] (C8.fnScope (topS 70)) := C8.fnScope_by (by decide +kernel)
theorem sc_law : FnScope ["_law_script", "_law_index", "_law_generator_here", "_law_many", "_law_signs", "_law_pieces", "_law_first", "_law_turn", "_law_point", "_law_unknown", "_law_due", "_law_text"] ["_law_script"] (C8.fnScope (topS 71)) := C8.fnScope_by (by decide +kernel)
structure Txt (K : PySem.W.Frag) (mg : Str → Option Value) (C : Addr) : Prop where
  k_OpenText : ClF K mg "OpenText" C
  f_many : NoAttr K C "_many"
  f_pieces : NoAttr K C "_pieces"
  d_is_whole : DefF K mg "is_whole" (topS 8) ["value"]
  d_is_count : DefF K mg "is_count" (topS 9) ["value"]
  d_is_within : DefF K mg "is_within" (topS 10) ["value", "low", "high"]
  d_is_lettered : DefF K mg "is_lettered" (topS 11) ["value", "most"]
  d_need_within : DefF K mg "need_within" (topS 12) ["value", "low", "high"]
  d_need_many : DefF K mg "need_many" (topS 13) ["value"]
  d_is_form_for : DefF K mg "is_form_for" (topS 15) ["many", "value"]
  d_plain_form : DefF K mg "plain_form" (topS 16) ["number", "many"]
  d_form_sum : DefF K mg "form_sum" (topS 17) ["one", "other"]
  d_form_times : DefF K mg "form_times" (topS 18) ["number", "form"]
  d_turned_word : DefF K mg "turned_word" (topS 20) ["word", "by"]
  d_stretch : DefF K mg "stretch" (topS 21) ["word", "start", "size"]
  d_alike_ahead : DefF K mg "alike_ahead" (topS 22) ["one", "other"]
  d_alike_behind : DefF K mg "alike_behind" (topS 23) ["one", "other"]
  d_follows : DefF K mg "follows" (topS 24) ["word", "text"]
  d_border_sizes : DefF K mg "border_sizes" (topS 25) ["word"]
  d_root_size : DefF K mg "root_size" (topS 26) ["word"]
  d_is_piece : DefF K mg "is_piece" (topS 31) ["many", "value"]
  d_is_open_form : DefF K mg "is_open_form" (topS 32) ["form"]
  d_is_power : DefF K mg "is_power" (topS 33) ["piece"]
  d_fixed_piece : DefF K mg "fixed_piece" (topS 34) ["word", "many"]
  d_measure : DefF K mg "measure" (topS 35) ["pieces"]
  d_normal_pieces : DefF K mg "normal_pieces" (topS 36) ["pieces"]
  d_put_fixed : DefF K mg "put_fixed" (topS 37) ["ready", "word", "many"]
  d_put_power : DefF K mg "put_power" (topS 38) ["ready", "word", "form"]
  d_need_pieces : DefF K mg "need_pieces" (topS 40) ["many", "pieces"]
  d_need_measure : DefF K mg "need_measure" (topS 41) ["total"]
  d_normal : DefF K mg "normal" (topS 42) ["many", "pieces"]
  d_OpenText___init__ : MetF K C "__init__" "OpenText.__init__" (inClass (topS 44) 0) ["self", "many", "pieces"]
  d_OpenText___eq__ : MetF K C "__eq__" "OpenText.__eq__" (inClass (topS 44) 1) ["self", "other"]
  d_OpenText_many : MetF K C "many" "OpenText.many" (inClass (topS 44) 2) ["self"]
  d_OpenText_pieces : MetF K C "pieces" "OpenText.pieces" (inClass (topS 44) 3) ["self"]
  d_leaned : DefD K mg "leaned" (topS 46) [] []
  d_rooted : DefF K mg "rooted" (topS 47) ["pieces"]
  d_powers_gathered : DefF K mg "powers_gathered" (topS 48) ["pieces"]
  d_is_same_power : DefF K mg "is_same_power" (topS 49) ["ahead", "between", "word"]
  d_fixed_joined : DefF K mg "fixed_joined" (topS 50) ["pieces"]
  d_law_hash : DefF K mg "_law_hash" (topS 52) ["_law_seed", "_law_index"]
  d_law_random : DefF K mg "_law_random" (topS 53) ["_law_generator_here", "_law_bound"]
  d_law_cell : DefF K mg "_law_cell" (topS 54) ["_law_script", "_law_index"]
  d_law_generator : DefF K mg "_law_generator" (topS 55) ["_law_script", "_law_index"]
  d_law_letters : DefF K mg "_law_letters" (topS 56) ["_law_generator_here"]
  d_law_word : DefF K mg "_law_word" (topS 57) ["_law_generator_here", "_law_signs", "_law_least", "_law_most"]
  d_law_number : DefF K mg "_law_number" (topS 58) ["_law_generator_here", "_law_great"]
  d_law_form : DefF K mg "_law_form" (topS 59) ["_law_generator_here", "_law_many", "_law_most", "_law_great"]
  d_law_piece : DefF K mg "_law_piece" (topS 60) ["_law_generator_here", "_law_many", "_law_signs", "_law_base", "_law_great"]
  d_law_raw : DefF K mg "_law_raw" (topS 61) ["_law_generator_here", "_law_many", "_law_signs", "_law_most", "_law_great"]
  d_law_write : DefF K mg "_law_write" (topS 62) ["_law_pieces", "_law_point"]
  d_law_vector : DefF K mg "_law_vector" (topS 63) ["_law_pieces"]
  d_law_count : DefF K mg "_law_count" (topS 64) ["_law_thing"]
  d_law_is_piece : DefF K mg "_law_is_piece" (topS 65) ["_law_many", "_law_thing"]
  d_law_are_pieces : DefF K mg "_law_are_pieces" (topS 66) ["_law_many", "_law_things"]
  d_law_primitive : DefF K mg "_law_primitive" (topS 67) ["_law_word_here"]
  d_law_lean : DefF K mg "_law_lean" (topS 68) ["_law_text", "_law_value"]
  d_law_stepped : DefF K mg "_law_stepped" (topS 69) ["_law_generator_here", "_law_many", "_law_pieces"]
  d_law_one_right : DefF K mg "_law_one_right" (topS 70) ["_law_many", "_law_pieces"]
  d_law : DefF K mg "law" (topS 71) ["_law_script"]
  m_all : mg "all" = none
  m_any : mg "any" = none
  m_bool : mg "bool" = none
  m_int : mg "int" = none
  m_isinstance : mg "isinstance" = none
  m_len : mg "len" = none
  m_list : mg "list" = none
  m_max : mg "max" = none
  m_min : mg "min" = none
  m_range : mg "range" = none
  m_repr : mg "repr" = none
  m_str : mg "str" = none
  m_sum : mg "sum" = none
  m_tuple : mg "tuple" = none
  m_zip : mg "zip" = none
  k_MOST_MEASURE : ∃ u, mg "MOST_MEASURE" = some u ∧ RelV (.int 2000) u
  k_MOST_PIECES : ∃ u, mg "MOST_PIECES" = some u ∧ RelV (.int 5000) u
  k_MOST_PIECE_LETTERS : ∃ u, mg "MOST_PIECE_LETTERS" = some u ∧ RelV (.int 2000) u
  k_MOST_UNKNOWNS : ∃ u, mg "MOST_UNKNOWNS" = some u ∧ RelV (.int 3) u
end K67

set_option Elab.async false
set_option linter.all false
set_option maxRecDepth 100000
set_option maxHeartbeats 2000000
namespace K67
open PySem PySem.Spec PyProof.Rows L2 CK SX NM
/-! ### letters -/
def Low (w : List Nat) : Prop := ∀ c ∈ w, 97 ≤ c ∧ c ≤ 122
theorem low_cases {c : Nat} (h : 97 ≤ c ∧ c ≤ 122) : Unicode.isAlpha c = true ∧ Unicode.isLower c = true ∧ (Unicode.isUpper c || Unicode.isTitle c) = false := by
  have : c ∈ List.range' 97 26 := by
    rw [List.mem_range']
    exact ⟨c - 97, by omega, by omega⟩
  have all : (List.range' 97 26).all (fun c => Unicode.isAlpha c && Unicode.isLower c && !(Unicode.isUpper c || Unicode.isTitle c)) = true := by decide +kernel
  have := List.all_eq_true.mp all c this
  simp only [Bool.and_eq_true, Bool.not_eq_true'] at this
  exact ⟨this.1.1, this.1.2, this.2⟩
theorem low_ascii {w : List Nat} (h : Low w) : Txt.isascii (S w) = true := by
  unfold Txt.isascii
  rw [← Array.all_toList, List.all_eq_true]
  exact fun c hc => decide_eq_true (by have := h c hc; omega)
theorem low_alpha {w : List Nat} (h : Low w) (ne : w ≠ []) : Txt.isalpha (S w) = true := by
  unfold Txt.isalpha
  rw [← Array.all_toList, S_len, decide_eq_true (List.length_pos_iff.mpr ne), Bool.true_and, List.all_eq_true]
  exact fun c hc => (low_cases (h c hc)).1
theorem low_lower {w : List Nat} (h : Low w) (ne : w ≠ []) : Txt.islower (S w) = true := by
  unfold Txt.islower
  rw [← Array.any_toList, ← Array.any_toList, Bool.and_eq_true]
  constructor
  · obtain ⟨c, hc⟩ := List.exists_mem_of_ne_nil w ne
    exact List.any_eq_true.mpr ⟨c, hc, (low_cases (h c hc)).2.1⟩
  · rw [Bool.not_eq_true', List.any_eq_false]
    exact fun c hc => by rw [(low_cases (h c hc)).2.2]; exact Bool.false_ne_true
section
variable {P : Program} {w : World} {K : PySem.W.Frag} {mg : Str → Option Value} {base : Heap} {C : Addr}
/-! ### checks -/
def sp_is_whole : Sp := fun vs H Q _ => ∃ v, vs = [v] ∧ Kn H v ∧ Q (.bl (isW v)) H
theorem c_is_whole (T : Txt K mg C) : C8.Cal P w K mg base 1 "is_whole" sp_is_whole [] := by
  refine calF T.d_is_whole sc_is_whole (fun vs H Q E h => ?_) (fun f cdv A outer s H vs Q E hr h => ?_)
  · obtain ⟨v, rfl, _⟩ := h; rfl
  · obtain ⟨v, rfl, k, q⟩ := h
    refine ⟨_, (pss_one (ps_ret (pe_and (pe_callB call_isK (by rfl) T.m_isinstance (by decide +kernel) (pa_cons (pv 0) (pa_cons (pe_bltn (v := .ty "int") (by rfl) T.m_int (by decide +kernel) rfl) pa_nil))) (pe_one (pe_not (pe_callB call_isK (by rfl) T.m_isinstance (by decide +kernel) (pa_cons (pv 0) (pa_cons (pe_bltn (v := .ty "bool") (by rfl) T.m_bool (by decide +kernel) rfl) pa_nil)))))))), ?_⟩
    refine ⟨v, rfl, v, "int", _, rfl, k, kit_int k, _, rfl, ite2 (fun e => ?_) (fun e => ?_)⟩
    · refine ⟨v, rfl, v, "bool", _, rfl, k, kit_bool k, _, rfl, ?_⟩
      rw [show (!isBo v) = isW v by cases v <;> first | rfl | (exact absurd e Bool.false_ne_true)]
      exact q
    · rw [show false = isW v by cases v <;> first | rfl | (exact absurd rfl e)]
      exact q
def sp_is_count : Sp := fun vs H Q _ => ∃ v, vs = [v] ∧ Kn H v ∧ Q (.bl (isC v)) H
theorem c_is_count (T : Txt K mg C) : C8.Cal P w K mg base 2 "is_count" sp_is_count [] := by
  refine calF T.d_is_count sc_is_count (fun vs H Q E h => ?_) (fun f cdv A outer s H vs Q E hr h => ?_)
  · obtain ⟨v, rfl, _⟩ := h; rfl
  · obtain ⟨v, rfl, k, q⟩ := h
    refine ⟨_, (pss_one (ps_ret (pe_and (C8.pe_c (c_is_whole T) hr (by decide) (by rfl) (pa_cons (pv 0) pa_nil)) (pe_one (pe_cmpR op_ge (pv 0) pe_int (nomark _)))))), ?_⟩
    refine ⟨v, rfl, v, rfl, k, _, rfl, ite2 (fun e => ?_) (fun e => ?_)⟩
    · cases v <;> first | (exact absurd e Bool.false_ne_true) | exact ⟨_, rfl, _, 0, rfl, rfl, q⟩
    · rw [show false = isC v by cases v <;> first | rfl | (exact absurd rfl e)]
      exact q
def sp_is_within : Sp := fun vs H Q _ => ∃ i lo hi : Int, vs = [.int i, .int lo, .int hi] ∧ Q (.bl (decide (lo ≤ i) && decide (i ≤ hi))) H
theorem c_is_within (T : Txt K mg C) : C8.Cal P w K mg base 2 "is_within" sp_is_within [] := by
  refine calF T.d_is_within sc_is_within (fun vs H Q E h => ?_) (fun f cdv A outer s H vs Q E hr h => ?_)
  · obtain ⟨i, lo, hi, rfl, _⟩ := h; rfl
  · obtain ⟨i, lo, hi, rfl, q⟩ := h
    refine ⟨_, (pss_one (ps_ret (pe_and (C8.pe_c (c_is_whole T) hr (by decide) (by rfl) (pa_cons (pv 0) pa_nil)) (pe_one (pe_chain op_le op_le (pv 1) (pv 0) (pv 2)))))), ?_⟩
    refine ⟨.int i, rfl, .int i, rfl, .int i, _, rfl, iteT ?_⟩
    refine ⟨_, rfl, _, rfl, lo, i, rfl, rfl, _, rfl, ite2 (fun e => ?_) (fun e => ?_)⟩
    · refine ⟨_, rfl, i, hi, rfl, rfl, ?_⟩
      rw [e, Bool.true_and] at q
      exact q
    · rw [Bool.not_eq_true] at e
      rw [e, Bool.false_and] at q
      exact q
def sp_need_within : Sp := fun vs H Q _ => ∃ i lo hi : Int, vs = [.int i, .int lo, .int hi] ∧ lo ≤ i ∧ i ≤ hi ∧ Q .non H
theorem c_need_within (T : Txt K mg C) : C8.Cal P w K mg base 3 "need_within" sp_need_within [] := by
  refine calF T.d_need_within sc_need_within (fun vs H Q E h => ?_) (fun f cdv A outer s H vs Q E hr h => ?_)
  · obtain ⟨i, lo, hi, rfl, _⟩ := h; rfl
  · obtain ⟨i, lo, hi, rfl, h1, h2, q⟩ := h
    refine ⟨_, (pss_one (ps_if (pt_not (pt_val (C8.pe_c (c_is_within T) hr (by decide) (by rfl) (pa_cons (pv 0) (pa_cons (pv 1) (pa_cons (pv 2) pa_nil))))))
    (pss_one ps_never)
    pss_nil)), ?_⟩
    refine ⟨_, rfl, _, rfl, _, rfl, i, lo, hi, rfl, _, rfl, ?_⟩
    rw [decide_eq_true h1, decide_eq_true h2]
    exact iteF q
theorem len_line {w : List Nat} (h : w.length ≤ 1000000) : (S w).length ≤ sizeLine := by rw [S_len, sizeLine_eq]; omega
def sp_is_lettered : Sp := fun vs H Q _ => ∃ (z : List Nat) (m : Nat), vs = [.str (S z), .int m] ∧ z.length ≤ 1000000 ∧ Low z ∧ Q (.bl (decide (z.length ≤ m))) H
theorem S_nil {z : List Nat} (h : (S z : Str) = "") : z = [] := by
  have := congrArg Str.length h
  rw [S_len] at this
  exact List.length_eq_zero_iff.mp this
theorem c_is_lettered (T : Txt K mg C) : C8.Cal P w K mg base 1 "is_lettered" sp_is_lettered [] := by
  refine calF T.d_is_lettered sc_is_lettered (fun vs H Q E h => ?_) (fun f cdv A outer s H vs Q E hr h => ?_)
  · obtain ⟨_, _, rfl, _⟩ := h; rfl
  · obtain ⟨z, m, rfl, hl, lw, q⟩ := h
    refine ⟨_, (pss_cons (ps_if (PW.pt (pw_or (pt_not (pt_val (pe_callB call_isK (by rfl) T.m_isinstance (by decide +kernel) (pa_cons (pv 0) (pa_cons (pe_bltn (v := .ty "str") (by rfl) T.m_str (by decide +kernel) rfl) pa_nil))))) (pw_or1 (pt_cmpR op_gt (pe_callB call_len_str (by rfl) T.m_len (by decide +kernel) (pa_cons (pv 0) pa_nil)) (pv 1) (nomark _)))))
    (pss_one (ps_ret pe_bl))
    pss_nil)
    (pss_one (ps_ret (pe_or (pe_cmpR op_eq (pv 0) pe_str (nomark _)) (pe_one (pe_and (pe_m0 PySem.F.slot_str_isascii PySem.F.type_str_isascii mt_isascii (pv 0)) (pe_and (pe_m0 PySem.F.slot_str_isalpha PySem.F.type_str_isalpha mt_isalpha (pv 0)) (pe_one (pe_m0 PySem.F.slot_str_islower PySem.F.type_str_islower mt_islower (pv 0)))))))))), ?_⟩
    refine ⟨_, rfl, .str (S z), "str", true, rfl, .str _, by show kitB "str" "str" = some true; decide +kernel, _, rfl, iteF ?_⟩
    refine ⟨_, rfl, S z, rfl, len_line hl, _, rfl, _, m, rfl, rfl, _, rfl, ?_⟩
    rw [S_len]
    by_cases hm : ¬ z.length ≤ m
    · rw [decide_eq_false hm] at q
      rw [decide_eq_true (show (z.length : Int) > m by omega)]
      exact iteT q
    rw [decide_eq_true (show z.length ≤ m by omega)] at q
    rw [decide_eq_false (show ¬ (z.length : Int) > m by omega)]
    refine iteF ⟨_, rfl, rfl, _, rfl, ite2 (fun e => q) fun e => ?_⟩
    have ne : z ≠ [] := fun y => e (by rw [y]; decide +kernel)
    refine ⟨_, rfl, ⟨_, rfl⟩, _, rfl, rfl, trivial, _, rfl, ?_⟩
    rw [low_ascii lw]
    refine iteT ⟨_, rfl, ⟨_, rfl⟩, _, rfl, rfl, trivial, _, rfl, ?_⟩
    rw [low_alpha lw ne]
    refine iteT ⟨_, rfl, ⟨_, rfl⟩, _, rfl, rfl, trivial, ?_⟩
    rw [low_lower lw ne]
    exact q
def sp_need_many : Sp := fun vs H Q _ => ∃ i : Int, vs = [.int i] ∧ 0 ≤ i ∧ i ≤ 3 ∧ Q .non H
theorem c_need_many (T : Txt K mg C) : C8.Cal P w K mg base 4 "need_many" sp_need_many [] := by
  refine calF T.d_need_many sc_need_many (fun vs H Q E h => ?_) (fun f cdv A outer s H vs Q E hr h => ?_)
  · obtain ⟨v, rfl, _⟩ := h; rfl
  · obtain ⟨i, rfl, h1, h2, q⟩ := h
    refine ⟨_, (pss_one (ps_expr (C8.pe_c (c_need_within T) hr (by decide) (by rfl) (pa_cons (pv 0) (pa_cons pe_int (pa_cons (C8.pe_gc (by rfl) T.k_MOST_UNKNOWNS) pa_nil)))))), ?_⟩
    exact ⟨_, rfl, i, 0, 3, rfl, h1, h2, q⟩
/-- what is_form_for says of a value -/
def formB (H : Hp) (m : Int) : V → Bool
  | .ref a => match H a with
    | some (.tup xs) => decide ((xs.length : Int) = m + 1) && xs.all isC
    | _ => false
  | _ => false
theorem formB_tup {H : Hp} {m : Int} {a : Addr} {xs : List V} (h : H a = some (.tup xs)) : formB H m (.ref a) = (decide ((xs.length : Int) = m + 1) && xs.all isC) := by simp only [formB, h]
def sp_is_form_for : Sp := fun vs H Q _ => ∃ (m : Int) (v : V), vs = [.int m, v] ∧ Kn H v ∧ (∀ a xs, v = .ref a → H a = some (.tup xs) → xs.length < sizeLine ∧ ∀ x ∈ xs, Kn H x) ∧ ∀ H', Same H H' → Q (.bl (formB H m v)) H'
theorem c_is_form_for (T : Txt K mg C) : C8.Cal P w K mg base 3 "is_form_for" sp_is_form_for [] := by
  refine calF T.d_is_form_for sc_is_form_for (fun vs H Q E h => ?_) (fun f cdv A outer s H vs Q E hr h => ?_)
  · obtain ⟨_, _, rfl, _⟩ := h; rfl
  · obtain ⟨m, v, rfl, kn, ht, q⟩ := h
    refine ⟨_, (pss_one (ps_ret (pe_and (pe_callB call_isK (by rfl) T.m_isinstance (by decide +kernel) (pa_cons (pv 1) (pa_cons (pe_bltn (v := .ty "tuple") (by rfl) T.m_tuple (by decide +kernel) rfl) pa_nil))) (pe_and (pe_cmpR op_eq (pe_callB call_len_seq (by rfl) T.m_len (by decide +kernel) (pa_cons (pv 1) pa_nil)) (pe_op op_add (pv 0) pe_int) (nomark _)) (pe_one (pe_callB (cr_all rfl) (by rfl) T.m_all (by decide +kernel) (pa_cons (pe_lc (own := [("number", 2)]) (by rfl) sc_is_form_for.nd (pi_tup (pv 1)) (blkOk_by (N := ["many", "value", "number"]) (sc := C8.fnScope (topS 15)) (own := [("number", 2)]) (by decide +kernel)) (fun _ _ _ _ _ => (pg_name (i := 2) sc_is_form_for.nd rfl (Or.inl rfl))) (fun _ _ _ _ _ => pts_nil) (fun _ _ _ _ _ => (C8.pe_c (c_is_count T) hr (by decide) (by rfl) (pa_cons (pv 2) pa_nil)))) pa_nil))))))), ?_⟩
    refine ⟨_, rfl, v, "tuple", _, rfl, kn, kit_tuple kn, _, rfl, ite2 (fun e => ?_) (fun e => ?_)⟩
    · cases kn <;> first | (exact absurd e Bool.false_ne_true) | skip
      · rename_i a xs ha
        simp only [isTu, ha] at e
        exact absurd e (by decide)
      · rename_i a xs ha
        obtain ⟨hl, hk⟩ := ht a xs rfl ha
        rw [formB_tup ha] at q
        refine ⟨_, rfl, a, xs, rfl, .inr (.inl (.inl ha)), _, rfl, _, _, rfl, rfl, rfl, _, rfl, ite2 (fun e => ?_) (fun e => ?_)⟩
        · have e' : (xs.length : Int) = m + 1 := V.int.inj (of_decide_eq_true e)
          rw [decide_eq_true e', Bool.true_and] at q
          refine ⟨_, rfl, a, rfl, ⟨xs, .inl (.inl ha)⟩, ?_⟩
          refine fun D hD => lcT_map (fun x => .bl (isC x)) ha hl (fun i x H' R hx s q' => ?_) hD fun H' s hL => ?_
          · exact ⟨rfl, x, rfl, x, rfl, (hk x (List.mem_of_getElem? hx)).same s, q' _ (Same.refl _)⟩
          refine ⟨D, xs.map isC, rfl, .inl (.inl (by rw [hL, List.map_map]; rfl)), ?_⟩
          rw [List.all_map]
          exact q H' s
        · have e' : ¬ (xs.length : Int) = m + 1 := fun z => e (by rw [z]; exact decide_eq_true rfl)
          rw [decide_eq_false e', Bool.false_and] at q
          exact q H (Same.refl _)
    · rw [show formB H m v = false by
        cases kn <;> first | rfl | skip
        · rename_i a xs ha
          simp only [formB, ha]
        · rename_i a xs ha
          exact absurd (isTu_tup ha) e] at q
      exact q H (Same.refl _)

theorem kn_nats {H : Hp} {ns : List Nat} : ∀ x ∈ ns.map (fun n : Nat => V.int (n : Nat)), Kn H x := fun x hx => by
  obtain ⟨i, _, rfl⟩ := List.mem_map.mp hx
  exact .int _
/-- a form in the heap -/
def FT (H : Hp) (a : Addr) (f : F) : Prop := H a = some (.tup (f.map fun n : Nat => V.int (n : Nat)))
theorem FT.same {H H' : Hp} {a : Addr} {f : F} (h : FT H a f) (s : Same H H') : FT H' a f := s _ _ h
theorem formB_FT {H : Hp} {m : Nat} {a : Addr} {f : F} (h : FT H a f) (hl : f.length = m + 1) : formB H m (.ref a) = true := by
  rw [formB_tup h, List.length_map, hl, decide_eq_true (show ((m + 1 : Nat) : Int) = (m : Int) + 1 by omega), Bool.true_and, List.all_map, List.all_eq_true]
  exact fun x hx => decide_eq_true (show (0 : Int) ≤ ((x : Nat) : Int) by omega)
end
end K67

set_option Elab.async false
set_option linter.all false
set_option maxRecDepth 100000
set_option maxHeartbeats 4000000
namespace K67
open PySem PySem.Spec PyProof.Rows L2 CK SX NM
theorem re_st {t : TS} {D : Ends} {σ σ' : L2.St} {H : Hp} (e : σ = σ') (h : t D σ' H) : t D σ H := by
  subst e
  exact h
theorem slice_mid {a : List Nat} {i j : Nat} (h : i ≤ j) (hj : j ≤ a.length) : Txt.slice (S a) (some (i : Int)) (some (j : Int)) = S ((a.drop i).take (j - i)) := by
  have e := beq_iff_eq.mp (slice_closesL (x := S a) (i := (i : Int)) (j := (j : Int)) (by omega) (by omega) (by rw [S_len]; omega))
  refine e.trans (TL.ext_tl ?_)
  show (a.drop (i : Int).toNat).take ((j : Int) - (i : Int)).toNat = (a.drop i).take (j - i)
  congr 1
  omega
theorem lcp_mid {a b : WM.W} {lo mid : Nat} (h1 : lo ≤ WM.lcp a b) (h2 : lo ≤ mid) (ha : mid ≤ a.length) (hb : mid ≤ b.length) :
    (a.drop lo).take (mid - lo) = (b.drop lo).take (mid - lo) ↔ mid ≤ WM.lcp a b := by
  have sp : ∀ z : WM.W, z.take mid = z.take lo ++ (z.drop lo).take (mid - lo) := fun z => by
    have : mid = lo + (mid - lo) := by omega
    conv => lhs; rw [this]
    rw [List.take_add]
  rw [← WM.lcp_iff ha hb, sp a, sp b, WM.lcp_take a b lo h1]
  constructor
  · intro h
    rw [h]
  · intro h
    exact List.append_cancel_left h
section
variable {X : Cx}
/-- s * n, up to a million letters -/
theorem op_repM : OpR X (binaryOp .Mult) (fun x y H Q => ∃ (z : List Nat) (n : Nat), x = .str (S z) ∧ y = .int n ∧ n ≤ 1000000 ∧ z.length ≤ 1000000 ∧ n * z.length ≤ 1000000 ∧ Q (.str (S (List.replicate n z).flatten)) H) := by
  intro pins s σ H x y v u Q I rx ry h
  obtain ⟨z, n, rfl, rfl, hn, hz, hm, q⟩ := h
  obtain ⟨t, rfl⟩ := rx
  obtain ⟨t', rfl⟩ := ry
  have hl : (List.replicate n z).flatten.length = n * z.length := by simp
  refine P.mul_str (by simp; omega) (fun h1 h2 => ?_) (fun h1 h2 => ?_) ?_
  · rw [S_len]
    have hn0 : (0 : Int) < n := by omega
    have h3 : (1000000 : Int) ≤ (2 ^ 63 - 1) / (n : Int) := by
      refine (Int.le_ediv_iff_mul_le hn0).mpr ?_
      have : (1000000 : Int) * n ≤ 1000000 * 1000000 := Int.mul_le_mul_of_nonneg_left (by omega) (by decide)
      omega
    omega
  · rw [S_len, Int.toNat_natCast, Nat.mul_comm]
    have : n * z.length ≤ sizeLine := by rw [sizeLine_eq]; omega
    unfold Builtin.Str.tooLong
    simp
    omega
  · by_cases h1 : (n : Int) < 1
    · rw [if_pos h1]
      have e : n = 0 := by omega
      subst e
      exact ⟨by decide, .str _, H, I.tok _, ⟨_, rfl⟩, q⟩
    · rw [if_neg h1]
      by_cases h2 : ((n : Int) == 1 || (S z).length == 0) = true
      · rw [if_pos h2]
        have e : (List.replicate n z).flatten = z := by
          rw [Bool.or_eq_true, beq_iff_eq, beq_iff_eq, S_len] at h2
          rcases h2 with h2 | h2
          · have : n = 1 := by omega
            subst this
            simp
          · rw [List.length_eq_zero_iff.mp h2]
            simp
        rw [e] at q
        exact ⟨.str _, H, I, ⟨_, rfl⟩, q⟩
      · rw [if_neg h2]
        have e : (⟨(List.replicate (n : Int).toNat (S z).cps).foldl (· ++ ·) #[]⟩ : Str) = S (List.replicate n z).flatten := by
          refine TL.ext_tl ?_
          show ((List.replicate (n : Int).toNat (S z).cps).foldl (· ++ ·) #[]).toList = _
          rw [Int.toNat_natCast, foldl_arr]
          rfl
        rw [e]
        exact ⟨by rw [S_len, hl, sizeLine_eq]; omega, .str _, H, I.tok _, ⟨_, rfl⟩, q⟩
end
section
variable {P : Program} {w : World} {K : PySem.W.Frag} {mg : Str → Option Value} {base : Heap} {C : Addr}
/-! ### words -/
theorem fmodZ (i : Int) {n : Nat} (h : n ≠ 0) : ∃ k : Nat, i.fmod (n : Int) = k ∧ k < n := by
  have h0 : 0 ≤ i.fmod (n : Int) := Int.fmod_nonneg_of_pos i (by omega)
  have h1 : i.fmod (n : Int) < n := Int.fmod_lt_of_pos i (by omega)
  exact ⟨(i.fmod n).toNat, by omega, by omega⟩
def rotZ (z : List Nat) (i : Int) : List Nat := z.drop (i.fmod (z.length : Int)).toNat ++ z.take (i.fmod (z.length : Int)).toNat
theorem fmod_neg (k : Nat) {n : Nat} (h : 0 < n) : (-(k : Int)).fmod (n : Int) = (((n - k % n) % n : Nat) : Int) := by
  have hm := Nat.mod_lt k h
  have hd := Nat.mod_add_div k n
  rw [Int.fmod_eq_emod_of_nonneg _ (by omega)]
  have e : (-(k : Int)) = ((n - k % n : Nat) : Int) + (n : Int) * (-((k / n : Nat) : Int) - 1) := by
    have : ((n - k % n : Nat) : Int) = (n : Int) - ((k % n : Nat) : Int) := by omega
    rw [this]
    have h2 : (k : Int) = ((k % n : Nat) : Int) + (n : Int) * ((k / n : Nat) : Int) := by
      have := congrArg (fun z : Nat => (z : Int)) hd
      simp only [Int.natCast_add, Int.natCast_mul] at this
      exact this.symm
    rw [Int.mul_sub, Int.mul_neg, Int.mul_one]
    omega
  rw [e, Int.add_mul_emod_self_left]
  rfl
theorem rotZ_neg {z : List Nat} (h : z ≠ []) (k : Nat) : rotZ z (-(k : Int)) = rotR z k := by
  have n0 := List.length_pos_iff.mpr h
  unfold rotZ rotR
  rw [fmod_neg k n0, Int.toNat_natCast]
  by_cases e : k % z.length = 0
  · rw [e, Nat.sub_zero, Nat.mod_self]
    simp
  · have hm := Nat.mod_lt k n0
    rw [Nat.mod_eq_of_lt (show z.length - k % z.length < z.length by omega)]
def sp_turned : Sp := fun vs H Q _ => ∃ (z : List Nat) (k : Int), vs = [.str (S z), .int k] ∧ z.length ≤ 1000000 ∧ z ≠ [] ∧ Q (.str (S (rotZ z k))) H
theorem c_turned_word (T : Txt K mg C) : C8.Cal P w K mg base 1 "turned_word" sp_turned [] := by
  refine calF T.d_turned_word sc_turned_word (fun vs H Q E h => ?_) (fun f cdv A outer s H vs Q E hr h => ?_)
  · obtain ⟨_, _, rfl, _⟩ := h; rfl
  · obtain ⟨z, k, rfl, hl, ne, q⟩ := h
    have n0 := List.length_pos_iff.mpr ne
    refine ⟨_, (pss_cons (ps_if (pt_not (pt_truth (pv 0) (by intro _; rfl)))
    (pss_one (ps_ret (pv 0)))
    pss_nil)
    (pss_cons (ps_set (i := 2) sc_turned_word.nd rfl (Or.inl rfl) (pe_op op_modN (pv 1) (pe_callB call_len_str (by rfl) T.m_len (by decide +kernel) (pa_cons (pv 0) pa_nil))))
    (pss_one (ps_ret (pe_op op_add_str (pe_slice C8.sl_txt (pv 0) (po_some (pv 2)) po_none) (pe_slice C8.sl_txt (pv 0) po_none (po_some (pv 2)))))))), ?_⟩
    refine ⟨_, rfl, true, ⟨len_line hl, by rw [S_len]; symm; rw [bne_iff_ne]; omega⟩, iteF ?_⟩
    obtain ⟨m, hm, hlt⟩ := fmodZ k (show z.length ≠ 0 by omega)
    refine ⟨_, rfl, _, rfl, S z, rfl, len_line hl, k, z.length, rfl, congrArg (fun n : Nat => V.int n) (S_len z), by omega, ?_⟩
    refine ⟨_, rfl, _, rfl, m, congrArg V.int hm, S z, rfl, len_line hl, _, rfl, _, rfl, m, congrArg V.int hm, S z, rfl, len_line hl, ?_⟩
    rw [SX.slice_from (by omega), SX.slice_to (by omega), Int.toNat_natCast]
    refine ⟨_, _, rfl, rfl, ?_, ?_⟩
    · rw [S_len, S_len, List.length_drop, List.length_take, sizeLine_eq]
      omega
    · rw [S_cat]
      unfold rotZ at q
      rw [hm, Int.toNat_natCast] at q
      exact q
theorem stretch_tail {u : List Nat} (h : u ≠ []) (n k : Nat) (hk : (u.length - n % u.length) % u.length + n ≤ u.length * k) :
    ((List.replicate k u).flatten.drop ((u.length - n % u.length) % u.length)).take n = tailE u n := by
  have n0 := List.length_pos_iff.mpr h
  have l : (List.replicate k u).flatten.length = u.length * k := WM.pw_len u k
  refine List.ext_getElem? fun i => ?_
  by_cases hi : i < n
  · rw [List.getElem?_take_of_lt hi, List.getElem?_drop, tailE_get h hi]
    have := WM.pw_get h k ((u.length - n % u.length) % u.length + i) (by omega)
    unfold WM.pw at this
    rw [this]
    congr 1
    rw [Nat.mod_add_mod, Nat.add_comm]
  · rw [List.getElem?_eq_none (by rw [List.length_take]; omega), List.getElem?_eq_none (by rw [tailE_len h]; omega)]
def sp_stretch : Sp := fun vs H Q _ => ∃ (u : List Nat) (n : Nat), vs = [.str (S u), .int (-(n : Int)), .int n] ∧ u ≠ [] ∧ u.length ≤ 100000 ∧ n ≤ 100000 ∧ Q (.str (S (tailE u n))) H
theorem c_stretch (T : Txt K mg C) : C8.Cal P w K mg base 1 "stretch" sp_stretch [] := by
  refine calF T.d_stretch sc_stretch (fun vs H Q E h => ?_) (fun f cdv A outer s H vs Q E hr h => ?_)
  · obtain ⟨_, _, rfl, _⟩ := h; rfl
  · obtain ⟨u, n, rfl, ne, hu, hn, q⟩ := h
    have n0 := List.length_pos_iff.mpr ne
    refine ⟨_, (pss_cons (ps_set (i := 3) sc_stretch.nd rfl (Or.inl rfl) (pe_op op_modN (pv 1) (pe_callB call_len_str (by rfl) T.m_len (by decide +kernel) (pa_cons (pv 0) pa_nil))))
    (pss_one (ps_ret (pe_slice C8.sl_txt (pe_op op_repM (pv 0) (pe_op op_add (pe_op op_fdivZ (pe_op op_add (pv 3) (pv 2)) (pe_callB call_len_str (by rfl) T.m_len (by decide +kernel) (pa_cons (pv 0) pa_nil))) pe_int)) (po_some (pv 3)) (po_some (pe_op op_add (pv 3) (pv 2))))))), ?_⟩
    have hm := fmod_neg n n0
    generalize ha : (u.length - n % u.length) % u.length = a at hm
    have alt : a < u.length := by rw [← ha]; exact Nat.mod_lt _ n0
    refine ⟨_, rfl, _, rfl, S u, rfl, len_line (by omega), -(n : Int), u.length, rfl, congrArg (fun n : Nat => V.int n) (S_len u), by omega, ?_⟩
    have hdm := Nat.div_add_mod (a + n) u.length
    have hml := Nat.mod_lt (a + n) n0
    have dl : (a + n) / u.length ≤ a + n := Nat.div_le_self _ _
    refine ⟨_, rfl, _, rfl, _, rfl, a, n, congrArg V.int hm, rfl, _, rfl, S u, rfl, len_line (by omega), a + n, u.length, congrArg V.int (by omega), congrArg (fun n : Nat => V.int n) (S_len u), by omega, by omega, _, _, rfl, rfl, u, (a + n) / u.length + 1, rfl, congrArg V.int (by omega), by omega, by omega, ?_, ?_⟩
    · rw [Nat.add_mul, Nat.one_mul, Nat.mul_comm]
      omega
    · have l : (List.replicate ((a + n) / u.length + 1) u).flatten.length = u.length * ((a + n) / u.length + 1) := WM.pw_len u _
      have hle : a + n ≤ u.length * ((a + n) / u.length + 1) := by rw [Nat.mul_succ]; omega
      refine ⟨_, rfl, a, congrArg V.int hm, _, rfl, _, rfl, a, n, congrArg V.int hm, rfl, ((a + n : Nat) : Int), congrArg V.int (by omega), S _, rfl, ?_, ?_⟩
      · rw [S_len, l, Nat.mul_succ, sizeLine_eq]
        omega
      · rw [slice_mid (by omega) (by rw [l]; exact hle), show a + n - a = n by omega, ← ha, stretch_tail ne n _ (by rw [ha]; exact hle)]
        exact q
def sp_alike : Sp := fun vs H Q _ => ∃ (a b : List Nat), vs = [.str (S a), .str (S b)] ∧ a.length ≤ 1000000 ∧ b.length ≤ 1000000 ∧ Q (.int (WM.lcp a b : Nat)) H
theorem c_alike_ahead (T : Txt K mg C) : C8.Cal P w K mg base 1 "alike_ahead" sp_alike [] := by
  refine calF T.d_alike_ahead sc_alike_ahead (fun vs H Q E h => ?_) (fun f cdv A outer s H vs Q E hr h => ?_)
  · obtain ⟨_, _, rfl, _⟩ := h; rfl
  · obtain ⟨a, b, rfl, ha, hb, q⟩ := h
    refine ⟨_, (pss_cons (ps_par (i := 2) (j := 3) (by rfl) sc_alike_ahead.nd rfl rfl (by decide) rfl rfl (pa_cons pe_int (pa_cons (pe_callB (call_min2 rfl) (by rfl) T.m_min (by decide +kernel) (pa_cons (pe_callB call_len_str (by rfl) T.m_len (by decide +kernel) (pa_cons (pv 0) pa_nil)) (pa_cons (pe_callB call_len_str (by rfl) T.m_len (by decide +kernel) (pa_cons (pv 1) pa_nil)) pa_nil))) pa_nil)) (by rfl))
    (pss_cons (ps_if (pt_cmpR op_eq (pe_slice C8.sl_txt (pv 0) po_none (po_some (pv 3))) (pe_slice C8.sl_txt (pv 1) po_none (po_some (pv 3))) (nomark _))
    (pss_one (ps_ret (pv 3)))
    pss_nil)
    (pss_cons (ps_while PassesOwn.never (pt_cmpR op_gt (pe_op op_sub (pv 3) (pv 2)) pe_int (nomark _))
    (pss_cons (ps_set (i := 4) sc_alike_ahead.nd rfl (Or.inl rfl) (pe_op op_fdivZ (pe_op op_add (pv 2) (pv 3)) pe_int))
    (pss_one (ps_if (pt_cmpR op_eq (pe_slice C8.sl_txt (pv 0) (po_some (pv 2)) (po_some (pv 4))) (pe_slice C8.sl_txt (pv 1) (po_some (pv 2)) (po_some (pv 4))) (nomark _))
    (pss_one (ps_set (i := 2) sc_alike_ahead.nd rfl (Or.inl rfl) (pv 4)))
    (pss_one (ps_set (i := 3) sc_alike_ahead.nd rfl (Or.inl rfl) (pv 4)))))))
    (pss_one (ps_ret (pv 2)))))), ?_⟩
    have lle := WM.lcp_le a b
    obtain ⟨m, hma, hmb, hm, hmm⟩ : ∃ m : Nat, m ≤ a.length ∧ m ≤ b.length ∧ (if (((S b).length : Nat) : Int) < (((S a).length : Nat) : Int) then (((S b).length : Nat) : Int) else (((S a).length : Nat) : Int)) = m ∧ (a.length ≤ m ∨ b.length ≤ m) := by
      rw [S_len, S_len]
      by_cases z : (b.length : Int) < a.length
      · exact ⟨b.length, by omega, by omega, if_pos z, .inr (Nat.le_refl _)⟩
      · exact ⟨a.length, by omega, by omega, if_neg z, .inl (Nat.le_refl _)⟩
    refine ⟨_, rfl, S a, rfl, len_line ha, _, rfl, S b, rfl, len_line hb, _, _, rfl, .int 0, .int m, congrArg (fun z => [V.int 0, V.int z]) hm, ?_⟩
    refine ⟨_, rfl, _, rfl, m, rfl, S a, rfl, len_line ha, _, rfl, _, rfl, m, rfl, S b, rfl, len_line hb, rfl, _, rfl, ?_⟩
    rw [SX.slice_to (by omega), SX.slice_to (by omega), Int.toNat_natCast]
    refine ite2 (fun e => ?_) (fun e => ?_)
    · have e' := S_inj (V.str.inj (of_decide_eq_true e))
      have := WM.le_lcp a b m hma hmb e'
      refine ⟨_, rfl, ?_⟩
      rw [show m = WM.lcp a b by omega]
      exact q
    · have e' : WM.lcp a b < m := by
        by_cases z : WM.lcp a b < m
        · exact z
        · exact absurd (decide_eq_true (congrArg (fun l => V.str (S l)) (WM.lcp_take a b m (by omega)))) e
      refine while_by (fun σ H' => H' = H ∧ ∃ (lo hi : Nat) (zl zh : Int) (y : Option V), σ = [some (.str (S a)), some (.str (S b)), some (.int zl), some (.int zh), y] ∧ zl = lo ∧ zh = hi ∧ lo ≤ WM.lcp a b ∧ WM.lcp a b < hi ∧ hi ≤ m)
        (fun σ _ => match σ with | [_, _, some (.int zl), some (.int zh), _] => (zh - zl).toNat | _ => 0) ?_ (fun σ H' p => ?_) ?_
      · exact ⟨rfl, 0, m, _, _, none, rfl, rfl, rfl, Nat.zero_le _, e', Nat.le_refl _⟩
      · obtain ⟨rfl, lo, hi, zl, zh, y, rfl, rfl, rfl, h1, h2, h3⟩ := p
        refine ⟨_, rfl, _, rfl, _, _, rfl, rfl, _, _, rfl, rfl, _, rfl, ite2 (fun c => ?_) (fun c => ?_)⟩
        · have c' : lo + 1 < hi := by
            have := of_decide_eq_true c
            omega
          refine ⟨_, rfl, _, rfl, _, _, rfl, rfl, lo + hi, 2, congrArg V.int (by omega), rfl, by decide, by decide, ?_⟩
          have m1 : lo < (lo + hi) / 2 := by omega
          have m2 : (lo + hi) / 2 < hi := by omega
          generalize (lo + hi) / 2 = md at m1 m2
          refine ⟨_, rfl, _, rfl, lo, rfl, _, rfl, md, rfl, S a, rfl, len_line ha, _, rfl, _, rfl, lo, rfl, _, rfl, md, rfl, S b, rfl, len_line hb, rfl, _, rfl, ?_⟩
          rw [slice_mid (by omega) (by omega), slice_mid (by omega) (by omega)]
          have iff := lcp_mid (a := a) (b := b) (lo := lo) (mid := md) h1 (by omega) (by omega) (by omega)
          refine ite2 (fun d => ?_) (fun d => ?_)
          · have d' := iff.mp (S_inj (V.str.inj (of_decide_eq_true d)))
            refine ⟨_, rfl, ⟨rfl, md, hi, _, _, _, rfl, rfl, rfl, d', h2, h3⟩, ?_⟩
            show ((hi : Int) - ((md : Nat) : Int)).toNat < ((hi : Int) - (lo : Int)).toNat
            omega
          · have d' : WM.lcp a b < md := by
              by_cases z : WM.lcp a b < md
              · exact z
              · exact absurd (decide_eq_true (congrArg (fun l => V.str (S l)) (iff.mpr (by omega)))) d
            refine ⟨_, rfl, ⟨rfl, lo, md, _, _, _, rfl, rfl, rfl, h1, d', by omega⟩, ?_⟩
            show (((md : Nat) : Int) - (lo : Int)).toNat < ((hi : Int) - (lo : Int)).toNat
            omega
        · have c' : lo = WM.lcp a b := by
            have : ¬ ((hi : Int) - lo > 1) := fun z => c (decide_eq_true z)
            omega
          subst c'
          exact ⟨_, rfl, q⟩
      · intro σ H' Q1 Q2 hq h
        obtain ⟨a1, h1, a2, h2, a3, a4, h3, h4, a5, a6, h5, h6, k, h7, h⟩ := h
        exact ⟨a1, h1, a2, h2, a3, a4, h3, h4, a5, a6, h5, h6, k, h7, hq _ _ h⟩
def sp_behind : Sp := fun vs H Q _ => ∃ (a b : List Nat), vs = [.str (S a), .str (S b)] ∧ a.length ≤ 1000000 ∧ b.length ≤ 1000000 ∧ Q (.int (WM.lcp a.reverse b.reverse : Nat)) H
theorem c_alike_behind (T : Txt K mg C) : C8.Cal P w K mg base 2 "alike_behind" sp_behind [] := by
  refine calF T.d_alike_behind sc_alike_behind (fun vs H Q E h => ?_) (fun f cdv A outer s H vs Q E hr h => ?_)
  · obtain ⟨_, _, rfl, _⟩ := h; rfl
  · obtain ⟨a, b, rfl, ha, hb, q⟩ := h
    refine ⟨_, (pss_one (ps_ret (C8.pe_c (c_alike_ahead T) hr (by decide) (by rfl) (pa_cons (pe_revS (pv 0)) (pa_cons (pe_revS (pv 1)) pa_nil))))), ?_⟩
    refine ⟨_, rfl, a, rfl, by rw [sizeLine_eq]; omega, _, rfl, b, rfl, by rw [sizeLine_eq]; omega, a.reverse, b.reverse, rfl, by simpa using ha, by simpa using hb, q⟩
end
end K67

set_option Elab.async false
set_option linter.all false
set_option maxRecDepth 100000
set_option maxHeartbeats 4000000
namespace K67
open PySem PySem.Spec PyProof.Rows L2 CK SX NM
/-- the borders' sizes, up to the place i -/
def szL (z : List Nat) (i : Nat) : List Nat := (List.range z.length).map fun j => if j ≤ i then WM.lb (z.take (j + 1)) else 0
theorem szL_len (z : List Nat) (i : Nat) : (szL z i).length = z.length := by simp [szL]
theorem szL_get {z : List Nat} {i j : Nat} (h : j ≤ i) (hj : j < z.length) : (szL z i)[j]? = some (WM.lb (z.take (j + 1))) := by
  unfold szL
  rw [List.getElem?_map, List.getElem?_range hj]
  simp [h]
theorem szL_zero {z : List Nat} (h : z ≠ []) : szL z 0 = List.replicate z.length 0 := by
  refine List.ext_getElem? fun j => ?_
  unfold szL
  by_cases hj : j < z.length
  · rw [List.getElem?_map, List.getElem?_range hj, List.getElem?_replicate, if_pos hj]
    simp only [Option.map_some]
    split
    · rename_i e
      have : j = 0 := by omega
      subst this
      rw [WM.lb_one]
    · rfl
  · rw [List.getElem?_eq_none (by simp; omega), List.getElem?_eq_none (by simp; omega)]
theorem szL_set {z : List Nat} {i : Nat} (h : i + 1 < z.length) : (szL z i).set (i + 1) (WM.lb (z.take (i + 2))) = szL z (i + 1) := by
  refine List.ext_getElem? fun j => ?_
  by_cases hj : j < z.length
  · rw [List.getElem?_set]
    unfold szL
    by_cases e : i + 1 = j
    · subst e
      rw [if_pos rfl, if_pos (by simp; omega), List.getElem?_map, List.getElem?_range hj]
      simp
    · rw [if_neg e, List.getElem?_map, List.getElem?_map, List.getElem?_range hj]
      simp only [Option.map_some]
      congr 1
      by_cases a : j ≤ i
      · rw [if_pos a, if_pos (by omega)]
      · rw [if_neg a, if_neg (by omega)]
  · rw [List.getElem?_eq_none (by simp [szL]; omega), List.getElem?_eq_none (by simp [szL]; omega)]
def natsV (ns : List Nat) : List V := ns.map fun n : Nat => V.int (n : Nat)
theorem natsV_get {ns : List Nat} {i n : Nat} (h : ns[i]? = some n) : (natsV ns)[i]? = some (.int (n : Nat)) := by
  unfold natsV
  rw [List.getElem?_map, h]
  rfl
theorem natsV_set (ns : List Nat) (i n : Nat) : (natsV ns).set i (.int (n : Nat)) = natsV (ns.set i n) := by
  unfold natsV
  rw [List.map_set]
theorem natsV_len (ns : List Nat) : (natsV ns).length = ns.length := by simp [natsV]
section
variable {P : Program} {w : World} {K : PySem.W.Frag} {mg : Str → Option Value} {base : Heap} {C : Addr}
def sp_border : Sp := fun vs H Q _ => ∃ (z : List Nat), vs = [.str (S z)] ∧ z ≠ [] ∧ z.length ≤ 1000000 ∧ ∀ p H', Same H H' → H p = none → H' p = some (.lst (natsV (szL z (z.length - 1)))) → Q (.ref p) H'
theorem c_border_sizes (T : Txt K mg C) : C8.Cal P w K mg base 1 "border_sizes" sp_border [] := by
  refine calF T.d_border_sizes sc_border_sizes (fun vs H Q E h => ?_) (fun f cdv A outer s H vs Q E hr h => ?_)
  · obtain ⟨_, rfl, _⟩ := h; rfl
  · obtain ⟨z, rfl, ne, hz, q⟩ := h
    have n0 := List.length_pos_iff.mpr ne
    refine ⟨_, (pss_cons (ps_set (i := 1) sc_border_sizes.nd rfl (Or.inl rfl) (pe_op op_rep (pe_lst (pa_cons pe_int pa_nil)) (pe_callB call_len_str (by rfl) T.m_len (by decide +kernel) (pa_cons (pv 0) pa_nil))))
    (pss_cons (ps_set (i := 2) sc_border_sizes.nd rfl (Or.inl rfl) pe_int)
    (pss_cons (ps_for PassesOwn.never rfl (pi_range2 (by rfl) T.m_range (pa_cons pe_int (pa_cons (pe_callB call_len_str (by rfl) T.m_len (by decide +kernel) (pa_cons (pv 0) pa_nil)) pa_nil))) (pg_name (i := 3) sc_border_sizes.nd rfl (Or.inl rfl))
    (pss_cons (ps_while PassesOwn.never (PW.pt (pw_and (pt_truth (pv 2) (by intro _; rfl)) (pw_and1 (pt_cmpR op_ne (pe_ix ix_str (pv 0) (pv 3) (fun _ _ => rfl)) (pe_ix ix_str (pv 0) (pv 2) (fun _ _ => rfl)) (nomark _)))))
    (pss_one (ps_set (i := 2) sc_border_sizes.nd rfl (Or.inl rfl) (pe_ix ix_list (pv 1) (pe_op op_sub (pv 2) pe_int) (fun _ _ => rfl)))))
    (pss_cons (ps_if (pt_cmpR op_eq (pe_ix ix_str (pv 0) (pv 3) (fun _ _ => rfl)) (pe_ix ix_str (pv 0) (pv 2) (fun _ _ => rfl)) (nomark _))
    (pss_one (ps_aug (i := 2) sc_border_sizes.nd rfl (.inl rfl) pe_int ip_add))
    pss_nil)
    (pss_one (ps_asg (pv 2) (pg_sub (pv 1) (pv 3) set_list))))))
    (pss_one (ps_ret (pv 1)))))), ?_⟩
    refine ⟨by show 1 ≤ sizeLine; decide, fun L0 h0 => ⟨_, rfl, S z, rfl, len_line hz, L0, _, _, rfl, rfl, upd_same, by omega, by rw [S_len]; omega, by rw [S_len, sizeLine_eq]; simp; omega, fun p hp => ?_⟩⟩
    have s0 := (sameNew (o := .lst [V.int 0]) h0).trans (sameNew (o := .lst (List.replicate (((S z).length : Nat) : Int).toNat [V.int 0]).flatten) hp)
    have hp0 : H p = none := (sameNew (o := .lst [V.int 0]) h0).free hp
    have e0 : (List.replicate (((S z).length : Nat) : Int).toNat [V.int 0]).flatten = natsV (szL z 0) := by
      rw [S_len, Int.toNat_natCast, szL_zero ne]
      unfold natsV
      rw [List.map_replicate]
      generalize z.length = k
      induction k with
      | zero => rfl
      | succ k ih => rw [List.replicate_succ, List.flatten_cons, ih, List.replicate_succ]; rfl
    rw [e0] at s0 ⊢
    have hpl : (upd (upd H L0 (.lst [V.int 0])) p (.lst (natsV (szL z 0)))) p = some (.lst (natsV (szL z 0))) := upd_same
    generalize upd (upd H L0 (.lst [V.int 0])) p (.lst (natsV (szL z 0))) = H1 at s0 hpl
    refine ⟨_, rfl, S z, rfl, len_line hz, 1, _, rfl, ⟨by omega, by omega, by omega, by rw [S_len]; omega⟩, ?_⟩
    refine for_it walk_range (fun i σ H' => i ≤ z.length - 1 ∧ SameX p H1 H' ∧ H' p = some (.lst (natsV (szL z i))) ∧ ∃ (zs : Int) (y3 : Option V), σ = [some (.str (S z)), some (.ref p), some (.int zs), y3] ∧ zs = ((WM.lb (z.take (i + 1)) : Nat) : Int))
      ⟨by omega, .refl _ _, hpl, 0, none, rfl, by rw [WM.lb_one]; rfl⟩ (fun _ _ _ _ _ => True.intro) (fun i x σ H' H'' hi pI yy => ?_) fun σ H' pI => ?_
    · obtain ⟨_, s1, hl1, zs, y3, rfl, rfl⟩ := pI
      obtain ⟨rfl, rfl⟩ := yy
      have hi' : i + 1 < z.length := by
        have : i < ((((S z).length : Nat) : Int) - 1).toNat := hi
        rw [S_len] at this
        omega
      have zn : z[i + 1]? = some z[i + 1] := List.getElem?_eq_getElem hi'
      generalize z[i + 1] = cn at zn
      have cand0 : WM.Cand z (i + 1) (WM.lb (z.take (i + 1))) := WM.cand_start (by omega) (by omega)
      refine while_by (fun σ H2 => H2 = H'' ∧ ∃ (s' : Nat) (zs : Int), σ = [some (.str (S z)), some (.ref p), some (.int zs), some (.int (1 + (i : Int)))] ∧ zs = s' ∧ WM.Cand z (i + 1) s')
        (fun σ _ => match σ with | [_, _, some (.int zs), _] => zs.toNat | _ => 0) ⟨rfl, _, _, rfl, rfl, cand0⟩ (fun σ H2 pJ => ?_) ?_
      · obtain ⟨rfl, s', zs, rfl, rfl, cand⟩ := pJ
        have slt := cand.1
        have zk : z[s']? = some z[s'] := List.getElem?_eq_getElem (by omega)
        generalize z[s'] = ck at zk
        refine ⟨_, rfl, _, rfl, ?_⟩
        by_cases z0 : s' = 0
        · subst z0
          refine iteF ?_
          refine ⟨_, rfl, _, rfl, S z, 1 + (i : Int), cn, rfl, rfl, len_line hz, ?_, _, rfl, _, rfl, S z, ((0 : Nat) : Int), ck, rfl, rfl, len_line hz, atI_nat (xs := z) zk, rfl, _, rfl, ?_⟩
          · rw [show 1 + (i : Int) = ((i + 1 : Nat) : Int) by omega]
            exact atI_nat (xs := z) zn
          refine ite2 (fun e => ?_) (fun e => ?_)
          · have ec : cn = ck := by
              have := S_inj (a := [cn]) (b := [ck]) (V.str.inj (of_decide_eq_true e))
              simpa using this
            have hit := WM.cand_hit hi' cand (by rw [zk, zn, ec])
            refine ⟨_, rfl, _, _, rfl, rfl, _, rfl, _, rfl, _, rfl, p, _, 1 + (i : Int), i + 1, rfl, rfl, hl1, ?_, ?_⟩
            · unfold ixN
              rw [natsV_len, szL_len, if_pos (by omega), if_pos (by omega)]
              congr 1
              omega
            · refine ⟨by omega, fun b o hb e => by rw [upd_ne hb]; exact s1 b o hb e, ?_, _, _, rfl, by rw [show i + 1 + 1 = i + 2 by omega] at hit ⊢; rw [hit]; rfl⟩
              rw [upd_same]
              have := natsV_set (szL z i) (i + 1) (WM.lb (z.take (i + 2)))
              rw [szL_set hi', show i + 2 = i + 1 + 1 by omega, hit] at this
              rw [← this]
              rfl
          · have nc : z[0]? ≠ z[i + 1]? := by
              rw [zk, zn]
              intro y
              exact e (decide_eq_true (by rw [Option.some.inj y]))
            have miss := WM.cand_miss hi' cand nc
            refine ⟨_, rfl, _, rfl, _, rfl, p, _, 1 + (i : Int), i + 1, rfl, rfl, hl1, ?_, ?_⟩
            · unfold ixN
              rw [natsV_len, szL_len, if_pos (by omega), if_pos (by omega)]
              congr 1
              omega
            · refine ⟨by omega, fun b o hb e => by rw [upd_ne hb]; exact s1 b o hb e, ?_, _, _, rfl, by rw [miss]⟩
              rw [upd_same]
              have := natsV_set (szL z i) (i + 1) (WM.lb (z.take (i + 2)))
              rw [szL_set hi', show i + 2 = i + 1 + 1 by omega, miss] at this
              rw [← this]
        · have tz : ((((s' : Nat) : Int)) != 0) = true := by rw [bne_iff_ne]; omega
          rw [tz]
          refine iteT ?_
          refine ⟨_, rfl, _, rfl, S z, 1 + (i : Int), cn, rfl, rfl, len_line hz, ?_, _, rfl, _, rfl, S z, ((s' : Nat) : Int), ck, rfl, rfl, len_line hz, atI_nat (xs := z) zk, rfl, _, rfl, ?_⟩
          · rw [show 1 + (i : Int) = ((i + 1 : Nat) : Int) by omega]
            exact atI_nat (xs := z) zn
          by_cases ec : cn = ck
          · refine iteNS (by rw [ec]) ?_
            refine ⟨_, rfl, _, rfl, S z, 1 + (i : Int), cn, rfl, rfl, len_line hz, ?_, _, rfl, _, rfl, S z, ((s' : Nat) : Int), ck, rfl, rfl, len_line hz, atI_nat (xs := z) zk, rfl, _, rfl, ?_⟩
            · rw [show 1 + (i : Int) = ((i + 1 : Nat) : Int) by omega]
              exact atI_nat (xs := z) zn
            rw [ec, decide_eq_true rfl]
            have hit := WM.cand_hit hi' cand (by rw [zk, zn, ec])
            refine iteT ⟨_, rfl, _, _, rfl, rfl, _, rfl, _, rfl, _, rfl, p, _, 1 + (i : Int), i + 1, rfl, rfl, hl1, ?_, ?_⟩
            · unfold ixN
              rw [natsV_len, szL_len, if_pos (by omega), if_pos (by omega)]
              congr 1
              omega
            · refine ⟨by omega, fun b o hb e => by rw [upd_ne hb]; exact s1 b o hb e, ?_, _, _, rfl, by rw [show i + 1 + 1 = i + 2 by omega] at hit ⊢; rw [hit]; rfl⟩
              rw [upd_same]
              have := natsV_set (szL z i) (i + 1) (WM.lb (z.take (i + 2)))
              rw [szL_set hi', show i + 2 = i + 1 + 1 by omega, hit] at this
              rw [← this]
              rfl
          · have hd : z[s']? ≠ z[i + 1]? := by
              rw [zk, zn]
              intro y
              exact ec (Option.some.inj y).symm
            have down := WM.cand_down (by omega) cand (by omega) hd
            have : (!decide (V.str (S [cn]) = V.str (S [ck]))) = true := by
              rw [decide_eq_false (fun y => ec (by simpa using S_inj (a := [cn]) (b := [ck]) (V.str.inj y)))]
              rfl
            rw [show (⟨#[cn]⟩ : Str) = S [cn] from rfl, show (⟨#[ck]⟩ : Str) = S [ck] from rfl, this]
            have get := szL_get (z := z) (i := i) (j := s' - 1) (by omega) (by omega)
            rw [show s' - 1 + 1 = s' by omega] at get
            refine iteT ⟨_, rfl, _, rfl, _, _, rfl, rfl, p, _, _, .int ((WM.lb (z.take s') : Nat) : Int), rfl, rfl, .inl (.inl hl1), ?_, ⟨rfl, WM.lb (z.take s'), _, rfl, rfl, down⟩, ?_⟩
            · rw [show ((s' : Nat) : Int) - 1 = ((s' - 1 : Nat) : Int) by omega]
              exact atI_nat (natsV_get get)
            · show (((WM.lb (z.take s') : Nat) : Int)).toNat < (((s' : Nat) : Int)).toNat
              have := WM.lb_lt (w := z.take s') (fun y => by have := congrArg List.length y; rw [List.length_take, List.length_nil] at this; omega)
              rw [List.length_take] at this
              omega
      · intro σ H' Q1 Q2 hq h
        obtain ⟨a1, h1, k, h2, h⟩ := h
        refine ⟨a1, h1, k, h2, ?_⟩
        cases k with
        | false => exact hq _ _ h
        | true =>
          obtain ⟨a1, h1, a2, h2, a3, a4, a5, h3, h4, h5, h6, a6, h7, a7, h8, a8, a9, a10, h9, h10, h11, h12, h13, k, h14, h⟩ := h
          exact ⟨a1, h1, a2, h2, a3, a4, a5, h3, h4, h5, h6, a6, h7, a7, h8, a8, a9, a10, h9, h10, h11, h12, h13, k, h14, hq _ _ h⟩
    · obtain ⟨_, s1, hl1, zs, y3, rfl, rfl⟩ := pI
      have en : ((((S z).length : Nat) : Int) - 1).toNat = z.length - 1 := by rw [S_len]; omega
      rw [en] at hl1
      refine ⟨_, rfl, q p H' (fun b o e => ?_) hp0 hl1⟩
      have hb : b ≠ p := fun y => by rw [y, hp0] at e; cases e
      exact s1 _ _ hb (s0 _ _ e)
def sp_root : Sp := fun vs H Q _ => ∃ (z : List Nat), vs = [.str (S z)] ∧ z ≠ [] ∧ z.length ≤ 1000000 ∧ ∀ H', Same H H' → Q (.int (WM.rootN z : Nat)) H'
theorem c_root_size (T : Txt K mg C) : C8.Cal P w K mg base 2 "root_size" sp_root [] := by
  refine calF T.d_root_size sc_root_size (fun vs H Q E h => ?_) (fun f cdv A outer s H vs Q E hr h => ?_)
  · obtain ⟨_, rfl, _⟩ := h; rfl
  · obtain ⟨z, rfl, ne, hz, q⟩ := h
    have n0 := List.length_pos_iff.mpr ne
    have lt := WM.lb_lt ne
    refine ⟨_, (pss_cons (ps_set (i := 1) sc_root_size.nd rfl (Or.inl rfl) (pe_op op_sub (pe_callB call_len_str (by rfl) T.m_len (by decide +kernel) (pa_cons (pv 0) pa_nil)) (pe_ix ix_list (C8.pe_c (c_border_sizes T) hr (by decide) (by rfl) (pa_cons (pv 0) pa_nil)) (pe_un un_neg pe_int) (fun _ _ => rfl))))
    (pss_one (ps_ret (pe_ifExp (pt_truth (pe_op op_modZ (pe_callB call_len_str (by rfl) T.m_len (by decide +kernel) (pa_cons (pv 0) pa_nil)) (pv 1)) (by intro _; rfl)) (pe_callB call_len_str (by rfl) T.m_len (by decide +kernel) (pa_cons (pv 0) pa_nil)) (pv 1))))), ?_⟩
    refine ⟨_, rfl, S z, rfl, len_line hz, _, rfl, z, rfl, ne, hz, fun p H1 s1 n1 hp => ?_⟩
    have get := szL_get (z := z) (i := z.length - 1) (j := z.length - 1) (Nat.le_refl _) (by omega)
    rw [show z.length - 1 + 1 = z.length by omega, List.take_length] at get
    have e1 : (((S z).length : Nat) : Int) - ((WM.lb z : Nat) : Int) = ((z.length - WM.lb z : Nat) : Int) := by rw [S_len]; omega
    refine ⟨1, rfl, p, _, -1, .int (WM.lb z : Nat), rfl, rfl, .inl (.inl hp), ?_, _, _, rfl, rfl, ?_⟩
    · unfold atI ixN
      rw [natsV_len, szL_len, if_neg (by omega), if_pos (by omega)]
      show (natsV (szL z (z.length - 1)))[((-1 : Int) + z.length).toNat]? = _
      rw [show ((-1 : Int) + z.length).toNat = z.length - 1 by omega]
      exact natsV_get get
    · refine ⟨_, rfl, S z, rfl, len_line hz, _, rfl, z.length, z.length - WM.lb z, congrArg (fun n : Nat => V.int n) (S_len z), congrArg V.int e1, by omega, _, rfl, ?_⟩
      unfold WM.rootN at q
      by_cases m0 : z.length % (z.length - WM.lb z) = 0
      · rw [if_pos m0] at q
        rw [show ((((z.length % (z.length - WM.lb z) : Nat) : Int)) != 0) = false by rw [m0]; rfl]
        refine iteF ⟨_, rfl, ?_⟩
        show Q (V.int ((((S z).length : Nat) : Int) - ((WM.lb z : Nat) : Int))) H1
        rw [e1]
        exact q H1 s1
      · rw [if_neg m0] at q
        rw [show ((((z.length % (z.length - WM.lb z) : Nat) : Int)) != 0) = true by rw [bne_iff_ne]; omega]
        refine iteT ⟨_, rfl, S z, rfl, len_line hz, ?_⟩
        show Q (V.int (((S z).length : Nat) : Int)) H1
        rw [S_len]
        exact q H1 s1
/-! ### forms -/
theorem get_nat {xs : List Nat} {i : Nat} {v : V} (h : (xs.map fun n : Nat => V.int (n : Nat))[i]? = some v) : ∃ z, z ∈ xs ∧ xs[i]? = some z ∧ v = .int (z : Nat) := by
  rw [List.getElem?_map] at h
  cases e : xs[i]? with
  | none => rw [e] at h; cases h
  | some z =>
    rw [e] at h
    exact ⟨z, List.mem_of_getElem? e, rfl, (Option.some.inj h).symm⟩
def vAdd : V → V → V
  | .int i, .int j => .int (i + j)
  | _, _ => .non
theorem zip_addN : ∀ (xs ys : List Nat), List.zipWith vAdd (xs.map fun n : Nat => V.int (n : Nat)) (ys.map fun n : Nat => V.int (n : Nat)) = (addF xs ys).map fun n : Nat => V.int (n : Nat)
  | [], _ => by simp [addF]
  | _ :: _, [] => by simp [addF]
  | x :: xs, y :: ys => by
    show V.int ((x : Int) + (y : Int)) :: _ = V.int ((x + y : Nat) : Int) :: _
    rw [zip_addN xs ys]
    rfl
theorem small5 {n : Nat} (h : n ≤ 5) : n < sizeLine := small1000 (by omega)
def sp_form_sum : Sp := fun vs H Q _ => ∃ (a b : Addr) (f g : F), vs = [.ref a, .ref b] ∧ FT H a f ∧ FT H b g ∧ f.length ≤ 4 ∧ f.length = g.length ∧ ∀ p H', Same H H' → FT H' p (addF f g) → Q (.ref p) H'
theorem c_form_sum (T : Txt K mg C) : C8.Cal P w K mg base 1 "form_sum" sp_form_sum [] := by
  refine calF T.d_form_sum sc_form_sum (fun vs H Q E h => ?_) (fun f cdv A outer s H vs Q E hr h => ?_)
  · obtain ⟨_, _, _, _, rfl, _⟩ := h; rfl
  · obtain ⟨a, b, f, g, rfl, ha, hb, h4, hl, q⟩ := h
    refine ⟨_, (pss_one (ps_ret (pe_callTy call_tupL (by rfl) T.m_tuple (by decide +kernel) (pa_cons (pe_lc (own := [("left", 2), ("right", 3)]) (by rfl) sc_form_sum.nd (pi_zipB (K := K) rfl (by rfl) T.m_zip (pa_cons (pv 0) (pa_cons (pv 1) pa_nil))) (blkOk_by (N := ["one", "other", "left", "right"]) (sc := C8.fnScope (topS 17)) (own := [("left", 2), ("right", 3)]) (by decide +kernel)) (fun _ _ _ _ _ => (pg_two (K := K) (i := 2) (j := 3) rfl rfl sc_form_sum.nd rfl rfl (Or.inl rfl) (Or.inl rfl))) (fun _ _ _ _ _ => pts_nil) (fun _ _ _ _ _ => (pe_op op_add (pv 2) (pv 3)))) pa_nil)))), ?_⟩
    refine ⟨_, rfl, _, rfl, .T, .T, a, b, _, _, rfl, .inl (.inl ha), .inl (.inl hb), ?_⟩
    refine fun D hD => lcZ_map vAdd (by simp; omega) (by rw [List.length_map]; exact small5 (by omega)) (fun H' s => ⟨.inl (.inl (s _ _ ha)), .inl (.inl (s _ _ hb))⟩) (fun i x y H' R hx hy s q' => ?_) hD fun H' s hL => ?_
    · obtain ⟨x', mx, _, rfl⟩ := get_nat hx
      obtain ⟨y', my, _, rfl⟩ := get_nat hy
      exact ⟨rfl, _, rfl, _, rfl, _, _, rfl, rfl, q' _ (Same.refl _)⟩
    · rw [zip_addN] at hL
      exact ⟨D, _, rfl, hL, fun l H2 s2 h2 => q l H2 (s.trans s2) h2⟩
def Bf (f : F) : Prop := ∀ n ∈ f, n < 2 ^ 900
def sp_form_times : Sp := fun vs H Q _ => ∃ (k : Nat) (a : Addr) (f : F), vs = [.int k, .ref a] ∧ FT H a f ∧ f.length ≤ 4 ∧ k < 2 ^ 900 ∧ Bf f ∧ ∀ p H', Same H H' → FT H' p (timesF k f) → Q (.ref p) H'
theorem c_form_times (T : Txt K mg C) : C8.Cal P w K mg base 1 "form_times" sp_form_times [] := by
  refine calF T.d_form_times sc_form_times (fun vs H Q E h => ?_) (fun f cdv A outer s H vs Q E hr h => ?_)
  · obtain ⟨_, _, _, rfl, _⟩ := h; rfl
  · obtain ⟨k, a, f, rfl, ha, h4, hk, bf, q⟩ := h
    refine ⟨_, (pss_one (ps_ret (pe_callTy call_tupL (by rfl) T.m_tuple (by decide +kernel) (pa_cons (pe_lc (own := [("own", 2)]) (by rfl) sc_form_times.nd (pi_tup (pv 1)) (blkOk_by (N := ["number", "form", "own"]) (sc := C8.fnScope (topS 18)) (own := [("own", 2)]) (by decide +kernel)) (fun _ _ _ _ _ => (pg_name (i := 2) sc_form_times.nd rfl (Or.inl rfl))) (fun _ _ _ _ _ => pts_nil) (fun _ _ _ _ _ => (pe_op op_mulW (pv 0) (pv 2)))) pa_nil)))), ?_⟩
    refine ⟨_, rfl, a, rfl, ⟨_, .inl (.inl ha)⟩, ?_⟩
    refine fun D hD => lcT_map (fun x => match x with | .int j => .int ((k : Int) * j) | _ => .non) ha (by rw [List.length_map]; exact small5 (by omega)) (fun i x H' R hx s q' => ?_) hD fun H' s hL => ?_
    · obtain ⟨x', mx, _, rfl⟩ := get_nat hx
      have := bf x' mx
      exact ⟨rfl, _, rfl, _, rfl, _, _, rfl, rfl, wide_mul (a := 900) (b := 900) (by omega) (by omega) (by decide) (by decide) (by decide), q' _ (Same.refl _)⟩
    · refine ⟨D, _, rfl, hL, fun l H2 s2 h2 => q l H2 (s.trans s2) ?_⟩
      unfold FT
      rw [h2, timesF, List.map_map, List.map_map]
      congr 2
end
end K67

set_option Elab.async false
set_option linter.all false
set_option maxRecDepth 100000
set_option maxHeartbeats 4000000
namespace K67
open PySem PySem.Spec PyProof.Rows L2 CK SX NM
/-! ### pieces in the heap -/
def PC (H : Hp) (a : Addr) (p : Pn) : Prop := ∃ fa, H a = some (.tup [.str (S p.1), .ref fa]) ∧ FT H fa p.2
theorem PC.mono {H H' : Hp} {a : Addr} {p : Pn} (h : PC H a p) (s : ∀ a xs, H a = some (.tup xs) → H' a = some (.tup xs)) : PC H' a p := by
  obtain ⟨fa, h1, h2⟩ := h
  exact ⟨fa, s _ _ h1, s _ _ h2⟩
inductive Pcs (H : Hp) : List V → List Pn → Prop
  | nil : Pcs H [] []
  | cons {a : Addr} {vs : List V} {p : Pn} {ps : List Pn} : PC H a p → Pcs H vs ps → Pcs H (.ref a :: vs) (p :: ps)
theorem Pcs.mono {H H' : Hp} {vs : List V} {ps : List Pn} (h : Pcs H vs ps) (s : ∀ a xs, H a = some (.tup xs) → H' a = some (.tup xs)) : Pcs H' vs ps := by
  induction h with
  | nil => exact .nil
  | cons e _ ih => exact .cons (e.mono s) ih
theorem tup_same {H H' : Hp} (s : Same H H') : ∀ a xs, H a = some (.tup xs) → H' a = some (.tup xs) := fun a xs e => s _ _ e
theorem tup_upd {H : Hp} {l : Addr} {xs ys : List V} (hl : H l = some (.lst xs)) : ∀ a zs, H a = some (.tup zs) → (upd H l (.lst ys)) a = some (.tup zs) := fun a zs e => by
  rw [upd_ne (fun z => by rw [z, hl] at e; cases e)]
  exact e
theorem tup_sameX {l : Addr} {H H' : Hp} {xs : List V} (hl : H l = some (.lst xs)) (s : SameX l H H') : ∀ a zs, H a = some (.tup zs) → H' a = some (.tup zs) := fun a zs e =>
  s _ _ (fun z => by rw [z, hl] at e; cases e) e
theorem Pcs.same {H H' : Hp} {vs : List V} {ps : List Pn} (h : Pcs H vs ps) (s : Same H H') : Pcs H' vs ps := h.mono (tup_same s)
theorem Pcs.upd {H : Hp} {vs : List V} {ps : List Pn} {l : Addr} {xs ys : List V} (h : Pcs H vs ps) (hl : H l = some (.lst xs)) : Pcs (upd H l (.lst ys)) vs ps := h.mono (tup_upd hl)
theorem Pcs.len {H : Hp} {vs : List V} {ps : List Pn} (h : Pcs H vs ps) : vs.length = ps.length := by
  induction h with
  | nil => rfl
  | cons _ _ ih => simp [ih]
theorem Pcs.app {H : Hp} {vs us : List V} {ps qs : List Pn} (h : Pcs H vs ps) (g : Pcs H us qs) : Pcs H (vs ++ us) (ps ++ qs) := by
  induction h with
  | nil => exact g
  | cons e _ ih => exact .cons e ih
theorem Pcs.get {H : Hp} {vs : List V} {ps : List Pn} (h : Pcs H vs ps) {i : Nat} {v : V} (hi : vs[i]? = some v) : ∃ a p, v = .ref a ∧ ps[i]? = some p ∧ PC H a p := by
  induction h generalizing i with
  | nil => simp at hi
  | cons e _ ih =>
    cases i with
    | zero =>
      cases hi
      exact ⟨_, _, rfl, rfl, e⟩
    | succ i => exact ih hi
theorem Pcs.init {H : Hp} {vs : List V} {ps : List Pn} (h : Pcs H vs ps) : Pcs H vs.dropLast ps.dropLast := by
  induction h with
  | nil => exact .nil
  | cons e h ih =>
    cases h with
    | nil => exact .nil
    | cons e2 h2 => exact .cons e ih
theorem Pcs.one {H : Hp} {a : Addr} {p : Pn} (e : PC H a p) : Pcs H [.ref a] [p] := .cons e .nil
def PL (H : Hp) (l : Addr) (ps : List Pn) : Prop := ∃ vs, H l = some (.lst vs) ∧ Pcs H vs ps
theorem PL.same {H H' : Hp} {l : Addr} {ps : List Pn} (h : PL H l ps) (s : Same H H') : PL H' l ps := by
  obtain ⟨vs, e, p⟩ := h
  exact ⟨vs, s _ _ e, p.same s⟩
theorem last_at {vs : List V} {v : V} (h : vs[vs.length - 1]? = some v) : atI vs (-1) = some v := by
  have := (List.getElem?_eq_some_iff.mp h).1
  unfold atI ixN
  rw [if_neg (by omega), if_pos (by omega)]
  show vs[((-1 : Int) + vs.length).toNat]? = _
  rw [show ((-1 : Int) + vs.length).toNat = vs.length - 1 by omega]
  exact h
theorem head_get {f : F} {m : Nat} (h : f.length = m + 1) : (f.map fun n : Nat => V.int (n : Nat))[0]? = some (.int ((f.headD 0 : Nat) : Int)) := by
  cases f with
  | nil => simp at h
  | cons a f => rfl
theorem nat_dec (a b : Nat) : decide (V.int (a : Nat) = V.int (b : Nat)) = decide (a = b) := by
  by_cases h : a = b
  · rw [h, decide_eq_true rfl, decide_eq_true rfl]
  · rw [decide_eq_false h, decide_eq_false (fun z => h (by have := V.int.inj z; omega))]
theorem not_empty {α : Type} {l : List α} {q : α} (h : l.getLast? = some q) : (!l.isEmpty) = true := by
  cases l with
  | nil => cases h
  | cons _ _ => rfl
section
variable {P : Program} {w : World} {K : PySem.W.Frag} {mg : Str → Option Value} {base : Heap} {C : Addr}
def sp_open : Sp := fun vs H Q _ => ∃ (a : Addr) (f : F), vs = [.ref a] ∧ FT H a f ∧ ∀ H', Same H H' → Q (.bl (isOpen f)) H'
theorem c_is_open_form (T : Txt K mg C) : C8.Cal P w K mg base 1 "is_open_form" sp_open [] := by
  refine calF T.d_is_open_form sc_is_open_form (fun vs H Q E h => ?_) (fun f cdv A outer s H vs Q E hr h => ?_)
  · obtain ⟨_, _, rfl, _⟩ := h; rfl
  · obtain ⟨a, f, rfl, ha, q⟩ := h
    refine ⟨_, (pss_one (ps_ret (pe_callB (cr_anyN rfl) (by rfl) T.m_any (by decide +kernel) (pa_cons (pe_slice sl_drop (pv 0) (po_some pe_int) po_none) pa_nil)))), ?_⟩
    refine ⟨_, rfl, 1, rfl, a, _, 1, rfl, rfl, rfl, ha, fun p1 H1 s1 h1 => ⟨p1, f.tail, rfl, ?_, q H1 s1⟩⟩
    rw [h1, ← List.map_drop]
    cases f <;> rfl
def sp_is_power : Sp := fun vs H Q _ => ∃ (a : Addr) (p : Pn) (m : Nat), vs = [.ref a] ∧ PC H a p ∧ p.2.length = m + 1 ∧ Q (.bl (isPow p)) H
theorem c_is_power (T : Txt K mg C) : C8.Cal P w K mg base 1 "is_power" sp_is_power [] := by
  refine calF T.d_is_power sc_is_power (fun vs H Q E h => ?_) (fun f cdv A outer s H vs Q E hr h => ?_)
  · obtain ⟨_, _, _, rfl, _⟩ := h; rfl
  · obtain ⟨a, p, m, rfl, ⟨fa, h1, h2⟩, hl, q⟩ := h
    refine ⟨_, (pss_one (ps_ret (pe_cmpR op_eq (pe_ix ix_tup (pe_ix ix_tup (pv 0) pe_int (fun _ _ => rfl)) pe_int (fun _ _ => rfl)) pe_int (nomark _)))), ?_⟩
    refine ⟨_, rfl, a, _, 1, _, rfl, rfl, .inl (.inl h1), atI_nat (j := 1) rfl, fa, _, 0, _, rfl, rfl, .inl (.inl h2), atI_nat (j := 0) (head_get hl), rfl, ?_⟩
    have := nat_dec (p.2.headD 0) 0
    rw [show V.int ((0 : Nat) : Int) = V.int 0 from rfl] at this
    rw [this]
    exact q
def sp_fixed : Sp := fun vs H Q _ => ∃ (z : List Nat) (m : Nat), vs = [.str (S z), .int m] ∧ m ≤ 3 ∧ ∀ p H', Same H H' → PC H' p (fixP z m) → Q (.ref p) H'
theorem c_fixed_piece (T : Txt K mg C) : C8.Cal P w K mg base 1 "fixed_piece" sp_fixed [] := by
  refine calF T.d_fixed_piece sc_fixed_piece (fun vs H Q E h => ?_) (fun f cdv A outer s H vs Q E hr h => ?_)
  · obtain ⟨_, _, rfl, _⟩ := h; rfl
  · obtain ⟨z, m, rfl, hm, q⟩ := h
    refine ⟨_, (pss_one (ps_ret (pe_tup (pa_cons (pv 0) (pa_cons (pe_op op_catS (pe_tup (pa_cons pe_int pa_nil)) (pe_op op_repOne (pe_tup (pa_cons pe_int pa_nil)) (pv 1))) pa_nil))))), ?_⟩
    refine ⟨_, rfl, by show 1 ≤ sizeLine; decide, fun t1 n1 => ⟨by decide, fun t2 n2 => ⟨_, rfl, t2, _, _, rfl, rfl, upd_same, by omega, by omega, fun p H' s hp => ?_⟩⟩⟩
    have e1 : H' t1 = some (.tup [.int 1]) := s _ _ (by rw [upd_ne (ne_of_none upd_same n2)]; exact upd_same)
    refine ⟨t1, p, _, _, rfl, rfl, e1, hp, by simp; omega, fun p2 H2 s2 h2 => ⟨by show 2 ≤ sizeLine; decide, fun t ht => ?_⟩⟩
    refine q t _ ((((sameNew n1).trans (sameNew n2)).trans (s.trans s2)).trans (sameNew ht)) ⟨p2, upd_same, ?_⟩
    refine sameNew ht _ _ ?_
    rw [h2]
    unfold fixP one1
    simp
theorem tru_word {K : PySem.W.Frag} {H : Hp} {z : List Nat} (h : z.length ≤ 1000000) : TruV K (.str (S z)) H (decide (z ≠ [])) := by
  refine ⟨len_line h, ?_⟩
  rw [S_len]
  by_cases e : z = []
  · subst e; rfl
  · have := List.length_pos_iff.mpr e
    rw [decide_eq_true e]
    symm
    rw [bne_iff_ne]
    omega
theorem SameX.updL {l : Addr} {H H1 : Hp} {o : HO} (s : SameX l H H1) : SameX l H (upd H1 l o) := fun b x hb e => by
  rw [upd_ne hb]
  exact s b x hb e
/-- behind the first test -/
theorem fixed_tail (T : Txt K mg C) (f : Addr) (cdv : Value) (A : Around) (outer : List Env) (s : Shared) (H0 : Hp) (E : XK) (hr : Room 1 (A.deeper (envOfC "put_fixed" (C8.fnScope (topS 37)) s.heap.objs.size f cdv))) :
    ∃ u, PSs (cxOf C8.CX0 P w K mg base ["ready", "word", "many"] "put_fixed" (C8.fnScope (topS 37)) f cdv A outer s H0 E).nox ((C8.fnBody (topS 37)).drop 1) u ∧
      ∀ (D : Ends) (H : Hp) (l : Addr) (us : List V) (X : List Pn) (z : List Nat) (m : Nat), H l = some (.lst us) → Pcs H us X → m ≤ 3 → X.length < 1000000 → z.length ≤ 200000 →
        (∀ σ H', SameX l H H' → PL H' l (if z = [] then X else X ++ [fixP z m]) → D.nx σ H') → u D [some (.ref l), some (.str (S z)), some (.int m)] H := by
  refine ⟨_, (pss_one (ps_if (pt_truth (pv 1) (by intro _; rfl))
    (pss_one (ps_expr (pe_bm PySem.F.plainAttrs_list PySem.F.slot_list_append PySem.F.type_list_append mt_append (pv 0) (pa_cons (C8.pe_c (c_fixed_piece T) hr (by decide) (by rfl) (pa_cons (pv 1) (pa_cons (pv 2) pa_nil))) pa_nil))))
    pss_nil)), ?_⟩
  intro D H l us X z m hl hX hm lX lz q
  refine ⟨_, rfl, _, tru_word (by omega), ite2 (fun e => ?_) (fun e => ?_)⟩
  · have e' := of_decide_eq_true e
    refine ⟨_, rfl, .inl ⟨rfl, _, .inl (.inl hl)⟩, _, rfl, _, rfl, z, m, rfl, hm, fun t H2 s2 pc => ?_⟩
    have h2 := s2 _ _ hl
    refine ⟨l, _, _, rfl, rfl, h2, by have := hX.len; rw [sizeLine_eq]; omega, q _ _ (SameX.updL (.of s2)) ?_⟩
    rw [if_neg e']
    exact ⟨_, upd_same, ((hX.same s2).upd h2).app (.one (pc.mono (tup_upd h2)))⟩
  · have e' : z = [] := Classical.byContradiction fun y => e (decide_eq_true y)
    exact q _ _ (.refl _ _) (by rw [if_pos e']; exact ⟨us, hl, hX⟩)
/-- the list at l grows, all else stays -/
def sp_put_fixed : Sp := fun vs H Q _ => ∃ (l : Addr) (acc : List Pn) (z : List Nat) (m : Nat), vs = [.ref l, .str (S z), .int m] ∧ PL H l acc ∧ LenF m acc ∧ m ≤ 3 ∧ acc.length < 1000000 ∧ z.length ≤ 100000 ∧ (∀ p ∈ acc, p.1.length ≤ 100000) ∧
  ∀ H', SameX l H H' → PL H' l (joinF acc z m) → Q .non H'
theorem c_put_fixed (T : Txt K mg C) : C8.Cal P w K mg base 2 "put_fixed" sp_put_fixed [] := by
  refine calF T.d_put_fixed sc_put_fixed (fun vs H Q E h => ?_) (fun f cdv A outer s H vs Q E hr h => ?_)
  · obtain ⟨_, _, _, _, rfl, _⟩ := h; rfl
  · obtain ⟨l, acc, z, m, rfl, ⟨vs, hl, hp⟩, lf, hm, hacc, hz, hw, q⟩ := h
    have lv := hp.len
    obtain ⟨u1, hu1, tail⟩ := fixed_tail (P := P) (w := w) (base := base) T f cdv A outer s H E hr
    refine ⟨_, (pss_cons (ps_if (PW.pt (pw_and (pt_truth (pv 0) (by intro _; rfl)) (pw_and1 (pt_not (pt_val (C8.pe_c (c_is_power T) hr (by decide) (by rfl) (pa_cons (pe_ix ix_list (pv 0) (pe_un un_neg pe_int) (fun _ _ => rfl)) pa_nil)))))))
    (pss_one (ps_set (i := 1) sc_put_fixed.nd rfl (Or.inl rfl) (pe_op op_add_str (pe_ix ix_tup (pe_bm0 PySem.F.plainAttrs_list PySem.F.slot_list_pop PySem.F.type_list_pop mt_pop (pv 0)) pe_int (fun _ _ => rfl)) (pv 1))))
    pss_nil)
    hu1), ?_⟩
    cases hlast : vs.getLast? with
    | none =>
      have ve : vs = [] := List.getLast?_eq_none_iff.mp hlast
      have ae : acc = [] := List.length_eq_zero_iff.mp (by rw [← lv, ve]; rfl)
      have ep : joinF acc z m = if z = [] then acc else acc ++ [fixP z m] := by rw [ae]; rfl
      rw [ep] at q
      refine ⟨_, rfl, false, .inl ⟨_, .inl (.inl hl), by rw [ve]; rfl⟩, iteF (iteF ?_)⟩
      exact tail _ H l vs acc z m hl hp hm hacc (by omega) fun _ H' s' p' => q H' s' p'
    | some v =>
      have hv : vs[vs.length - 1]? = some v := by rw [← List.getLast?_eq_getElem?]; exact hlast
      obtain ⟨b, p, rfl, hpi, pc⟩ := hp.get hv
      have ha : acc.getLast? = some p := by rw [List.getLast?_eq_getElem?, ← lv]; exact hpi
      have mem := List.mem_of_getLast? ha
      refine ⟨_, rfl, true, .inl ⟨_, .inl (.inl hl), (not_empty hlast).symm⟩, iteT ?_⟩
      refine ⟨_, rfl, 1, rfl, l, _, -1, _, rfl, rfl, .inl (.inl hl), last_at hv, b, p, m, rfl, pc, lf p mem, _, rfl, ?_⟩
      cases ep : isPow p with
      | true =>
        have e : joinF acc z m = if z = [] then acc else acc ++ [fixP z m] := by
          unfold joinF
          rw [ha]
          simp [ep]
        rw [e] at q
        refine iteF ?_
        exact tail _ H l vs acc z m hl hp hm hacc (by omega) fun _ H' s' p' => q H' s' p'
      | false =>
        have e : joinF acc z m = if p.1 ++ z = [] then acc.dropLast else acc.dropLast ++ [fixP (p.1 ++ z) m] := by
          unfold joinF
          rw [ha]
          simp [ep]
        rw [e] at q
        obtain ⟨fa, h1, h2⟩ := id pc
        have lp := hw p mem
        refine iteT ⟨_, rfl, .inl ⟨rfl, _, .inl (.inl hl)⟩, l, _, _, rfl, rfl, hl, hv, b, _, 0, _, rfl, rfl, .inl (.inl (tup_upd hl _ _ h1)), atI_nat (j := 0) rfl, _, rfl, _, _, rfl, rfl, ?_, ?_⟩
        · rw [S_len, S_len, sizeLine_eq]
          omega
        · rw [S_cat]
          exact tail _ _ l vs.dropLast acc.dropLast (p.1 ++ z) m upd_same (hp.init.upd hl) hm (by rw [List.length_dropLast]; omega) (by rw [List.length_append]; omega) fun _ H' s' p' => q H' ((SameX.updL (.refl _ _)).trans s') p'
end
end K67

set_option Elab.async false
set_option linter.all false
set_option maxRecDepth 100000
set_option maxHeartbeats 4000000
namespace K67
open PySem PySem.Spec PyProof.Rows L2 CK SX NM
def Ws (B : Nat) (ps : List Pn) : Prop := ∀ p ∈ ps, p.1.length ≤ B
theorem mem_joinF {acc : List Pn} {z : WM.W} {m : Nat} {p : Pn} (h : p ∈ joinF acc z m) : p ∈ acc ∨ p = fixP z m ∨ ∃ q ∈ acc, p = fixP (q.1 ++ z) m := by
  unfold joinF at h
  split at h
  · next q hq =>
    have mq := List.mem_of_getLast? hq
    split at h
    · split at h
      · exact .inl h
      · rcases List.mem_append.mp h with x | x
        · exact .inl x
        · exact .inr (.inl (List.mem_singleton.mp x))
    · split at h
      · exact .inl (mem_dropLast h)
      · rcases List.mem_append.mp h with x | x
        · exact .inl (mem_dropLast x)
        · exact .inr (.inr ⟨q, mq, List.mem_singleton.mp x⟩)
  · split at h
    · exact .inl h
    · rcases List.mem_append.mp h with x | x
      · exact .inl x
      · exact .inr (.inl (List.mem_singleton.mp x))
theorem len_one1 (m : Nat) : (one1 m).length = m + 1 := by simp [one1]
theorem lenF_joinF {acc : List Pn} {z : WM.W} {m : Nat} (h : LenF m acc) : LenF m (joinF acc z m) := fun p hp => by
  rcases mem_joinF hp with x | x | ⟨q, _, x⟩
  · exact h p x
  · rw [x]; exact len_one1 m
  · rw [x]; exact len_one1 m
theorem ws_joinF {acc : List Pn} {z : WM.W} {m B : Nat} (h : Ws B acc) (hz : z.length ≤ B) : Ws (2 * B) (joinF acc z m) := fun p hp => by
  rcases mem_joinF hp with x | x | ⟨q, hq, x⟩
  · have := h p x
    omega
  · rw [x]
    show z.length ≤ 2 * B
    omega
  · rw [x]
    show (q.1 ++ z).length ≤ 2 * B
    have := h q hq
    rw [List.length_append]
    omega
theorem len_joinF (acc : List Pn) (z : WM.W) (m : Nat) : (joinF acc z m).length ≤ acc.length + 1 := by
  unfold joinF
  split
  · split
    · split <;> simp
    · split <;> simp
      omega
  · split <;> simp
section
variable {P : Program} {w : World} {K : PySem.W.Frag} {mg : Str → Option Value} {base : Heap} {C : Addr}
theorem power_tail2 (T : Txt K mg C) (f0 : Addr) (cdv : Value) (A : Around) (outer : List Env) (s : Shared) (H0 : Hp) (E : XK) (hr : Room 2 (A.deeper (envOfC "put_power" (C8.fnScope (topS 38)) s.heap.objs.size f0 cdv))) :
    ∃ u, PSs (cxOf C8.CX0 P w K mg base ["ready", "word", "form", "many", "behind", "ahead", "moved"] "put_power" (C8.fnScope (topS 38)) f0 cdv A outer s H0 E).nox ((C8.fnBody (topS 38)).drop 4) u ∧
      ∀ (D : Ends) (H : Hp) (l fa : Addr) (us : List V) (X : List Pn) (z b : List Nat) (f : F) (m : Nat) (y5 y6 : Option V), H l = some (.lst us) → Pcs H us X → FT H fa f → f.length = m + 1 → LenF m X → m ≤ 3 → X.length < 900000 → b.length ≤ 100000 → z.length ≤ 100000 → Ws 100000 X →
        (∀ σ H', SameX l H H' → PL H' l (joinF (X ++ [(z, f)]) b m) → D.nx σ H') → u D [some (.ref l), some (.str (S z)), some (.ref fa), some (.int m), some (.str (S b)), y5, y6] H := by
  refine ⟨_, (pss_cons (ps_expr (pe_bm PySem.F.plainAttrs_list PySem.F.slot_list_append PySem.F.type_list_append mt_append (pv 0) (pa_cons (pe_tup (pa_cons (pv 1) (pa_cons (pv 2) pa_nil))) pa_nil)))
    (pss_one (ps_expr (C8.pe_c (c_put_fixed T) hr (by decide) (by rfl) (pa_cons (pv 0) (pa_cons (pv 4) (pa_cons (pv 3) pa_nil))))))), ?_⟩
  intro D H l fa us X z b f m y5 y6 hl hX hf lf lX hm hn lb lz ws q
  have lu := hX.len
  refine ⟨_, rfl, .inl ⟨rfl, _, .inl (.inl hl)⟩, _, rfl, _, rfl, by show 2 ≤ sizeLine; decide, fun t ht => ?_⟩
  have st := sameNew (o := .tup [.str (S z), .ref fa]) ht
  have h1 := st _ _ hl
  refine ⟨l, _, _, rfl, rfl, h1, by rw [sizeLine_eq]; omega, ?_⟩
  have PL1 : PL (upd (upd H t (.tup [.str (S z), .ref fa])) l (.lst (us ++ [.ref t]))) l (X ++ [(z, f)]) := by
    refine ⟨_, upd_same, ((hX.same st).upd h1).app (.one ⟨fa, tup_upd h1 _ _ upd_same, tup_upd h1 _ _ (st _ _ hf)⟩)⟩
  refine ⟨_, rfl, _, rfl, _, rfl, l, X ++ [(z, f)], b, m, rfl, PL1, fun p hp => ?_, hm, by simp; omega, by omega, fun p hp => ?_, fun H' s' p' => q _ H' ((SameX.updL (.of st)).trans s') p'⟩
  · rcases List.mem_append.mp hp with x | x
    · exact lX p x
    · rw [List.mem_singleton.mp x]
      exact lf
  · rcases List.mem_append.mp hp with x | x
    · exact ws p x
    · rw [List.mem_singleton.mp x]
      exact lz
theorem power_tail1 (T : Txt K mg C) (f0 : Addr) (cdv : Value) (A : Around) (outer : List Env) (s : Shared) (H0 : Hp) (E : XK) (hr : Room 2 (A.deeper (envOfC "put_power" (C8.fnScope (topS 38)) s.heap.objs.size f0 cdv))) :
    ∃ u, PSs (cxOf C8.CX0 P w K mg base ["ready", "word", "form", "many", "behind", "ahead", "moved"] "put_power" (C8.fnScope (topS 38)) f0 cdv A outer s H0 E).nox ((C8.fnBody (topS 38)).drop 3) u ∧
      ∀ (D : Ends) (σ : L2.St) (H : Hp) (l fa : Addr) (us : List V) (X : List Pn) (z b : List Nat) (f : F) (m : Nat) (y5 y6 : Option V), σ = [some (.ref l), some (.str (S z)), some (.ref fa), some (.int m), some (.str (S b)), y5, y6] → H l = some (.lst us) → Pcs H us X → FT H fa f → f.length = m + 1 → LenF m X → m ≤ 3 → X.length < 900000 → b.length ≤ 100000 → z.length ≤ 100000 → Ws 100000 X →
        (∀ σ H', SameX l H H' → PL H' l (joinF (pushP X z f) b m) → D.nx σ H') → u D σ H := by
  obtain ⟨u2, hu2, tail⟩ := power_tail2 (P := P) (w := w) (base := base) T f0 cdv A outer s H0 E hr
  refine ⟨_, (pss_cons (ps_if (PW.pt (pw_and (pt_truth (pv 0) (by intro _; rfl)) (pw_and (pt_val (C8.pe_c (c_is_power T) hr (by decide) (by rfl) (pa_cons (pe_ix ix_list (pv 0) (pe_un un_neg pe_int) (fun _ _ => rfl)) pa_nil))) (pw_and1 (pt_cmpR op_eq (pe_ix ix_tup (pe_ix ix_list (pv 0) (pe_un un_neg pe_int) (fun _ _ => rfl)) pe_int (fun _ _ => rfl)) (pv 1) (nomark _))))))
    (pss_one (ps_set (i := 2) sc_put_power.nd rfl (Or.inl rfl) (C8.pe_c (c_form_sum T) hr (by decide) (by rfl) (pa_cons (pe_ix ix_tup (pe_bm0 PySem.F.plainAttrs_list PySem.F.slot_list_pop PySem.F.type_list_pop mt_pop (pv 0)) pe_int (fun _ _ => rfl)) (pa_cons (pv 2) pa_nil)))))
    pss_nil)
    hu2), ?_⟩
  intro D σ H l fa us X z b f m y5 y6 eσ hl hX hf lf lX hm hn lb lz ws q
  subst eσ
  have lu := hX.len
  cases hlast : us.getLast? with
  | none =>
    have ve : us = [] := List.getLast?_eq_none_iff.mp hlast
    have ae : X = [] := List.length_eq_zero_iff.mp (by rw [← lu, ve]; rfl)
    have ep : pushP X z f = X ++ [(z, f)] := by rw [ae]; rfl
    rw [ep] at q
    refine ⟨_, rfl, false, .inl ⟨_, .inl (.inl hl), by rw [ve]; rfl⟩, iteF (iteF ?_)⟩
    exact tail _ H l fa us X z b f m y5 y6 hl hX hf lf lX hm hn lb lz ws q
  | some v =>
    have hv : us[us.length - 1]? = some v := by rw [← List.getLast?_eq_getElem?]; exact hlast
    obtain ⟨c, p, rfl, hpi, pc⟩ := hX.get hv
    have ha : X.getLast? = some p := by rw [List.getLast?_eq_getElem?, ← lu]; exact hpi
    have mem := List.mem_of_getLast? ha
    have other : ¬ (isPow p = true ∧ p.1 = z) → u2 D [some (.ref l), some (.str (S z)), some (.ref fa), some (.int m), some (.str (S b)), y5, y6] H := fun no => by
      have ep : pushP X z f = X ++ [(z, f)] := by
        unfold pushP
        rw [ha]
        simp [no]
      rw [ep] at q
      exact tail _ H l fa us X z b f m y5 y6 hl hX hf lf lX hm hn lb lz ws q
    refine ⟨_, rfl, true, .inl ⟨_, .inl (.inl hl), (not_empty hlast).symm⟩, iteT ?_⟩
    refine ⟨_, rfl, 1, rfl, l, _, -1, _, rfl, rfl, .inl (.inl hl), last_at hv, c, p, m, rfl, pc, lX p mem, _, rfl, ?_⟩
    cases ep : isPow p with
    | false => exact iteF (iteF (other fun z => by rw [ep] at z; cases z.1))
    | true =>
      obtain ⟨fp, h1, h2⟩ := id pc
      refine iteT ⟨_, rfl, 1, rfl, l, _, -1, _, rfl, rfl, .inl (.inl hl), last_at hv, c, _, 0, _, rfl, rfl, .inl (.inl h1), atI_nat (j := 0) rfl, _, rfl, rfl, _, rfl, ite2 (fun e => ?_) (fun e => ?_)⟩
      · have e1 : p.1 = z := S_inj (V.str.inj (of_decide_eq_true e))
        have es : pushP X z f = X.dropLast ++ [(z, addF p.2 f)] := by
          unfold pushP
          rw [ha]
          simp [ep, e1]
        rw [es] at q
        have lp := lX p mem
        have h2' : FT (upd H l (.lst us.dropLast)) fp p.2 := tup_upd hl _ _ h2
        refine ⟨_, rfl, .inl ⟨rfl, _, .inl (.inl hl)⟩, l, _, _, rfl, rfl, hl, hv, c, _, 1, _, rfl, rfl, .inl (.inl (tup_upd hl _ _ h1)), atI_nat (j := 1) rfl, _, rfl, fp, fa, p.2, f, rfl, h2', tup_upd hl _ _ hf, by omega, by omega, fun fs H2 s2 h3 => ?_⟩
        have hl2 : H2 l = some (.lst us.dropLast) := s2 _ _ upd_same
        refine tail _ H2 l fs us.dropLast X.dropLast z b (addF p.2 f) m y5 y6 hl2 ((hX.init.upd hl).same s2) h3 (by rw [len_add (by omega)]; exact lf) (fun r hr' => lX r (mem_dropLast hr')) hm (by rw [List.length_dropLast]; omega) lb lz (fun r hr' => ws r (mem_dropLast hr')) fun σ H' s' p' => q σ H' (((SameX.updL (.refl _ _)).trans (.of s2)).trans s') p'
      · exact other fun y => e (decide_eq_true (by rw [y.2]))
def sp_put_power : Sp := fun vs H Q _ => ∃ (l fa : Addr) (acc : List Pn) (z : List Nat) (f : F) (m : Nat), vs = [.ref l, .str (S z), .ref fa] ∧ PL H l acc ∧ FT H fa f ∧ f.length = m + 1 ∧ LenF m acc ∧ m ≤ 3 ∧ acc.length < 100000 ∧ z ≠ [] ∧ z.length ≤ 10000 ∧ Ws 10000 acc ∧
  ∀ H', SameX l H H' → PL H' l (putP acc z f) → Q .non H'
theorem c_put_power (T : Txt K mg C) : C8.Cal P w K mg base 3 "put_power" sp_put_power [] := by
  refine calF T.d_put_power sc_put_power (fun vs H Q E h => ?_) (fun f0 cdv A outer s H vs Q E hr h => ?_)
  · obtain ⟨_, _, _, _, _, _, rfl, _⟩ := h; rfl
  · obtain ⟨l, fa, acc, z, f, m, rfl, ⟨vs, hl, hp⟩, hf, lf, lA, hm, hacc, zne, hz, ws, q⟩ := h
    have lv := hp.len
    have em : f.length - 1 = m := by omega
    obtain ⟨u1, hu1, tail⟩ := power_tail1 (P := P) (w := w) (base := base) T f0 cdv A outer s H E hr
    refine ⟨_, (pss_cons (ps_set (i := 3) sc_put_power.nd rfl (Or.inl rfl) (pe_op op_sub (pe_callB call_len_seq (by rfl) T.m_len (by decide +kernel) (pa_cons (pv 2) pa_nil)) pe_int))
    (pss_cons (ps_set (i := 4) sc_put_power.nd rfl (Or.inl rfl) pe_str)
    (pss_cons (ps_if (PW.pt (pw_and (pt_truth (pv 0) (by intro _; rfl)) (pw_and1 (pt_not (pt_val (C8.pe_c (c_is_power T) hr (by decide) (by rfl) (pa_cons (pe_ix ix_list (pv 0) (pe_un un_neg pe_int) (fun _ _ => rfl)) pa_nil)))))))
    (pss_cons (ps_set (i := 5) sc_put_power.nd rfl (Or.inl rfl) (pe_ix ix_tup (pe_bm0 PySem.F.plainAttrs_list PySem.F.slot_list_pop PySem.F.type_list_pop mt_pop (pv 0)) pe_int (fun _ _ => rfl)))
    (pss_cons (ps_set (i := 6) sc_put_power.nd rfl (Or.inl rfl) (C8.pe_c (c_alike_behind T) hr (by decide) (by rfl) (pa_cons (pv 5) (pa_cons (C8.pe_c (c_stretch T) hr (by decide) (by rfl) (pa_cons (pv 1) (pa_cons (pe_un un_neg (pe_callB call_len_str (by rfl) T.m_len (by decide +kernel) (pa_cons (pv 5) pa_nil))) (pa_cons (pe_callB call_len_str (by rfl) T.m_len (by decide +kernel) (pa_cons (pv 5) pa_nil)) pa_nil)))) pa_nil))))
    (pss_cons (ps_set (i := 4) sc_put_power.nd rfl (Or.inl rfl) (pe_slice C8.sl_txt (pv 5) (po_some (pe_op op_sub (pe_callB call_len_str (by rfl) T.m_len (by decide +kernel) (pa_cons (pv 5) pa_nil)) (pv 6))) po_none))
    (pss_cons (ps_set (i := 1) sc_put_power.nd rfl (Or.inl rfl) (C8.pe_c (c_turned_word T) hr (by decide) (by rfl) (pa_cons (pv 1) (pa_cons (pe_un un_neg (pv 6)) pa_nil))))
    (pss_one (ps_expr (C8.pe_c (c_put_fixed T) hr (by decide) (by rfl) (pa_cons (pv 0) (pa_cons (pe_slice C8.sl_txt (pv 5) po_none (po_some (pe_op op_sub (pe_callB call_len_str (by rfl) T.m_len (by decide +kernel) (pa_cons (pv 5) pa_nil)) (pv 6)))) (pa_cons (pv 3) pa_nil))))))))))
    pss_nil)
    hu1))), ?_⟩
    refine ⟨_, rfl, fa, _, rfl, .inr (.inl (.inl hf)), _, _, rfl, rfl, ?_⟩
    have lm : (((f.map fun n : Nat => V.int (n : Nat)).length : Nat) : Int) - 1 = (m : Int) := by rw [List.length_map, lf]; omega
    have eS : (V.str "") = V.str (S []) := by decide +kernel
    have eσ : [some (V.ref l), some (V.str (S z)), some (V.ref fa), some (V.int ((((f.map fun n : Nat => V.int (n : Nat)).length : Nat) : Int) - 1)), some (V.str ""), none, none] = [some (V.ref l), some (V.str (S z)), some (V.ref fa), some (V.int (m : Nat)), some (V.str (S [])), none, none] := by rw [lm, eS]
    have simple : (∀ q, acc.getLast? = some q → isPow q = true) → u1 { nx := fun _ H' => Q .non H', rt := Q } [some (V.ref l), some (V.str (S z)), some (V.ref fa), some (V.int ((((f.map fun n : Nat => V.int (n : Nat)).length : Nat) : Int) - 1)), some (V.str ""), none, none] H := fun hp' => by
      have e : putP acc z f = joinF (pushP acc z f) [] m := by
        unfold putP
        rw [em]
        split
        · next q hq => rw [if_pos (hp' q hq)]
        · rfl
      rw [e] at q
      exact tail _ _ H l fa vs acc z [] f m none none eσ hl hp hf lf lA hm (by omega) (by simp) (by omega) (fun p hp => by have := ws p hp; omega) fun _ H' s' p' => q H' s' p'
    cases hlast : vs.getLast? with
    | none =>
      have ve : vs = [] := List.getLast?_eq_none_iff.mp hlast
      have ae : acc = [] := List.length_eq_zero_iff.mp (by rw [← lv, ve]; rfl)
      refine ⟨_, rfl, false, .inl ⟨_, .inl (.inl hl), by rw [ve]; rfl⟩, iteF (iteF ?_)⟩
      exact simple fun q hq => by rw [ae] at hq; cases hq
    | some v =>
      have hv : vs[vs.length - 1]? = some v := by rw [← List.getLast?_eq_getElem?]; exact hlast
      obtain ⟨b, p, rfl, hpi, pc⟩ := hp.get hv
      have ha : acc.getLast? = some p := by rw [List.getLast?_eq_getElem?, ← lv]; exact hpi
      have mem := List.mem_of_getLast? ha
      refine ⟨_, rfl, true, .inl ⟨_, .inl (.inl hl), (not_empty hlast).symm⟩, iteT ?_⟩
      refine ⟨_, rfl, 1, rfl, l, _, -1, _, rfl, rfl, .inl (.inl hl), last_at hv, b, p, m, rfl, pc, lA p mem, _, rfl, ?_⟩
      cases ep : isPow p with
      | true => exact iteF (simple fun q hq => by rw [ha] at hq; cases hq; exact ep)
      | false =>
        have e : putP acc z f = joinF (pushP (joinF acc.dropLast (p.1.take (p.1.length - movedE p.1 z)) m) (rotR z (movedE p.1 z)) f) (p.1.drop (p.1.length - movedE p.1 z)) m := by
          unfold putP
          rw [ha, em]
          simp [ep]
        rw [e] at q
        obtain ⟨fp, h1, h2⟩ := id pc
        have lp := ws p mem
        have mle := movedE_le p.1 z
        have hl1 : (upd H l (.lst vs.dropLast)) l = some (.lst vs.dropLast) := upd_same
        have hp1 := hp.init.upd (ys := vs.dropLast) hl
        have hf1 : FT (upd H l (.lst vs.dropLast)) fa f := tup_upd hl _ _ hf
        refine iteT ⟨_, rfl, .inl ⟨rfl, _, .inl (.inl hl)⟩, l, _, _, rfl, rfl, hl, hv, b, _, 0, _, rfl, rfl, .inl (.inl (tup_upd hl _ _ h1)), atI_nat (j := 0) rfl, ?_⟩
        generalize hmv : movedE p.1 z = mv at mle q
        have emv : WM.lcp p.1.reverse (tailE z p.1.length).reverse = mv := hmv
        refine ⟨_, rfl, _, rfl, _, rfl, S p.1, rfl, len_line (by omega), _, rfl, _, rfl, S p.1, rfl, len_line (by omega), z, p.1.length, by rw [S_len]; rfl, zne, by omega, by omega, p.1, tailE z p.1.length, rfl, by omega, by rw [tailE_len zne]; omega, ?_⟩
        rw [emv]
        refine ⟨_, rfl, _, rfl, S p.1, rfl, len_line (by omega), _, rfl, _, _, rfl, rfl, ((p.1.length - mv : Nat) : Int), congrArg V.int (by rw [S_len]; omega), S p.1, rfl, len_line (by omega), ?_⟩
        rw [SX.slice_from (by omega), Int.toNat_natCast]
        refine ⟨_, rfl, _, rfl, _, rfl, z, -(mv : Int), rfl, by omega, zne, ?_⟩
        rw [rotZ_neg zne]
        refine ⟨_, rfl, _, rfl, _, rfl, S p.1, rfl, len_line (by omega), _, rfl, _, _, rfl, rfl, ((p.1.length - mv : Nat) : Int), congrArg V.int (by rw [S_len]; omega), S p.1, rfl, len_line (by omega), ?_⟩
        rw [SX.slice_to (by omega), Int.toNat_natCast]
        refine ⟨_, rfl, l, acc.dropLast, p.1.take (p.1.length - mv), m, by
          show [V.ref l, V.str _, V.int ((((f.map fun n : Nat => V.int (n : Nat)).length : Nat) : Int) - 1)] = _
          rw [lm], ⟨_, hl1, hp1⟩, fun r hr' => lA r (mem_dropLast hr'), hm, by rw [List.length_dropLast]; omega, by rw [List.length_take]; omega, fun r hr' => by have := ws r (mem_dropLast hr'); omega, fun H2 s2 p2 => ?_⟩
        obtain ⟨us, hus, pus⟩ := p2
        have wsJ : Ws 20000 (joinF acc.dropLast (p.1.take (p.1.length - mv)) m) := ws_joinF (B := 10000) (fun r hr' => ws r (mem_dropLast hr')) (by rw [List.length_take]; omega)
        have lJ := len_joinF acc.dropLast (p.1.take (p.1.length - mv)) m
        rw [List.length_dropLast] at lJ
        refine tail _ _ H2 l fa us _ (rotR z mv) (p.1.drop (p.1.length - mv)) f m (some (.str (S p.1))) (some (.int (mv : Nat))) (by
          show [some (V.ref l), some (V.str (S (rotR z mv))), some (V.ref fa), some (V.int ((((f.map fun n : Nat => V.int (n : Nat)).length : Nat) : Int) - 1)), some (V.str (S (p.1.drop (p.1.length - mv)))), some (V.str (S p.1)), some (V.int (mv : Nat))] = _
          rw [lm]) hus pus (tup_sameX hl1 s2 _ _ hf1) lf (lenF_joinF fun r hr' => lA r (mem_dropLast hr')) hm (by omega) (by rw [List.length_drop]; omega) (by rw [rotR_len]; omega) (fun r hr' => by have := wsJ r hr'; omega) fun σ H' s' p' => q H' (((SameX.updL (.refl _ _)).trans s2).trans s') p'
end
end K67

set_option Elab.async false
set_option linter.all false
set_option maxRecDepth 100000
set_option maxHeartbeats 4000000
namespace K67
open PySem PySem.Spec PyProof.Rows L2 CK SX NM
/-- what holds between two statements -/
theorem cut_seq {t u : TS} {D : Ends} {σ : L2.St} {H : Hp} (Mid : L2.St → Hp → Prop) (h1 : ∀ K : L2.St → Hp → Prop, (∀ σ' H', Mid σ' H' → K σ' H') → t { D with nx := K } σ H) (h2 : ∀ σ' H', Mid σ' H' → u D σ' H') : tSeq t u D σ H := h1 _ h2
theorem meas_cons (p : Pn) (r : List Pn) : meas (p :: r) = measP p + meas r := by simp [meas]
theorem le_meas : ∀ {l : List Pn} {p : Pn}, p ∈ l → measP p ≤ meas l
  | [], _, h => absurd h List.not_mem_nil
  | q :: r, p, h => by
    rw [meas_cons]
    rcases List.mem_cons.mp h with x | x
    · rw [x]; omega
    · have := le_meas x
      omega
theorem len_meas : ∀ {l : List Pn}, (∀ p ∈ l, 1 ≤ measP p) → l.length ≤ meas l
  | [], _ => Nat.zero_le _
  | p :: r, h => by
    have a := len_meas fun q hq => h q (List.mem_cons_of_mem _ hq)
    have b := h p List.mem_cons_self
    rw [meas_cons, List.length_cons]
    omega
theorem _root_.NM.Nm.small {m B : Nat} {l : List Pn} (h : Nm m l) (hb : meas l ≤ B) : l.length ≤ B ∧ Ws B l := by
  refine ⟨Nat.le_trans (len_meas fun p hp => ?_) hb, fun p hp => Nat.le_trans (measP_le (h.all p hp)) (Nat.le_trans (le_meas hp) hb)⟩
  exact Nat.le_trans (List.length_pos_iff.mpr (h.all p hp).ne) (measP_le (h.all p hp))
theorem nm_stepA' {m : Nat} {acc : List Pn} {p : Pn} (h : Nm m acc) (hl : p.2.length = m + 1) : Nm m (stepA acc p) ∧ meas (stepA acc p) ≤ meas acc + p.1.length := by
  refine ⟨nm_stepA h hl, ?_⟩
  unfold stepA
  split
  · next z =>
    have lt : (timesF (p.1.length / WM.rootN p.1) (0 :: p.2.tail)).length = m + 1 := by unfold timesF; simp [hl]
    have := meas_putP h (u := p.1.take (WM.rootN p.1)) lt (by simp [timesF])
    rw [List.length_take] at this
    omega
  · omega
theorem meas_take_step {ps : List Pn} {m i : Nat} {p : Pn} (h : LenF m ps) (hp : ps[i]? = some p) : meas ((ps.take i).foldl stepN []) + measP p ≤ meas ps := by
  have a := meas_fold (ps.take i) [] (Nm.nil (m := m)) fun q hq => h q (List.mem_of_mem_take hq)
  have e : meas ([] : List Pn) = 0 := rfl
  have hi := (List.getElem?_eq_some_iff.mp hp).1
  have s : ps = ps.take i ++ (p :: ps.drop (i + 1)) := by
    conv => lhs; rw [← List.take_append_drop i ps]
    rw [← List.getElem_cons_drop hi, (List.getElem?_eq_some_iff.mp hp).2]
  have b : meas ps = meas (ps.take i) + (measP p + meas (ps.drop (i + 1))) := by
    conv => lhs; rw [s]
    rw [meas_app, meas_cons]
  omega
section
variable {P : Program} {w : World} {K : PySem.W.Frag} {mg : Str → Option Value} {base : Heap} {C : Addr}
def sp_normal_pieces : Sp := fun vs H Q _ => ∃ (l : Addr) (ps : List Pn) (m : Nat), vs = [.ref l] ∧ PL H l ps ∧ LenF m ps ∧ m ≤ 3 ∧ meas ps ≤ 5000 ∧ Ws 5000 ps ∧ (∀ p ∈ ps, Bf p.2) ∧ ps.length ≤ 100000 ∧
  ∀ r H', Same H H' → H r = none → PL H' r (normL ps) → Q (.ref r) H'
theorem c_normal_pieces (T : Txt K mg C) : C8.Cal P w K mg base 4 "normal_pieces" sp_normal_pieces [] := by
  refine calF T.d_normal_pieces sc_normal_pieces (fun vs H Q E h => ?_) (fun f0 cdv A outer s H vs Q E hr h => ?_)
  · obtain ⟨_, _, _, rfl, _⟩ := h; rfl
  · obtain ⟨l, ps, m, rfl, ⟨vs, hl, hp⟩, lF, hm, hmeas, hws, hbf, hlen, q⟩ := h
    have lv := hp.len
    refine ⟨_, (pss_cons (ps_set (i := 1) sc_normal_pieces.nd rfl (Or.inl rfl) (pe_lst pa_nil))
    (pss_cons (ps_for PassesOwn.never rfl (pi_list (pv 0)) (pg_two (K := K) (i := 2) (j := 3) rfl rfl sc_normal_pieces.nd rfl rfl (Or.inl rfl) (Or.inl rfl))
    (pss_cons (ps_if (PW.pt (pw_and (pt_truth (pv 2) (by intro _; rfl)) (pw_and1 (pt_val (C8.pe_c (c_is_open_form T) hr (by decide) (by rfl) (pa_cons (pv 3) pa_nil))))))
    (pss_cons (ps_set (i := 4) sc_normal_pieces.nd rfl (Or.inl rfl) (C8.pe_c (c_root_size T) hr (by decide) (by rfl) (pa_cons (pv 2) pa_nil)))
    (pss_one (ps_expr (C8.pe_c (c_put_power T) hr (by decide) (by rfl) (pa_cons (pv 1) (pa_cons (pe_slice C8.sl_txt (pv 2) po_none (po_some (pv 4))) (pa_cons (C8.pe_c (c_form_times T) hr (by decide) (by rfl) (pa_cons (pe_op op_fdivZ (pe_callB call_len_str (by rfl) T.m_len (by decide +kernel) (pa_cons (pv 2) pa_nil)) (pv 4)) (pa_cons (pe_op op_catS (pe_tup (pa_cons pe_int pa_nil)) (pe_slice sl_drop (pv 3) (po_some pe_int) po_none)) pa_nil))) pa_nil)))))))
    pss_nil)
    (pss_one (ps_if (PW.pt (pw_and (pt_truth (pv 2) (by intro _; rfl)) (pw_and1 (pt_truth (pe_ix ix_tup (pv 3) pe_int (fun _ _ => rfl)) (by intro _; rfl)))))
    (pss_one (ps_expr (C8.pe_c (c_put_fixed T) hr (by decide) (by rfl) (pa_cons (pv 1) (pa_cons (pe_op op_repM (pv 2) (pe_ix ix_tup (pv 3) pe_int (fun _ _ => rfl))) (pa_cons (pe_op op_sub (pe_callB call_len_seq (by rfl) T.m_len (by decide +kernel) (pa_cons (pv 3) pa_nil)) pe_int) pa_nil))))))
    pss_nil))))
    (pss_one (ps_ret (pv 1))))), ?_⟩
    refine ⟨by show 0 ≤ sizeLine; omega, fun r hr0 => ?_⟩
    have rl : r ≠ l := fun z => by rw [z, hl] at hr0; cases hr0
    have s0 := sameNew (o := .lst []) hr0
    refine ⟨_, rfl, l, rfl, ⟨_, .inl (.inl (s0 _ _ hl))⟩, for_list (K := K) (a := l) (xs := vs) (fun i σ H' => Same H H' ∧ (∃ y2 y3 y4, σ = [some (.ref l), some (.ref r), y2, y3, y4]) ∧ PL H' r ((ps.take i).foldl stepN []))
      ⟨s0, ⟨none, none, none, rfl⟩, [], upd_same, .nil⟩ (fun i σ H' _ p => .inl (.inl (p.1 _ _ hl))) (fun i y σ H' hi pI => ?_) (fun σ H' pI => ?_)⟩
    · obtain ⟨s1, ⟨y2, y3, y4, rfl⟩, pl⟩ := pI
      obtain ⟨a, p, rfl, hpi, pc⟩ := hp.get hi
      have mem := List.mem_of_getElem? hpi
      have lp := lF p mem
      have wp := hws p mem
      have bp := hbf p mem
      have step := meas_take_step lF hpi
      have nm : Nm m ((ps.take i).foldl stepN []) := nm_fold _ [] .nil fun q hq => lF q (List.mem_of_mem_take hq)
      have et : (ps.take (i + 1)).foldl stepN [] = stepN ((ps.take i).foldl stepN []) p := by rw [List.take_succ, hpi, List.foldl_append]; rfl
      rw [et]
      generalize (ps.take i).foldl stepN [] = acc at pl nm step
      obtain ⟨nmA, mA⟩ := nm_stepA' nm lp
      have sm := nm.small (B := 5000) (by omega)
      have smA := nmA.small (B := 10000) (by omega)
      obtain ⟨fa, h1, h2⟩ := pc.mono (tup_same s1)
      refine ⟨a, _, rfl, .inl (.inl h1), rfl, _, _, rfl, _, _, rfl, rfl, ?_⟩
      refine cut_seq (fun σ' H2 => SameX r H' H2 ∧ (∃ y4, σ' = [some (.ref l), some (.ref r), some (.str (S p.1)), some (.ref fa), y4]) ∧ PL H2 r (stepA acc p)) (fun K hK => ?_) fun σ' H2 pM => ?_
      · refine ⟨_, rfl, _, tru_word (by omega), ?_⟩
        by_cases ne : p.1 = []
        · rw [decide_eq_false (fun z => z ne)]
          refine iteF (iteF (hK _ _ ⟨.refl _ _, ⟨_, rfl⟩, ?_⟩))
          have e : stepA acc p = acc := by unfold stepA; rw [if_neg fun z => z.1 ne]
          rw [e]
          exact pl
        · rw [decide_eq_true ne]
          refine iteT ⟨_, rfl, fa, p.2, rfl, h2, fun H1 s2 => ⟨_, rfl, ?_⟩⟩
          cases op : isOpen p.2 with
          | false =>
            refine iteF (hK _ _ ⟨.of s2, ⟨_, rfl⟩, ?_⟩)
            have e : stepA acc p = acc := by unfold stepA; rw [if_neg fun z => by rw [op] at z; exact Bool.false_ne_true z.2]
            rw [e]
            exact pl.same s2
          | true =>
            have n0 := List.length_pos_iff.mpr ne
            have r0 := WM.rootN_pos ne
            have rl' := WM.rootN_le ne
            refine iteT ⟨_, rfl, p.1, rfl, ne, by omega, fun H3 s3 => ?_⟩
            have e : stepA acc p = putP acc (p.1.take (WM.rootN p.1)) (timesF (p.1.length / WM.rootN p.1) (0 :: p.2.tail)) := by unfold stepA; rw [if_pos ⟨ne, op⟩]
            refine ⟨_, rfl, _, rfl, _, rfl, _, rfl, S p.1, rfl, len_line (by omega), _, rfl, S p.1, rfl, len_line (by omega), _, rfl, p.1.length, WM.rootN p.1, congrArg (fun n : Nat => V.int n) (S_len p.1), rfl, by omega, by omega, by show 1 ≤ sizeLine; decide, fun t1 n1 => ?_⟩
            have st1 := sameNew (o := .tup [V.int 0]) n1
            have h23 := st1 _ _ ((s2.trans s3) _ _ h2)
            refine ⟨_, rfl, 1, rfl, fa, _, 1, rfl, rfl, rfl, h23, fun p4 H4 s4 h4 => ?_⟩
            have l4 : ((p.2.map fun n : Nat => V.int (n : Nat)).drop 1).length ≤ 4 := by rw [List.length_drop, List.length_map]; omega
            refine ⟨t1, p4, _, _, rfl, rfl, s4 _ _ upd_same, h4, Nat.le_trans (Nat.add_le_add_left l4 1) (by decide), fun p5 H5 s5 h5 => ?_⟩
            have hF5 : FT H5 p5 (0 :: p.2.tail) := by
              unfold FT
              obtain ⟨x, f, ef⟩ : ∃ x f, p.2 = x :: f := by
                cases e : p.2 with
                | nil => rw [e] at lp; simp at lp
                | cons x f => exact ⟨x, f, rfl⟩
              rw [h5, ef]
              rfl
            have sk : p.1.length / WM.rootN p.1 ≤ p.1.length := Nat.div_le_self _ _
            refine ⟨p.1.length / WM.rootN p.1, p5, 0 :: p.2.tail, rfl, hF5, by simp [lp]; omega, by omega, fun n hn => ?_, fun p6 H6 s6 h6 => ?_⟩
            · rcases List.mem_cons.mp hn with x | x
              · omega
              · exact bp n (List.mem_of_mem_tail x)
            · have sAll : Same H' H6 := ((((s2.trans s3).trans st1).trans s4).trans s5).trans s6
              refine ⟨r, p6, acc, p.1.take (WM.rootN p.1), timesF (p.1.length / WM.rootN p.1) (0 :: p.2.tail), m, ?_, pl.same sAll, h6, by unfold timesF; simp [lp], nm.lenF, hm, by omega, fun z => ?_, by rw [List.length_take]; omega, fun x hx => by have := sm.2 x hx; omega, fun H7 s7 p7 => hK _ _ ⟨(SameX.of sAll).trans s7, ⟨_, rfl⟩, by rw [e]; exact p7⟩⟩
              · rw [SX.slice_to (by omega), Int.toNat_natCast]
                rfl
              · have := congrArg List.length z
                rw [List.length_take, List.length_nil] at this
                omega
      · obtain ⟨sX, ⟨y4, rfl⟩, plA⟩ := pM
        have rne : ∀ {b : Addr} {xs : List V}, H' b = some (.tup xs) → H2 b = some (.tup xs) := fun {b xs} e => by
          obtain ⟨us, hus, _⟩ := pl
          exact sX _ _ (fun z => by rw [z, hus] at e; cases e) e
        have h2' : FT H2 fa p.2 := rne h2
        have sH : ∀ {H3 : Hp}, SameX r H' H3 → Same H H3 := fun {H3} sx b o eb => sx _ _ (fun z => by rw [z, hr0] at eb; cases eb) (s1 _ _ eb)
        refine ⟨_, rfl, _, tru_word (by omega), ?_⟩
        have skip : ¬ (p.1 ≠ [] ∧ p.2.headD 0 ≠ 0) → PL H2 r (stepN acc p) := fun no => by
          have e : stepN acc p = stepA acc p := by
            unfold stepN stepB
            rw [if_neg no]
          rw [e]
          exact plA
        by_cases ne : p.1 = []
        · rw [decide_eq_false (fun z => z ne)]
          exact iteF (iteF ⟨sH sX, ⟨_, _, _, rfl⟩, skip fun z => z.1 ne⟩)
        · rw [decide_eq_true ne]
          refine iteT ⟨_, rfl, fa, _, 0, _, rfl, rfl, .inl (.inl h2'), atI_nat (j := 0) (head_get lp), _, rfl, ?_⟩
          by_cases h0 : p.2.headD 0 = 0
          · rw [h0]
            exact iteF ⟨sH sX, ⟨_, _, _, rfl⟩, skip fun z => z.2 h0⟩
          · rw [show ((((p.2.headD 0 : Nat) : Int)) != 0) = true by rw [bne_iff_ne]; omega]
            have mP : p.1.length * p.2.headD 0 ≤ measP p := by unfold measP; exact Nat.mul_le_mul_left _ (by omega)
            have n0 := List.length_pos_iff.mpr ne
            have hh : p.2.headD 0 ≤ p.1.length * p.2.headD 0 := Nat.le_mul_of_pos_left _ n0
            have lw : (WM.pw p.1 (p.2.headD 0)).length ≤ 5000 := by rw [WM.pw_len]; omega
            have lm : (((p.2.map fun n : Nat => V.int (n : Nat)).length : Nat) : Int) - 1 = (m : Int) := by rw [List.length_map, lp]; omega
            refine iteT ⟨_, rfl, _, rfl, _, rfl, fa, _, 0, _, rfl, rfl, .inl (.inl h2'), atI_nat (j := 0) (head_get lp), p.1, p.2.headD 0, rfl, rfl, by omega, by omega, by rw [Nat.mul_comm]; omega, ?_⟩
            refine ⟨_, rfl, fa, _, rfl, .inr (.inl (.inl h2')), _, _, rfl, rfl, r, stepA acc p, WM.pw p.1 (p.2.headD 0), m, ?_, plA, nmA.lenF, hm, by omega, by omega, fun x hx => by have := smA.2 x hx; omega, fun H3 s3 p3 => ⟨sH (sX.trans s3), ⟨_, _, _, rfl⟩, ?_⟩⟩
            · show [V.ref r, V.str (S (WM.pw p.1 (p.2.headD 0))), V.int ((((p.2.map fun n : Nat => V.int (n : Nat)).length : Nat) : Int) - 1)] = _
              rw [lm]
            · have e : stepN acc p = joinF (stepA acc p) (WM.pw p.1 (p.2.headD 0)) m := by unfold stepN stepB; rw [if_pos ⟨ne, h0⟩, lp]; rfl
              rw [e]
              exact p3
    · obtain ⟨s1, ⟨y2, y3, y4, rfl⟩, pl⟩ := pI
      rw [lv, List.take_length] at pl
      exact ⟨_, rfl, q r H' s1 hr0 pl⟩
end
end K67

set_option Elab.async false
set_option linter.all false
set_option maxRecDepth 100000
set_option maxHeartbeats 4000000
namespace K67
open PySem PySem.Spec PyProof.Rows L2 CK SX NM
/-! ### pieces as data -/
def dF (f : F) : PyData := .tuple (f.map fun n : Nat => PyData.int (n : Nat))
def dP (p : Pn) : PyData := .tuple [.str (S p.1), dF p.2]
theorem eqvAll_nats : ∀ f g : F, PyData.eqvAll (f.map fun n : Nat => PyData.int (n : Nat)) (g.map fun n : Nat => PyData.int (n : Nat)) = decide (f = g)
  | [], [] => by simp [PyData.eqvAll]
  | [], _ :: _ => by simp [PyData.eqvAll]
  | _ :: _, [] => by simp [PyData.eqvAll]
  | x :: f, y :: g => by
    rw [List.map_cons, List.map_cons, PyData.eqvAll, eqvAll_nats f g]
    simp [PyData.eqv, Bool.beq_eq_decide_eq]
    by_cases h : x = y
    · subst h
      simp
    · have h' : ¬ ((x : Int) = (y : Int)) := by omega
      simp [h, h']
theorem eqv_dP (p q : Pn) : PyData.eqv (dP p) (dP q) = decide (p = q) := by
  obtain ⟨a, f⟩ := p
  obtain ⟨b, g⟩ := q
  unfold dP dF
  simp only [PyData.eqv, PyData.eqvAll, eqvAll_nats, Bool.and_true]
  have e : (S a == S b) = decide (a = b) := S_beq_eq
  simp only [e]
  by_cases h1 : a = b <;> by_cases h2 : f = g <;> simp [h1, h2]
theorem eqvAll_dP : ∀ a b : List Pn, PyData.eqvAll (a.map dP) (b.map dP) = decide (a = b)
  | [], [] => by simp [PyData.eqvAll]
  | [], _ :: _ => by simp [PyData.eqvAll]
  | _ :: _, [] => by simp [PyData.eqvAll]
  | x :: f, y :: g => by
    rw [List.map_cons, List.map_cons, PyData.eqvAll, eqvAll_dP f g, eqv_dP]
    by_cases h : x = y <;> simp [h]
theorem eqv_dPs (a b : List Pn) : PyData.eqv (.list (a.map dP)) (.list (b.map dP)) = decide (a = b) := by
  rw [← eqvAll_dP]
  simp [PyData.eqv]
theorem str_low {w : List Nat} (h : Low w) : PyData.strOk (S w) = true := by
  unfold PyData.strOk
  rw [← Array.all_toList, List.all_eq_true]
  exact fun c hc => decide_eq_true (by have := h c hc; omega)
theorem lay_nats : ∀ f : F, PyData.canLayAll0 (f.map fun n : Nat => PyData.int (n : Nat)) = true
  | [] => by simp [PyData.canLayAll0]
  | n :: ns => by
    rw [List.map_cons, PyData.canLayAll0, lay_nats ns]
    simp [PyData.canLay0]
theorem deep_nats : ∀ f : F, PyData.depthAll (f.map fun n : Nat => PyData.int (n : Nat)) = 0
  | [] => by simp [PyData.depthAll]
  | n :: ns => by
    rw [List.map_cons, PyData.depthAll, deep_nats ns]
    simp [PyData.depth]
theorem lay_dP {p : Pn} (h : Low p.1) : (dP p).canLay0 = true := by simp [dP, dF, PyData.canLay0, PyData.canLayAll0, str_low h, lay_nats]
theorem deep_dP (p : Pn) : (dP p).depth = 2 := by simp [dP, dF, PyData.depth, PyData.depthAll, deep_nats]
theorem lay_dPs : ∀ ps : List Pn, (∀ p ∈ ps, Low p.1) → PyData.canLayAll0 (ps.map dP) = true
  | [], _ => by simp [PyData.canLayAll0]
  | p :: r, h => by
    rw [List.map_cons, PyData.canLayAll0, lay_dPs r fun q hq => h q (List.mem_cons_of_mem _ hq), lay_dP (h p List.mem_cons_self)]
    rfl
theorem deep_dPs : ∀ ps : List Pn, PyData.depthAll (ps.map dP) ≤ 2
  | [] => by simp [PyData.depthAll]
  | p :: r => by
    have := deep_dPs r
    rw [List.map_cons, PyData.depthAll, deep_dP]
    omega
theorem shaped_dPs {ps : List Pn} (h : ∀ p ∈ ps, Low p.1) : SeqAt.shaped (.list (ps.map dP)) = true := by
  unfold SeqAt.shaped
  rw [PyData.canLay0, lay_dPs ps h, PyData.depth]
  have := deep_dPs ps
  rw [decide_eq_true (by omega)]
  rfl
section
variable {K : PySem.W.Frag} {H : Hp}
theorem dpAll_nats : ∀ f : F, DpAll K H (f.map fun n : Nat => V.int (n : Nat)) (f.map fun n : Nat => PyData.int (n : Nat))
  | [] => .nil
  | n :: ns => .cons (.int _) (dpAll_nats ns)
theorem dp_FT {a : Addr} {f : F} (h : FT H a f) : Dp K H (.ref a) (dF f) := .tup (.inl (.inl h)) (dpAll_nats f)
theorem dp_PC {a : Addr} {p : Pn} (h : PC H a p) : Dp K H (.ref a) (dP p) := by
  obtain ⟨fa, h1, h2⟩ := h
  exact .tup (.inl (.inl h1)) (.cons (.str _) (.cons (dp_FT h2) .nil))
theorem dpAll_Pcs {vs : List V} {ps : List Pn} (h : Pcs H vs ps) : DpAll K H vs (ps.map dP) := by
  induction h with
  | nil => exact .nil
  | cons e _ ih => exact .cons (dp_PC e) ih
theorem dp_PL {l : Addr} {ps : List Pn} (h : PL H l ps) : Dp K H (.ref l) (.list (ps.map dP)) := by
  obtain ⟨vs, e, p⟩ := h
  exact .lst (.inl (.inl e)) (dpAll_Pcs p)
end
/-! ### letters stay letters -/
def LowP (ps : List Pn) : Prop := ∀ p ∈ ps, Low p.1
theorem low_app {a b : List Nat} (h : Low a) (g : Low b) : Low (a ++ b) := fun c hc => (List.mem_append.mp hc).elim (h c) (g c)
theorem low_take {a : List Nat} (h : Low a) (n : Nat) : Low (a.take n) := fun c hc => h c (List.mem_of_mem_take hc)
theorem low_drop {a : List Nat} (h : Low a) (n : Nat) : Low (a.drop n) := fun c hc => h c (List.mem_of_mem_drop hc)
theorem low_pw {a : List Nat} (h : Low a) : ∀ n, Low (WM.pw a n)
  | 0 => fun c hc => absurd hc List.not_mem_nil
  | n + 1 => by rw [WM.pw_succ]; exact low_app h (low_pw h n)
theorem low_rotR {u : List Nat} (h : Low u) (k : Nat) : Low (rotR u k) := low_app (low_drop h _) (low_take h _)
theorem lowP_joinF {acc : List Pn} {z : WM.W} {m : Nat} (h : LowP acc) (hz : Low z) : LowP (joinF acc z m) := fun p hp => by
  rcases mem_joinF hp with x | x | ⟨q, hq, x⟩
  · exact h p x
  · rw [x]; exact hz
  · rw [x]; exact low_app (h q hq) hz
theorem lowP_pushP {acc : List Pn} {u : WM.W} {f : F} (h : LowP acc) (hu : Low u) : LowP (pushP acc u f) := fun p hp => by
  unfold pushP at hp
  split at hp
  · split at hp
    · rcases List.mem_append.mp hp with x | x
      · exact h p (mem_dropLast x)
      · rw [List.mem_singleton.mp x]; exact hu
    · rcases List.mem_append.mp hp with x | x
      · exact h p x
      · rw [List.mem_singleton.mp x]; exact hu
  · rcases List.mem_append.mp hp with x | x
    · exact h p x
    · rw [List.mem_singleton.mp x]; exact hu
theorem low_nil : Low [] := fun c hc => absurd hc List.not_mem_nil
theorem lowP_putP {acc : List Pn} {u : WM.W} {f : F} (h : LowP acc) (hu : Low u) : LowP (putP acc u f) := by
  unfold putP
  split
  · next q hq =>
    split
    · exact lowP_joinF (lowP_pushP h hu) low_nil
    · have lq := h q (List.mem_of_getLast? hq)
      exact lowP_joinF (lowP_pushP (lowP_joinF (fun p hp => h p (mem_dropLast hp)) (low_take lq _)) (low_rotR hu _)) (low_drop lq _)
  · exact lowP_joinF (lowP_pushP h hu) low_nil
theorem lowP_fold : ∀ (ps acc : List Pn), LowP acc → LowP ps → LowP (ps.foldl stepN acc)
  | [], _, h, _ => h
  | p :: r, acc, h, hp => lowP_fold r _ (by
      have lp := hp p List.mem_cons_self
      have hA : LowP (stepA acc p) := by
        unfold stepA
        split
        · exact lowP_putP h (low_take lp _)
        · exact h
      show LowP (stepB (stepA acc p) p)
      unfold stepB
      split
      · exact lowP_joinF hA (low_pw lp _)
      · exact hA) fun q hq => hp q (List.mem_cons_of_mem _ hq)
theorem lowP_normL {ps : List Pn} (h : LowP ps) : LowP (normL ps) := lowP_fold ps [] (fun p hp => absurd hp List.not_mem_nil) h
end K67

set_option Elab.async false
set_option linter.all false
set_option maxRecDepth 100000
set_option maxHeartbeats 4000000
namespace K67
open PySem PySem.Spec PyProof.Rows L2 CK SX NM
theorem sum_meas : ∀ ps : List Pn, (ps.map fun p => ((measP p : Nat) : Int)).sum = ((meas ps : Nat) : Int)
  | [] => rfl
  | p :: r => by
    rw [List.map_cons, List.sum_cons, sum_meas r, meas_cons, Int.natCast_add]
/-- a value that is a piece, or one of the wrong ones that are met -/
inductive PV (H : Hp) (m : Nat) : V → Bool → Prop
  | good {a : Addr} {p : Pn} : PC H a p → p.2.length = m + 1 → p.1.length ≤ 2000 → Low p.1 → PV H m (.ref a) true
  | non : PV H m .non false
  | lst {a : Addr} {xs : List V} : H a = some (.lst xs) → PV H m (.ref a) false
  | long {a fa : Addr} {z : List Nat} : H a = some (.tup [.str (S z), .ref fa]) → 2000 < z.length → z.length ≤ 1000000 → Low z → PV H m (.ref a) false
theorem PV.same {H H' : Hp} {m : Nat} {v : V} {b : Bool} (h : PV H m v b) (s : Same H H') : PV H' m v b := by
  cases h with
  | good h1 h2 h3 h4 => exact .good (h1.mono (tup_same s)) h2 h3 h4
  | non => exact .non
  | lst h => exact .lst (s _ _ h)
  | long h1 h2 h3 h4 => exact .long (s _ _ h1) h2 h3 h4
section
variable {P : Program} {w : World} {K : PySem.W.Frag} {mg : Str → Option Value} {base : Heap} {C : Addr}
def sp_is_piece : Sp := fun vs H Q _ => ∃ (m : Nat) (v : V) (b : Bool), vs = [.int m, v] ∧ m ≤ 3 ∧ PV H m v b ∧ ∀ H', Same H H' → Q (.bl b) H'
theorem c_is_piece (T : Txt K mg C) : C8.Cal P w K mg base 4 "is_piece" sp_is_piece [] := by
  refine calF T.d_is_piece sc_is_piece (fun vs H Q E h => ?_) (fun f cdv A outer s H vs Q E hr h => ?_)
  · obtain ⟨_, _, _, rfl, _⟩ := h; rfl
  · obtain ⟨m, v, b, rfl, m3, hv, q⟩ := h
    refine ⟨_, (pss_cons (ps_if (PW.pt (pw_or (pt_not (pt_val (pe_callB call_isK (by rfl) T.m_isinstance (by decide +kernel) (pa_cons (pv 1) (pa_cons (pe_bltn (v := .ty "tuple") (by rfl) T.m_tuple (by decide +kernel) rfl) pa_nil))))) (pw_or1 (pt_cmpR op_ne (pe_callB call_len_seq (by rfl) T.m_len (by decide +kernel) (pa_cons (pv 1) pa_nil)) pe_int (nomark _)))))
    (pss_one (ps_ret pe_bl))
    pss_nil)
    (pss_one (ps_ret (pe_and (C8.pe_c (c_is_lettered T) hr (by decide) (by rfl) (pa_cons (pe_ix ix_tup (pv 1) pe_int (fun _ _ => rfl)) (pa_cons (C8.pe_gc (by rfl) T.k_MOST_PIECE_LETTERS) pa_nil))) (pe_one (C8.pe_c (c_is_form_for T) hr (by decide) (by rfl) (pa_cons (pv 0) (pa_cons (pe_ix ix_tup (pv 1) pe_int (fun _ _ => rfl)) pa_nil)))))))), ?_⟩
    cases hv with
    | non => exact ⟨_, rfl, .non, "tuple", _, rfl, .non, kit_tuple .non, _, rfl, iteT (q H (Same.refl _))⟩
    | lst h =>
      rename_i a xs
      have kn : Kn H (.ref a) := .lst h
      refine ⟨_, rfl, .ref a, "tuple", _, rfl, kn, kit_tuple kn, _, rfl, ?_⟩
      rw [show isTu H (.ref a) = false by simp only [isTu, h]]
      exact iteT (q H (Same.refl _))
    | long h1 h2 h3 h4 =>
      rename_i a fa z
      have kn : Kn H (.ref a) := .tup h1
      refine ⟨_, rfl, .ref a, "tuple", _, rfl, kn, kit_tuple kn, _, rfl, ?_⟩
      rw [isTu_tup h1]
      refine iteF ⟨_, rfl, a, _, rfl, .inr (.inl (.inl h1)), rfl, _, rfl, iteF ?_⟩
      refine ⟨_, rfl, a, _, 0, _, rfl, rfl, .inl (.inl h1), atI_nat (j := 0) rfl, z, 2000, rfl, h3, h4, _, rfl, ?_⟩
      rw [decide_eq_false (by omega)]
      exact iteF (q H (Same.refl _))
    | good h1 h2 h3 h4 =>
      rename_i a p
      obtain ⟨fa, e1, e2⟩ := h1
      have kn : Kn H (.ref a) := .tup e1
      refine ⟨_, rfl, .ref a, "tuple", _, rfl, kn, kit_tuple kn, _, rfl, ?_⟩
      rw [isTu_tup e1]
      refine iteF ⟨_, rfl, a, _, rfl, .inr (.inl (.inl e1)), rfl, _, rfl, iteF ?_⟩
      refine ⟨_, rfl, a, _, 0, _, rfl, rfl, .inl (.inl e1), atI_nat (j := 0) rfl, p.1, 2000, rfl, by omega, h4, _, rfl, ?_⟩
      rw [decide_eq_true (show p.1.length ≤ 2000 from h3)]
      refine iteT ⟨_, rfl, _, rfl, a, _, 1, _, rfl, rfl, .inl (.inl e1), atI_nat (j := 1) rfl, (m : Int), .ref fa, rfl, .tup e2, fun b xs eb hb => ?_, fun H1 s1 => ?_⟩
      · cases eb
        have := hb.symm.trans e2
        cases this
        exact ⟨small1000 (by rw [List.length_map, h2]; omega), kn_nats⟩
      · rw [formB_FT e2 h2]
        exact q H1 s1
def sp_measure : Sp := fun vs H Q _ => ∃ (l : Addr) (ps : List Pn) (m : Nat), vs = [.ref l] ∧ PL H l ps ∧ LenF m ps ∧ Ws 1000000 ps ∧ (∀ p ∈ ps, Bf p.2) ∧ ps.length ≤ 1000000 ∧ ∀ H', Same H H' → Q (.int (meas ps : Nat)) H'
theorem c_measure (T : Txt K mg C) : C8.Cal P w K mg base 2 "measure" sp_measure [] := by
  refine calF T.d_measure sc_measure (fun vs H Q E h => ?_) (fun f cdv A outer s H vs Q E hr h => ?_)
  · obtain ⟨_, _, _, rfl, _⟩ := h; rfl
  · obtain ⟨l, ps, m, rfl, ⟨vs, hl, hp⟩, lF, ws, bf, hlen, q⟩ := h
    have len := hp.len
    refine ⟨_, (pss_one (ps_ret (pe_callB (cr_sum rfl) (by rfl) T.m_sum (by decide +kernel) (pa_cons (pe_lc (own := [("word", 1), ("form", 2)]) (by rfl) sc_measure.nd (pi_list (pv 0)) (blkOk_by (N := ["pieces", "word", "form"]) (sc := C8.fnScope (topS 35)) (own := [("word", 1), ("form", 2)]) (by decide +kernel)) (fun _ _ _ _ _ => (pg_two (K := K) (i := 1) (j := 2) rfl rfl sc_measure.nd rfl rfl (Or.inl rfl) (Or.inl rfl))) (fun _ _ _ _ _ => pts_nil) (fun _ _ _ _ _ => (pe_op op_mulZ (pe_callB call_len_str (by rfl) T.m_len (by decide +kernel) (pa_cons (pv 1) pa_nil)) (pe_op op_addB (pe_ix ix_tupH (pv 2) pe_int (fun _ _ => rfl)) (C8.pe_c (c_is_open_form T) hr (by decide) (by rfl) (pa_cons (pv 2) pa_nil)))))) pa_nil)))), ?_⟩
    refine ⟨_, rfl, l, rfl, ⟨_, .inl (.inl hl)⟩, fun D hD => ?_⟩
    refine lc_list (K := K) (a := l) (xs := vs) (fun i H1 => Same H H1 ∧ H1 D = some (.lst ((ps.take i).map fun p => V.int ((measP p : Nat) : Int)))) ⟨sameNew hD, by rw [upd_same]; rfl⟩ (fun i H1 _ p => .inl (.inl (p.1 _ _ hl))) (fun i y H1 hi p => ?_) fun H1 p => ?_
    · obtain ⟨s1, hD1⟩ := p
      obtain ⟨a, p, rfl, hpi, pc⟩ := hp.get hi
      have mem := List.mem_of_getElem? hpi
      have hii := (List.getElem?_eq_some_iff.mp hpi).1
      have lp := lF p mem
      have wp := ws p mem
      obtain ⟨fa, e1, e2⟩ := pc.mono (tup_same s1)
      have bh : p.2.headD 0 < 2 ^ 900 := by
        cases e : p.2 with
        | nil => rw [e] at lp; simp at lp
        | cons x f => exact bf p mem x (by rw [e]; exact List.mem_cons_self)
      refine ⟨a, _, rfl, .inl (.inl e1), rfl, _, _, rfl, _, _, rfl, rfl, rfl, ?_⟩
      refine ⟨_, rfl, S p.1, rfl, len_line (by omega), _, rfl, fa, _, 0, _, rfl, rfl, e2, atI_nat (j := 0) (head_get lp), _, rfl, fa, p.2, rfl, e2, fun H2 s2 => ?_⟩
      refine ⟨_, _, rfl, rfl, p.1.length, p.2.headD 0 + (if isOpen p.2 then 1 else 0), congrArg (fun n : Nat => V.int n) (S_len _), congrArg V.int (by split <;> simp), by omega, by split <;> omega, _, s2 _ _ hD1, ?_, same_upd2 hD (s1.trans s2), ?_⟩
      · rw [List.length_map, List.length_take, sizeLine_eq]
        omega
      · rw [upd_same, List.take_succ, hpi]
        simp [measP]
    · obtain ⟨s1, hD1⟩ := p
      rw [len, List.take_length] at hD1
      refine ⟨D, ps.map fun p => ((measP p : Nat) : Int), rfl, .inl (.inl (by rw [hD1, List.map_map]; rfl)), ?_⟩
      rw [sum_meas]
      exact q _ s1
end
end K67

set_option Elab.async false
set_option linter.all false
set_option maxRecDepth 100000
set_option maxHeartbeats 4000000
namespace K67
open PySem PySem.Spec PyProof.Rows L2 CK SX NM
/-- a list of pieces, as the program lets it -/
structure GL (H : Hp) (m : Nat) (l : Addr) (ps : List Pn) : Prop where
  at_ : PL H l ps
  len : LenF m ps
  ws : Ws 2000 ps
  low : LowP ps
  bf : ∀ p ∈ ps, Bf p.2
  few : ps.length ≤ 5000
theorem GL.same {H H' : Hp} {m : Nat} {l : Addr} {ps : List Pn} (h : GL H m l ps) (s : Same H H') : GL H' m l ps := ⟨h.at_.same s, h.len, h.ws, h.low, h.bf, h.few⟩
inductive PLV (H : Hp) (m : Nat) : V → Bool → Prop
  | tup {a : Addr} {xs : List V} : H a = some (.tup xs) → PLV H m (.ref a) false
  | bad {l : Addr} {vs : List V} {bs : List Bool} : H l = some (.lst vs) → vs.length ≤ 5000 → bs.length = vs.length → (∀ (i : Nat) (v : V) (b : Bool), vs[i]? = some v → bs[i]? = some b → PV H m v b) → bs.all id = false → PLV H m (.ref l) false
  | good {l : Addr} {ps : List Pn} : GL H m l ps → PLV H m (.ref l) (decide (meas ps ≤ 2000))
theorem small1000000 {n : Nat} (h : n ≤ 1000000) : n < sizeLine := by rw [sizeLine_eq]; omega
theorem range_bools (bs : List Bool) : (List.range bs.length).map (fun i => V.bl (bs.getD i false)) = bs.map V.bl := by
  refine List.ext_getElem? fun i => ?_
  by_cases h : i < bs.length
  · rw [List.getElem?_map, List.getElem?_range h, List.getElem?_map, List.getElem?_eq_getElem h]
    show some (V.bl (bs.getD i false)) = some (V.bl bs[i])
    rw [List.getD_eq_getElem?_getD, List.getElem?_eq_getElem h]
    rfl
  · rw [List.getElem?_eq_none (by simp; omega), List.getElem?_eq_none (by simp; omega)]
section
variable {P : Program} {w : World} {K : PySem.W.Frag} {mg : Str → Option Value} {base : Heap} {C : Addr}
def sp_need_measure : Sp := fun vs H Q _ => ∃ (n : Nat), vs = [.int n] ∧ n ≤ 2000 ∧ Q .non H
theorem c_need_measure (T : Txt K mg C) : C8.Cal P w K mg base 1 "need_measure" sp_need_measure [] := by
  refine calF T.d_need_measure sc_need_measure (fun vs H Q E h => ?_) (fun f cdv A outer s H vs Q E hr h => ?_)
  · obtain ⟨_, rfl, _⟩ := h; rfl
  · obtain ⟨n, rfl, hn, q⟩ := h
    refine ⟨_, (pss_one (ps_if (pt_cmpR op_gt (pv 0) (C8.pe_gc (by rfl) T.k_MOST_MEASURE) (nomark _))
    (pss_one ps_never)
    pss_nil)), ?_⟩
    refine ⟨_, rfl, _, 2000, rfl, rfl, _, rfl, ?_⟩
    rw [decide_eq_false (by omega)]
    exact iteF q
def sp_need_pieces : Sp := fun vs H Q _ => ∃ (m : Nat) (l : Addr) (ps : List Pn), vs = [.int m, .ref l] ∧ m ≤ 3 ∧ GL H m l ps ∧ meas ps ≤ 2000 ∧ ∀ H', Same H H' → Q .non H'
theorem c_need_pieces (T : Txt K mg C) : C8.Cal P w K mg base 5 "need_pieces" sp_need_pieces [] := by
  refine calF T.d_need_pieces sc_need_pieces (fun vs H Q E h => ?_) (fun f cdv A outer s H vs Q E hr h => ?_)
  · obtain ⟨_, _, _, rfl, _⟩ := h; rfl
  · obtain ⟨m, l, ps, rfl, m3, g, hme, q⟩ := h
    obtain ⟨vs, h1, hp⟩ := id g.at_
    have lv := hp.len
    have hf := g.few
    have kn : Kn H (.ref l) := .lst h1
    refine ⟨_, (pss_cons (ps_expr (C8.pe_c (c_need_many T) hr (by decide) (by rfl) (pa_cons (pv 0) pa_nil)))
    (pss_cons (ps_if (PW.pt (pw_or (pt_not (pt_val (pe_callB call_isK (by rfl) T.m_isinstance (by decide +kernel) (pa_cons (pv 1) (pa_cons (pe_bltn (v := .ty "list") (by rfl) T.m_list (by decide +kernel) rfl) pa_nil))))) (pw_or1 (pt_cmpR op_gt (pe_callB call_len_seq (by rfl) T.m_len (by decide +kernel) (pa_cons (pv 1) pa_nil)) (C8.pe_gc (by rfl) T.k_MOST_PIECES) (nomark _)))))
    (pss_one ps_never)
    pss_nil)
    (pss_cons (ps_for PassesOwn.never rfl (pi_list (pv 1)) (pg_name (i := 2) sc_need_pieces.nd rfl (Or.inl rfl))
    (pss_one (ps_if (pt_not (pt_val (C8.pe_c (c_is_piece T) hr (by decide) (by rfl) (pa_cons (pv 0) (pa_cons (pv 2) pa_nil)))))
    (pss_one ps_never)
    pss_nil)))
    (pss_one (ps_expr (C8.pe_c (c_need_measure T) hr (by decide) (by rfl) (pa_cons (C8.pe_c (c_measure T) hr (by decide) (by rfl) (pa_cons (pv 1) pa_nil)) pa_nil))))))), ?_⟩
    refine ⟨_, rfl, m, rfl, by omega, by omega, ?_⟩
    refine ⟨_, rfl, .ref l, "list", _, rfl, kn, kit_list kn, _, rfl, ?_⟩
    rw [isLi_lst h1]
    refine iteF ⟨_, rfl, l, _, rfl, .inl (.inl (.inl h1)), _, 5000, rfl, rfl, _, rfl, ?_⟩
    rw [decide_eq_false (by omega)]
    refine iteF ?_
    refine ⟨_, rfl, l, rfl, ⟨_, .inl (.inl h1)⟩, for_list (K := K) (a := l) (xs := vs) (fun i σ H' => Same H H' ∧ ∃ y2, σ = [some (.int m), some (.ref l), y2]) ⟨Same.refl _, none, rfl⟩ (fun i σ H' _ p => .inl (.inl (p.1 _ _ h1))) (fun i y σ H' hi p => ?_) (fun σ H' p => ?_)⟩
    · obtain ⟨s1, y2, rfl⟩ := p
      obtain ⟨a, p, rfl, hpi, pc⟩ := hp.get hi
      have mem := List.mem_of_getElem? hpi
      exact ⟨_, rfl, _, rfl, m, _, true, rfl, m3, .good (pc.mono (tup_same s1)) (g.len p mem) (g.ws p mem) (g.low p mem), fun H2 s2 => ⟨_, rfl, iteF ⟨s1.trans s2, _, rfl⟩⟩⟩
    · obtain ⟨s1, y2, rfl⟩ := p
      exact ⟨_, rfl, l, ps, m, rfl, g.at_.same s1, g.len, fun p hp => by have := g.ws p hp; omega, g.bf, by omega, fun H2 s2 => ⟨meas ps, rfl, hme, q H2 (s1.trans s2)⟩⟩
def sp_normal : Sp := fun vs H Q _ => ∃ (m : Nat) (l : Addr) (ps : List Pn), vs = [.int m, .ref l] ∧ m ≤ 3 ∧ GL H m l ps ∧ meas ps ≤ 2000 ∧ ∀ r H', Same H H' → H r = none → PL H' r (normL ps) → Q (.ref r) H'
theorem c_normal (T : Txt K mg C) : C8.Cal P w K mg base 6 "normal" sp_normal [] := by
  refine calF T.d_normal sc_normal (fun vs H Q E h => ?_) (fun f cdv A outer s H vs Q E hr h => ?_)
  · obtain ⟨_, _, _, rfl, _⟩ := h; rfl
  · obtain ⟨m, l, ps, rfl, m3, g, hme, q⟩ := h
    have hf := g.few
    refine ⟨_, (pss_cons (ps_expr (C8.pe_c (c_need_pieces T) hr (by decide) (by rfl) (pa_cons (pv 0) (pa_cons (pv 1) pa_nil))))
    (pss_one (ps_ret (C8.pe_c (c_normal_pieces T) hr (by decide) (by rfl) (pa_cons (pv 1) pa_nil))))), ?_⟩
    exact ⟨_, rfl, _, rfl, m, l, ps, rfl, m3, g, hme, fun H1 s1 => ⟨_, rfl, l, ps, m, rfl, g.at_.same s1, g.len, m3, by omega, fun p hp => by have := g.ws p hp; omega, g.bf, by omega, fun r H2 s2 n2 p2 => q r H2 (s1.trans s2) (s1.free n2) p2⟩⟩
end
end K67

set_option Elab.async false
set_option linter.all false
set_option maxRecDepth 100000
set_option maxHeartbeats 4000000
namespace K67
open PySem PySem.Spec PyProof.Rows L2 CK SX NM
section
variable {P : Program} {w : World} {K : PySem.W.Frag} {mg : Str → Option Value} {base : Heap} {C : Addr}
/-! ### the law's own defs -/
theorem fm0 {i j : Int} (h : 0 < j) : 0 ≤ i.fmod j := Int.fmod_nonneg_of_pos i h
theorem fm1 {i j : Int} (h : 0 < j) : i.fmod j < j := Int.fmod_lt_of_pos i h
theorem ab {i : Int} {k : Nat} (h0 : 0 ≤ i) (h : i < 2 ^ k) : i.natAbs < 2 ^ k := by
  have e : ((2 ^ k : Nat) : Int) = 2 ^ k := by simp
  omega
def sp_hash : Sp := fun vs H Q _ => ∃ s i : Int, vs = [.int s, .int i] ∧ 0 ≤ s ∧ s < 2 ^ 31 ∧ 0 ≤ i ∧ i < 2 ^ 41 ∧ ∀ r : Int, 0 ≤ r → r < 2 ^ 31 → Q (.int r) H
theorem c_law_hash (T : Txt K mg C) : C8.Cal P w K mg base 1 "_law_hash" sp_hash [] := by
  refine calF T.d_law_hash sc_law_hash (fun vs H Q E h => ?_) (fun f cdv A outer s H vs Q E hr h => ?_)
  · obtain ⟨_, _, rfl, _⟩ := h; rfl
  · obtain ⟨z, i, rfl, h0, h1, h2, h3, q⟩ := h
    refine ⟨_, (pss_cons (ps_set (i := 2) sc_law_hash.nd rfl (Or.inl rfl) (pe_op op_modN (pe_callTy call_int1 (by rfl) T.m_int (by decide +kernel) (pa_cons (pe_op op_add (pe_op op_add (pe_op op_add (pe_op op_mulW (pv 0) pe_int) (pe_op op_mulW (pe_op op_mulW pe_int (pv 1)) (pv 1))) (pe_op op_mulW pe_int (pv 1))) pe_int) pa_nil)) pe_int))
    (pss_cons (ps_set (i := 2) sc_law_hash.nd rfl (Or.inl rfl) (pe_op op_modN (pe_callTy call_int1 (by rfl) T.m_int (by decide +kernel) (pa_cons (pe_op op_add (pe_op op_add (pe_op op_mulW (pv 2) (pv 2)) (pe_op op_mulW pe_int (pv 1))) pe_int) pa_nil)) pe_int))
    (pss_one (ps_ret (pe_op op_modN (pe_callTy call_int1 (by rfl) T.m_int (by decide +kernel) (pa_cons (pe_op op_mulW (pv 2) pe_int) pa_nil)) pe_int))))), ?_⟩
    have a1 : z.natAbs < 2 ^ 100 := ab h0 (by omega)
    have a2 : i.natAbs < 2 ^ 100 := ab h2 (by omega)
    have a3 : ((27644437 : Int)).natAbs < 2 ^ 100 := by decide
    have a4 := wide_lt a3 a2
    refine ⟨_, rfl, z, _, rfl, rfl, wide_mul a1 (show ((1140671 : Int)).natAbs < 2 ^ 100 by decide) (by decide) (by decide) (by decide), ?_⟩
    refine ⟨_, rfl, _, i, rfl, rfl, wide_mul a3 a2 (by decide) (by decide) (by decide), _, rfl, _, i, rfl, rfl, wide_mul a4 a2 (by decide) (by decide) (by decide), _, _, rfl, rfl, ?_⟩
    refine ⟨_, rfl, _, i, rfl, rfl, wide_mul (show ((131 : Int)).natAbs < 2 ^ 100 by decide) a2 (by decide) (by decide) (by decide), _, _, rfl, rfl, _, _, rfl, rfl, .inl ⟨_, rfl, _, _, rfl, rfl, (by decide : (2147483629 : Int) ≠ 0), ?_⟩⟩
    obtain ⟨m, hm⟩ : ∃ m, (z * 1140671 + 27644437 * i * i + 131 * i + 19).fmod 2147483629 = m := ⟨_, rfl⟩
    have m0 : 0 ≤ m := by rw [← hm]; exact fm0 (by decide)
    have m1 : m < 2147483629 := by rw [← hm]; exact fm1 (by decide)
    have a5 : m.natAbs < 2 ^ 100 := ab m0 (by omega)
    refine ⟨_, rfl, _, rfl, m, m, congrArg V.int hm, congrArg V.int hm, wide_mul a5 a5 (by decide) (by decide) (by decide), ?_⟩
    refine ⟨_, rfl, _, i, rfl, rfl, wide_mul (show ((62089 : Int)).natAbs < 2 ^ 100 by decide) a2 (by decide) (by decide) (by decide), _, _, rfl, rfl, _, _, rfl, rfl, .inl ⟨_, rfl, _, _, rfl, rfl, (by decide : (2147483587 : Int) ≠ 0), ?_⟩⟩
    obtain ⟨k, hk⟩ : ∃ k, (m * m + 62089 * i + 32416187).fmod 2147483587 = k := ⟨_, rfl⟩
    have k0 : 0 ≤ k := by rw [← hk]; exact fm0 (by decide)
    have k1 : k < 2147483587 := by rw [← hk]; exact fm1 (by decide)
    have a6 : k.natAbs < 2 ^ 100 := ab k0 (by omega)
    refine ⟨_, rfl, k, _, congrArg V.int hk, rfl, wide_mul a6 (show ((48271 : Int)).natAbs < 2 ^ 100 by decide) (by decide) (by decide) (by decide), .inl ⟨_, rfl, _, _, rfl, rfl, (by decide : (2147483647 : Int) ≠ 0), ?_⟩⟩
    exact q _ (fm0 (by decide)) (Int.lt_trans (fm1 (by decide)) (by decide))
def sp_random : Sp := fun vs H Q _ => ∃ (g : Addr) (b : Int) (n : Nat), vs = [.ref g, .int b] ∧ Gn (n + 1) H g ∧ 1 ≤ b ∧ b < 2 ^ 200 ∧ ∀ (r : Int) H', SameX g H H' → Gn n H' g → 0 ≤ r → r < b → Q (.int r) H'
theorem pow32 (i : Nat) : (2 : Int) ^ (32 * (i + 1)) = 2 ^ (32 * i) * 4294967296 := by
  rw [Nat.mul_add, Int.pow_add]
  rfl
theorem pow_ge1 (i : Nat) : (1 : Int) ≤ 2 ^ i := by
  have := Int.pow_pos (n := 2) (m := i) (by decide)
  omega
theorem c_law_random (T : Txt K mg C) : C8.Cal P w K mg base 2 "_law_random" sp_random [] := by
  refine calF T.d_law_random sc_law_random (fun vs H Q E h => ?_) (fun f cdv A outer s H vs Q E hr h => ?_)
  · obtain ⟨_, _, _, rfl, _⟩ := h; rfl
  · obtain ⟨g, b, n, rfl, G, hb, hb2, q⟩ := h
    refine ⟨_, (pss_cons (ps_if (pt_cmpR op_gt (pe_ix ix_list (pv 0) pe_int (fun _ _ => rfl)) pe_int (nomark _))
    (pss_cons (ps_set (i := 2) sc_law_random.nd rfl (Or.inl rfl) (pe_op op_modN (pe_callTy call_int1 (by rfl) T.m_int (by decide +kernel) (pa_cons (pe_ix ix_list (pv 0) pe_int (fun _ _ => rfl)) pa_nil)) (pv 1)))
    (pss_cons (ps_asg (pe_op op_fdivW (pe_ix ix_list (pv 0) pe_int (fun _ _ => rfl)) (pv 1)) (pg_sub (pv 0) pe_int set_list))
    (pss_one (ps_ret (pv 2)))))
    pss_nil)
    (pss_cons (ps_set (i := 2) sc_law_random.nd rfl (Or.inl rfl) pe_int)
    (pss_cons (ps_for PassesOwn.never rfl (pi_range1 (by rfl) T.m_range (pa_cons (pe_op op_add pe_int (pe_op op_fdivW (pe_bits (pv 1)) pe_int)) pa_nil)) (pg_name (i := 3) sc_law_random.nd rfl (Or.inl rfl))
    (pss_cons (ps_asg (pe_op op_add (pe_ix ix_list (pv 0) pe_int (fun _ _ => rfl)) pe_int) (pg_sub (pv 0) pe_int set_list))
    (pss_one (ps_set (i := 2) sc_law_random.nd rfl (Or.inl rfl) (pe_op op_add (pe_op op_mulW (pv 2) pe_int) (C8.pe_c (c_law_hash T) hr (by decide) (by rfl) (pa_cons (pe_ix ix_list (pv 0) pe_int (fun _ _ => rfl)) (pa_cons (pe_ix ix_list (pv 0) pe_int (fun _ _ => rfl)) pa_nil))))))))
    (pss_one (ps_ret (pe_op op_modN (pe_callTy call_int1 (by rfl) T.m_int (by decide +kernel) (pa_cons (pv 2) pa_nil)) (pv 1))))))), ?_⟩
    obtain ⟨x, y, c, hg, x0, y0, y1, c0, c1⟩ := G
    refine ⟨_, rfl, g, _, 0, .int x, rfl, rfl, .inl (.inl hg), atI_nat (j := 0) rfl, x, 0, rfl, rfl, _, rfl, ite2 (fun e => ?_) (fun e => ?_)⟩
    · -- a digit
      refine ⟨_, rfl, g, _, 0, .int x, rfl, rfl, .inl (.inl hg), atI_nat (j := 0) rfl, .inl ⟨x, rfl, _, rfl, x, b, rfl, rfl, by omega, ?_⟩⟩
      refine ⟨_, rfl, g, _, 0, .int x, rfl, rfl, .inl (.inl hg), atI_nat (j := 0) rfl, _, rfl, x, b, rfl, rfl, wide_div (b := 200) (by omega) (ab (by omega) hb2) (by decide) (by decide), _, rfl, g, _, 0, 0, rfl, rfl, hg, rfl, ?_⟩
      exact ⟨_, rfl, q _ _ sameX_upd ⟨x / b, y, c, upd_same, Int.ediv_nonneg x0 (by omega), y0, y1, c0, by omega⟩ (fm0 (by omega)) (fm1 (by omega))⟩
    · -- by the hash
      have ib : Builtin.Int.intBits b ≤ 200 := intBits_le (ab (by omega) hb2)
      have tn : (1 + ((Builtin.Int.intBits b : Nat) : Int) / 30).toNat ≤ 7 := by omega
      refine ⟨_, rfl, b, rfl, _, _, rfl, rfl, wide_div (b := 200) (by decide) (by decide) (by decide) (by decide), _, _, rfl, rfl, _, rfl, by omega, by omega, ?_⟩
      refine for_it walk_range (fun i σ H3 => ∃ (d : Int) (y3 : Option V) (c3 : Int), σ = [some (.ref g), some (.int b), some (.int d), y3] ∧ SameX g H H3 ∧ H3 g = some (.lst [.int x, .int y, .int c3]) ∧ c3 = c + i ∧ 0 ≤ d ∧ d < 2 ^ (32 * i) ∧ i ≤ 7)
        ⟨0, none, c, rfl, .refl _ _, hg, by simp, Int.le_refl _, by decide, by decide⟩ (fun _ _ _ _ _ => True.intro) (fun i v σ H3 H4 hi p yy => ?_) fun σ H3 p => ?_
      · obtain ⟨d, y3, c3, rfl, s3, g3, ec, d0, d1, i7⟩ := p
        obtain ⟨rfl, rfl⟩ := yy
        have i6 : i ≤ 6 := by omega
        have u1 : (upd H4 g (.lst [.int x, .int y, .int (c3 + 1)])) g = some (.lst [.int x, .int y, .int (c3 + 1)]) := upd_same
        refine ⟨_, rfl, g, _, 2, .int c3, rfl, rfl, .inl (.inl g3), atI_nat (j := 2) rfl, _, _, rfl, rfl, _, rfl, g, _, 2, 2, rfl, rfl, g3, rfl, ?_⟩
        have ad : d.natAbs < 2 ^ (32 * i + 1) := ab d0 (Int.lt_of_lt_of_le d1 (by rw [Int.pow_succ]; have := pow_ge1 (32 * i); omega))
        refine ⟨_, rfl, d, _, rfl, rfl, wide_mul ad (show ((2147483587 : Int)).natAbs < 2 ^ 100 by decide) (by omega) (by decide) (by omega), ?_⟩
        refine ⟨_, rfl, g, _, 1, .int y, rfl, rfl, .inl (.inl u1), atI_nat (j := 1) rfl, _, rfl, g, _, 2, .int (c3 + 1), rfl, rfl, .inl (.inl u1), atI_nat (j := 2) rfl, y, c3 + 1, rfl, y0, y1, by omega, by omega, fun r r0 r1 => ⟨_, _, rfl, rfl, ?_⟩⟩
        refine ⟨_, _, c3 + 1, rfl, fun z o nz e => by rw [upd_ne nz]; exact s3 z o nz e, u1, by omega, by have : 0 ≤ d * 2147483587 := Int.mul_nonneg d0 (by decide); omega, ?_, by omega⟩
        rw [pow32]
        have := pow_ge1 (32 * i)
        omega
      · obtain ⟨d, y3, c3, rfl, s3, g3, ec, d0, d1, i7⟩ := p
        refine ⟨_, rfl, .inl ⟨d, rfl, _, rfl, d, b, rfl, rfl, by omega, ?_⟩⟩
        exact q _ _ s3 ⟨x, y, c3, g3, x0, y0, y1, by omega, by omega⟩ (fm0 (by omega)) (fm1 (by omega))
def sp_cell (K : PySem.W.Frag) : Sp := fun vs H Q _ => ∃ (a : Addr) (ns : List Int) (i : Nat), vs = [.ref a, .int i] ∧ SqL K H a (ns.map V.int) ∧ ∀ (r : Int) H', Same H H' → Q (.int r) H'
theorem c_law_cell (T : Txt K mg C) : C8.Cal P w K mg base 1 "_law_cell" (sp_cell K) [] := by
  refine calF T.d_law_cell sc_law_cell (fun vs H Q E h => ?_) (fun f cdv A outer s H vs Q E hr h => ?_)
  · obtain ⟨_, _, _, rfl, _⟩ := h; rfl
  · obtain ⟨a, ns, i, rfl, ha, q⟩ := h
    refine ⟨_, (pss_cons (ps_if (pt_cmpR op_lt (pv 1) (pe_callB call_len_seq (by rfl) T.m_len (by decide +kernel) (pa_cons (pv 0) pa_nil)) (nomark _))
    (pss_one (ps_ret (pe_ix ix_list (pv 0) (pv 1) (fun _ _ => rfl))))
    pss_nil)
    (pss_one (ps_ret (pe_op op_modN (pe_callB (cr_sum rfl) (by rfl) T.m_sum (by decide +kernel) (pa_cons (pe_slice sl_list (pv 0) po_none (po_some pe_int)) pa_nil)) pe_int)))), ?_⟩
    refine ⟨_, rfl, _, rfl, a, _, rfl, .inl ha, _, _, rfl, rfl, _, rfl, ite2 (fun e => ?_) (fun e => ?_)⟩
    · have e' := of_decide_eq_true e
      rw [List.length_map] at e'
      have hi : i < ns.length := by omega
      refine ⟨_, rfl, _, rfl, a, _, i, .int ns[i], rfl, rfl, ha, atI_nat ?_, q _ H (Same.refl _)⟩
      rw [List.getElem?_map, List.getElem?_eq_getElem hi]
      rfl
    · refine ⟨_, rfl, 1, rfl, a, _, rfl, ha, fun p hp => ?_⟩
      refine ⟨p, ns.take 1, rfl, .inl (.inl ?_), _, _, rfl, rfl, (by decide : (1000003 : Int) ≠ 0), q _ _ (sameNew hp)⟩
      rw [upd_same, show ((1 : Int)) = ((1 : Nat) : Int) from rfl, cutV_take, List.map_take]
def sp_generator (K : PySem.W.Frag) : Sp := fun vs H Q _ => ∃ (a : Addr) (ns : List Int) (i : Nat), vs = [.ref a, .int i] ∧ SqL K H a (ns.map V.int) ∧ i ≤ 10 ∧ ∀ g H1 H', Same H H1 → H1 g = none → Same H1 H' → Gn 100000 H' g → Q (.ref g) H'
theorem c_law_generator (T : Txt K mg C) : C8.Cal P w K mg base 2 "_law_generator" (sp_generator K) [] := by
  refine calF T.d_law_generator sc_law_generator (fun vs H Q E h => ?_) (fun f cdv A outer s H vs Q E hr h => ?_)
  · obtain ⟨_, _, _, rfl, _⟩ := h; rfl
  · obtain ⟨a, ns, i, rfl, ha, hi, q⟩ := h
    refine ⟨_, (pss_cons (ps_set (i := 2) sc_law_generator.nd rfl (Or.inl rfl) (C8.pe_c (c_law_cell T) hr (by decide) (by rfl) (pa_cons (pv 0) (pa_cons (pv 1) pa_nil))))
    (pss_one (ps_ret (pe_lst (pa_cons (pe_op op_modN (pe_callTy call_int1 (by rfl) T.m_int (by decide +kernel) (pa_cons (pe_callB (call_max2 rfl) (by rfl) T.m_max (by decide +kernel) (pa_cons (pe_op op_sub (pv 2) (pe_op op_powB pe_int pe_int)) (pa_cons pe_int pa_nil))) pa_nil)) (pe_op op_powB (pe_op op_powB pe_int pe_int) pe_int)) (pa_cons (pe_op op_modN (pe_callTy call_int1 (by rfl) T.m_int (by decide +kernel) (pa_cons (pv 2) pa_nil)) pe_int) (pa_cons (pe_op op_mulW pe_int (pv 1)) pa_nil))))))), ?_⟩
    refine ⟨_, rfl, _, rfl, a, ns, i, rfl, ha, fun r H1 s1 => ?_⟩
    refine ⟨_, rfl, _, _, rfl, rfl, ⟨by decide, by decide⟩, _, _, rfl, rfl, _, _, rfl, .inl ⟨_, rfl, _, _, rfl, rfl, ⟨by decide, by decide⟩, _, _, rfl, rfl, ⟨by decide, by decide⟩, _, _, rfl, rfl, (by decide : ((10 : Int) ^ Int.toNat 60) ^ Int.toNat 10 ≠ 0), ?_⟩⟩
    refine ⟨_, rfl, .inl ⟨_, rfl, _, _, rfl, rfl, (by decide : (2147483647 : Int) ≠ 0), ?_⟩⟩
    refine ⟨_, rfl, _, _, rfl, rfl, wide_mul (show ((1000 : Int)).natAbs < 2 ^ 100 by decide) (show ((i : Int)).natAbs < 2 ^ 100 by omega) (by decide) (by decide) (by decide), by show 3 ≤ sizeLine; decide, fun g hg => ?_⟩
    refine q g H1 _ s1 hg (sameNew hg) ⟨_, _, _, upd_same, fm0 (by decide), fm0 (by decide), Int.lt_trans (fm1 (by decide)) (by decide), by omega, by omega⟩
end
end K67

set_option Elab.async false
set_option linter.all false
set_option maxRecDepth 100000
set_option maxHeartbeats 4000000
namespace K67
open PySem PySem.Spec PyProof.Rows L2 CK SX NM
/-- a comprehension over a range that draws: what its items are is told by Pz -/
theorem lcP_draw {lo : Int} {g : Addr} {n cnt j : Nat} (Pz : V → Prop) {te : TE} {vs : List Nat} {σ : L2.St} {H1 : Hp} {D : Addr} {Qd : Hp → Prop} (hc : cnt < sizeLine) (hD : H1 D = none) (hg : Gn (n + cnt) H1 g)
    (hs : ∀ (i : Nat) (H : Hp) (R : VK), i < cnt → SameX g H1 H → Gn (n + (cnt - (i + 1)) + 1) H g → (∀ (r : V) H', SameX g H H' → Gn (n + (cnt - (i + 1))) H' g → Pz r → R r H') →
      wipe ((wipe σ vs).set j (some (.int (lo + i)))) vs = wipe σ vs ∧ te ((wipe σ vs).set j (some (.int (lo + i)))) H R)
    (hd : ∀ (H : Hp) (ns : List V), SameX g H1 H → Gn n H g → H D = some (.lst ns) → ns.length = cnt → (∀ x ∈ ns, Pz x) → Qd H) :
    ∃ W : Nat → Nat → Hp → Prop, (∃ m, W 0 m (L2.upd H1 D (.lst []))) ∧ ∀ i m H, W i m H →
      ((Itr lo cnt).stop i H ∧ Qd H) ∨ ((Itr lo cnt).go i H ∧ ∃ Nx : Hp → Prop, (∀ H', Nx H' → ∃ m', m' < m ∧ W (i + 1) m' H') ∧ ∀ x H', (Itr lo cnt).yld i H x H' → gName j x (wipe σ vs) H' fun σ2 H2 => wipe σ2 vs = wipe σ vs ∧ tYes σ2 H2 fun b H3 =>
        if b = true then te σ2 H3 fun y H4 => ∃ acc, H4 D = some (.lst acc) ∧ acc.length < sizeLine ∧ Nx (L2.upd H4 D (.lst (acc ++ [y]))) else Nx H3) := by
  have hDg := hg.ne hD
  refine lc_range (fun i H => SameX g H1 H ∧ Gn (n + (cnt - i)) H g ∧ i ≤ cnt ∧ ∃ ns : List V, H D = some (.lst ns) ∧ ns.length = i ∧ ∀ x ∈ ns, Pz x)
    ⟨sameX_new hD, hg.upd hDg, Nat.zero_le _, [], upd_same, rfl, fun x h => absurd h List.not_mem_nil⟩ (fun i H hi p => ?_) fun H p => ?_
  · obtain ⟨s, G, _, ns, hL, hl, hb⟩ := p
    have G1 : Gn (n + (cnt - (i + 1)) + 1) H g := by
      have e : n + (cnt - (i + 1)) + 1 = n + (cnt - i) := by omega
      rw [e]
      exact G
    refine hs i H _ hi s G1 fun r H' s' G' h0 => ⟨_, s' D _ hDg hL, by omega, (s.trans s').upd2 hD, G'.upd hDg, hi, ns ++ [r], upd_same, ?_, fun x hx => ?_⟩
    · rw [List.length_append, hl]
      rfl
    · rcases List.mem_append.mp hx with z | z
      · exact hb x z
      · rw [List.mem_singleton.mp z]
        exact h0
  · obtain ⟨s, G, _, ns, hL, hl, hb⟩ := p
    rw [Nat.sub_self] at G
    exact hd H ns s G hL hl hb
theorem join_one : ∀ cs : List Nat, TL.joinL [] (cs.map fun c => [c]) = cs
  | [] => rfl
  | [c] => rfl
  | c :: d :: r => by
    show [c] ++ ([] ++ TL.joinL [] ((d :: r).map fun c => [c])) = _
    rw [join_one (d :: r)]
    rfl
theorem empty_S : (Str.ofString "" : Str) = S [] := by decide +kernel
theorem join_S1 (cs : List Nat) : Txt.join (Str.ofString "") (cs.map fun c => S [c]) = S cs := by
  rw [empty_S]
  have := join_S [] (cs.map fun c => [c])
  rw [List.map_map] at this
  rw [show (cs.map fun c => S [c]) = cs.map (S ∘ fun c => [c]) from rfl, this, join_one]
theorem ones_S : ∀ {vs : List V}, (∀ v ∈ vs, ∃ c, v = V.str (S [c]) ∧ 97 ≤ c ∧ c ≤ 122) → ∃ cs : List Nat, vs = (cs.map fun c => S [c]).map V.str ∧ Low cs ∧ cs.length = vs.length
  | [], _ => ⟨[], rfl, fun c h => absurd h List.not_mem_nil, rfl⟩
  | v :: vs, h => by
    obtain ⟨c, rfl, hc⟩ := h v List.mem_cons_self
    obtain ⟨cs, rfl, lw, hl⟩ := ones_S fun u hu => h u (List.mem_cons_of_mem _ hu)
    refine ⟨c :: cs, rfl, fun d hd => ?_, by simp⟩
    rcases List.mem_cons.mp hd with z | z
    · rw [z]; exact hc
    · exact lw d z

theorem seq_nat {k n : Nat} (h : k < n) : seqIndex? (k : Int) n = some k := by
  unfold seqIndex?
  have h1 : ¬ ((k : Int) < 0) := by omega
  have h2 : (k : Int) < n := by omega
  simp only [h1, if_false]
  rw [if_pos (by simp [h2])]
  rfl
theorem map_erase {α β : Type} (f : α → β) : ∀ (l : List α) (k : Nat), (l.map f).eraseIdx k = (l.eraseIdx k).map f
  | [], _ => by simp
  | a :: l, 0 => by simp
  | a :: l, k + 1 => by
    rw [List.map_cons, List.eraseIdx_cons_succ, List.eraseIdx_cons_succ, List.map_cons, map_erase f l k]
theorem abc_S : (Str.ofString "abcdefghijklmnopqrstuvwxyz" : Str) = S (List.range' 97 26) := by decide +kernel
theorem perm_erase : ∀ {zs : List Nat} {k c : Nat}, zs[k]? = some c → List.Perm (c :: zs.eraseIdx k) zs
  | [], _, _, h => by simp at h
  | a :: l, 0, c, h => by
    cases h
    exact List.Perm.refl _
  | a :: l, k + 1, c, h => by
    rw [List.eraseIdx_cons_succ]
    exact (List.Perm.swap a c _).trans ((perm_erase (zs := l) (k := k) h).cons a)
theorem nodup_move {zs cs : List Nat} {k c : Nat} (hk : zs[k]? = some c) (h : (zs ++ cs).Nodup) : (zs.eraseIdx k ++ (cs ++ [c])).Nodup := by
  have p1 := perm_erase hk
  have p2 : List.Perm (zs.eraseIdx k ++ (cs ++ [c])) (zs ++ cs) := by
    refine List.Perm.trans ?_ (p1.append_right cs)
    rw [← List.append_assoc]
    refine List.Perm.trans (List.perm_append_comm) ?_
    exact List.Perm.refl _
  exact p2.nodup_iff.mpr h
theorem low_abc : Low (List.range' 97 26) := fun c hc => by
  rw [List.mem_range'] at hc
  obtain ⟨i, h1, h2⟩ := hc
  omega
theorem low_erase {zs : List Nat} (h : Low zs) (k : Nat) : Low (zs.eraseIdx k) := fun c hc => h c (List.mem_of_mem_eraseIdx hc)
theorem get_one {cs : List Nat} {i : Nat} {v : V} (h : (cs.map fun c => V.str (S [c]))[i]? = some v) : ∃ c, cs[i]? = some c ∧ v = V.str (S [c]) := by
  rw [List.getElem?_map] at h
  cases e : cs[i]? with
  | none => rw [e] at h; cases h
  | some c =>
    rw [e] at h
    exact ⟨c, rfl, (Option.some.inj h).symm⟩
theorem sum_ones (l : List Nat) : ((l.map fun c => S [c]).map fun x => x.length).sum = l.length := by
  induction l with
  | nil => rfl
  | cons c r ih => rw [List.map_cons, List.map_cons, List.sum_cons, ih, S_len]; simp; omega
theorem len_empty : (Str.ofString "").length = 0 := by decide +kernel
theorem nats_of : ∀ {ns : List Int}, (∀ z ∈ ns, 0 ≤ z) → ns.map V.int = (ns.map Int.toNat).map fun k : Nat => V.int (k : Nat)
  | [], _ => rfl
  | z :: r, h => by
    have h0 := h z List.mem_cons_self
    rw [List.map_cons, List.map_cons, List.map_cons, nats_of fun y hy => h y (List.mem_cons_of_mem _ hy)]
    congr 2
    omega
section
variable {P : Program} {w : World} {K : PySem.W.Frag} {mg : Str → Option Value} {base : Heap} {C : Addr}
def sp_letters : Sp := fun vs H Q _ => ∃ (g : Addr) (n : Nat), vs = [.ref g] ∧ Gn (n + 3) H g ∧ ∀ cs H', SameX g H H' → Gn n H' g → cs.length = 3 → Low cs → cs.Nodup → Q (.str (S cs)) H'
theorem c_law_letters (T : Txt K mg C) : C8.Cal P w K mg base 3 "_law_letters" sp_letters [] := by
  refine calF T.d_law_letters sc_law_letters (fun vs H Q E h => ?_) (fun f cdv A outer s H vs Q E hr h => ?_)
  · obtain ⟨_, _, rfl, _⟩ := h; rfl
  · obtain ⟨g, n, rfl, G, q⟩ := h
    refine ⟨_, (pss_cons (ps_set (i := 1) sc_law_letters.nd rfl (Or.inr rfl) (pe_callTy (call_listS rfl) (by rfl) T.m_list (by decide +kernel) (pa_cons pe_str pa_nil)))
    (pss_one (ps_ret (pe_join pe_str (pe_lc (own := [("_law_turn", 2)]) (by rfl) sc_law_letters.nd (pi_range1 (by rfl) T.m_range (pa_cons pe_int pa_nil)) (blkOk_by (N := ["_law_generator_here", "_law_left", "_law_turn"]) (sc := C8.fnScope (topS 56)) (own := [("_law_turn", 2)]) (by decide +kernel)) (fun _ _ _ _ _ => (pg_name (i := 2) sc_law_letters.nd rfl (Or.inl rfl))) (fun _ _ _ _ _ => pts_nil) (fun _ _ _ _ _ => (pe_bmB (K := K) rfl PySem.F.plainAttrs_list PySem.F.slot_list_pop PySem.F.type_list_pop mt_popAt (pv 1) (pa_cons (C8.pe_c (c_law_random T) hr (by decide) (by rfl) (pa_cons (pv 0) (pa_cons (pe_callB call_lenH (by rfl) T.m_len (by decide +kernel) (pa_cons (pv 1) pa_nil)) pa_nil))) pa_nil)))))))), ?_⟩
    refine ⟨List.range' 97 26, congrArg (fun z => [V.str z]) abc_S, by decide, fun L hL => ?_⟩
    have Lg := G.ne hL
    have s0 := sameNew (o := .lst ((List.range' 97 26).map fun c => V.str (S [c]))) hL
    refine ⟨⟨_, rfl⟩, 3, rfl, by decide, by decide, fun D hD => ?_⟩
    have G1 : Gn (n + 3) (upd H L (.lst ((List.range' 97 26).map fun c => V.str (S [c])))) g := G.upd Lg
    have Dg := G1.ne hD
    have DL : D ≠ L := fun z => by rw [z, upd_same] at hD; cases hD
    refine lc_range (fun i H2 => (∀ b o, b ≠ g → b ≠ L → (upd H L (.lst ((List.range' 97 26).map fun c => V.str (S [c])))) b = some o → H2 b = some o) ∧ Gn (n + (3 - i)) H2 g ∧ i ≤ 3 ∧ ∃ zs cs : List Nat, (H2 L = some (.lst (zs.map fun c => V.str (S [c]))) ∧ zs.length = 26 - i ∧ Low zs) ∧ H2 D = some (.lst (cs.map fun c => V.str (S [c]))) ∧ cs.length = i ∧ Low cs ∧ (zs ++ cs).Nodup)
      ⟨fun b o _ _ e => sameNew hD _ _ e, G1.upd Dg, by decide, List.range' 97 26, [], ⟨sameNew hD _ _ upd_same, by simp, low_abc⟩, upd_same, rfl, low_nil, by rw [List.append_nil]; exact List.nodup_range'⟩ (fun i H2 hi p => ?_) fun H2 p => ?_
    · obtain ⟨s2, G2, _, zs, cs, ⟨hL2, lz, lowz⟩, hD2, lc, lowc, nd⟩ := p
      have e3 : n + (3 - i) = n + (3 - (i + 1)) + 1 := by omega
      rw [e3] at G2
      have lk : (zs.map fun c => V.str (S [c])).length = 26 - i := by rw [List.length_map, lz]
      refine ⟨rfl, _, rfl, .inl ⟨rfl, _, .inl (.inl hL2)⟩, _, rfl, _, rfl, L, _, rfl, hL2, g, _, _, rfl, G2, by rw [lk]; omega, by rw [lk]; omega, fun r H3 s3 G3 r0 r1 => ?_⟩
      rw [lk] at r1
      have hL3 := s3 _ _ Lg hL2
      obtain ⟨k, rfl⟩ : ∃ k : Nat, r = k := ⟨r.toNat, by omega⟩
      have hk : k < zs.length := by omega
      have hz := List.getElem?_eq_getElem hk
      have hc := lowz _ (List.getElem_mem hk)
      generalize zs[k] = c at hz hc
      refine ⟨L, _, k, k, .str (S [c]), rfl, rfl, hL3, by omega, by omega, ?_, by rw [List.getElem?_map, hz]; rfl, ?_⟩
      · rw [lk]
        exact seq_nat (by omega)
      · refine ⟨_, by rw [upd_ne DL]; exact s3 _ _ Dg hD2, by rw [List.length_map, lc, sizeLine_eq]; omega, fun b o hb hbL eb => ?_, (G3.upd Lg).upd Dg, by omega, zs.eraseIdx k, cs ++ [c], ⟨?_, ?_, low_erase lowz k⟩, ?_, by rw [List.length_append, lc]; rfl, (low_app lowc fun d hd => by rw [List.mem_singleton.mp hd]; exact hc), nodup_move hz nd⟩
        · have hbD : b ≠ D := fun z => by rw [z, hD] at eb; cases eb
          rw [upd_ne hbD, upd_ne hbL]
          exact s3 _ _ hb (s2 _ _ hb hbL eb)
        · rw [upd_ne (Ne.symm DL), upd_same, map_erase]
        · rw [List.length_eraseIdx, if_pos hk, lz]
          omega
        · rw [upd_same, List.map_append]
          rfl
    · obtain ⟨s2, G2, _, zs, cs, ⟨hL2, lz, lowz⟩, hD2, lc, lowc, nd⟩ := p
      refine ⟨Str.ofString "", D, cs.map fun c => S [c], rfl, rfl, .inl (.inl (.inl (by rw [hD2, List.map_map]; rfl))), by rw [sum_ones, List.length_map, len_empty, lc]; decide, ?_⟩
      rw [join_S1]
      refine q cs H2 (fun b o hb eb => s2 _ _ hb (fun z => by rw [z, hL] at eb; cases eb) (s0 _ _ eb)) G2 lc lowc (List.nodup_append.mp nd).2.1
def sp_word : Sp := fun vs H Q _ => ∃ (g : Addr) (cs : List Nat) (n lo hi : Nat), vs = [.ref g, .str (S cs), .int lo, .int hi] ∧ cs ≠ [] ∧ cs.length ≤ 26 ∧ Low cs ∧ Gn (n + 10) H g ∧ lo ≤ hi ∧ hi ≤ 4 ∧
  ∀ (w : List Nat) H', SameX g H H' → Gn n H' g → lo ≤ w.length → w.length ≤ hi → Low w → Q (.str (S w)) H'
theorem c_law_word (T : Txt K mg C) : C8.Cal P w K mg base 3 "_law_word" sp_word [] := by
  refine calF T.d_law_word sc_law_word (fun vs H Q E h => ?_) (fun f cdv A outer s H vs Q E hr h => ?_)
  · obtain ⟨_, _, _, _, _, rfl, _⟩ := h; rfl
  · obtain ⟨g, cs, n, lo, hi, rfl, ne, l26, lowc, G, h1, h2, q⟩ := h
    have n0 := List.length_pos_iff.mpr ne
    refine ⟨_, (pss_cons (ps_set (i := 4) sc_law_word.nd rfl (Or.inl rfl) (pe_op op_add (pv 2) (C8.pe_c (c_law_random T) hr (by decide) (by rfl) (pa_cons (pv 0) (pa_cons (pe_op op_add (pe_op op_sub (pv 3) (pv 2)) pe_int) pa_nil)))))
    (pss_one (ps_ret (pe_join pe_str (pe_lc (own := [("_law_turn", 5)]) (by rfl) sc_law_word.nd (pi_range1 (by rfl) T.m_range (pa_cons (pv 4) pa_nil)) (blkOk_by (N := ["_law_generator_here", "_law_signs", "_law_least", "_law_most", "_law_many", "_law_turn"]) (sc := C8.fnScope (topS 57)) (own := [("_law_turn", 5)]) (by decide +kernel)) (fun _ _ _ _ _ => (pg_name (i := 5) sc_law_word.nd rfl (Or.inl rfl))) (fun _ _ _ _ _ => pts_nil) (fun _ _ _ _ _ => (pe_ix ix_str (pv 1) (C8.pe_c (c_law_random T) hr (by decide) (by rfl) (pa_cons (pv 0) (pa_cons (pe_callB call_len_str (by rfl) T.m_len (by decide +kernel) (pa_cons (pv 1) pa_nil)) pa_nil))) (fun _ _ => rfl)))))))), ?_⟩
    refine ⟨_, rfl, _, rfl, _, rfl, _, rfl, _, _, rfl, rfl, _, _, rfl, rfl, g, _, n + 9, rfl, G, by omega, by omega, fun r H1 s1 G1 r0 r1 => ?_⟩
    refine ⟨_, _, rfl, rfl, ?_⟩
    refine ⟨⟨_, rfl⟩, _, rfl, (lo : Int) + r, rfl, by omega, by omega, fun D hD => ?_⟩
    refine lcP_draw (lo := 0) (g := g) (n := n) (cnt := ((lo : Int) + r).toNat) (fun v => ∃ c, v = V.str (S [c]) ∧ 97 ≤ c ∧ c ≤ 122) (small1000 (by omega)) hD (G1.le (by omega)) (fun i H2 R hi2 s2 G2 q' => ?_) fun H3 ns s3 G3 hL hl hP => ?_
    · refine ⟨rfl, _, rfl, _, rfl, _, rfl, S cs, rfl, len_line (by omega), g, _, _, rfl, G2, by rw [S_len]; omega, by rw [S_len]; omega, fun r3 H3 s3 G3 r30 r31 => ?_⟩
      rw [S_len] at r31
      obtain ⟨k, rfl⟩ : ∃ k : Nat, r3 = k := ⟨r3.toNat, by omega⟩
      have hk : k < cs.length := by omega
      have hz := List.getElem?_eq_getElem hk
      have hc := lowc _ (List.getElem_mem hk)
      generalize cs[k] = c at hz hc
      exact ⟨S cs, _, c, rfl, rfl, len_line (by omega), atI_nat (xs := cs) hz, q' _ H3 s3 G3 ⟨c, rfl, hc⟩⟩
    · obtain ⟨ws, rfl, lw, lw2⟩ := ones_S hP
      refine ⟨Str.ofString "", D, ws.map fun c => S [c], rfl, rfl, .inl (.inl (.inl hL)), by rw [sum_ones, List.length_map, len_empty]; omega, ?_⟩
      rw [join_S1]
      exact q ws H3 (s1.trans s3) G3 (by omega) (by omega) lw
/-- numbers up to most -/
def Up (most : Nat) (f : List Nat) : Prop := ∀ n ∈ f, n ≤ most

end
end K67

set_option Elab.async false
set_option linter.all false
set_option maxRecDepth 100000
set_option maxHeartbeats 4000000
namespace K67
open PySem PySem.Spec PyProof.Rows L2 CK SX NM
def LP (H : Hp) (a : Addr) (pt : List Nat) : Prop := H a = some (.lst (natsV pt))
def vMulN : V → V → V
  | .int i, .int j => .int (i * j)
  | _, _ => .non
theorem zip_mulN : ∀ (f pt : List Nat), List.zipWith vMulN (natsV f) (natsV pt) = (List.zipWith (fun x y : Nat => ((x * y : Nat) : Int)) f pt).map V.int
  | [], _ => by simp [natsV]
  | _ :: _, [] => by simp [natsV]
  | x :: xs, y :: ys => by
    show V.int ((x : Int) * (y : Int)) :: List.zipWith vMulN (natsV xs) (natsV ys) = V.int ((x * y : Nat) : Int) :: _
    rw [zip_mulN xs ys, Int.natCast_mul]
theorem sum_zipN : ∀ (f pt : List Nat), (List.zipWith (fun x y : Nat => ((x * y : Nat) : Int)) f pt).sum = ((dot f pt : Nat) : Int)
  | [], _ => by simp [dot]
  | _ :: _, [] => by simp [dot]
  | x :: xs, y :: ys => by
    rw [List.zipWith_cons_cons, List.sum_cons, sum_zipN xs ys, dot, Int.natCast_add]
theorem joinL_nil : ∀ xs : List (List Nat), TL.joinL [] xs = xs.flatten
  | [] => rfl
  | [x] => by
    show x = _
    simp
  | x :: y :: r => by
    show x ++ ([] ++ TL.joinL [] (y :: r)) = _
    rw [joinL_nil (y :: r), List.nil_append]
    rfl
theorem join_flat (xs : List (List Nat)) : Txt.join (Str.ofString "") (xs.map S) = S xs.flatten := by
  rw [empty_S, join_S [] xs, joinL_nil]
theorem len_flatS : ∀ xs : List (List Nat), ((xs.map S).map fun x => x.length).sum = xs.flatten.length
  | [] => rfl
  | x :: r => by
    rw [List.map_cons, List.map_cons, List.sum_cons, len_flatS r, S_len, List.flatten_cons, List.length_append]
/-- where a word stands first in itself doubled -/
theorem at_occ {z : List Nat} (h : z ≠ []) (i : Nat) : StrLaws.At (S ((z ++ z).drop 1)) (S z) (S ((z ++ z).drop 1)).length i ↔ i + 1 ≤ z.length ∧ Occ z i := by
  have n0 := List.length_pos_iff.mpr h
  unfold StrLaws.At
  rw [StrLaws.subAt_eq, S_len, S_len]
  show (i + z.length ≤ ((z ++ z).drop 1).length ∧ ((((z ++ z).drop 1).drop i).take z.length == z) = true) ↔ _
  rw [List.length_drop, List.length_append, List.drop_drop, beq_iff_eq]
  unfold Occ
  rw [Nat.add_comm 1 i]
  constructor
  · rintro ⟨a, b⟩
    exact ⟨by omega, b⟩
  · rintro ⟨a, b⟩
    exact ⟨by omega, b⟩
theorem find_prim {z : List Nat} (h : z ≠ []) : (Txt.find (S ((z ++ z).drop 1)) (S z) = (z.length : Int) - 1) ↔ WM.Prim z := by
  have n0 := List.length_pos_iff.mpr h
  have last := (at_occ h (z.length - 1)).mpr ⟨by omega, occ_last h⟩
  rcases PyProof.Rows.find_whole (S ((z ++ z).drop 1)) (S z) with ⟨_, no⟩ | ⟨i, e, hi, lo⟩
  · exact absurd last (no _)
  · have o := (at_occ h i).mp hi
    rw [e]
    constructor
    · intro ei
      refine Classical.byContradiction fun np => ?_
      obtain ⟨k, hk, ok⟩ := not_prim_occ h np
      exact lo k (by omega) ((at_occ h k).mpr ⟨by omega, ok⟩)
    · intro pr
      refine Classical.byContradiction fun ne => ?_
      exact occ_not_prim h (by omega) o.2 pr
section
variable {P : Program} {w : World} {K : PySem.W.Frag} {mg : Str → Option Value} {base : Heap} {C : Addr}
def sp_primitive : Sp := fun vs H Q _ => ∃ z : List Nat, vs = [.str (S z)] ∧ z.length ≤ 400000 ∧ ∀ b : Bool, (b = true ↔ WM.Prim z) → Q (.bl b) H
theorem c_law_primitive (T : Txt K mg C) : C8.Cal P w K mg base 1 "_law_primitive" sp_primitive [] := by
  refine calF T.d_law_primitive sc_law_primitive (fun vs H Q E h => ?_) (fun f cdv A outer s H vs Q E hr h => ?_)
  · obtain ⟨_, rfl, _⟩ := h; rfl
  · obtain ⟨z, rfl, hz, q⟩ := h
    refine ⟨_, (pss_one (ps_ret (pe_and (pe_cmpR op_ne (pv 0) pe_str (nomark _)) (pe_one (pe_cmpR op_eq (pe_m1 PySem.F.slot_str_find PySem.F.type_str_find mt_find (pe_slice C8.sl_txt (pe_op op_add_str (pv 0) (pv 0)) (po_some pe_int) po_none) (pv 0)) (pe_op op_sub (pe_callB call_len_str (by rfl) T.m_len (by decide +kernel) (pa_cons (pv 0) pa_nil)) pe_int) (nomark _)))))), ?_⟩
    refine ⟨_, rfl, rfl, _, rfl, ?_⟩
    by_cases h0 : z = []
    · subst h0
      exact iteNS (by decide +kernel) (q _ ⟨fun y => absurd y Bool.false_ne_true, fun y => absurd rfl y.1⟩)
    · refine ite2 (fun _ => ?_) (fun e => absurd (by rw [decide_eq_false (fun y => h0 (S_nil (V.str.inj y)))]; rfl) e)
      refine ⟨_, rfl, _, rfl, _, _, rfl, rfl, ?_, ?_⟩
      · rw [S_len, sizeLine_eq]
        omega
      · rw [S_cat]
        refine ⟨((1 : Nat) : Int), rfl, S (z ++ z), rfl, len_line (by rw [List.length_append]; omega), ?_⟩
        rw [SX.slice_from (by omega), Int.toNat_natCast]
        refine ⟨⟨_, rfl⟩, _, rfl, _, _, rfl, rfl, _, rfl, S z, rfl, len_line (by omega), _, _, rfl, rfl, rfl, q _ ?_⟩
        rw [decide_eq_true_iff, S_len]
        exact ⟨fun y => (find_prim h0).mp (V.int.inj y), fun y => congrArg V.int ((find_prim h0).mpr y)⟩
end
end K67

set_option Elab.async false
set_option linter.all false
set_option maxRecDepth 100000
set_option maxHeartbeats 2000000
/-! == of two objects of an own class, by its __eq__, which may say yes or no -/
namespace CK
open PySem PySem.Spec PyProof.Rows L2 SX
section
variable {X : Cx} {k j : Nat} {C : Addr} {sp : Sp}
def rEqO (C : Addr) (sp : Sp) : R2 := fun x y H Q => ∃ a b dx fs dy gs, x = .ref a ∧ y = .ref b ∧ H a = some (.ins C dx fs) ∧ H b = some (.ins C dy gs) ∧ sp [.ref a, .ref b] H (fun v H' => (∃ r, v = .bl r) ∧ Q v H') C8.E0
theorem op_eqO (c : C8.Met X.prog X.w X.K X.mg X.base k C "__eq__" sp []) (hr : Room j X.A) (hk : k ≤ j) : OpR X (compareOp .Eq) (rEqO C sp) := by
  intro pins s σ H x y v u Q I rx ry h
  obtain ⟨a, b, dx, fs, dy, gs, rfl, rfl, ha, hb', hsp⟩ := h
  obtain ⟨f, fd, ps, ds, hc, hm, F, bnd, d⟩ := c.ex
  cases d
  cases rx
  cases ry
  obtain ⟨mA, J, _⟩ := ins_get I.hok ha
  obtain ⟨mB, J', _⟩ := ins_get I.hok hb'
  obtain ⟨od, J, _⟩ := J.look
  obtain ⟨od', J', _⟩ := J'.look
  obtain ⟨m, hF⟩ := I.fr
  have hr' := hr.mono hk
  show wpAny (model X.prog X.w) X.A (richCompare .Eq (.ref a) (.ref b)) (EP X pins σ Q) X.xe s
  refine PySem.W.cmp_K (op := .Eq) (tb := .ref C) hr.units0 hF I.ok.mod.kin J J'.type (by simp [PySem.W.notFirst]) hm.at_ hm.fn ?_
  have hl := F.len _ _ _ _ hsp
  have r2 : Vals [V.ref a, V.ref b] [Value.ref a, Value.ref b] := .cons rfl (.cons rfl .nil)
  refine wpAny_call (codeAny_mono (F.run X.A X.stack s H ⟨[.ref a, .ref b], []⟩ [.ref a, .ref b] [.ref a, .ref b] _ C8.E0 hr' I.env0 (by
    have := bnd s [.ref a, .ref b] I.kIn (by simpa using hl)
    simpa using this) r2 hsp) fun r s' hq => ?_)
  cases r with
  | error e => exact C8.pass0 (E := C8.E0) pins σ H s e s' I hq
  | ok fl =>
    cases fl with
    | ret w =>
      obtain ⟨z, H', I', rz, ⟨r, ez⟩, q⟩ := I.after hq
      subst ez
      cases rz
      exact ⟨.bl r, H', I', rfl, q⟩
    | next => exact False.elim hq
    | brk => exact False.elim hq
    | cont => exact False.elim hq
end
end CK

set_option Elab.async false
set_option linter.all false
set_option maxRecDepth 100000
set_option maxHeartbeats 4000000
namespace K67
open PySem PySem.Spec PyProof.Rows L2 CK SX NM
/-! ### open texts -/
/-- the attributes, as they are set -/
def OF (l : Addr) (m : Nat) : List (Str × V) := putF "_many" (V.int (m : Nat)) (putF "_pieces" (V.ref l) [])
theorem ne_pm : ¬ (("_pieces" : Str) = "_many") := by decide +kernel
theorem of_p (l : Addr) (m : Nat) : (OF l m).lookup ("_pieces" : Str) = some (V.ref l) := by
  unfold OF
  rw [lookup_putF, if_neg ne_pm, lookup_putF, if_pos rfl]
theorem of_m (l : Addr) (m : Nat) : (OF l m).lookup ("_many" : Str) = some (V.int (m : Nat)) := by
  unfold OF
  rw [lookup_putF, if_pos rfl]
theorem of_no (l : Addr) (m : Nat) {x : Str} (h1 : ¬ x = "_pieces") (h2 : ¬ x = "_many") : (OF l m).lookup x = none := by
  unfold OF
  rw [lookup_putF, if_neg h2, lookup_putF, if_neg h1]
  rfl
/-- an open text at p, its list of pieces at l -/
structure OTl (C : Addr) (H : Hp) (p l : Addr) (m : Nat) (ps : List Pn) : Prop where
  at_ : ∃ dx, H p = some (.ins C dx (OF l m))
  gl : GL H m l ps
def OT (C : Addr) (H : Hp) (p : Addr) (m : Nat) (ps : List Pn) : Prop := ∃ l, OTl C H p l m ps
theorem OTl.same {C : Addr} {H H' : Hp} {p l : Addr} {m : Nat} {ps : List Pn} (h : OTl C H p l m ps) (s : Same H H') : OTl C H' p l m ps := by
  obtain ⟨⟨dx, e⟩, g⟩ := h
  exact ⟨⟨dx, s _ _ e⟩, g.same s⟩
theorem OT.same {C : Addr} {H H' : Hp} {p : Addr} {m : Nat} {ps : List Pn} (h : OT C H p m ps) (s : Same H H') : OT C H' p m ps := by
  obtain ⟨l, h⟩ := h
  exact ⟨l, h.same s⟩
theorem GL.ins {H : Hp} {m : Nat} {l p C dx : Addr} {ps : List Pn} {fs gs : List (Str × V)} (h : GL H m l ps) (hp : H p = some (.ins C dx fs)) : GL (upd H p (.ins C dx gs)) m l ps := by
  obtain ⟨⟨vs, hl, hv⟩, a, b, c, d, e⟩ := h
  refine ⟨⟨vs, ?_, hv.mono fun a xs e => ?_⟩, a, b, c, d, e⟩
  · rw [upd_ne (fun z => by rw [z, hp] at hl; cases hl)]
    exact hl
  · rw [upd_ne (fun z => by rw [z, hp] at e; cases e)]
    exact e
/-- what is written at ones is not too long -/
def Wl (m : Nat) (ps : List Pn) : Prop := (wr (List.replicate m 1) ps).length < 2 ^ 900
theorem bf_normL {m : Nat} {ps : List Pn} (h : LenF m ps) (hw : Wl m ps) : ∀ p ∈ normL ps, Bf p.2 := fun p hp n hn => Nat.lt_of_le_of_lt (num_le h (Nat.le_refl _) hp hn) hw
theorem wl_normL {m : Nat} {ps : List Pn} (h : LenF m ps) (hw : Wl m ps) : Wl m (normL ps) := by
  unfold Wl
  rw [wr_normL h]
  exact hw
section
variable {P : Program} {w : World} {K : PySem.W.Frag} {mg : Str → Option Value} {base : Heap} {C : Addr}
def sp_init (C : Addr) : Sp := fun vs H Q _ => ∃ (p dx l : Addr) (m : Nat) (ps : List Pn), vs = [.ref p, .int m, .ref l] ∧ H p = some (.ins C dx []) ∧ m ≤ 3 ∧ GL H m l ps ∧ meas ps ≤ 2000 ∧ Wl m ps ∧
  ∀ r H', SameX p H H' → H r = none → OTl C H' p r m (normL ps) → Q .non H'
theorem n_OpenText (T : Txt K mg C) : C8.Mak P w K mg base 7 "OpenText" C (sp_init C) [] := by
  refine makF T.k_OpenText T.d_OpenText___init__ sc_OpenText___init__ (fun vs H Q E h => ?_) (fun f cdv A outer s H vs Q E hr h => ?_)
  · obtain ⟨_, _, _, _, _, rfl, _⟩ := h; rfl
  · obtain ⟨p, dx, l, m, ps, rfl, hp, m3, g, hme, hw, q⟩ := h
    have cl := T.k_OpenText.ins.cl
    refine ⟨_, (pss_cons (ps_fld (pv 0) (C8.pe_c (c_normal T) hr (by decide) (by rfl) (pa_cons (pv 1) (pa_cons (pv 2) pa_nil))) rfl)
    (pss_one (ps_fld (pv 0) (pv 1) rfl))), ?_⟩
    refine ⟨_, rfl, _, rfl, m, l, ps, rfl, m3, g, hme, fun r H1 s1 n1 pl => ?_⟩
    have hp1 := s1 _ _ hp
    have hp2 : (upd H1 p (.ins C dx (putF "_pieces" (V.ref r) []))) p = some (.ins C dx (putF "_pieces" (V.ref r) [])) := upd_same
    refine ⟨_, rfl, p, C, dx, _, rfl, hp1, cl, T.f_pieces, by show 0 < 1000; decide, ?_⟩
    refine ⟨_, rfl, _, rfl, p, C, dx, _, rfl, hp2, cl, T.f_many, by show 1 < 1000; decide, ?_⟩
    rw [upd_upd]
    have nm := nm_normL g.len
    have mle := meas_normL g.len
    have sm := nm.small (B := 2000) (by omega)
    have gr : GL H1 m r (normL ps) := ⟨pl, nm.lenF, sm.2, lowP_normL g.low, bf_normL g.len hw, by have := sm.1; omega⟩
    refine q r _ (fun b o hb e => ?_) n1 ⟨⟨dx, upd_same⟩, gr.ins hp1⟩
    rw [upd_ne hb]
    exact s1 _ _ e
def sp_eq (C : Addr) : Sp := fun vs H Q _ => ∃ (a b : Addr) (m m' : Nat) (ps qs : List Pn), vs = [.ref a, .ref b] ∧ OT C H a m ps ∧ OT C H b m' qs ∧ Q (.bl (decide (m = m') && decide (ps = qs))) H
theorem m_OpenText___eq__ (T : Txt K mg C) : C8.Met P w K mg base 1 C "__eq__" (sp_eq C) [] := by
  refine metF T.k_OpenText T.d_OpenText___eq__ sc_OpenText___eq__ (fun vs H Q E h => ?_) (fun f cdv A outer s H vs Q E hr h => ?_)
  · obtain ⟨_, _, _, _, _, _, rfl, _⟩ := h; rfl
  · obtain ⟨a, b, m, m', ps, qs, rfl, ⟨l, ⟨dx, ha⟩, ga⟩, ⟨l', ⟨dy, hb⟩, gb⟩, q⟩ := h
    have cl := T.k_OpenText.ins.cl
    refine ⟨_, (pss_one (ps_ret (pe_and (pe_callB (C8.call_isC T.k_OpenText.ins) (by rfl) T.m_isinstance (by decide +kernel) (pa_cons (pv 1) (pa_cons (C8.pe_gc (v := .ref C) (by rfl) ⟨_, T.k_OpenText.mgC, rfl⟩) pa_nil))) (pe_and (pe_cmpR op_eq (pe_fld (pv 0) rfl) (pe_fld (pv 1) rfl) (nomark _)) (pe_one (pe_cmpR (op_eqD hr.units) (pe_fld (pv 0) rfl) (pe_fld (pv 1) rfl) (nomark _))))))), ?_⟩
    refine ⟨_, rfl, b, dy, _, rfl, hb, _, rfl, iteT ?_⟩
    refine ⟨_, rfl, a, C, dx, _, _, rfl, ha, cl, T.f_many, of_m l m, _, rfl, b, C, dy, _, _, rfl, hb, cl, T.f_many, of_m l' m', rfl, _, rfl, ?_⟩
    by_cases e : m = m'
    · subst e
      rw [decide_eq_true (rfl : m = m), Bool.true_and] at q
      rw [decide_eq_true (rfl : V.int (m : Nat) = V.int (m : Nat))]
      refine iteT ⟨_, rfl, a, C, dx, _, _, rfl, ha, cl, T.f_pieces, of_p l m, _, rfl, b, C, dy, _, _, rfl, hb, cl, T.f_pieces, of_p l' m, .list (ps.map dP), .list (qs.map dP), dp_PL ga.at_, dp_PL gb.at_, shaped_dPs ga.low, shaped_dPs gb.low, ?_⟩
      rw [eqv_dPs]
      exact q
    · rw [decide_eq_false e, Bool.false_and] at q
      rw [decide_eq_false (fun z => e (by have := V.int.inj z; omega))]
      exact iteF q
def sp_many (C : Addr) : Sp := fun vs H Q _ => ∃ (a : Addr) (m : Nat) (ps : List Pn), vs = [.ref a] ∧ OT C H a m ps ∧ Q (.int (m : Nat)) H
theorem m_OpenText_many (T : Txt K mg C) : C8.Met P w K mg base 1 C "many" (sp_many C) [] := by
  refine metF T.k_OpenText T.d_OpenText_many sc_OpenText_many (fun vs H Q E h => ?_) (fun f cdv A outer s H vs Q E hr h => ?_)
  · obtain ⟨_, _, _, rfl, _⟩ := h; rfl
  · obtain ⟨a, m, ps, rfl, ⟨l, ⟨dx, ha⟩, ga⟩, q⟩ := h
    refine ⟨_, (pss_one (ps_ret (pe_fld (pv 0) rfl))), ?_⟩
    exact ⟨_, rfl, a, C, dx, _, _, rfl, ha, T.k_OpenText.ins.cl, T.f_many, of_m l m, q⟩
def sp_pieces (C : Addr) : Sp := fun vs H Q _ => ∃ (a : Addr) (m : Nat) (ps : List Pn), vs = [.ref a] ∧ OT C H a m ps ∧ ∀ L H', Same H H' → H L = none → GL H' m L ps → Q (.ref L) H'
theorem m_OpenText_pieces (T : Txt K mg C) : C8.Met P w K mg base 1 C "pieces" (sp_pieces C) [] := by
  refine metF T.k_OpenText T.d_OpenText_pieces sc_OpenText_pieces (fun vs H Q E h => ?_) (fun f cdv A outer s H vs Q E hr h => ?_)
  · obtain ⟨_, _, _, rfl, _⟩ := h; rfl
  · obtain ⟨a, m, ps, rfl, ⟨l, ⟨dx, ha⟩, ga⟩, q⟩ := h
    obtain ⟨us, hus, pus⟩ := id ga.at_
    refine ⟨_, (pss_one (ps_ret (pe_callTy call_list_of (by rfl) T.m_list (by decide +kernel) (pa_cons (pe_fld (pv 0) rfl) pa_nil)))), ?_⟩
    refine ⟨_, rfl, a, C, dx, _, _, rfl, ha, T.k_OpenText.ins.cl, T.f_pieces, of_p l m, l, us, rfl, .inl (.inl (.inl hus)), fun L nL => q L _ (sameNew nL) nL ?_⟩
    exact ⟨⟨us, upd_same, pus.same (sameNew nL)⟩, ga.len, ga.ws, ga.low, ga.bf, ga.few⟩
end
end K67

set_option Elab.async false
set_option linter.all false
set_option maxRecDepth 100000
set_option maxHeartbeats 4000000
namespace K67
open PySem PySem.Spec PyProof.Rows L2 CK SX NM
section
variable {P : Program} {w : World} {K : PySem.W.Frag} {mg : Str → Option Value} {base : Heap} {C : Addr}
def sp_stretch0 : Sp := fun vs H Q _ => ∃ (u : List Nat) (n : Nat), vs = [.str (S u), .int 0, .int n] ∧ u ≠ [] ∧ u.length ≤ 100000 ∧ n ≤ 100000 ∧ Q (.str (S (preE u n))) H
theorem c_stretch0 (T : Txt K mg C) : C8.Cal P w K mg base 1 "stretch" sp_stretch0 [] := by
  refine calF T.d_stretch sc_stretch (fun vs H Q E h => ?_) (fun f cdv A outer s H vs Q E hr h => ?_)
  · obtain ⟨_, _, rfl, _⟩ := h; rfl
  · obtain ⟨u, n, rfl, ne, hu, hn, q⟩ := h
    have n0 := List.length_pos_iff.mpr ne
    refine ⟨_, (pss_cons (ps_set (i := 3) sc_stretch.nd rfl (Or.inl rfl) (pe_op op_modN (pv 1) (pe_callB call_len_str (by rfl) T.m_len (by decide +kernel) (pa_cons (pv 0) pa_nil))))
    (pss_one (ps_ret (pe_slice C8.sl_txt (pe_op op_repM (pv 0) (pe_op op_add (pe_op op_fdivZ (pe_op op_add (pv 3) (pv 2)) (pe_callB call_len_str (by rfl) T.m_len (by decide +kernel) (pa_cons (pv 0) pa_nil))) pe_int)) (po_some (pv 3)) (po_some (pe_op op_add (pv 3) (pv 2))))))), ?_⟩
    have hm : (0 : Int).fmod (u.length : Int) = ((0 : Nat) : Int) := by simp
    refine ⟨_, rfl, _, rfl, S u, rfl, len_line (by omega), (0 : Int), u.length, rfl, congrArg (fun n : Nat => V.int n) (S_len u), by omega, ?_⟩
    have hdm := Nat.div_add_mod n u.length
    have hml := Nat.mod_lt n n0
    have dl : n / u.length ≤ n := Nat.div_le_self _ _
    refine ⟨_, rfl, _, rfl, _, rfl, ((0 : Nat) : Int), n, congrArg V.int hm, rfl, _, rfl, S u, rfl, len_line (by omega), n, u.length, congrArg V.int (by omega), congrArg (fun n : Nat => V.int n) (S_len u), by omega, by omega, _, _, rfl, rfl, u, n / u.length + 1, rfl, congrArg V.int (by omega), by omega, by omega, ?_, ?_⟩
    · rw [Nat.add_mul, Nat.one_mul, Nat.mul_comm]
      omega
    · have l : (List.replicate (n / u.length + 1) u).flatten.length = u.length * (n / u.length + 1) := WM.pw_len u _
      have hle : n ≤ u.length * (n / u.length + 1) := by rw [Nat.mul_succ]; omega
      refine ⟨_, rfl, ((0 : Nat) : Int), congrArg V.int hm, _, rfl, _, rfl, ((0 : Nat) : Int), n, congrArg V.int hm, rfl, ((0 + n : Nat) : Int), congrArg V.int (by omega), S _, rfl, ?_, ?_⟩
      · rw [S_len, l, Nat.mul_succ, sizeLine_eq]
        omega
      · rw [slice_mid (by omega) (by rw [l]; omega), show 0 + n - 0 = n by omega, List.drop_zero]
        exact q
def sp_follows : Sp := fun vs H Q _ => ∃ (u x : List Nat), vs = [.str (S u), .str (S x)] ∧ u ≠ [] ∧ u.length ≤ 100000 ∧ x.length ≤ 100000 ∧ Q (.int (WM.lcp (preE u x.length) x : Nat)) H
theorem c_follows (T : Txt K mg C) : C8.Cal P w K mg base 2 "follows" sp_follows [] := by
  refine calF T.d_follows sc_follows (fun vs H Q E h => ?_) (fun f cdv A outer s H vs Q E hr h => ?_)
  · obtain ⟨_, _, rfl, _⟩ := h; rfl
  · obtain ⟨u, x, rfl, ne, hu, hx, q⟩ := h
    refine ⟨_, (pss_one (ps_ret (C8.pe_c (c_alike_ahead T) hr (by decide) (by rfl) (pa_cons (C8.pe_c (c_stretch0 T) hr (by decide) (by rfl) (pa_cons (pv 0) (pa_cons pe_int (pa_cons (pe_callB call_len_str (by rfl) T.m_len (by decide +kernel) (pa_cons (pv 1) pa_nil)) pa_nil)))) (pa_cons (pv 1) pa_nil))))), ?_⟩
    refine ⟨_, rfl, _, rfl, S x, rfl, len_line (by omega), u, x.length, by show [V.str (S u), V.int 0, V.int ((S x).length : Nat)] = _; rw [S_len], ne, hu, hx, ?_⟩
    exact ⟨_, rfl, preE u x.length, x, rfl, by rw [preE_len ne]; omega, by omega, q⟩
/-- follows less than the whole: no beginning -/
theorem lcp_pre {u x : List Nat} (h : u ≠ []) : WM.lcp (preE u x.length) x < x.length ↔ ¬ x = preE u x.length := by
  have l := preE_len h x.length
  constructor
  · intro a e
    have := WM.le_lcp (preE u x.length) x x.length (by omega) (Nat.le_refl _) (by rw [← e])
    omega
  · intro ne
    refine Classical.byContradiction fun a => ne ?_
    have := WM.lcp_take (preE u x.length) x x.length (by omega)
    rw [List.take_of_length_le (by omega), List.take_of_length_le (Nat.le_refl _)] at this
    exact this.symm
def sp_plain_form : Sp := fun vs H Q _ => ∃ (m k : Nat), vs = [.int k, .int m] ∧ m ≤ 3 ∧ ∀ p H', Same H H' → FT H' p (k :: List.replicate m 0) → Q (.ref p) H'
theorem c_plain_form (T : Txt K mg C) : C8.Cal P w K mg base 1 "plain_form" sp_plain_form [] := by
  refine calF T.d_plain_form sc_plain_form (fun vs H Q E h => ?_) (fun f cdv A outer s H vs Q E hr h => ?_)
  · obtain ⟨_, _, rfl, _⟩ := h; rfl
  · obtain ⟨m, k, rfl, hm, q⟩ := h
    refine ⟨_, (pss_one (ps_ret (pe_op op_catS (pe_tup (pa_cons (pv 0) pa_nil)) (pe_op op_repOne (pe_tup (pa_cons pe_int pa_nil)) (pv 1))))), ?_⟩
    refine ⟨_, rfl, by show 1 ≤ sizeLine; decide, fun t1 n1 => ⟨by decide, fun t2 n2 => ⟨_, rfl, t2, _, _, rfl, rfl, upd_same, by omega, by omega, fun p H' s hp => ?_⟩⟩⟩
    have e1 : H' t1 = some (.tup [.int k]) := s _ _ (by rw [upd_ne (ne_of_none upd_same n2)]; exact upd_same)
    refine ⟨t1, p, _, _, rfl, rfl, e1, hp, by simp; omega, fun p2 H2 s2 h2 => q p2 H2 (((sameNew n1).trans (sameNew n2)).trans (s.trans s2)) ?_⟩
    unfold FT
    rw [h2]
    simp
end
end K67

set_option Elab.async false
set_option linter.all false
set_option maxRecDepth 100000
set_option maxHeartbeats 4000000
namespace K67
open PySem PySem.Spec PyProof.Rows L2 CK SX NM
/-! what a piece adds -/
def fx (p : Pn) : Bool := decide (p.2 = one1 (p.2.length - 1))
def e0 (p : Pn) : Nat := p.1.length
def e1 (p : Pn) : Nat := if fx p then 0 else 1
def e2 (p : Pn) : Nat := if fx p then 0 else (p.2.tail.filter fun n => decide (n ≠ 0)).length
def e3 (p : Pn) : Nat := if fx p then 0 else if p.2.headD 0 = 0 then 0 else 1
def sm (e : Pn → Nat) (ps : List Pn) : Nat := (ps.map e).sum
def vecP (p : Pn) : List Nat := [e0 p, e1 p, e2 p, e3 p]
def vecs (ps : List Pn) : List Nat := [sm e0 ps, sm e1 ps, sm e2 ps, sm e3 ps]
theorem sm_app (e : Pn → Nat) (a b : List Pn) : sm e (a ++ b) = sm e a + sm e b := by unfold sm; rw [List.map_append, List.sum_append]
theorem sm_take {e : Pn → Nat} {ps : List Pn} {i : Nat} {p : Pn} (h : ps[i]? = some p) : sm e (ps.take (i + 1)) = sm e (ps.take i) + e p := by
  rw [List.take_succ, h, sm_app]
  show _ + ([p].map e).sum = _
  simp
theorem range_getD (l : List Nat) : (List.range l.length).map (fun j => l.getD j 0) = l := by
  have := range_map_get l id (fun j => l.getD j 0) fun i x h => by rw [List.getD_eq_getElem?_getD, h]; rfl
  rw [this, List.map_id]
theorem filt_len (l : List Nat) : (((List.range l.length).filter fun j => decide (l.getD j 0 ≠ 0))).length = (l.filter fun n => decide (n ≠ 0)).length := by
  have e := congrArg (fun z : List Nat => (z.filter fun n => decide (n ≠ 0)).length) (range_getD l)
  rw [List.filter_map, List.length_map] at e
  exact e
theorem bne_nat {n : Nat} (z : ¬ n = 0) : (((n : Nat) : Int) != 0) = true := by simp [z]
theorem shaped_dP {p : Pn} (h : Low p.1) : SeqAt.shaped (dP p) = true := by
  unfold SeqAt.shaped
  rw [lay_dP h, deep_dP]
  rfl
theorem tnext_eq (D : Ends) (σ : L2.St) (H : Hp) : tNext D σ H = D.nx σ H := rfl
theorem gname_eq (i : Nat) (v : V) (σ : L2.St) (H : Hp) (Q : L2.St → Hp → Prop) : gName i v σ H Q = Q (σ.set i (some v)) H := rfl
end K67

set_option Elab.async false
set_option linter.all false
set_option maxRecDepth 100000
set_option maxHeartbeats 4000000
namespace K67
open PySem PySem.Spec PyProof.Rows L2 CK SX NM
/-- draws that take c steps each -/
theorem lcC_draw {lo : Int} {g : Addr} {n cnt j : Nat} (c : Nat) (Pz : V → Prop) {te : TE} {vs : List Nat} {σ : L2.St} {H1 : Hp} {D : Addr} {Qd : Hp → Prop} (hc : cnt < sizeLine) (hD : H1 D = none) (hg : Gn (n + c * cnt) H1 g)
    (hs : ∀ (i : Nat) (H : Hp) (R : VK), i < cnt → SameX g H1 H → Gn (n + c * (cnt - (i + 1)) + c) H g → (∀ (r : V) H', SameX g H H' → Gn (n + c * (cnt - (i + 1))) H' g → Pz r → R r H') →
      wipe ((wipe σ vs).set j (some (.int (lo + i)))) vs = wipe σ vs ∧ te ((wipe σ vs).set j (some (.int (lo + i)))) H R)
    (hd : ∀ (H : Hp) (ns : List V), SameX g H1 H → Gn n H g → H D = some (.lst ns) → ns.length = cnt → (∀ x ∈ ns, Pz x) → Qd H) :
    ∃ W : Nat → Nat → Hp → Prop, (∃ m, W 0 m (L2.upd H1 D (.lst []))) ∧ ∀ i m H, W i m H →
      ((Itr lo cnt).stop i H ∧ Qd H) ∨ ((Itr lo cnt).go i H ∧ ∃ Nx : Hp → Prop, (∀ H', Nx H' → ∃ m', m' < m ∧ W (i + 1) m' H') ∧ ∀ x H', (Itr lo cnt).yld i H x H' → gName j x (wipe σ vs) H' fun σ2 H2 => wipe σ2 vs = wipe σ vs ∧ tYes σ2 H2 fun b H3 =>
        if b = true then te σ2 H3 fun y H4 => ∃ acc, H4 D = some (.lst acc) ∧ acc.length < sizeLine ∧ Nx (L2.upd H4 D (.lst (acc ++ [y]))) else Nx H3) := by
  have hDg := hg.ne hD
  refine lc_range (fun i H => SameX g H1 H ∧ Gn (n + c * (cnt - i)) H g ∧ i ≤ cnt ∧ ∃ ns : List V, H D = some (.lst ns) ∧ ns.length = i ∧ ∀ x ∈ ns, Pz x)
    ⟨sameX_new hD, hg.upd hDg, Nat.zero_le _, [], upd_same, rfl, fun x h => absurd h List.not_mem_nil⟩ (fun i H hi p => ?_) fun H p => ?_
  · obtain ⟨s, G, _, ns, hL, hl, hb⟩ := p
    have G1 : Gn (n + c * (cnt - (i + 1)) + c) H g := by
      have e : n + c * (cnt - (i + 1)) + c = n + c * (cnt - i) := by
        have hi' : i < cnt := hi
        rw [show cnt - i = (cnt - (i + 1)) + 1 by omega, Nat.mul_succ]
        omega
      rw [e]
      exact G
    refine hs i H _ hi s G1 fun r H' s' G' h0 => ⟨_, s' D _ hDg hL, by omega, (s.trans s').upd2 hD, G'.upd hDg, hi, ns ++ [r], upd_same, ?_, fun x hx => ?_⟩
    · rw [List.length_append, hl]
      rfl
    · rcases List.mem_append.mp hx with z | z
      · exact hb x z
      · rw [List.mem_singleton.mp z]
        exact h0
  · obtain ⟨s, G, _, ns, hL, hl, hb⟩ := p
    rw [Nat.sub_self, Nat.mul_zero] at G
    exact hd H ns s G hL hl hb
theorem Nn_of {B : Nat} : ∀ {vs : List V}, (∀ v ∈ vs, ∃ c : Nat, v = V.int (c : Nat) ∧ c < B) → ∃ cs : List Nat, vs = (cs.map fun n : Nat => V.int (n : Nat)) ∧ (∀ c ∈ cs, c < B) ∧ cs.length = vs.length
  | [], _ => ⟨[], rfl, fun c h => absurd h List.not_mem_nil, rfl⟩
  | v :: vs, h => by
    obtain ⟨c, rfl, hc⟩ := h v List.mem_cons_self
    obtain ⟨cs, rfl, h2, h3⟩ := Nn_of fun x hx => h x (List.mem_cons_of_mem _ hx)
    refine ⟨c :: cs, rfl, fun x hx => ?_, by simp⟩
    rcases List.mem_cons.mp hx with rfl | hx
    · exact hc
    · exact h2 x hx
section
variable {P : Program} {w : World} {K : PySem.W.Frag} {mg : Str → Option Value} {base : Heap} {C : Addr}
def sp_number : Sp := fun vs H Q _ => ∃ (g : Addr) (B0 B n : Nat), vs = [.ref g, .int B0] ∧ Gn (n + 2) H g ∧ 1 ≤ B0 ∧ B0 ≤ B ∧ 4 ≤ B ∧ B < 2 ^ 190 ∧ ∀ (r : Int) H', SameX g H H' → Gn n H' g → 0 ≤ r → r < B → Q (.int r) H'
theorem c_law_number (T : Txt K mg C) : C8.Cal P w K mg base 3 "_law_number" sp_number [] := by
  refine calF T.d_law_number sc_law_number (fun vs H Q E h => ?_) (fun f cdv A outer s H vs Q E hr h => ?_)
  · obtain ⟨_, _, _, _, rfl, _⟩ := h; rfl
  · obtain ⟨g, B0, B, n, rfl, G, b01, b0B, b4, bb, q⟩ := h
    refine ⟨_, (pss_cons (ps_set (i := 2) sc_law_number.nd rfl (Or.inl rfl) (C8.pe_c (c_law_random T) hr (by decide) (by rfl) (pa_cons (pv 0) (pa_cons pe_int pa_nil))))
    (pss_one (ps_ret (pe_ifExp (pt_cmpR op_eq (pv 2) pe_int (nomark _)) (C8.pe_c (c_law_random T) hr (by decide) (by rfl) (pa_cons (pv 0) (pa_cons (pv 1) pa_nil))) (pe_ix ix_list (pe_lst (pa_cons pe_int (pa_cons pe_int (pa_cons pe_int (pa_cons pe_int (pa_cons pe_int (pa_cons pe_int pa_nil))))))) (pv 2) (fun _ _ => rfl)))))), ?_⟩
    refine ⟨_, rfl, g, 7, n + 1, rfl, G, by decide, by decide, fun way H1 s1 G1 w0 w1 => ?_⟩
    refine ⟨_, rfl, rfl, _, rfl, ite2 (fun e => ?_) (fun e => ?_)⟩
    · exact ⟨_, rfl, _, rfl, g, B0, n, rfl, G1, by omega, by omega, fun r H2 s2 G2 r0 r1 => q r H2 (s1.trans s2) G2 r0 (by omega)⟩
    · have w6 : way ≠ 6 := fun z => e (decide_eq_true (by rw [z]))
      obtain ⟨k, rfl⟩ : ∃ k : Nat, way = k := ⟨way.toNat, by omega⟩
      refine ⟨by show 6 ≤ sizeLine; decide, fun D nD => ?_⟩
      have hk : k < ([0, 0, 1, 1, 2, 3] : List Nat).length := by show k < 6; omega
      have hz := List.getElem?_eq_getElem hk
      have hv : ∀ x ∈ ([0, 0, 1, 1, 2, 3] : List Nat), x < 4 := by decide
      have hx := hv _ (List.getElem_mem hk)
      generalize ([0, 0, 1, 1, 2, 3] : List Nat)[k] = x at hz hx
      have at1 : ([V.int 0, V.int 0, V.int 1, V.int 1, V.int 2, V.int 3] : List V)[k]? = some (.int (x : Nat)) := by
        have := congrArg (Option.map fun n : Nat => V.int (n : Nat)) hz
        rw [← List.getElem?_map] at this
        exact this
      refine ⟨_, rfl, D, _, (k : Int), .int (x : Nat), rfl, rfl, .inl (.inl upd_same), atI_nat at1, ?_⟩
      exact q x _ (s1.trans (.of (sameNew nD))) ((G1.same (sameNew nD)).le (by omega)) (by omega) (by omega)
/-- a drawn form: its own number up to most, those at the unknowns below B -/
def sp_form : Sp := fun vs H Q _ => ∃ (g : Addr) (m most B0 B n : Nat), vs = [.ref g, .int m, .int most, .int B0] ∧ Gn (n + 10) H g ∧ m ≤ 3 ∧ most ≤ 3 ∧ 1 ≤ B0 ∧ B0 ≤ B ∧ 4 ≤ B ∧ B < 2 ^ 190 ∧
  ∀ p f H', SameX g H H' → Gn n H' g → FT H' p f → f.length = m + 1 → f.headD 0 ≤ most → (∀ x ∈ f, x < B) → Q (.ref p) H'
theorem c_law_form (T : Txt K mg C) : C8.Cal P w K mg base 4 "_law_form" sp_form [] := by
  refine calF T.d_law_form sc_law_form (fun vs H Q E h => ?_) (fun f cdv A outer s H vs Q E hr h => ?_)
  · obtain ⟨_, _, _, _, _, _, rfl, _⟩ := h; rfl
  · obtain ⟨g, m, most, B0, B, n, rfl, G, hm, h1, b01, b0B, b4, bb, q⟩ := h
    refine ⟨_, (pss_one (ps_ret (pe_op op_catS (pe_tup (pa_cons (C8.pe_c (c_law_random T) hr (by decide) (by rfl) (pa_cons (pv 0) (pa_cons (pe_op op_add (pv 2) pe_int) pa_nil))) pa_nil)) (pe_callTy call_tupL (by rfl) T.m_tuple (by decide +kernel) (pa_cons (pe_lc (own := [("_law_turn", 4)]) (by rfl) sc_law_form.nd (pi_range1 (by rfl) T.m_range (pa_cons (pv 1) pa_nil)) (blkOk_by (N := ["_law_generator_here", "_law_many", "_law_most", "_law_great", "_law_turn"]) (sc := C8.fnScope (topS 59)) (own := [("_law_turn", 4)]) (by decide +kernel)) (fun _ _ _ _ _ => (pg_name (i := 4) sc_law_form.nd rfl (Or.inl rfl))) (fun _ _ _ _ _ => pts_nil) (fun _ _ _ _ _ => (C8.pe_c (c_law_number T) hr (by decide) (by rfl) (pa_cons (pv 0) (pa_cons (pv 3) pa_nil))))) pa_nil))))), ?_⟩
    refine ⟨_, rfl, _, rfl, _, _, rfl, rfl, g, _, n + 9, rfl, G, by omega, by omega, fun r H1 s1 G1 r0 r1 => ⟨by show 1 ≤ sizeLine; decide, fun t nt => ?_⟩⟩
    obtain ⟨rk, rfl⟩ : ∃ k : Nat, r = k := ⟨r.toNat, by omega⟩
    have st := sameNew (o := .tup [.int (rk : Nat)]) nt
    have ht : upd H1 t (.tup [.int (rk : Nat)]) t = some (.tup [.int (rk : Nat)]) := upd_same
    have G2 := G1.same st
    generalize upd H1 t (.tup [.int (rk : Nat)]) = H2 at st ht G2
    have tg : t ≠ g := G1.ne nt
    refine ⟨_, rfl, (m : Int), rfl, by omega, by omega, fun D hD => ?_⟩
    have Gc : Gn (n + 2 * m) H2 g := G2.le (by omega)
    refine lcC_draw 2 (lo := 0) (g := g) (n := n) (cnt := m) (fun v => ∃ c : Nat, v = V.int (c : Nat) ∧ c < B) (small5 (by omega)) hD Gc (fun i H3 R hi s3 G3 q' => ?_) fun H3 ns s3 G3 hL hl hP => ?_
    · refine ⟨rfl, _, rfl, _, rfl, g, B0, B, _, rfl, G3, b01, b0B, b4, bb, fun r' H4 s4 G4 r0' r1' => q' _ H4 s4 G4 ?_⟩
      exact ⟨r'.toNat, congrArg V.int (by omega), by omega⟩
    · obtain ⟨cs, rfl, hcs, lcs⟩ := Nn_of hP
      refine ⟨D, _, rfl, hL, fun T1 H4 s4 h4 => ?_⟩
      have ht4 := s4 _ _ (s3 _ _ tg ht)
      refine ⟨t, T1, _, _, rfl, rfl, ht4, h4, by rw [hl]; show 1 + m ≤ 1000; omega, fun p H5 s5 h5 => ?_⟩
      refine q p (rk :: cs) H5 ((s1.trans (.of st)).trans (s3.trans (.of (s4.trans s5)))) ((G3.same s4).same s5) (by unfold FT; rw [h5]; rfl) (by rw [List.length_cons, lcs, hl]) (by show rk ≤ most; omega) fun x hx => ?_
      rcases List.mem_cons.mp hx with rfl | hx
      · omega
      · exact hcs x hx
end
end K67

set_option Elab.async false
set_option linter.all false
set_option maxRecDepth 100000
set_option maxHeartbeats 4000000
namespace K67
open PySem PySem.Spec PyProof.Rows L2 CK SX NM
/-- a piece as drawn -/
structure DrP (m B : Nat) (p : Pn) : Prop where
  len : p.2.length = m + 1
  low : Low p.1
  few : p.1.length ≤ 12
  hd : p.2.headD 0 ≤ 3
  num : ∀ x ∈ p.2, x < B
theorem rep_B {k m B : Nat} (hk : k < B) : ∀ x ∈ k :: List.replicate m 0, x < B := fun x hx => by
  rcases List.mem_cons.mp hx with rfl | hx
  · exact hk
  · rw [(List.mem_replicate.mp hx).2]; omega
theorem FT.sameX {g a : Addr} {H H' : Hp} {f : F} {n : Nat} (h : FT H a f) (G : Gn n H g) (s : SameX g H H') : FT H' a f := s.tup G h
section
variable {P : Program} {w : World} {K : PySem.W.Frag} {mg : Str → Option Value} {base : Heap} {C : Addr}
def sp_piece : Sp := fun vs H Q _ => ∃ (g : Addr) (cs b : List Nat) (m B0 B n : Nat), vs = [.ref g, .int m, .str (S cs), .str (S b), .int B0] ∧ cs.length = 3 ∧ Low cs ∧ b ≠ [] ∧ b.length ≤ 3 ∧ Low b ∧ m ≤ 3 ∧ 1 ≤ B0 ∧ B0 ≤ B ∧ 4 ≤ B ∧ B < 2 ^ 190 ∧ Gn (n + 50) H g ∧
  ∀ a p H', SameX g H H' → Gn n H' g → PC H' a p → DrP m B p → Q (.ref a) H'
theorem c_law_piece (T : Txt K mg C) : C8.Cal P w K mg base 5 "_law_piece" sp_piece [] := by
  refine calF T.d_law_piece sc_law_piece (fun vs H Q E h => ?_) (fun f0 cdv A outer s H vs Q E hr h => ?_)
  · obtain ⟨_, _, _, _, _, _, _, rfl, _⟩ := h; rfl
  · obtain ⟨g, cs, b, m, B0, B, n, rfl, lcs, lowc, bne, lb, lowb, hm, b01, b0B, b4, bb, G, q⟩ := h
    have b0 := List.length_pos_iff.mpr bne
    refine ⟨_, (pss_cons (ps_par3 (i := 5) (j := 6) (l := 7) (by rfl) sc_law_piece.nd rfl rfl rfl (by decide) (by decide) (by decide) rfl rfl rfl (pa_cons (C8.pe_c (c_law_random T) hr (by decide) (by rfl) (pa_cons (pv 0) (pa_cons pe_int pa_nil))) (pa_cons (C8.pe_c (c_law_random T) hr (by decide) (by rfl) (pa_cons (pv 0) (pa_cons (pe_callB call_len_str (by rfl) T.m_len (by decide +kernel) (pa_cons (pv 3) pa_nil)) pa_nil))) (pa_cons (pe_op op_catS (pe_tup (pa_cons pe_int pa_nil)) (pe_op op_repOne (pe_tup (pa_cons pe_int pa_nil)) (pv 1))) pa_nil))) (by rfl))
    (pss_cons (ps_set (i := 8) sc_law_piece.nd rfl (Or.inl rfl) (pe_op op_add_str (pe_slice C8.sl_txt (pv 3) (po_some (pv 6)) po_none) (pe_slice C8.sl_txt (pv 3) po_none (po_some (pv 6)))))
    (pss_cons (ps_if (pt_cmpR op_lt (pv 5) pe_int (nomark _))
    (pss_one (ps_ret (pe_tup (pa_cons (pv 8) (pa_cons (C8.pe_c (c_law_form T) hr (by decide) (by rfl) (pa_cons (pv 0) (pa_cons (pv 1) (pa_cons pe_int (pa_cons (pv 4) pa_nil))))) pa_nil)))))
    pss_nil)
    (pss_cons (ps_if (pt_cmpR op_eq (pv 5) pe_int (nomark _))
    (pss_one (ps_ret (pe_tup (pa_cons (pe_op op_repS (pv 8) pe_int) (pa_cons (C8.pe_c (c_law_form T) hr (by decide) (by rfl) (pa_cons (pv 0) (pa_cons (pv 1) (pa_cons pe_int (pa_cons (pv 4) pa_nil))))) pa_nil)))))
    pss_nil)
    (pss_cons (ps_if (pt_cmpR op_eq (pv 5) pe_int (nomark _))
    (pss_one (ps_ret (pe_tup (pa_cons (pe_slice C8.sl_txt (pe_op op_repS (pv 8) pe_int) po_none (po_some (C8.pe_c (c_law_random T) hr (by decide) (by rfl) (pa_cons (pv 0) (pa_cons (pe_op op_add (pe_op op_mulW pe_int (pe_callB call_len_str (by rfl) T.m_len (by decide +kernel) (pa_cons (pv 3) pa_nil))) pe_int) pa_nil))))) (pa_cons (pv 7) pa_nil)))))
    pss_nil)
    (pss_cons (ps_if (pt_cmpR op_eq (pv 5) pe_int (nomark _))
    (pss_one (ps_ret (pe_tup (pa_cons (C8.pe_c (c_law_word T) hr (by decide) (by rfl) (pa_cons (pv 0) (pa_cons (pv 2) (pa_cons pe_int (pa_cons pe_int pa_nil))))) (pa_cons (pe_op op_catS (pe_tup (pa_cons (C8.pe_c (c_law_random T) hr (by decide) (by rfl) (pa_cons (pv 0) (pa_cons pe_int pa_nil))) pa_nil)) (pe_op op_repOne (pe_tup (pa_cons pe_int pa_nil)) (pv 1))) pa_nil)))))
    pss_nil)
    (pss_cons (ps_if (pt_cmpR op_eq (pv 5) pe_int (nomark _))
    (pss_one (ps_ret (pe_tup (pa_cons (C8.pe_c (c_law_word T) hr (by decide) (by rfl) (pa_cons (pv 0) (pa_cons (pv 2) (pa_cons pe_int (pa_cons pe_int pa_nil))))) (pa_cons (pv 7) pa_nil)))))
    pss_nil)
    (pss_one (ps_ret (pe_tup (pa_cons (C8.pe_c (c_law_word T) hr (by decide) (by rfl) (pa_cons (pv 0) (pa_cons (pv 2) (pa_cons pe_int (pa_cons pe_int pa_nil))))) (pa_cons (C8.pe_c (c_law_form T) hr (by decide) (by rfl) (pa_cons (pv 0) (pa_cons (pv 1) (pa_cons pe_int (pa_cons (pv 4) pa_nil))))) pa_nil)))))))))))), ?_⟩
    refine ⟨_, rfl, g, 8, n + 49, rfl, G, by decide, by decide, fun way H1 s1 G1 w0 w1 => ?_⟩
    refine ⟨_, rfl, _, rfl, S b, rfl, len_line (by omega), g, _, n + 48, rfl, G1, by rw [S_len]; omega, by rw [S_len]; omega, fun turn H2 s2 G2 t0 t1 => ?_⟩
    rw [S_len] at t1
    obtain ⟨k, rfl⟩ : ∃ k : Nat, turn = k := ⟨turn.toNat, by omega⟩
    refine ⟨by show 1 ≤ sizeLine; decide, fun a1 m1 => ⟨by decide, fun a2 m2 => ⟨_, rfl, a2, _, _, rfl, rfl, upd_same, by omega, by omega, fun a3 H3 s3 h3 => ?_⟩⟩⟩
    have e1 : H3 a1 = some (.tup [.int 1]) := s3 _ _ (by rw [upd_ne (ne_of_none upd_same m2)]; exact upd_same)
    refine ⟨a1, a3, _, _, rfl, rfl, e1, h3, by simp; omega, fun po H4 s4 h4 => ⟨_, _, _, rfl, ?_⟩⟩
    have hone : FT H4 po (1 :: List.replicate m 0) := by
      unfold FT
      rw [h4]
      simp
    have s04 : SameX g H H4 := s1.trans (s2.trans (.of ((((sameNew m1).trans (sameNew m2)).trans s3).trans s4)))
    have G4 := G2.same ((((sameNew (o := .tup [.int 1]) m1).trans (sameNew (o := .tup [.int 0]) m2)).trans s3).trans s4)
    have fin : ∀ {H' : Hp} {t fa : Addr} {z : List Nat} {f : F}, H' t = none → SameX g H4 H' → Gn n H' g → FT H' fa f → DrP m B (z, f) → Q (.ref t) (upd H' t (.tup [.str (S z), .ref fa])) := fun {H' t fa z f} ht sx G' hf d =>
      q t (z, f) _ (s04.trans (sx.trans (.of (sameNew ht)))) (G'.same (sameNew ht)) ⟨fa, upd_same, sameNew ht _ _ hf⟩ d
    -- the turned base
    refine ⟨_, rfl, _, rfl, _, rfl, S b, rfl, len_line (by omega), _, rfl, _, rfl, _, rfl, S b, rfl, len_line (by omega), ?_⟩
    rw [SX.slice_from (by omega), SX.slice_to (by omega), Int.toNat_natCast]
    refine ⟨_, _, rfl, rfl, by rw [S_len, S_len, List.length_drop, List.length_take, sizeLine_eq]; omega, ?_⟩
    rw [S_cat]
    have ltw : (b.drop k ++ b.take k).length = b.length := by rw [List.length_append, List.length_drop, List.length_take]; omega
    have lowt : Low (b.drop k ++ b.take k) := low_app (low_drop lowb _) (low_take lowb _)
    generalize b.drop k ++ b.take k = tw at ltw lowt
    have l2 : (List.replicate 2 tw).flatten.length = tw.length * 2 := WM.pw_len tw 2
    have l3 : (List.replicate 3 tw).flatten.length = tw.length * 3 := WM.pw_len tw 3
    have G5 : Gn (n + 40) H4 g := G4.le (by omega)
    have csne : cs ≠ [] := fun z => by rw [z] at lcs; cases lcs
    have form : ∀ {z : List Nat} {f : F} {a : Nat}, f.length = m + 1 → f.headD 0 ≤ a → (∀ x ∈ f, x < B) → Low z → z.length ≤ 9 → a ≤ 3 → DrP m B (z, f) := fun h1 h2 h3 h4 h5 h6 => ⟨h1, h4, Nat.le_trans h5 (by decide), Nat.le_trans h2 h6, h3⟩
    have rep : ∀ {z : List Nat} {x : Nat}, x < 4 → Low z → z.length ≤ 9 → z.length * x ≤ 12 → DrP m B (z, x :: List.replicate m 0) := fun h1 h4 h5 _ => ⟨by simp, h4, Nat.le_trans h5 (by decide), Nat.le_of_lt_succ h1, rep_B (by omega)⟩
    refine ⟨_, rfl, _, _, rfl, rfl, _, rfl, ite2 (fun e => ?_) (fun e => ?_)⟩
    · refine ⟨_, rfl, _, rfl, _, rfl, _, rfl, g, m, 2, B0, B, n, rfl, G5.le (by omega), hm, by decide, b01, b0B, b4, bb, fun p f H' s' G' hf lf h2 hb => ⟨by show 2 ≤ sizeLine; decide, fun t ht => fin ht s' G' hf (form lf h2 hb lowt (by omega) (by omega))⟩⟩
    rw [tnext_eq]
    refine ⟨_, rfl, rfl, _, rfl, ite2 (fun e => ?_) (fun e => ?_)⟩
    · refine ⟨_, rfl, tw, 2, rfl, rfl, by decide, by omega, ?_⟩
      refine ⟨_, rfl, _, rfl, _, rfl, g, m, 1, B0, B, n, rfl, G5.le (by omega), hm, by decide, b01, b0B, b4, bb, fun p f H' s' G' hf lf h2 hb => ⟨by show 2 ≤ sizeLine; decide, fun t ht => fin ht s' G' hf (form lf h2 hb (low_pw lowt 2) (by rw [l2]; omega) (by decide))⟩⟩
    rw [tnext_eq]
    refine ⟨_, rfl, rfl, _, rfl, ite2 (fun e => ?_) (fun e => ?_)⟩
    · refine ⟨_, rfl, tw, 3, rfl, rfl, by decide, by omega, ?_⟩
      refine ⟨_, rfl, _, rfl, S b, rfl, len_line (by omega), _, _, rfl, rfl, wide_mul (a := 10) (b := 10) (by decide) (by rw [S_len]; omega) (by decide) (by decide) (by decide), _, _, rfl, rfl, g, _, n + 30, rfl, G5.le (by omega), by rw [S_len]; omega, by rw [S_len]; omega, fun r H6 s6 G6 r0 r1 => ?_⟩
      rw [S_len] at r1
      obtain ⟨rn, rfl⟩ : ∃ rn : Nat, r = rn := ⟨r.toNat, by omega⟩
      refine ⟨_, rfl, S (List.replicate 3 tw).flatten, rfl, len_line (by omega), ?_⟩
      rw [SX.slice_to (by omega), Int.toNat_natCast]
      have lt : ((List.replicate 3 tw).flatten.take rn).length ≤ 6 := by rw [List.length_take]; omega
      refine ⟨_, rfl, by show 2 ≤ sizeLine; decide, fun t ht => ?_⟩
      exact fin ht s6 (G6.le (by omega)) (hone.sameX G4 s6) (rep (by decide) (low_take (low_pw lowt 3) _) (by omega) (by omega))
    rw [tnext_eq]
    refine ⟨_, rfl, rfl, _, rfl, ite2 (fun e => ?_) (fun e => ?_)⟩
    · refine ⟨_, rfl, _, rfl, g, cs, n + 20, 1, 2, rfl, csne, by omega, lowc, G5.le (by omega), by decide, by decide, fun w H6 s6 G6 _ w2 lw => ?_⟩
      refine ⟨_, rfl, g, 4, n + 19, rfl, G6.le (by omega), by decide, by decide, fun r H7 s7 G7 r0 r1 => ?_⟩
      obtain ⟨rn, rfl⟩ : ∃ rn : Nat, r = rn := ⟨r.toNat, by omega⟩
      refine ⟨by show 1 ≤ sizeLine; decide, fun c1 k1 => ⟨by decide, fun c2 k2 => ⟨_, rfl, c2, _, _, rfl, rfl, upd_same, by omega, by omega, fun c3 H8 s8 h8 => ?_⟩⟩⟩
      have e8 : H8 c1 = some (.tup [.int (rn : Nat)]) := s8 _ _ (by rw [upd_ne (ne_of_none upd_same k2)]; exact upd_same)
      refine ⟨c1, c3, _, _, rfl, rfl, e8, h8, by simp; omega, fun pq H9 s9 h9 => ⟨by show 2 ≤ sizeLine; decide, fun t ht => ?_⟩⟩
      have s79 := (((sameNew (o := .tup [.int (rn : Nat)]) k1).trans (sameNew (o := .tup [.int 0]) k2)).trans s8).trans s9
      refine fin ht (s6.trans (s7.trans (.of s79))) ((G7.same s79).le (by omega)) (f := rn :: List.replicate m 0) (by unfold FT; rw [h9]; simp) (rep (by omega) lw (by omega) ?_)
      have : w.length * rn ≤ 2 * 3 := Nat.mul_le_mul (by omega) (by omega)
      omega
    rw [tnext_eq]
    refine ⟨_, rfl, rfl, _, rfl, ite2 (fun e => ?_) (fun e => ?_)⟩
    · refine ⟨_, rfl, _, rfl, g, cs, n + 20, 0, 3, rfl, csne, by omega, lowc, G5.le (by omega), by decide, by decide, fun w H6 s6 G6 _ w3 lw => ?_⟩
      refine ⟨_, rfl, by show 2 ≤ sizeLine; decide, fun t ht => ?_⟩
      exact fin ht s6 (G6.le (by omega)) (hone.sameX G4 s6) (rep (by decide) lw (by omega) (by omega))
    rw [tnext_eq]
    refine ⟨_, rfl, _, rfl, g, cs, n + 20, 0, 2, rfl, csne, by omega, lowc, G5.le (by omega), by decide, by decide, fun w H6 s6 G6 _ w2 lw => ?_⟩
    exact ⟨_, rfl, _, rfl, _, rfl, g, m, 1, B0, B, n, rfl, G6.le (by omega), hm, by decide, b01, b0B, b4, bb, fun p f H' s' G' hf lf h2 hb => ⟨by show 2 ≤ sizeLine; decide, fun t ht => fin ht (s6.trans s') G' hf (form lf h2 hb lw (by omega) (by omega))⟩⟩
end
end K67

set_option Elab.async false
set_option linter.all false
set_option maxRecDepth 100000
set_option maxHeartbeats 4000000
namespace K67
open PySem PySem.Spec PyProof.Rows L2 CK SX NM
/-- a new list of pieces that grows while the generator runs -/
structure Grow (g : Addr) (H : Hp) (L : Addr) (H' : Hp) (ps : List Pn) : Prop where
  sx : SameX g H H'
  pl : PL H' L ps
  ne : L ≠ g
  new : H L = none
theorem Grow.go {g L : Addr} {H H' H2 : Hp} {ps : List Pn} {n : Nat} (h : Grow g H L H' ps) (G : Gn n H' g) (s : SameX g H' H2) : Grow g H L H2 ps := by
  obtain ⟨s1, ⟨vs, hl, hp⟩, lg, h0⟩ := h
  exact ⟨s1.trans s, ⟨vs, s _ _ lg hl, hp.mono fun a xs e => s.tup G e⟩, lg, h0⟩
/-- as they are drawn -/
def Dr (m B : Nat) (ps : List Pn) : Prop := ∀ p ∈ ps, DrP m B p
theorem shaped_dF (f : F) : SeqAt.shaped (dF f) = true := by
  unfold SeqAt.shaped dF
  rw [PyData.canLay0, lay_nats, PyData.depth, deep_nats]
  decide
theorem eqv_dF (f g : F) : PyData.eqv (dF f) (dF g) = decide (f = g) := by
  unfold dF
  simp only [PyData.eqv, eqvAll_nats]
theorem noneX {g L : Addr} {H H' : Hp} {n : Nat} (s : SameX g H H') (G : Gn n H' g) (h : H' L = none) : H L = none := by
  cases e : H L with
  | none => rfl
  | some o =>
    rw [s _ _ (G.ne h) e] at h
    cases h
theorem e29 : (10 : Int) ^ Int.toNat 29 = ((10 ^ 29 : Nat) : Int) := by decide +kernel
section
variable {P : Program} {w : World} {K : PySem.W.Frag} {mg : Str → Option Value} {base : Heap} {C : Addr}
def sp_law_raw : Sp := fun vs H Q _ => ∃ (g : Addr) (cs : List Nat) (m most B0 B n : Nat), vs = [.ref g, .int m, .str (S cs), .int most, .int B0] ∧ cs.length = 3 ∧ Low cs ∧ m ≤ 3 ∧ 1 ≤ B0 ∧ B0 ≤ B ∧ 4 ≤ B ∧ B < 2 ^ 190 ∧ most ≤ 6 ∧ Gn (n + 1000) H g ∧
  ∀ L ps H', Grow g H L H' ps → Gn n H' g → ps.length ≤ most → Dr m B ps → Q (.ref L) H'
theorem c_law_raw (T : Txt K mg C) : C8.Cal P w K mg base 6 "_law_raw" sp_law_raw [] := by
  refine calF T.d_law_raw sc_law_raw (fun vs H Q E h => ?_) (fun f0 cdv A outer s H vs Q E hr h => ?_)
  · obtain ⟨_, _, _, _, _, _, _, rfl, _⟩ := h; rfl
  · obtain ⟨g, cs, m, most, B0, B, n, rfl, lcs, lowc, hm, b01, b0B, b4, bb, hmost, G, q⟩ := h
    have csne : cs ≠ [] := fun z => by rw [z] at lcs; cases lcs
    refine ⟨_, (pss_cons (ps_par (i := 5) (j := 6) (by rfl) sc_law_raw.nd rfl rfl (by decide) rfl rfl (pa_cons (C8.pe_c (c_law_word T) hr (by decide) (by rfl) (pa_cons (pv 0) (pa_cons (pe_slice C8.sl_txt (pv 2) po_none (po_some pe_int)) (pa_cons pe_int (pa_cons pe_int pa_nil))))) (pa_cons (pe_lst pa_nil) pa_nil)) (by rfl))
    (pss_cons (ps_for PassesOwn.never rfl (pi_range1 (by rfl) T.m_range (pa_cons (C8.pe_c (c_law_random T) hr (by decide) (by rfl) (pa_cons (pv 0) (pa_cons (pe_op op_add (pv 3) pe_int) pa_nil))) pa_nil)) (pg_name (i := 7) sc_law_raw.nd rfl (Or.inl rfl))
    (pss_cons (ps_expr (pe_bm PySem.F.plainAttrs_list PySem.F.slot_list_append PySem.F.type_list_append mt_append (pv 6) (pa_cons (C8.pe_c (c_law_piece T) hr (by decide) (by rfl) (pa_cons (pv 0) (pa_cons (pv 1) (pa_cons (pv 2) (pa_cons (pv 5) (pa_cons (pv 4) pa_nil)))))) pa_nil)))
    (pss_one (ps_if (pt_cmpR op_eq (C8.pe_c (c_law_random T) hr (by decide) (by rfl) (pa_cons (pv 0) (pa_cons pe_int pa_nil))) pe_int (nomark _))
    (pss_one (ps_set (i := 5) sc_law_raw.nd rfl (Or.inl rfl) (C8.pe_c (c_law_word T) hr (by decide) (by rfl) (pa_cons (pv 0) (pa_cons (pe_slice C8.sl_txt (pv 2) po_none (po_some pe_int)) (pa_cons pe_int (pa_cons pe_int pa_nil)))))))
    pss_nil))))
    (pss_one (ps_ret (pv 6))))), ?_⟩
    have c2ne : cs.take 2 ≠ [] := fun z => by
      have := congrArg List.length z
      rw [List.length_take, List.length_nil] at this
      omega
    have bne' : ∀ {b : List Nat}, 1 ≤ b.length → b ≠ [] := fun {b} h z => by
      rw [z] at h
      simp at h
    refine ⟨_, rfl, _, rfl, _, rfl, S cs, rfl, len_line (by omega), ?_⟩
    rw [SX.slice_to (by decide), show Int.toNat 2 = 2 from rfl]
    refine ⟨g, cs.take 2, n + 990, 1, 3, rfl, c2ne, by rw [List.length_take]; omega, low_take lowc _, G, by decide, by decide, fun b H1 s1 G1 b1 b3 lowb => ⟨by show 0 ≤ sizeLine; omega, fun L hL => ⟨_, _, rfl, ?_⟩⟩⟩
    have s0 := sameNew (o := .lst []) hL
    have Lg := G1.ne hL
    have G0 := G1.same s0
    have hL0 : upd H1 L (.lst []) L = some (.lst []) := upd_same
    have hLH : H L = none := by
      cases e : H L with
      | none => rfl
      | some o =>
        by_cases z : L = g
        · exact absurd z Lg
        · rw [s1 _ _ z e] at hL; cases hL
    have sx : SameX g H (upd H1 L (.lst [])) := s1.trans (.of s0)
    generalize upd H1 L (.lst []) = H2 at s0 G0 hL0 sx
    refine ⟨_, rfl, _, rfl, _, _, rfl, rfl, g, _, n + 980, rfl, G0.le (by omega), by omega, by omega, fun r H3 s3 G3 r0 r1 => ⟨r, rfl, by omega, by omega, ?_⟩⟩
    obtain ⟨cnt, rfl⟩ : ∃ k : Nat, r = k := ⟨r.toNat, by omega⟩
    refine for_it walk_range (fun i σ H' => i ≤ cnt ∧ ∃ (b : List Nat) (y7 : Option V) (ps : List Pn), σ = [some (.ref g), some (.int m), some (.str (S cs)), some (.int most), some (.int B0), some (.str (S b)), some (.ref L), y7] ∧ Grow g H L H' ps ∧ Gn (n + 100 * (7 - i)) H' g ∧ ps.length ≤ i ∧ Dr m B ps ∧ b ≠ [] ∧ b.length ≤ 3 ∧ Low b)
      ⟨Nat.zero_le _, b, none, [], rfl, ⟨sx.trans s3, ⟨[], s3 _ _ Lg hL0, .nil⟩, Lg, hLH⟩, G3.le (by omega), Nat.zero_le _, fun p hp => absurd hp List.not_mem_nil, bne' b1, b3, lowb⟩ (fun _ _ _ _ _ => True.intro) (fun i x σ H' H'' hi pI yy => ?_) fun σ H' pI => ?_
    · obtain ⟨_, b, y7, ps, rfl, gr, G4, lps, dr, bne, b3, lowb⟩ := pI
      obtain ⟨rfl, rfl⟩ := yy
      have ic : i < cnt := by
        have : i < ((cnt : Int)).toNat := hi
        omega
      have i7 : i < 7 := by omega
      have eG : n + 100 * (7 - i) = n + 100 * (7 - (i + 1)) + 100 := by omega
      rw [eG] at G4
      obtain ⟨vs, hvs, _⟩ := id gr.pl
      refine ⟨_, rfl, .inl ⟨rfl, _, .inl (.inl hvs)⟩, _, rfl, _, rfl, _, rfl, _, rfl, _, rfl, g, cs, b, m, B0, B, n + 100 * (7 - (i + 1)) + 50, rfl, lcs, lowc, bne, b3, lowb, hm, b01, b0B, b4, bb, G4.le (by omega), fun a p H5 s5 G5 pc dp => ?_⟩
      have gr4 := gr.go G4 s5
      obtain ⟨us, hus, pus⟩ := id gr4.pl
      have lu := pus.len
      refine ⟨L, _, _, rfl, rfl, hus, by rw [sizeLine_eq]; omega, ?_⟩
      have gr5 : Grow g H L (upd H5 L (.lst (us ++ [.ref a]))) (ps ++ [p]) := by
        refine ⟨fun c o hc hO => ?_, ⟨_, upd_same, (pus.upd hus).app (.one (pc.mono (tup_upd hus)))⟩, gr4.ne, gr4.new⟩
        have hcL : c ≠ L := fun z => by rw [z, gr4.new] at hO; cases hO
        rw [upd_ne hcL]
        exact gr4.sx c o hc hO
      have G6 := G5.upd (o := .lst (us ++ [.ref a])) gr4.ne
      have dr5 : Dr m B (ps ++ [p]) := fun x hx => by
        rcases List.mem_append.mp hx with z | z
        · exact dr x z
        · rw [List.mem_singleton.mp z]
          exact dp
      have l5 : (ps ++ [p]).length ≤ i + 1 := by rw [List.length_append, List.length_singleton]; omega
      refine ⟨_, rfl, g, 6, n + 100 * (7 - (i + 1)) + 49, rfl, G6, by decide, by decide, fun r H7 s7 G7 r0 r1 => ?_⟩
      have gr6 := gr5.go G6 s7
      refine ⟨rfl, _, rfl, ite2 (fun e => ?_) (fun e => ?_)⟩
      · refine ⟨_, rfl, _, rfl, _, rfl, S cs, rfl, len_line (by omega), ?_⟩
        rw [SX.slice_to (by decide), show Int.toNat 2 = 2 from rfl]
        refine ⟨g, cs.take 2, n + 100 * (7 - (i + 1)) + 39, 1, 3, rfl, c2ne, by rw [List.length_take]; omega, low_take lowc _, G7, by decide, by decide, fun b' H8 s8 G8 b1' b3' lowb' => ?_⟩
        exact ⟨ic, b', _, _, rfl, gr6.go G7 s8, G8.le (by omega), l5, dr5, bne' b1', b3', lowb'⟩
      · exact ⟨ic, b, _, _, rfl, gr6, G7.le (by omega), l5, dr5, bne, b3, lowb⟩
    · obtain ⟨_, b, y7, ps, rfl, gr, G4, lps, dr, _⟩ := pI
      refine ⟨_, rfl, q L ps H' gr (G4.le (by omega)) ?_ dr⟩
      have : ((cnt : Int)).toNat = cnt := Int.toNat_natCast cnt
      omega
def sp_lvector : Sp := fun vs H Q _ => ∃ (l : Addr) (ps : List Pn) (m : Nat), vs = [.ref l] ∧ PL H l ps ∧ LenF m ps ∧ m ≤ 3 ∧ LowP ps ∧ Ws 2000 ps ∧ ps.length ≤ 5000 ∧ ∀ r H', Same H H' → FT H' r (vecs ps) → Q (.ref r) H'
theorem c_law_vector (T : Txt K mg C) : C8.Cal P w K mg base 1 "_law_vector" sp_lvector [] := by
  refine calF T.d_law_vector sc_law_vector (fun vs H Q E h => ?_) (fun f0 cdv A outer s0 H vs Q E hr h => ?_)
  · obtain ⟨_, _, _, rfl, _⟩ := h; rfl
  · obtain ⟨l, ps, m, rfl, ⟨us, hus, pus⟩, lF, m3, low, ws, len, q⟩ := h
    refine ⟨_, (pss_cons (ps_asg (pe_tup (pa_cons pe_int (pa_cons pe_int (pa_cons pe_int (pa_cons pe_int pa_nil))))) (pg_tup rfl (pgs_cons (pg_name (i := 1) sc_law_vector.nd rfl (Or.inl rfl)) (pgs_cons (pg_name (i := 2) sc_law_vector.nd rfl (Or.inl rfl)) (pgs_cons (pg_name (i := 3) sc_law_vector.nd rfl (Or.inl rfl)) (pgs_cons (pg_name (i := 4) sc_law_vector.nd rfl (Or.inl rfl)) pgs_nil))))))
    (pss_cons (ps_for PassesOwn.never rfl (pi_list (pv 0)) (pg_two (K := K) (i := 5) (j := 6) rfl rfl sc_law_vector.nd rfl rfl (Or.inl rfl) (Or.inl rfl))
    (pss_cons (ps_set (i := 1) sc_law_vector.nd rfl (Or.inl rfl) (pe_op op_add (pv 1) (pe_callB call_len_str (by rfl) T.m_len (by decide +kernel) (pa_cons (pv 5) pa_nil))))
    (pss_one (ps_if (pt_cmpR (op_neD hr.units) (pv 6) (pe_op op_catS (pe_tup (pa_cons pe_int pa_nil)) (pe_op op_repOne (pe_tup (pa_cons pe_int pa_nil)) (pe_op op_sub (pe_callB call_len_seq (by rfl) T.m_len (by decide +kernel) (pa_cons (pv 6) pa_nil)) pe_int))) (nomark _))
    (pss_cons (ps_set (i := 2) sc_law_vector.nd rfl (Or.inl rfl) (pe_op op_add (pv 2) pe_int))
    (pss_cons (ps_set (i := 3) sc_law_vector.nd rfl (Or.inl rfl) (pe_op op_add (pv 3) (pe_callB call_len_seq (by rfl) T.m_len (by decide +kernel) (pa_cons (pe_lc (own := [("_law_number_here", 7)]) (by rfl) sc_law_vector.nd (pi_tup (pe_slice sl_drop (pv 6) (po_some pe_int) po_none)) (blkOk_by (N := ["_law_pieces", "_law_letters_here", "_law_signs", "_law_unknowns", "_law_numbers", "_law_word_here", "_law_form_here", "_law_number_here"]) (sc := C8.fnScope (topS 63)) (own := [("_law_number_here", 7)]) (by decide +kernel)) (fun _ _ _ _ _ => (pg_name (i := 7) sc_law_vector.nd rfl (Or.inl rfl))) (fun _ _ _ _ _ => (pts_one (pt_cmpR op_gt (pv 7) pe_int (nomark _)))) (fun _ _ _ _ _ => (pv 7))) pa_nil))))
    (pss_one (ps_set (i := 4) sc_law_vector.nd rfl (Or.inl rfl) (pe_op op_add (pv 4) (pe_callTy call_int1 (by rfl) T.m_int (by decide +kernel) (pa_cons (pe_cmpR op_gt (pe_ix ix_tup (pv 6) pe_int (fun _ _ => rfl)) pe_int (nomark _)) pa_nil)))))))
    pss_nil))))
    (pss_one (ps_ret (pe_tup (pa_cons (pv 1) (pa_cons (pv 2) (pa_cons (pv 3) (pa_cons (pv 4) pa_nil))))))))), ?_⟩
    have lus := pus.len
    refine ⟨by show 4 ≤ sizeLine; decide, fun t1 n1 => ?_⟩
    have s1 := sameNew (o := .tup [.int 0, .int 0, .int 0, .int 0]) n1
    refine ⟨t1, _, rfl, .inl (.inl upd_same), rfl, _, _, rfl, _, _, rfl, _, _, rfl, _, _, rfl, rfl, ?_⟩
    generalize upd H t1 (.tup [.int 0, .int 0, .int 0, .int 0]) = H1 at s1
    have hus1 := s1 _ _ hus
    refine ⟨_, rfl, l, rfl, ⟨_, .inl (.inl hus1)⟩, ?_⟩
    refine for_list (K := K) (a := l) (xs := us) (fun i σ H' => Same H1 H' ∧ ∃ (y5 y6 : Option V), σ = [some (.ref l), some (.int ((sm e0 (ps.take i) : Nat))), some (.int ((sm e1 (ps.take i) : Nat))), some (.int ((sm e2 (ps.take i) : Nat))), some (.int ((sm e3 (ps.take i) : Nat))), y5, y6, none]) ⟨Same.refl _, none, none, rfl⟩ (fun i σ H' _ p => .inl (.inl (p.1 _ _ hus1))) (fun i y σ H' hi p => ?_) (fun σ H' p => ?_)
    · obtain ⟨s2, y5, y6, rfl⟩ := p
      obtain ⟨a, p, rfl, hpi, pc⟩ := pus.get hi
      have mem := List.mem_of_getElem? hpi
      have hl := lF p mem
      have wp := ws p mem
      obtain ⟨fa, h1, h2⟩ := pc.mono (tup_same (s1.trans s2))
      rw [sm_take hpi, sm_take hpi, sm_take hpi, sm_take hpi]
      refine ⟨a, _, rfl, .inl (.inl h1), rfl, _, _, rfl, _, _, rfl, rfl, ?_⟩
      refine ⟨_, rfl, _, rfl, S p.1, rfl, len_line (by omega), _, _, rfl, rfl, ?_⟩
      dsimp only
      rw [show ((sm e0 (ps.take i) : Nat) : Int) + ((S p.1).length : Nat) = ((sm e0 (ps.take i) + e0 p : Nat) : Int) by rw [S_len]; push_cast; rfl]
      refine ⟨_, rfl, by show 1 ≤ sizeLine; decide, fun a1 m1 => ⟨by show 1 ≤ sizeLine; decide, fun a2 m2 => ⟨_, rfl, fa, _, rfl, .inr (.inl (.inl (sameNew m2 _ _ (sameNew m1 _ _ h2)))), _, _, rfl, rfl, ?_⟩⟩⟩
      have el : (((p.2.map fun n : Nat => V.int (n : Nat)).length : Nat) : Int) - 1 = (m : Int) := by rw [List.length_map, hl]; omega
      dsimp only
      rw [el]
      refine ⟨a2, _, _, rfl, rfl, upd_same, by omega, by omega, fun a3 H3 s3 h3 => ?_⟩
      have s12 := (sameNew (o := .tup [.int 1]) m1).trans (sameNew (o := .tup [.int 0]) m2)
      have e1' : H3 a1 = some (.tup [.int 1]) := s3 _ _ (by rw [upd_ne (ne_of_none upd_same m2)]; exact upd_same)
      refine ⟨a1, a3, _, _, rfl, rfl, e1', h3, by simp; omega, fun a4 H4 s4 h4 => ?_⟩
      have s14 := (s12.trans s3).trans s4
      have hone : FT H4 a4 (one1 m) := by
        unfold FT one1
        rw [h4]
        simp
      have h24 : FT H4 fa p.2 := h2.same s14
      refine ⟨dF p.2, dF (one1 m), dp_FT h24, dp_FT hone, shaped_dF _, shaped_dF _, _, rfl, ?_⟩
      have ef : (!PyData.eqv (dF p.2) (dF (one1 m))) = !fx p := by
        rw [eqv_dF]
        unfold fx
        rw [hl, Nat.add_sub_cancel]
      rw [ef]
      have sA := s2.trans s14
      cases fe : fx p with
      | true =>
        refine iteF ⟨sA, some (.str (S p.1)), some (.ref fa), ?_⟩
        have z1 : e1 p = 0 := by unfold e1; rw [fe]; rfl
        have z2 : e2 p = 0 := by unfold e2; rw [fe]; rfl
        have z3 : e3 p = 0 := by unfold e3; rw [fe]; rfl
        rw [z1, z2, z3]
        rfl
      | false =>
        have z1 : e1 p = 1 := by unfold e1; rw [fe]; rfl
        have z2 : e2 p = (p.2.tail.filter fun n => decide (n ≠ 0)).length := by unfold e2; rw [fe]; rfl
        have z3 : e3 p = if p.2.headD 0 = 0 then 0 else 1 := by unfold e3; rw [fe]; rfl
        refine iteT ?_
        refine ⟨_, rfl, _, _, rfl, rfl, _, rfl, _, rfl, 1, rfl, fa, _, 1, rfl, rfl, rfl, h24, fun b1 H5 s5 h5 => ?_⟩
        have h5' : H5 b1 = some (.tup (p.2.tail.map fun n : Nat => V.int (n : Nat))) := by
          rw [h5, ← List.map_drop]
          cases p.2 <;> rfl
        refine ⟨b1, rfl, ⟨_, .inl (.inl h5')⟩, fun D hD => ?_⟩
        refine lcT_filt (K := K) (a := b1) (xs := p.2.tail.map fun n : Nat => V.int (n : Nat)) (fun j => decide (p.2.tail.getD j 0 ≠ 0)) (fun j => .int ((p.2.tail.getD j 0 : Nat) : Int)) (fun H' s => .inl (.inl (s _ _ h5'))) (small5 (by rw [List.length_map, List.length_tail]; omega)) (fun j z H6 R R0 hz s6 q1 q0 => ?_) hD fun H6 s6 hE => ?_
        · obtain ⟨n, _, hn, rfl⟩ := get_nat hz
          have en : p.2.tail.getD j 0 = n := by rw [List.getD_eq_getElem?_getD, hn]; rfl
          refine ⟨rfl, _, rfl, _, _, rfl, rfl, _, rfl, ?_⟩
          by_cases z : n = 0
          · rw [decide_eq_false (show ¬ (0 : Int) < ((n : Nat) : Int) by omega)]
            exact iteF (q0 (decide_eq_false fun y => y (en.trans z)) _ (Same.refl _))
          · rw [decide_eq_true (show (0 : Int) < ((n : Nat) : Int) by omega)]
            refine iteT ⟨_, rfl, ?_⟩
            have := q1 (decide_eq_true fun y => z (en.symm.trans y)) _ (Same.refl _)
            rw [en] at this
            exact this
        · have sB := (sA.trans s5).trans s6
          have h26 : FT H6 fa p.2 := (h24.same s5).same s6
          refine ⟨D, _, rfl, .inl (.inl (.inl hE)), _, _, rfl, rfl, ?_⟩
          rw [List.length_map, List.length_map, filt_len]
          refine ⟨_, rfl, _, rfl, fa, _, 0, _, rfl, rfl, .inl (.inl h26), atI_nat (j := 0) (head_get hl), _, _, rfl, rfl, .inr ⟨_, rfl, _, _, rfl, rfl, ?_⟩⟩
          refine ⟨sB, some (.str (S p.1)), some (.ref fa), ?_⟩
          rw [z1, z2, z3]
          have c3 : ((sm e3 (ps.take i) : Nat) : Int) + (if decide ((0 : Int) < ((p.2.headD 0 : Nat) : Int)) = true then 1 else 0) = ((sm e3 (ps.take i) + if p.2.headD 0 = 0 then 0 else 1 : Nat) : Int) := by
            generalize p.2.headD 0 = x
            by_cases z : x = 0
            · rw [if_pos z, decide_eq_false (by omega)]
              rfl
            · rw [if_neg z, decide_eq_true (by omega)]
              rfl
          rw [← c3]
          rfl
    · obtain ⟨s2, y5, y6, rfl⟩ := p
      rw [lus, List.take_length]
      exact ⟨_, rfl, _, rfl, _, rfl, _, rfl, by show 4 ≤ sizeLine; decide, fun t nt => q t _ ((s1.trans s2).trans (sameNew nt)) upd_same⟩
end
end K67

set_option Elab.async false
set_option linter.all false
set_option maxRecDepth 100000
set_option maxHeartbeats 4000000
set_option exponentiation.threshold 3000
namespace K67
open PySem PySem.Spec PyProof.Rows L2 CK SX NM
theorem shaped_natL (f : F) : SeqAt.shaped (.list (f.map fun n : Nat => PyData.int (n : Nat))) = true := by
  unfold SeqAt.shaped
  rw [PyData.canLay0, lay_nats, PyData.depth, deep_nats]
  rfl
theorem eqv_natL (f g : F) : PyData.eqv (.list (f.map fun n : Nat => PyData.int (n : Nat))) (.list (g.map fun n : Nat => PyData.int (n : Nat))) = decide (f = g) := by
  simp only [PyData.eqv, eqvAll_nats]
theorem dp_natL {K : PySem.W.Frag} {H : Hp} {l : Addr} {f : F} (h : H l = some (.lst (f.map fun n : Nat => V.int (n : Nat)))) : Dp K H (.ref l) (.list (f.map fun n : Nat => PyData.int (n : Nat))) := .lst (.inl (.inl h)) (dpAll_nats f)
theorem ne_no (a : V) : (!decide (a = a)) = false := by rw [decide_eq_true rfl]; rfl
/-! repr of lists of pieces -/
theorem dF_ints (f : F) : (f.map fun n : Nat => PyData.int (n : Nat)) = (f.map fun n : Nat => ((n : Nat) : Int)).map PyData.int := by rw [List.map_map]; rfl
theorem log_nat {n : Nat} (h : n < 2 ^ 1900) : ((n : Nat) : Int).natAbs.log2 < 1920 := log_lt (by rw [Int.natAbs_natCast]; exact h)
theorem logs {f : F} (h : ∀ n ∈ f, n < 2 ^ 1900) : ∀ n ∈ (f.map fun n : Nat => ((n : Nat) : Int)), n.natAbs.log2 < 1920 := fun n hn => by
  obtain ⟨k, hk, rfl⟩ := List.mem_map.mp hn
  exact log_nat (h k hk)
theorem show_dP {p : Pn} {m B : Nat} (d : DrP m B p) (m3 : m ≤ 3) (hB : B ≤ 2 ^ 200) : (dP p).showable = true ∧ (dP p).hasDict = false ∧ (dP p).shown.length ≤ 9000 := by
  have hn : ∀ n ∈ p.2, n < 2 ^ 1900 := fun n hn => Nat.lt_of_lt_of_le (d.num n hn) (Nat.le_trans hB (Nat.pow_le_pow_right (by decide) (by decide)))
  have hl := logs hn
  have a1 := shown_ints _ hl
  have a2 := noDict_ints (p.2.map fun n : Nat => ((n : Nat) : Int))
  have a3 := piled_ints _ hl
  have a4 := fmt_text (PyData.shownAll ((p.2.map fun n : Nat => ((n : Nat) : Int)).map PyData.int))
  rw [List.length_map, d.len] at a3
  have b1 : (reprText (S p.1)).length ≤ 10 * (S p.1).length + 2 := StrLaws.reprText_len _ fun c hc => by
    have := d.low c hc
    omega
  have b0 := S_len p.1
  have b2 := d.few
  unfold dP dF
  rw [dF_ints]
  refine ⟨?_, ?_, ?_⟩
  · rw [PyData.showable, PyData.showableAll, PyData.showableAll, PyData.showableAll, PyData.showable, PyData.showable, a1]
    rfl
  · rw [PyData.hasDict, PyData.hasDictAll, PyData.hasDictAll, PyData.hasDictAll, PyData.hasDict, PyData.hasDict, a2]
    rfl
  · rw [PyData.shown, PyData.shownAll, PyData.shownAll, PyData.shownAll, PyData.shown, PyData.shown]
    have c := fmt_text [reprText (S p.1), tupleText (PyData.shownAll ((p.2.map fun n : Nat => ((n : Nat) : Int)).map PyData.int))]
    rw [piled_cons, piled_cons, piled_nil] at c
    omega
theorem show_dPs {m B : Nat} (m3 : m ≤ 3) (hB : B ≤ 2 ^ 200) : ∀ {ps : List Pn}, Dr m B ps → PyData.showableAll (ps.map dP) = true ∧ PyData.hasDictAll (ps.map dP) = false ∧ ((PyData.shownAll (ps.map dP)).map (·.length)).sum ≤ ps.length * 9000 ∧ (PyData.shownAll (ps.map dP)).length = ps.length
  | [], _ => by decide +kernel
  | p :: r, h => by
    obtain ⟨a1, a2, a3, a4⟩ := show_dPs m3 hB (ps := r) fun q hq => h q (List.mem_cons_of_mem _ hq)
    obtain ⟨b1, b2, b3⟩ := show_dP (h p List.mem_cons_self) m3 hB
    refine ⟨?_, ?_, ?_, ?_⟩
    · rw [List.map_cons, PyData.showableAll, a1, b1]; rfl
    · rw [List.map_cons, PyData.hasDictAll, a2, b2]; rfl
    · rw [List.map_cons, PyData.shownAll, List.map_cons, List.sum_cons, List.length_cons, Nat.add_mul]; omega
    · rw [List.map_cons, PyData.shownAll, List.length_cons, a4, List.length_cons]
theorem show_L {ps : List Pn} {m B : Nat} (d : Dr m B ps) (m3 : m ≤ 3) (hB : B ≤ 2 ^ 200) (hl : ps.length ≤ 400) : (PyData.list (ps.map dP)).showable = true ∧ (PyData.list (ps.map dP)).hasDict = false ∧ (PyData.list (ps.map dP)).depth ≤ 60 ∧ (PyData.list (ps.map dP)).shown.length ≤ 3800000 := by
  obtain ⟨a1, a2, a3, a4⟩ := show_dPs m3 hB d
  refine ⟨?_, ?_, ?_, ?_⟩
  · rw [PyData.showable, a1]
  · rw [PyData.hasDict, a2]
  · have := deep_dPs ps
    rw [PyData.depth]
    omega
  · rw [PyData.shown]
    have := listText_len_le (PyData.shownAll (ps.map dP))
    have : ps.length * 9000 ≤ 400 * 9000 := Nat.mul_le_mul_right _ hl
    omega
theorem Dr.gl {H : Hp} {m B : Nat} {l : Addr} {ps : List Pn} (d : Dr m B ps) (pl : PL H l ps) (hB : B ≤ 2 ^ 200) (hl : ps.length ≤ 5000) : GL H m l ps :=
  ⟨pl, fun p hp => (d p hp).len, fun p hp => Nat.le_trans (d p hp).few (by decide), fun p hp => (d p hp).low, fun p hp n hn => Nat.lt_of_lt_of_le ((d p hp).num n hn) (Nat.le_trans hB (Nat.pow_le_pow_right (by decide) (by decide))), hl⟩
theorem DrP.mea {m B : Nat} {p : Pn} (d : DrP m B p) : measP p ≤ 48 := by
  have a := d.few
  have b := d.hd
  have : p.1.length * (p.2.headD 0 + if isOpen p.2 = true then 1 else 0) ≤ 12 * 4 := Nat.mul_le_mul a (by split <;> omega)
  exact this
theorem Dr.mea {m B : Nat} : ∀ {ps : List Pn}, Dr m B ps → meas ps ≤ ps.length * 48
  | [], _ => Nat.zero_le _
  | p :: r, h => by
    have a := Dr.mea (ps := r) fun q hq => h q (List.mem_cons_of_mem _ hq)
    have b := (h p List.mem_cons_self).mea
    rw [meas_cons, List.length_cons, Nat.add_mul]
    omega
end K67

set_option Elab.async false
set_option linter.all false
set_option maxRecDepth 100000
set_option maxHeartbeats 4000000
namespace K67
open PySem PySem.Spec PyProof.Rows L2 CK SX NM
section
variable {P : Program} {w : World} {K : PySem.W.Frag} {mg : Str → Option Value} {base : Heap} {C : Addr}
def sp_same : Sp := fun vs H Q _ => ∃ (u z v : List Nat), vs = [.str (S u), .str (S z), .str (S v)] ∧ u ≠ [] ∧ v ≠ [] ∧ u.length ≤ 100000 ∧ z.length ≤ 100000 ∧ v.length ≤ 100000 ∧ Q (.bl (decide (Sam u z v))) H
theorem c_is_same_power (T : Txt K mg C) : C8.Cal P w K mg base 3 "is_same_power" sp_same [] := by
  refine calF T.d_is_same_power sc_is_same_power (fun vs H Q E h => ?_) (fun f cdv A outer s H vs Q E hr h => ?_)
  · obtain ⟨_, _, _, rfl, _⟩ := h; rfl
  · obtain ⟨u, z, v, rfl, hu, hv, lu, lz, lv, q⟩ := h
    refine ⟨_, (pss_one (ps_ret (pe_and (pe_cmpR op_eq (C8.pe_c (c_turned_word T) hr (by decide) (by rfl) (pa_cons (pv 2) (pa_cons (pe_un un_neg (pe_callB call_len_str (by rfl) T.m_len (by decide +kernel) (pa_cons (pv 1) pa_nil))) pa_nil))) (pv 0) (nomark _)) (pe_one (pe_cmpR op_eq (C8.pe_c (c_follows T) hr (by decide) (by rfl) (pa_cons (pv 0) (pa_cons (pv 1) pa_nil))) (pe_callB call_len_str (by rfl) T.m_len (by decide +kernel) (pa_cons (pv 1) pa_nil)) (nomark _)))))), ?_⟩
    refine ⟨_, rfl, _, rfl, S z, rfl, len_line (by omega), _, rfl, v, -((S z).length : Nat), rfl, by omega, hv, _, rfl, rfl, ?_⟩
    rw [S_len, rotZ_neg hv]
    refine ⟨_, rfl, ?_⟩
    by_cases e : rotR v z.length = u
    · rw [decide_eq_true (show V.str (S (rotR v z.length)) = V.str (S u) by rw [e])]
      refine iteT ⟨_, rfl, _, rfl, u, z, rfl, hu, lu, lz, _, rfl, S z, rfl, len_line (by omega), rfl, ?_⟩
      have lp := lcp_pre (u := u) (x := z) hu
      have lle := (WM.lcp_le (preE u z.length) z).2
      have ed : decide (V.int ((WM.lcp (preE u z.length) z : Nat) : Int) = V.int ((S z).length : Nat)) = decide (Sam u z v) := by
        rw [S_len]
        by_cases c : z = preE u z.length
        · have : ¬ WM.lcp (preE u z.length) z < z.length := fun h => lp.mp h c
          rw [decide_eq_true (show V.int _ = V.int _ by congr 1; omega), decide_eq_true (show Sam u z v from ⟨e, c⟩)]
        · have := lp.mpr c
          rw [decide_eq_false (fun h => by have := V.int.inj h; omega), decide_eq_false (fun h : Sam u z v => c h.2)]
      rw [ed]
      exact q
    · rw [decide_eq_false (fun h => e (S_inj (V.str.inj h)))]
      refine iteF ?_
      rw [decide_eq_false (fun h : Sam u z v => e h.1)] at q
      exact q
theorem times_id : ∀ f : F, timesF 1 f = f := fun f => by
  unfold timesF
  conv => rhs; rw [← List.map_id f]
  refine List.map_congr_left fun x _ => ?_
  show 1 * x = x
  omega
/-- what is new may be changed -/
theorem same_updN {H H' : Hp} {r : Addr} {o : HO} (s : Same H H') (n : H r = none) : Same H (upd H' r o) := fun b x e => by
  rw [upd_ne (fun z => by rw [z, n] at e; cases e)]
  exact s b x e
/-- a list of pieces that is new -/
def NewL (H H' : Hp) (r : Addr) (ps : List Pn) : Prop := Same H H' ∧ H r = none ∧ PL H' r ps
def sp_rooted : Sp := fun vs H Q _ => ∃ (l : Addr) (ps : List Pn) (m : Nat), vs = [.ref l] ∧ GL H m l ps ∧ m ≤ 3 ∧ meas ps ≤ 2000 ∧ ∀ r H', NewL H H' r (rootedL ps) → Q (.ref r) H'
theorem c_rooted (T : Txt K mg C) : C8.Cal P w K mg base 3 "rooted" sp_rooted [] := by
  refine calF T.d_rooted sc_rooted (fun vs H Q E h => ?_) (fun f cdv A outer s H vs Q E hr h => ?_)
  · obtain ⟨_, _, _, rfl, _⟩ := h; rfl
  · obtain ⟨l, ps, m, rfl, gl, m3, hme, q⟩ := h
    obtain ⟨vs, hl, hp⟩ := gl.at_
    have lv := hp.len
    refine ⟨_, (pss_cons (ps_set (i := 1) sc_rooted.nd rfl (Or.inl rfl) (pe_lst pa_nil))
    (pss_cons (ps_for PassesOwn.never rfl (pi_list (pv 0)) (pg_two (K := K) (i := 2) (j := 3) rfl rfl sc_rooted.nd rfl rfl (Or.inr rfl) (Or.inl rfl))
    (pss_one (ps_if (PW.pt (pw_and (pt_truth (pv 2) (by intro _; rfl)) (pw_and1 (pt_val (pe_callB (cr_anyN rfl) (by rfl) T.m_any (by decide +kernel) (pa_cons (pv 3) pa_nil))))))
    (pss_cons (ps_set (i := 4) sc_rooted.nd rfl (Or.inr rfl) (pe_ifExp (pt_val (C8.pe_c (c_is_open_form T) hr (by decide) (by rfl) (pa_cons (pv 3) pa_nil))) (C8.pe_c (c_root_size T) hr (by decide) (by rfl) (pa_cons (pv 2) pa_nil)) (pe_callB call_len_str (by rfl) T.m_len (by decide +kernel) (pa_cons (pv 2) pa_nil))))
    (pss_one (ps_expr (pe_bm PySem.F.plainAttrs_list PySem.F.slot_list_append PySem.F.type_list_append mt_append (pv 1) (pa_cons (pe_tup (pa_cons (pe_slice C8.sl_txt (pv 2) po_none (po_some (pv 4))) (pa_cons (pe_callTy call_tupL (by rfl) T.m_tuple (by decide +kernel) (pa_cons (pe_lc (own := [("number", 5)]) (by rfl) sc_rooted.nd (pi_tup (pv 3)) (blkOk_by (N := ["pieces", "found", "word", "form", "size", "number"]) (sc := C8.fnScope (topS 47)) (own := [("number", 5)]) (by decide +kernel)) (fun _ _ _ _ _ => (pg_name (i := 5) sc_rooted.nd rfl (Or.inl rfl))) (fun _ _ _ _ _ => pts_nil) (fun _ _ _ _ _ => (pe_op op_mulW (pe_op op_fdivZ (pe_callB call_len_str (by rfl) T.m_len (by decide +kernel) (pa_cons (pv 2) pa_nil)) (pv 4)) (pv 5)))) pa_nil)) pa_nil))) pa_nil)))))
    pss_nil)))
    (pss_one (ps_ret (pv 1))))), ?_⟩
    refine ⟨by show 0 ≤ sizeLine; omega, fun r hr0 => ?_⟩
    have rl : r ≠ l := fun z => by rw [z, hl] at hr0; cases hr0
    have s0 := sameNew (o := .lst []) hr0
    refine ⟨_, rfl, l, rfl, ⟨_, .inl (.inl (s0 _ _ hl))⟩, for_list (K := K) (a := l) (xs := vs) (fun i σ H' => Same H H' ∧ (∃ y2 y3 y4, σ = [some (.ref l), some (.ref r), y2, y3, y4, none]) ∧ PL H' r (rootedL (ps.take i)))
      ⟨s0, ⟨none, none, none, rfl⟩, [], upd_same, .nil⟩ (fun i σ H' _ p => .inl (.inl (p.1 _ _ hl))) (fun i y σ H' hi pI => ?_) (fun σ H' pI => ?_)⟩
    · obtain ⟨s1, ⟨y2, y3, y4, rfl⟩, pl⟩ := pI
      obtain ⟨a, p, rfl, hpi, pc⟩ := hp.get hi
      have mem := List.mem_of_getElem? hpi
      have lp := gl.len p mem
      obtain ⟨fa, h1, h2⟩ := pc.mono (tup_same s1)
      have wp := gl.ws p mem
      have bp := gl.bf p mem
      have et : rootedL (ps.take (i + 1)) = rootedL (ps.take i) ++ (if keepR p = true then [rootP p] else []) := by
        rw [List.take_succ, hpi]
        unfold rootedL
        rw [List.filter_append, List.map_append]
        congr 1
        show ([p].filter keepR).map rootP = _
        rw [List.filter_cons]
        split <;> rfl
      rw [et]
      have few := gl.few
      have fewR : (rootedL (ps.take i)).length ≤ 5000 := by
        unfold rootedL
        rw [List.length_map]
        have := List.length_filter_le keepR (ps.take i)
        rw [List.length_take] at this
        omega
      generalize rootedL (ps.take i) = acc at pl fewR
      obtain ⟨us, hus, pus⟩ := id pl
      have lus := pus.len
      refine ⟨a, _, rfl, .inl (.inl h1), rfl, _, _, rfl, _, _, rfl, rfl, ?_⟩
      refine ⟨_, rfl, _, tru_word (by omega), ?_⟩
      have skip : keepR p = false → PL H' r (acc ++ (if keepR p = true then [rootP p] else [])) := fun e => by
        rw [e, if_neg Bool.false_ne_true, List.append_nil]
        exact pl
      by_cases ne : p.1 = []
      · rw [decide_eq_false (fun z => z ne)]
        refine iteF (iteF ⟨s1, ⟨_, _, _, rfl⟩, skip ?_⟩)
        unfold keepR
        rw [decide_eq_false (fun z => z ne), Bool.false_and]
      · rw [decide_eq_true ne]
        refine iteT ⟨_, rfl, fa, p.2, rfl, h2, _, rfl, ?_⟩
        have ek : keepR p = p.2.any fun x => decide (x ≠ 0) := by
          unfold keepR
          rw [decide_eq_true ne, Bool.true_and]
        rw [← ek]
        cases kp : keepR p with
        | false =>
          have := skip kp
          rw [kp] at this
          exact iteF ⟨s1, ⟨_, _, _, rfl⟩, this⟩
        | true =>
          refine iteT ?_
          rw [if_pos rfl]
          have n0 := List.length_pos_iff.mpr ne
          have r0 := WM.rootN_pos ne
          have rl' := WM.rootN_le ne
          refine cut_seq (fun σ' H2 => Same H' H2 ∧ ∃ sz : Nat, σ' = [some (.ref l), some (.ref r), some (.str (S p.1)), some (.ref fa), some (.int (sz : Nat)), none] ∧ 0 < sz ∧ sz ≤ p.1.length ∧ rootP p = (p.1.take sz, timesF (p.1.length / sz) p.2)) (fun K hK => ?_) fun σ' H2 pM => ?_
          · refine ⟨_, rfl, fa, p.2, rfl, h2, fun H1 s2 => ⟨_, rfl, ?_⟩⟩
            cases op : isOpen p.2 with
            | true =>
              refine iteT ⟨_, rfl, p.1, rfl, ne, by omega, fun H3 s3 => hK _ _ ⟨s2.trans s3, _, rfl, r0, rl', ?_⟩⟩
              unfold rootP
              rw [op]
              rfl
            | false =>
              refine iteF ⟨_, rfl, S p.1, rfl, len_line (by omega), hK _ _ ⟨s2, p.1.length, ?_, n0, Nat.le_refl _, ?_⟩⟩
              · show _ = _
                rw [S_len]
                rfl
              · unfold rootP
                rw [op, if_neg Bool.false_ne_true, List.take_length, Nat.div_self n0]
                congr 1
                exact (times_id p.2).symm
          · obtain ⟨s2, sz, rfl, z0, zl, er⟩ := pM
            rw [er]
            have h22 := h2.same s2
            have dl : p.1.length / sz ≤ p.1.length := Nat.div_le_self _ _
            refine ⟨_, rfl, .inl ⟨rfl, _, .inl (.inl (s2 _ _ hus))⟩, _, rfl, _, rfl, _, rfl, S p.1, rfl, len_line (by omega), ?_⟩
            rw [SX.slice_to (by omega), Int.toNat_natCast]
            refine ⟨_, rfl, fa, rfl, ⟨_, .inl (.inl h22)⟩, ?_⟩
            refine fun D hD => lcT_map (fun x => match x with | .int j => .int (((p.1.length / sz : Nat) : Int) * j) | _ => .non) h22 (by rw [List.length_map]; exact small5 (by omega)) (fun i x H5 R hx s5 q' => ?_) hD fun H5 s5 hL => ?_
            · obtain ⟨x', mx, _, rfl⟩ := get_nat hx
              have := bp x' mx
              refine ⟨rfl, _, rfl, S p.1, rfl, len_line (by omega), _, rfl, p.1.length, sz, congrArg (fun n : Nat => V.int (n : Nat)) (S_len p.1), rfl, by omega, by omega, _, rfl, _, _, rfl, rfl, wide_mul (a := 900) (b := 900) ?_ (by omega) (by decide) (by decide) (by decide), q' _ (Same.refl _)⟩
              rw [Int.natAbs_natCast]
              exact Nat.lt_of_le_of_lt (Nat.le_trans dl wp) (by decide +kernel)
            · refine ⟨D, _, rfl, hL, fun t H6 s6 h6 => ⟨by show 2 ≤ sizeLine; decide, fun t2 n2 => ?_⟩⟩
              have s26 := (s2.trans s5).trans s6
              have st := sameNew (o := .tup [.str (S (p.1.take sz)), .ref t]) n2
              have hr6 : upd H6 t2 (.tup [.str (S (p.1.take sz)), .ref t]) r = some (.lst us) := st _ _ (s26 _ _ hus)
              refine ⟨r, _, _, rfl, rfl, hr6, by rw [sizeLine_eq]; omega, ?_⟩
              have s3 := s26.trans st
              have hf : FT (upd H6 t2 (.tup [.str (S (p.1.take sz)), .ref t])) t (timesF (p.1.length / sz) p.2) := by
                refine FT.same ?_ st
                unfold FT
                rw [h6, timesF, List.map_map, List.map_map]
                congr 2
              refine ⟨same_updN (s1.trans s3) hr0, ⟨_, _, _, rfl⟩, _, upd_same, ((pus.same s3).upd hr6).app (.one ?_)⟩
              exact ⟨t, tup_upd hr6 _ _ upd_same, tup_upd hr6 _ _ hf⟩
    · obtain ⟨s1, ⟨y2, y3, y4, rfl⟩, pl⟩ := pI
      rw [lv, List.take_length] at pl
      exact ⟨_, rfl, q r H' ⟨s1, hr0, pl⟩⟩
end
end K67

set_option Elab.async false
set_option linter.all false
set_option maxRecDepth 100000
set_option maxHeartbeats 4000000
namespace K67
open PySem PySem.Spec PyProof.Rows L2 CK SX NM
theorem mem_sum (e : Pn → Nat) : ∀ {l : List Pn} {p : Pn}, p ∈ l → e p ≤ (l.map e).sum
  | [], _, h => absurd h List.not_mem_nil
  | q :: r, p, h => by
    rw [List.map_cons, List.sum_cons]
    rcases List.mem_cons.mp h with x | x
    · rw [x]; omega
    · have := mem_sum e x
      omega
theorem sum_one : ∀ l : List Pn, (l.map fun _ => 1).sum = l.length
  | [] => rfl
  | q :: r => by rw [List.map_cons, List.sum_cons, sum_one r, List.length_cons]; omega
theorem take_sum (e : Pn → Nat) (l : List Pn) (i : Nat) : ((l.take i).map e).sum ≤ (l.map e).sum := by
  conv => rhs; rw [← List.take_append_drop i l]
  rw [List.map_append, List.sum_append]
  omega
theorem joinL_len {m : Nat} {ps : List Pn} (h : ∀ p ∈ ps, OkR m p) : (joinL ps).length ≤ ps.length := by
  have := joinL_sum (m := m) (fun _ => 1) (fun _ _ _ _ => by decide) ps [] (fun p hp => absurd hp List.not_mem_nil) h
  rw [sum_one, sum_one, sum_one] at this
  exact Nat.le_trans this (by simp)
theorem joinL_v0 {m : Nat} {ps : List Pn} (h : ∀ p ∈ ps, OkR m p) : ((joinL ps).map v0).sum ≤ (ps.map v0).sum := by
  have := joinL_sum (m := m) v0 (fun u v _ _ => by show (u ++ v).length ≤ _; rw [List.length_append]; exact Nat.le_refl _) ps [] (fun p hp => absurd hp List.not_mem_nil) h
  have z : (([] : List Pn).map v0).sum = 0 := rfl
  unfold joinL
  omega
theorem joinL_snoc (ps : List Pn) (p : Pn) : joinL (ps ++ [p]) = stepJ (joinL ps) p := by
  unfold joinL
  rw [List.foldl_append]
  rfl
section
variable {P : Program} {w : World} {K : PySem.W.Frag} {mg : Str → Option Value} {base : Heap} {C : Addr}
def sp_joined : Sp := fun vs H Q _ => ∃ (l : Addr) (ps : List Pn) (m : Nat), vs = [.ref l] ∧ PL H l ps ∧ (∀ p ∈ ps, OkR m p) ∧ m ≤ 3 ∧ ps.length ≤ 5000 ∧ (ps.map v0).sum ≤ 400000 ∧ ∀ r H', NewL H H' r (joinL ps) → Q (.ref r) H'
theorem c_fixed_joined (T : Txt K mg C) : C8.Cal P w K mg base 2 "fixed_joined" sp_joined [] := by
  refine calF T.d_fixed_joined sc_fixed_joined (fun vs H Q E h => ?_) (fun f cdv A outer s H vs Q E hr h => ?_)
  · obtain ⟨_, _, _, rfl, _⟩ := h; rfl
  · obtain ⟨l, ps, m, rfl, ⟨vs, hl, hp⟩, ok, m3, few, hv0, q⟩ := h
    have lv := hp.len
    refine ⟨_, (pss_cons (ps_set (i := 1) sc_fixed_joined.nd rfl (Or.inl rfl) (pe_lst pa_nil))
    (pss_cons (ps_for PassesOwn.never rfl (pi_list (pv 0)) (pg_two (K := K) (i := 2) (j := 3) rfl rfl sc_fixed_joined.nd rfl rfl (Or.inl rfl) (Or.inl rfl))
    (pss_cons (ps_set (i := 4) sc_fixed_joined.nd rfl (Or.inl rfl) (pe_ix ix_tup (C8.pe_c (c_fixed_piece T) hr (by decide) (by rfl) (pa_cons (pv 2) (pa_cons (pe_op op_sub (pe_callB call_len_seq (by rfl) T.m_len (by decide +kernel) (pa_cons (pv 3) pa_nil)) pe_int) pa_nil))) pe_int (fun _ _ => rfl)))
    (pss_cons (ps_if (PW.pt (pw_and (pt_truth (pv 1) (by intro _; rfl)) (pw_and (pt_cmpR (op_eqD hr.units) (pv 3) (pv 4) (nomark _)) (pw_and1 (pt_cmpR (op_eqD hr.units) (pe_ix ix_tup (pe_ix ix_list (pv 1) (pe_un un_neg pe_int) (fun _ _ => rfl)) pe_int (fun _ _ => rfl)) (pv 4) (nomark _))))))
    (pss_one (ps_set (i := 2) sc_fixed_joined.nd rfl (Or.inl rfl) (pe_op op_add_str (pe_ix ix_tup (pe_bm0 PySem.F.plainAttrs_list PySem.F.slot_list_pop PySem.F.type_list_pop mt_pop (pv 1)) pe_int (fun _ _ => rfl)) (pv 2))))
    pss_nil)
    (pss_one (ps_expr (pe_bm PySem.F.plainAttrs_list PySem.F.slot_list_append PySem.F.type_list_append mt_append (pv 1) (pa_cons (pe_tup (pa_cons (pv 2) (pa_cons (pv 3) pa_nil))) pa_nil)))))))
    (pss_one (ps_ret (pv 1))))), ?_⟩
    refine ⟨by show 0 ≤ sizeLine; omega, fun r hr0 => ?_⟩
    have rl : r ≠ l := fun z => by rw [z, hl] at hr0; cases hr0
    have s0 := sameNew (o := .lst []) hr0
    refine ⟨_, rfl, l, rfl, ⟨_, .inl (.inl (s0 _ _ hl))⟩, for_list (K := K) (a := l) (xs := vs) (fun i σ H' => Same H H' ∧ (∃ y2 y3 y4, σ = [some (.ref l), some (.ref r), y2, y3, y4]) ∧ PL H' r (joinL (ps.take i)))
      ⟨s0, ⟨none, none, none, rfl⟩, [], upd_same, .nil⟩ (fun i σ H' _ p => .inl (.inl (p.1 _ _ hl))) (fun i y σ H' hi pI => ?_) (fun σ H' pI => ?_)⟩
    · obtain ⟨s1, ⟨y2, y3, y4, rfl⟩, pl⟩ := pI
      obtain ⟨a, p, rfl, hpi, pc⟩ := hp.get hi
      have mem := List.mem_of_getElem? hpi
      have op := ok p mem
      have lp := op.len
      obtain ⟨fa, h1, h2⟩ := pc.mono (tup_same s1)
      have wp : p.1.length ≤ 400000 := Nat.le_trans (mem_sum v0 mem) hv0
      have okT : ∀ p ∈ ps.take i, OkR m p := fun q hq => ok q (List.mem_of_mem_take hq)
      have lJ := joinL_len okT
      have vJ := joinL_v0 okT
      have vT := take_sum v0 ps i
      rw [List.length_take] at lJ
      rw [List.take_succ, hpi]
      show _
      have ej : joinL (ps.take i ++ (some p).toList) = stepJ (joinL (ps.take i)) p := joinL_snoc _ p
      rw [ej]
      have wJ : ∀ q ∈ joinL (ps.take i), q.1.length ≤ 400000 := fun q hq => Nat.le_trans (mem_sum v0 hq) (by omega)
      have oJ : ∀ q ∈ joinL (ps.take i), q.2.length = m + 1 := fun q hq => ((joinL_jn okT []).ok q hq).len
      clear ej vJ
      generalize joinL (ps.take i) = acc at pl lJ wJ oJ
      obtain ⟨us, hus, pus⟩ := id pl
      have lus := pus.len
      refine ⟨a, _, rfl, .inl (.inl h1), rfl, _, _, rfl, _, _, rfl, rfl, ?_⟩
      have em : (((p.2.map fun n : Nat => V.int (n : Nat)).length : Nat) : Int) - 1 = (m : Int) := by rw [List.length_map, lp]; omega
      refine ⟨_, rfl, _, rfl, fa, _, rfl, .inr (.inl (.inl h2)), _, _, rfl, rfl, p.1, m, ?_, m3, fun t H2 s2 pc2 => ?_⟩
      · dsimp only
        rw [em]
        rfl
      obtain ⟨fb, e1, e2⟩ := pc2
      refine ⟨t, _, 1, _, rfl, rfl, .inl (.inl e1), atI_nat (j := 1) rfl, ?_⟩
      have hus2 := s2 _ _ hus
      have h22 := h2.same s2
      have pus2 := pus.same s2
      have e2 : FT H2 fb (one1 m) := e2
      dsimp only
      rw [gname_eq]
      refine cut_seq (fun σ' H3 => ∃ (B : List Pn) (z : List Nat) (ws : List V), σ' = [some (.ref l), some (.ref r), some (.str (S z)), some (.ref fa), some (.ref fb)] ∧ H3 r = some (.lst ws) ∧ Pcs H3 ws B ∧ SameX r H2 H3 ∧ B.length ≤ acc.length ∧ stepJ acc p = B ++ [(z, p.2)]) (fun K' hK => ?_) fun σ' H3 pM => ?_
      · have plain : (∀ q, acc.getLast? = some q → ¬ (p.2 = one1 m ∧ q.2 = one1 m)) → K' [some (.ref l), some (.ref r), some (.str (S p.1)), some (.ref fa), some (.ref fb)] H2 := fun no => by
          refine hK _ _ ⟨acc, p.1, us, rfl, hus2, pus2, .refl _ _, Nat.le_refl _, ?_⟩
          rcases stepJ_cases (acc := acc) lp with ⟨e, _⟩ | ⟨B, q, e, g1, g2, _⟩
          · exact e
          · exact absurd ⟨g1, g2⟩ (no q (by rw [e]; simp))
        cases hlast : us.getLast? with
        | none =>
          have ve : us = [] := List.getLast?_eq_none_iff.mp hlast
          have ae : acc = [] := List.length_eq_zero_iff.mp (by rw [← lus, ve]; rfl)
          refine ⟨_, rfl, false, .inl ⟨_, .inl (.inl hus2), by rw [ve]; rfl⟩, iteF (iteF (plain fun q hq => ?_))⟩
          rw [ae] at hq
          cases hq
        | some v =>
          have hv : us[us.length - 1]? = some v := by rw [← List.getLast?_eq_getElem?]; exact hlast
          obtain ⟨b, q, rfl, hpi2, pcq⟩ := pus2.get hv
          have ha : acc.getLast? = some q := by rw [List.getLast?_eq_getElem?, ← lus]; exact hpi2
          obtain ⟨fq, g1, g2⟩ := id pcq
          have memq := List.mem_of_getLast? ha
          refine ⟨_, rfl, true, .inl ⟨_, .inl (.inl hus2), (not_empty hlast).symm⟩, iteT ?_⟩
          refine ⟨_, rfl, _, rfl, dF p.2, dF (one1 m), dp_FT h22, dp_FT e2, shaped_dF _, shaped_dF _, ?_⟩
          rw [eqv_dF]
          refine ⟨_, rfl, ?_⟩
          by_cases c1 : p.2 = one1 m
          · rw [decide_eq_true c1]
            refine iteT ⟨_, rfl, 1, rfl, r, _, -1, _, rfl, rfl, .inl (.inl hus2), last_at hv, b, _, 1, _, rfl, rfl, .inl (.inl g1), atI_nat (j := 1) rfl, _, rfl, dF q.2, dF (one1 m), dp_FT g2, dp_FT e2, shaped_dF _, shaped_dF _, ?_⟩
            rw [eqv_dF]
            refine ⟨_, rfl, ?_⟩
            by_cases c2 : q.2 = one1 m
            · rw [decide_eq_true c2]
              have g1' := tup_upd (ys := us.dropLast) hus2 _ _ g1
              refine iteT ⟨_, rfl, .inl ⟨rfl, _, .inl (.inl hus2)⟩, r, _, _, rfl, rfl, hus2, hv, b, _, 0, _, rfl, rfl, .inl (.inl g1'), atI_nat (j := 0) rfl, _, rfl, _, _, rfl, rfl, ?_, ?_⟩
              · rw [S_len, S_len, sizeLine_eq]
                have := wJ q memq
                omega
              · rw [S_cat]
                refine hK _ _ ⟨acc.dropLast, q.1 ++ p.1, us.dropLast, rfl, upd_same, pus2.init.upd hus2, SameX.updL (.refl _ _), by rw [List.length_dropLast]; omega, stepJ_two ha c1 c2⟩
            · rw [decide_eq_false c2]
              exact iteF (plain fun q' hq' hh => by rw [ha] at hq'; cases hq'; exact c2 hh.2)
          · rw [decide_eq_false c1]
            exact iteF (iteF (plain fun q' hq' hh => c1 hh.1))
      · obtain ⟨B, z, ws, rfl, hws, pB, s3, lB, es⟩ := pM
        rw [es]
        have lws := pB.len
        have h3 : ∀ {b : Addr} {xs : List V}, H2 b = some (.tup xs) → H3 b = some (.tup xs) := fun {b xs} e => s3 _ _ (fun z => by rw [z, hus2] at e; cases e) e
        have h23 : FT H3 fa p.2 := h3 h22
        refine ⟨_, rfl, .inl ⟨rfl, _, .inl (.inl hws)⟩, _, rfl, _, rfl, by show 2 ≤ sizeLine; decide, fun t4 n4 => ?_⟩
        have st := sameNew (o := .tup [.str (S z), .ref fa]) n4
        have hws4 := st _ _ hws
        refine ⟨r, _, _, rfl, rfl, hws4, by rw [lws, sizeLine_eq]; omega, ?_⟩
        refine ⟨fun b o hb => ?_, ⟨_, _, _, rfl⟩, _, upd_same, ((pB.same st).upd hws4).app (.one ⟨fa, tup_upd hws4 _ _ upd_same, tup_upd hws4 _ _ (st _ _ h23)⟩)⟩
        have br : b ≠ r := fun z => by rw [z, hr0] at hb; cases hb
        rw [upd_ne br]
        exact st _ _ (s3 _ _ br (s2 _ _ (s1 _ _ hb)))
    · obtain ⟨s1, ⟨y2, y3, y4, rfl⟩, pl⟩ := pI
      rw [lv, List.take_length] at pl
      exact ⟨_, rfl, q r H' ⟨s1, hr0, pl⟩⟩
end
end K67

set_option Elab.async false
set_option linter.all false
set_option maxRecDepth 100000
set_option maxHeartbeats 4000000
/-! sorted of any data; sorted(.., key=len) of texts -/
namespace CK
open PySem PySem.Spec PyProof.Rows L2 PySem.W
theorem vals_each : ∀ {xs : List V} {us : List Value}, Vals xs us → EachIs (fun u x => RelV x u) us xs
  | _, _, .nil => .nil
  | _, _, .cons r t => .cons r (vals_each t)
theorem each_vals : ∀ {us : List Value} {xs : List V}, EachIs (fun u x => RelV x u) us xs → Vals xs us
  | _, _, .nil => .nil
  | _, _, .cons r t => .cons r (each_vals t)
section
variable {X : Cx}
/-- sorted(xs), a list of data -/
theorem cr_sortedA (hu : X.A.units + 64 < cLine) : CallR X (.builtin "sorted") (fun vs H Q => ∃ (a : Addr) (xs : List V) (d : V → PyData), vs = [V.ref a] ∧ SqL X.K H a xs ∧ (∀ v ∈ xs, Dp X.K H v (d v)) ∧ AllAlike (xs.map d) ∧ Sortable (xs.map d) ∧ (∀ v ∈ xs, (d v).depth ≤ 60) ∧
    ∀ p, H p = none → Q (.ref p) (upd H p (.lst (xs.mergeSort (dataLe false d))))) := by
  intro pins s σ H vs us Q I r h
  obtain ⟨a, xs, d, rfl, hs, hd, hal, hk, hb, q⟩ := h
  obtain ⟨its, rv, hl, hz⟩ := I.list hs
  rw [Vals.ref1 r]
  have e := vals_each rv
  have er : EachIs (fun v b => ∃ as, Reads s.heap v (d b) as) its xs := by
    have key : ∀ {us : List Value} {ys : List V}, EachIs (fun u x => RelV x u) us ys → (∀ v ∈ ys, v ∈ xs) → EachIs (fun v b => ∃ as, Reads s.heap v (d b) as) us ys := fun h => by
      induction h with
      | nil => intro _; exact .nil
      | cons hr _ ih => intro hm; exact .cons (Dp.reads I _ _ _ (hd _ (hm _ List.mem_cons_self)) hr) (ih fun v hv => hm v (List.mem_cons_of_mem _ hv))
    exact key e fun _ h => h
  refine sorted_data (l := a) (vs := its) (bs := xs) (enc := d) hl.isList e er hal hk hz (fun b hb' => by have := hb b hb'; omega) fun out ho eo => ?_
  obtain ⟨ep, he'⟩ := PyProof.Rows.sortedAll_at s.heap its out.toArray
  have hlen : (xs.mergeSort (dataLe false d)).length ≤ sizeLine := by
    rw [List.length_mergeSort]
    exact hz
  exact ⟨.ref _, upd H (s.heap.objs.size + 1) (.lst (xs.mergeSort (dataLe false d))), I.laid (t' := s.toks) (fun _ _ => PyProof.Rows.sortedAll_old) (Nat.le_succ _) ⟨hlen, out, ep, each_vals eo, he'⟩, rfl, q _ (I.hok.fresh (Nat.le_succ _))⟩
/-- a text's data -/
def dV : V → PyData
  | .str x => .str x
  | _ => .none
theorem alike_strs (zs : List Str) : AllAlike ((zs.map V.str).map dV) := fun d hd d' hd' => by
  rw [List.map_map] at hd hd'
  obtain ⟨x, _, rfl⟩ := List.mem_map.mp hd
  obtain ⟨y, _, rfl⟩ := List.mem_map.mp hd'
  rfl
theorem sortable_strs (zs : List Str) : Sortable ((zs.map V.str).map dV) := .inr fun d hd => by
  rw [List.map_map] at hd
  obtain ⟨x, _, rfl⟩ := List.mem_map.mp hd
  exact ⟨fun h => (nomatch h), fun _ h => (nomatch h)⟩
/-- the order of texts -/
def leS (x y : Str) : Bool := decide (x.cps.toList ≤ y.cps.toList)
theorem sort_strs (zs : List Str) : (zs.map V.str).mergeSort (dataLe false dV) = (zs.mergeSort leS).map V.str := by
  refine (sort_maps V.str fun a _ b _ => ?_).symm
  have := congrFun (congrFun (dataLe_str (β := Str) fun x => x) a) b
  show _ = dataLe false dV (V.str a) (V.str b)
  exact this.symm
/-- sorted(d), a dict whose keys are texts -/
theorem call_sortedDA (hcalm : X.calm = true) (hu : X.A.units + 64 < cLine) : CallR X (.builtin "sorted") (fun xs H Q => ∃ (a : Addr) (kvs : List (Key × V)) (ks : List Str), xs = [.ref a] ∧ Rd H a (.dK kvs) ∧ kvs.map (·.1) = ks.map Sum.inr ∧ ks.length ≤ sizeLine ∧
    ∀ p, H p = none → Q (.ref p) (upd H p (.lst ((ks.mergeSort leS).map V.str)))) := by
  intro pins s σ H xs us Q I r q
  obtain ⟨a, kvs, ks, ex, hd, hks, h64, q⟩ := q
  subst ex
  obtain ⟨u, eu, rx⟩ := vals1 r
  subst eu
  cases rx
  obtain ⟨z, lo, vs, rel, dd⟩ := dk_rd I.hok hd
  obtain ⟨ep, hat⟩ := dd.dictAt
  have hkeys : vs.map (·.1) = ks.map Sum.inr := rel.keys.symm.trans hks
  have hl : vs.length = ks.length := by
    have e := congrArg List.length hkeys
    rw [List.length_map, List.length_map] at e
    exact e
  have h16 : vs.length ≤ sizeLine := by rw [hl]; exact h64
  refine Calls.call_function_entry PyProof.Rows.kind_sorted PyProof.Rows.plain_sorted PyProof.Rows.entry_sorted (PyProof.Rows.args_sorted1 _) ?_
  unfold Builtin.«sorted»
  refine wpAny_bind (m := checkCount "sorted" 1 1 _) (wpAny_pure ?_)
  refine wpAny_bind (PySem.W.kdu_collect (A := X.A.in1) (PySem.W.kdl_dict (knd := mixKind X.prog X.w) (kvs := vs) (ep := ep) lo) (I.ok.hd hcalm) hat h16 fun h' tk acc hk hacc => ?_)
  have hal : acc.toList.length = ks.length := by rw [Array.length_toList, hacc.1, hl]
  have hS : StrsAre acc.toList ks := strs_at hal fun j v e => by
    obtain ⟨k, x, e1, e2⟩ := hacc.2 j v (by rw [← Array.getElem?_toList]; exact e)
    have e3 : (vs.map (·.1))[j]? = some k := by rw [List.getElem?_map, e1]; all_goals rfl
    rw [hkeys, List.getElem?_map] at e3
    cases e4 : ks[j]? with
    | none => rw [e4] at e3; cases e3
    | some y =>
      rw [e4] at e3
      have e5 : Sum.inr y = k := Option.some.inj e3
      subst e5
      obtain ⟨t, ev⟩ := Value.isStrOf_shape (x := y) (v := v) e2
      exact ⟨y, t, rfl, ev⟩
  have I1 : Inv X pins σ H { s with heap := h', toks := tk } := I.kept hk
  refine wpAny_bind (wpAny_newList ?_ (by rw [hal]; exact h64))
  have hoL : (h'.push (seqObj "list" acc.toList.toArray 0)).get? h'.objs.size = some (seqObj "list" acc.toList.toArray 0) := Heap.get?_push_size _ rfl
  show wpAny _ _ _ _ _ { s with heap := h'.push (seqObj "list" acc.toList.toArray 0), toks := tk }
  have ev : EachIs (fun u x => RelV x u) acc.toList (ks.map V.str) := vals_each (vals_of_strs hS)
  have er : ∀ (g : Heap), EachIs (fun v b => ∃ as, Reads g v (dV b) as ∧ h'.objs.size ∉ as) acc.toList (ks.map V.str) := fun g => by
    have key : ∀ {us : List Value} {ys : List Str}, StrsAre us ys → EachIs (fun v b => ∃ as, Reads g v (dV b) as ∧ h'.objs.size ∉ as) us (ys.map V.str) := fun h => by
      induction h with
      | nil => exact .nil
      | cons x t _ ih => exact .cons ⟨[], .str _ _, List.not_mem_nil⟩ ih
    exact key hS
  refine wpAny_bind (wpAny_holding (list_sort_data (s := { s with heap := h'.push (seqObj "list" acc.toList.toArray 0), toks := tk }) (enc := dV) hoL ev (er _) (alike_strs ks) (sortable_strs ks) (by rw [List.length_map]; exact h64) (fun b hb => ?_) fun out ho eo => ?_))
  · obtain ⟨x, _, rfl⟩ := List.mem_map.mp hb
    have e1 : (dV (V.str x)).depth = 0 := rfl
    have e2 : X.A.in1.units = X.A.units + 1 := rfl
    omega
  rw [sort_strs] at eo
  obtain ⟨e', he'⟩ := PyProof.Rows.sortedHeap_at (vs := acc.toList) (out := out.toArray) hoL
  have hlen : ((ks.mergeSort leS).map V.str).length ≤ sizeLine := by
    rw [List.length_map, List.length_mergeSort]
    exact h64
  refine wpAny_pure ⟨_, rfl, .ref h'.objs.size, upd H h'.objs.size (.lst ((ks.mergeSort leS).map V.str)), I1.laid (t' := tk) (fun b u e => ?_) (Nat.le_refl _)
    (show ObjOk X.prog X.w _ _ _ (.lst ((ks.mergeSort leS).map V.str)) from ⟨hlen, out, e', each_vals eo, he'⟩), rfl, q _ (I1.hok.fresh (Nat.le_refl _))⟩
  have hb : b < h'.objs.size := Heap.lt_size e
  rw [PyProof.Rows.sortedHeap_old (Nat.ne_of_lt hb) (by rw [size_push']; exact Nat.lt_succ_of_lt hb)]
  exact Heap.get?_push_of_some _ e
/-- the order by length -/
def leN (x y : Str) : Bool := decide (x.length ≤ y.length)
def lV : V → PyData
  | .str x => .int (x.length : Nat)
  | _ => .none
theorem sort_lens (zs : List Str) : (zs.map V.str).mergeSort (dataLe false lV) = (zs.mergeSort leN).map V.str := by
  refine (sort_maps V.str fun a _ b _ => ?_).symm
  have := congrFun (congrFun (dataLe_int (β := Str) fun x => (x.length : Nat)) a) b
  show _ = dataLe false lV (V.str a) (V.str b)
  refine Eq.trans ?_ this.symm
  exact decide_eq_decide.mpr ⟨fun h => by omega, fun h => by omega⟩
def rSortedLen (K : PySem.W.Frag) : List V → Hp → VK → Prop := fun vs H Q => ∃ (a : Addr) (zs : List Str), vs = [V.ref a] ∧ SqL K H a (zs.map V.str) ∧ (∀ z ∈ zs, z.length ≤ sizeLine) ∧ ∀ p, H p = none → Q (.ref p) (upd H p (.lst ((zs.mergeSort leN).map V.str)))
theorem pe_sortedLen {x y : Str} {p lp kp pos : Pos} {e : Expr} {t : TA} (hu : X.A.units + 64 < cLine) (hg : Gl X x) (hm : X.mg x = none) (hv : bootBuiltins x = some (.builtin "sorted")) (hg' : Gl X y) (hm' : X.mg y = none) (hv' : bootBuiltins y = some (.builtin "len")) (ha : PA X [e] t)
    (hn : x ≠ "__name__" := by decide) (hdb : (x == ("__debug__" : Str)) = false := by decide) (hn' : y ≠ "__name__" := by decide) (hdb' : (y == ("__debug__" : Str)) = false := by decide)
    (he : backTo pos (starEach [e] X.env) = (false, eval e X.env) :: backTo pos (starEach [] X.env) := by rfl) (hpl : (backTo pos (starEach [e] X.env)).any (·.1) = false := by rfl) :
    PE X (.Call (.Name x p) [e] [⟨some "key", .Name y lp, kp⟩] pos) (fun σ H Q => t σ H fun vs H1 => rSortedLen X.K vs H1 Q) := by
  refine ⟨fun pins s σ H Q I h => ?_⟩
  refine wpAny_Call_Name_kw (ld_blt I hg hm hv ?_ hn hdb)
  refine PyProof.Rows.callWith_kw (thn (ha.run pos pins s σ H _ I h) fun us s1 ⟨vs, H1, I1, r1, q1⟩ => ?_) he hpl rfl rfl
  show wpAny _ _ (evalAll ((do let v ← eval (.Name y lp) X.env; standAt pos; pure v) :: [])) _ _ s1
  refine wpAny_evalAll_cons (wpAny_bind (ld_blt I1 hg' hm' hv' (wpAny_bind (wpAny_standAt (wpAny_pure ?_))) hn' hdb'))
  refine wpAny_evalAll_nil ?_
  obtain ⟨a, zs, rfl, hs, hz, q⟩ := q1
  obtain ⟨its, rv, hl, hsz⟩ := I1.list hs
  rw [Vals.ref1 r1]
  show wpAny _ _ (call (.builtin "sorted") [.ref a] [(Str.ofString "key", .builtin "len")]) _ _ s1
  have e := vals_each rv
  refine sorted_key_data (l := a) (vs := its) (bs := zs.map V.str) lV hl.isList e (fun d hd d' hd' => ?_) (.inr fun d hd => ?_) hsz (fun b hb => ?_) (PyProof.Rows.ksk_s1 _ _) (fun _ => PyProof.Rows.ksk_l1 _ _) (fun x => PyProof.Rows.ksk_t4 _ _) (fun v x hr hx h' tk _ => ?_) fun out c h' tk k1 k2 k3 ho eo => ?_
  · rw [List.map_map] at hd hd'
    obtain ⟨x, _, rfl⟩ := List.mem_map.mp hd
    obtain ⟨y, _, rfl⟩ := List.mem_map.mp hd'
    rfl
  · rw [List.map_map] at hd
    obtain ⟨x, _, rfl⟩ := List.mem_map.mp hd
    exact ⟨fun h => (nomatch h), fun _ h => (nomatch h)⟩
  · obtain ⟨z, _, rfl⟩ := List.mem_map.mp hb
    have e1 : (lV (V.str z)).depth = 0 := rfl
    omega
  · obtain ⟨z, hz', rfl⟩ := List.mem_map.mp hx
    obtain ⟨t', rfl⟩ := hr
    have hn := line63
    have := hz z hz'
    exact len_str (by omega) ⟨_, _, rfl, fun _ _ e => e, .int _ _⟩
  · rw [sort_lens] at eo
    have hlen : ((zs.mergeSort leN).map V.str).length ≤ sizeLine := by
      rw [List.length_map, List.length_mergeSort]
      rw [List.length_map] at hsz
      exact hsz
    exact ⟨.ref _, upd H1 (s1.heap.objs.size + 1) (.lst ((zs.mergeSort leN).map V.str)), I1.laid (t' := tk) k1 (Nat.le_succ _) ⟨hlen, out, c, each_vals eo, k3⟩, rfl, q _ (I1.hok.fresh (Nat.le_succ _))⟩
end
end CK

set_option Elab.async false
set_option linter.all false
set_option maxRecDepth 100000
set_option maxHeartbeats 4000000
/-! max of a tuple of numbers; max(list, default=number) -/
namespace CK
open PySem PySem.Spec PyProof.Rows L2 PySem.W
theorem args_max_default (a d : Value) : argsOk "max" ⟨[a], [(Str.ofString "default", d)]⟩ := by unfold argsOk; kernel_rfl
section
variable {prog : Program} {w : World} {A : Around} {R : Result → Shared → Prop} {I : Addr} {fp wr : List Addr} {n : Nat} {P : Nat → Value → Prop} {St : Nat → Heap → Prop} {d : Value}
theorem max_loopD (W : Walks prog w A.in1 I fp wr n P St) (bt : Nat → Nat → Bool) (hcmp : CmpOf prog w A.in1 .Gt P bt) (S : Addr) (hSf : S ∉ fp) :
    ∀ (k j : Nat) (s : Shared) (vb : Value) (c : Nat), n - (j + 1) = k → j + 1 ≤ n → St (j + 1) s.heap → P (argBest bt j) vb →
    s.heap.get? S = some { cls := .type "list", dict := none, data := .seq #[vb, vb] c, slots := #[] } →
    (∀ v h' tk, P (argBest bt (n - 1)) v → (∀ b o, b ∉ wr → b ≠ S → s.heap.get? b = some o → h'.get? b = some o) → R (.ok (.ret v)) { s with heap := h', toks := tk }) →
    codeAny (model prog w) A (.builtin "max.loop" ⟨[.ref I, .none, .ref S], [(Str.ofString "default", d)]⟩) R s := by
  have hSw : S ∉ wr := fun h => hSf (W.sub _ h)
  have hname : (toString "max" ++ toString ".loop" : String) = "max.loop" := by decide
  intro k
  induction k with
  | zero =>
    intro j s vb c hk hj hst hPb hS hR
    have hin : j + 1 = n := by omega
    refine codeAny_builtin PySem.F.entry_max_loop ?_
    rw [Around.under_plainId PySem.F.plain_max_loop _]
    show wpAny _ A.in1 (seqItems? (.ref S) >>= _) _ _ s
    refine wpAny_bind (wpAny_seqItems hS rfl ?_)
    show wpAny _ A.in1 (tryCatch (pyNext (.ref I)) _ >>= _) _ _ s
    refine wpAny_bind (wpAny_tryCatch (W.done s _ _ (hin ▸ hst) fun h' tk hk' => ?_))
    have hS' := hk' S _ hSw hS
    show wpAny _ A.in1 (updateSeq S (fun _ => #[]) >>= _) _ _ _
    refine wpAny_bind ?_
    refine wpAny_updateSeq hS' rfl (wpAny_bind (wpAny_letGo (wpAny_pure ?_)))
    refine hR vb _ tk (by rw [← hin]; exact hPb) fun b o hbw hbS e => (Heap.get?_update_other _ _ (Ne.symm hbS)).trans (hk' b o hbw e)
  | succ k ih =>
    intro j s vb c hk hj hst hPb hS hR
    have hlt : j + 1 < n := by omega
    refine codeAny_builtin PySem.F.entry_max_loop ?_
    rw [Around.under_plainId PySem.F.plain_max_loop _]
    show wpAny _ A.in1 (seqItems? (.ref S) >>= _) _ _ s
    refine wpAny_bind (wpAny_seqItems hS rfl ?_)
    show wpAny _ A.in1 (tryCatch (pyNext (.ref I)) _ >>= _) _ _ s
    refine wpAny_bind (wpAny_tryCatch (W.item (j + 1) s _ _ hlt hst fun v h' tk hP hst' hk' => ?_))
    have hS' := hk' S _ hSw hS
    show wpAny _ A.in1 (tryCatch (holding [v, v] (richCompare .Gt v vb >>= _)) _ >>= _) _ _ _
    refine wpAny_bind (wpAny_tryCatch (wpAny_holding (wpAny_bind (hcmp (j + 1) (argBest bt j) v vb _ _ _ hP hPb ?_))))
    refine wpAny_bind (wpAny_holding (wpAny_truthy_bool ?_))
    refine wpAny_bind (wpAny_letGo (wpAny_pure ?_))
    cases hb : bt (j + 1) (argBest bt j) with
    | true =>
      simp only [if_true]
      refine wpAny_bind ?_
      refine wpAny_updateSeq hS' rfl (wpAny_bind (wpAny_letGo ?_))
      rw [hname]
      refine wpAny_pure ⟨plainId_quiet PySem.F.plain_max_loop _, ih (j + 1) _ v _ (by omega) hlt (W.frame _ _ _ hst' fun b hbf o e => ?_) (by simp only [argBest, hb, if_true]; exact hP) (Heap.get?_update_self _ hS' rfl)
        fun v' h'' tk'' hP' hk'' => ?_⟩
      · exact (Heap.get?_update_other _ _ (fun h : S = b => hSf (by rw [h]; exact hbf))).trans e
      · exact hR v' h'' tk'' hP' fun b o hbw hbS e => hk'' b o hbw hbS ((Heap.get?_update_other _ _ (Ne.symm hbS)).trans (hk' b o hbw e))
    | false =>
      simp only [Bool.false_eq_true, if_false]
      refine wpAny_bind (wpAny_letGo ?_)
      rw [hname]
      refine wpAny_pure ⟨plainId_quiet PySem.F.plain_max_loop _, ih (j + 1) _ vb c (by omega) hlt hst' (by simp only [argBest, hb, Bool.false_eq_true, if_false]; exact hPb) hS' fun v' h'' tk'' hP' hk'' => ?_⟩
      exact hR v' h'' tk'' hP' fun b o hbw hbS e => hk'' b o hbw hbS (hk' b o hbw e)
theorem max_firstD (W : Walks prog w A.in1 I fp wr n P St) (bt : Nat → Nat → Bool) (hcmp : CmpOf prog w A.in1 .Gt P bt) (S : Addr) (hSf : S ∉ fp) {s : Shared} {c : Nat} (hst : St 0 s.heap)
    (hS : s.heap.get? S = some { cls := .type "list", dict := none, data := .seq #[] c, slots := #[] })
    (h0 : n = 0 → ∀ h' tk, (∀ b o, b ∉ wr → b ≠ S → s.heap.get? b = some o → h'.get? b = some o) → R (.ok (.ret d)) { s with heap := h', toks := tk })
    (hR : 0 < n → ∀ v h' tk, P (argBest bt (n - 1)) v → (∀ b o, b ∉ wr → b ≠ S → s.heap.get? b = some o → h'.get? b = some o) → R (.ok (.ret v)) { s with heap := h', toks := tk }) :
    codeAny (model prog w) A (.builtin "max.loop" ⟨[.ref I, .none, .ref S], [(Str.ofString "default", d)]⟩) R s := by
  have hSw : S ∉ wr := fun h => hSf (W.sub _ h)
  have hname : (toString "max" ++ toString ".loop" : String) = "max.loop" := by decide
  refine codeAny_builtin PySem.F.entry_max_loop ?_
  rw [Around.under_plainId PySem.F.plain_max_loop _]
  show wpAny _ A.in1 (seqItems? (.ref S) >>= _) _ _ s
  refine wpAny_bind (wpAny_seqItems hS rfl ?_)
  show wpAny _ A.in1 (tryCatch (pyNext (.ref I)) _ >>= _) _ _ s
  rcases Nat.eq_zero_or_pos n with hn | hn
  · refine wpAny_bind (wpAny_tryCatch (W.done s _ _ (hn ▸ hst) fun h' tk hk' => ?_))
    show wpAny _ A.in1 (rule _ >>= _) _ _ _
    refine wpAny_bind (wpAny_rule ?_)
    exact wpAny_pure (h0 hn h' tk fun b o hbw _ e => hk' b o hbw e)
  · refine wpAny_bind (wpAny_tryCatch (W.item 0 s _ _ hn hst fun v h' tk hP hst' hk' => ?_))
    have hS' := hk' S _ hSw hS
    show wpAny _ A.in1 (updateSeq S (fun _ => #[v, v]) >>= _) _ _ _
    refine wpAny_bind ?_
    refine wpAny_updateSeq hS' rfl ?_
    rw [hname]
    refine wpAny_pure ⟨plainId_quiet PySem.F.plain_max_loop _, max_loopD W bt hcmp S hSf _ 0 _ v _ rfl hn (W.frame _ _ _ hst' fun b hbf o e => ?_) hP (Heap.get?_update_self _ hS' rfl) fun v' h'' tk'' hP' hk'' => ?_⟩
    · exact (Heap.get?_update_other _ _ (fun h : S = b => hSf (by rw [h]; exact hbf))).trans e
    · exact hR hn v' h'' tk'' hP' fun b o hbw hbS e => hk'' b o hbw hbS ((Heap.get?_update_other _ _ (Ne.symm hbS)).trans (hk' b o hbw e))
end
section
variable {prog : Program} {w : World} {A : Around} {E : Value → Shared → Prop} {s : Shared}
theorem call_max_walkD {x d : Value} {Q : Value → Shared → Prop}
    (h : wpAny (model prog w) A.in1 (pyIter x) (fun it s₂ => ∃ I fp wr n P St bt, it = .ref I ∧ Walks prog w A.in1 I fp wr n P St ∧ St 0 s₂.heap ∧ (∀ b ∈ fp, b < s₂.heap.objs.size) ∧ CmpOf prog w A.in1 .Gt P bt ∧
      (n = 0 → ∀ h' tk, (∀ b o, b ∉ wr → s₂.heap.get? b = some o → h'.get? b = some o) → Q d { s₂ with heap := h', toks := tk }) ∧
      (0 < n → ∀ v h' tk, P (argBest bt (n - 1)) v → (∀ b o, b ∉ wr → s₂.heap.get? b = some o → h'.get? b = some o) → Q v { s₂ with heap := h', toks := tk })) E s) :
    wpAny (model prog w) A (call (.builtin "max") [x] [(Str.ofString "default", d)]) Q E s := by
  have hname : (toString "max" ++ toString ".loop" : String) = "max.loop" := by decide
  refine PyProof.Rows.kmk_tree PySem.F.kind_max PySem.F.plain_max PySem.F.entry_max (args_max_default _ _) ?_
  show wpAny _ A.in1 (Builtin.Builtins.bindParams "max" ["key", "default"] 0 ⟨[], [(Str.ofString "default", d)]⟩ >>= _) _ _ s
  refine wpAny_bind (wpAny_of_eq (show Builtin.Builtins.bindParams "max" ["key", "default"] 0 ⟨[], [(Str.ofString "default", d)]⟩ = pure [none, some d] from rfl) ?_)
  refine wpAny_bind (wpAny_pure ?_)
  refine wpAny_bind (wpAny_mono h (fun it s₂ h₂ => ?_) fun _ _ e => e)
  obtain ⟨I, fp, wr, n, P, St, bt, rfl, W, hst, hfp, hcmp, h0, hQ⟩ := h₂
  refine wpAny_bind (wpAny_newObj_type ?_)
  have hSf : s₂.heap.objs.size ∉ fp := fun hm => Nat.lt_irrefl _ (hfp _ hm)
  rw [hname]
  refine wpAny_pure ⟨plainId_quiet PySem.F.plain_max_loop _, max_firstD W bt hcmp s₂.heap.objs.size hSf (W.frame _ _ _ hst fun b _ o e => Heap.get?_push_of_some _ e) (Heap.get?_push_size _ rfl) (fun hn h' tk hk => ?_) fun hn v h' tk hP hk => ?_⟩
  · exact h0 hn h' tk fun b o hbw e => hk b o hbw (Nat.ne_of_lt (Heap.lt_size e)) (Heap.get?_push_of_some _ e)
  · exact hQ hn v h' tk hP fun b o hbw e => hk b o hbw (Nat.ne_of_lt (Heap.lt_size e)) (Heap.get?_push_of_some _ e)
end
/-- the greatest of numbers, 0 where there is none -/
def mx : List Nat → Nat
  | [] => 0
  | a :: l => max a (mx l)
theorem mx_le {n : Nat} : ∀ {l : List Nat}, (∀ x ∈ l, x ≤ n) → mx l ≤ n
  | [], _ => Nat.zero_le _
  | a :: l, h => by
    have := mx_le fun x hx => h x (List.mem_cons_of_mem _ hx)
    have := h a List.mem_cons_self
    rw [mx]
    omega
theorem le_mx {x : Nat} : ∀ {l : List Nat}, x ∈ l → x ≤ mx l
  | a :: l, h => by
    rw [mx]
    rcases List.mem_cons.mp h with rfl | h
    · omega
    · have := le_mx h
      omega
theorem mx_is {n : Nat} {l : List Nat} (m : n ∈ l) (h : ∀ x ∈ l, x ≤ n) : mx l = n := Nat.le_antisymm (mx_le h) (le_mx m)
theorem best_is {its : List Value} {ns : List Int} {xs : Array (Int × Tok)} {v : Value} (hn : (xs.toList.map (·.1)) = ns) (hsz : 0 < xs.size) (hv : (intItems xs)[argBest (fun i j => decide (numAt xs i > numAt xs j)) (xs.size - 1)]? = some v) : ∃ M t, v = .int M t ∧ M ∈ ns ∧ ∀ a ∈ ns, a ≤ M := by
  subst hn
  obtain ⟨t, rfl⟩ := intItems_at hv
  obtain ⟨h1, h2⟩ := argBest_gt (numAt xs) (xs.size - 1)
  refine ⟨_, t, rfl, ?_, fun a ha => ?_⟩
  · rw [numAt_eq]; exact PySem.getD_mem (by rw [List.length_map, Array.length_toList]; omega)
  · obtain ⟨j, hj, rfl⟩ := mem_getD ha
    rw [List.length_map, Array.length_toList] at hj
    rw [← numAt_eq]; exact h2 j (by omega)
theorem big_nat {M : Int} {ns : List Nat} (hm : M ∈ ns.map fun n : Nat => ((n : Nat) : Int)) (hle : ∀ a ∈ ns.map fun n : Nat => ((n : Nat) : Int), a ≤ M) : M = ((mx ns : Nat) : Int) := by
  obtain ⟨n, hn, rfl⟩ := List.mem_map.mp hm
  rw [mx_is hn fun x hx => by have := hle _ (List.mem_map.mpr ⟨x, hx, rfl⟩); omega]
section
variable {prog : Program} {w : World} {A : Around} {E : Value → Shared → Prop} {s : Shared} {l : Addr} {xs : Array (Int × Tok)}
theorem iter_tup {Q : Value → Shared → Prop} (hl : s.heap.IsTuple l (intItems xs)) (h : Q (.ref s.heap.objs.size) { s with heap := s.heap.push { cls := .type "tuple_iterator", data := .fields #[.ref l, .int 0 0] } }) : wpAny (model prog w) A (pyIter (.ref l)) Q E s := wpAny_pyIter_tuple hl h
theorem max_tupG {Q : Value → Shared → Prop} (hh : A.handled = none) (hl : s.heap.IsTuple l (intItems xs)) (hne : 0 < xs.size)
    (h : ∀ v h' tk, (intItems xs)[argBest (fun i j => decide (numAt xs i > numAt xs j)) (xs.size - 1)]? = some v → (∀ b o, s.heap.get? b = some o → h'.get? b = some o) → Q v { s with heap := h', toks := tk }) :
    wpAny (model prog w) A (call (.builtin "max") [.ref l]) Q E s := by
  have hlt : l < s.heap.objs.size := by obtain ⟨_, e, _⟩ := hl; exact Heap.lt_size e
  refine call_max_walk (wpAny_pyIter_tuple hl ?_)
  refine ⟨_, _, _, _, _, _, _, rfl, Walks.tuple (A := A.in1) hh _ l (Nat.ne_of_lt hlt) (intItems xs), ⟨⟨_, Heap.get?_push_size _ rfl, rfl, rfl⟩, hl.push _⟩, fun b hb => ?_, by simpa [intItems] using hne, CmpOf.ints_gt (numAt xs) (fun _ _ => intItems_at), fun v h' tk hP hk => ?_⟩
  · show b < (s.heap.push _).objs.size
    rw [Heap.size_push]
    rcases List.mem_cons.mp hb with rfl | hb
    · exact Nat.lt_succ_self _
    · rcases List.mem_cons.mp hb with rfl | hb
      · exact Nat.lt_succ_of_lt hlt
      · cases hb
  · refine h v h' tk (by simpa [intItems] using hP) fun b o e => ?_
    refine hk b o (fun hm => ?_) (Heap.get?_push_of_some _ e)
    have := List.mem_singleton.mp hm
    have hb := Heap.lt_size e
    rw [this] at hb
    exact absurd hb (Nat.lt_irrefl _)
theorem max_listD {d : Value} {Q : Value → Shared → Prop} (hh : A.handled = none) (hl : s.heap.IsList l (intItems xs))
    (h0 : xs.size = 0 → ∀ h' tk, (∀ b o, s.heap.get? b = some o → h'.get? b = some o) → Q d { s with heap := h', toks := tk })
    (h : 0 < xs.size → ∀ v h' tk, (intItems xs)[argBest (fun i j => decide (numAt xs i > numAt xs j)) (xs.size - 1)]? = some v → (∀ b o, s.heap.get? b = some o → h'.get? b = some o) → Q v { s with heap := h', toks := tk }) :
    wpAny (model prog w) A (call (.builtin "max") [.ref l] [(Str.ofString "default", d)]) Q E s := by
  refine call_max_walkD (iter_intList hl fun s₂ e st hfp hlI => ?_)
  subst e
  refine ⟨_, _, _, _, _, _, _, rfl, Walks.list (A := A.in1) hh _ l hlI (intItems xs), st, hfp, CmpOf.ints_gt (numAt xs) (fun _ _ => intItems_at), fun hn h' tk hk => ?_, fun hn v h' tk hP hk => ?_⟩
  · exact h0 (by simpa [intItems] using hn) h' tk (old_kept hk)
  · exact h (by simpa [intItems] using hn) v h' tk (by simpa [intItems] using hP) (old_kept hk)
end
section
variable {X : Cx}
/-- max of a tuple of numbers -/
theorem cr_maxT (hc : X.calm = true) : CallR X (.builtin "max") (fun vs H Q => ∃ (a : Addr) (ns : List Nat), vs = [V.ref a] ∧ H a = some (.tup (ns.map fun n : Nat => V.int (n : Nat))) ∧ 0 < ns.length ∧ Q (.int (mx ns : Nat)) H) := by
  intro pins s σ H vs us Q I r h
  obtain ⟨a, ns, rfl, ha, hne, q⟩ := h
  obtain ⟨its, rv, hl, _⟩ := I.tuple (.inl (.inl ha))
  rw [Vals.ref1 r]
  have e0 : (ns.map fun n : Nat => V.int (n : Nat)) = (ns.map fun n : Nat => ((n : Nat) : Int)).map V.int := by
    rw [List.map_map]
    rfl
  rw [e0] at rv
  have hi := rv.ints
  obtain ⟨xs, e⟩ := hi.allInts.items
  have hn : numsOf (intItems xs).toList = ns.map fun n : Nat => ((n : Nat) : Int) := by rw [← e]; exact hi.numsOf
  rw [nums_intItems] at hn
  have hl' : s.heap.IsTuple a (intItems xs) := by rw [← e]; exact hl
  have hz : 0 < xs.size := by
    have := congrArg List.length hn
    rw [List.length_map, List.length_map, Array.length_toList] at this
    omega
  refine max_tupG (I.ok.hd hc) hl' hz fun v h' tk hv hk => ?_
  obtain ⟨M, t, rfl, hm, hle⟩ := best_is (its := []) hn hz hv
  rw [big_nat hm hle]
  exact ⟨.int _, H, I.kept (t' := tk) hk, ⟨_, rfl⟩, q⟩
/-- max of a list of numbers -/
theorem cr_maxL (hc : X.calm = true) : CallR X (.builtin "max") (fun vs H Q => ∃ (a : Addr) (ns : List Nat), vs = [V.ref a] ∧ H a = some (.lst (ns.map fun n : Nat => V.int (n : Nat))) ∧ 0 < ns.length ∧ Q (.int (mx ns : Nat)) H) := by
  intro pins s σ H vs us Q I r h
  obtain ⟨a, ns, rfl, ha, hne, q⟩ := h
  refine cr_max hc pins s σ H _ us Q I r ⟨a, ns.map fun n : Nat => ((n : Nat) : Int), rfl, .inl (.inl (by rw [ha, List.map_map]; rfl)), by rw [List.length_map]; exact hne, fun m hm hle => ?_⟩
  rw [big_nat hm hle]
  exact q
/-- over a tuple, with the written part told apart -/
theorem pi_tupK {K : PySem.W.Frag} (hK : X.K = K) {tg l : Expr} {tl : TE} (hl : PE X l tl) : PI X tg l (iTup K tl) := by
  subst hK
  exact pi_tup hl
/-- n *= m -/
theorem ip_mul : PIp X .Mult (fun x y H Q => ∃ (k n : Nat), x = .int k ∧ y = .int n ∧ k < 2 ^ 1000 ∧ n < 2 ^ 1000 ∧ Q (.int ((k * n : Nat) : Int)) H) := by
  intro pins s σ H x y v u Q I r1 r2 h
  obtain ⟨k, n, e1, e2, h0, h1, q⟩ := h
  subst e1; subst e2
  obtain ⟨t, rfl⟩ := r1
  obtain ⟨t', rfl⟩ := r2
  rw [Int.natCast_mul] at q
  exact PyProof.Rows.imul_int ⟨.int _, H, I.tok _, ⟨_, rfl⟩, q⟩ (wide_mul (i := (k : Int)) (j := (n : Int)) (a := 1000) (b := 1000) h0 h1 (by decide) (by decide) (by decide)).ok
/-- max(list, default=number) -/
theorem pe_maxD {x : Str} {p kp pos : Pos} {e cst : Expr} {t : TA} {tc : TE} (hcalm : X.calm = true) (hg : Gl X x) (hm : X.mg x = none) (hv : bootBuiltins x = some (.builtin "max")) (ha : PA X [e] t) (hcst : PE X cst tc)
    (hn : x ≠ "__name__" := by decide) (hdb : (x == ("__debug__" : Str)) = false := by decide)
    (he : backTo pos (starEach [e] X.env) = (false, eval e X.env) :: backTo pos (starEach [] X.env) := by rfl) (hpl : (backTo pos (starEach [e] X.env)).any (·.1) = false := by rfl) :
    PE X (.Call (.Name x p) [e] [⟨some "default", cst, kp⟩] pos) (fun σ H Q => t σ H fun vs H1 => tc σ H1 fun d H2 => ∃ (a : Addr) (ns : List Nat), vs = [V.ref a] ∧ H2 a = some (.lst (ns.map fun n : Nat => V.int (n : Nat))) ∧ d = .int 0 ∧ Q (.int (mx ns : Nat)) H2) := by
  refine ⟨fun pins s σ H Q I h => ?_⟩
  refine wpAny_Call_Name_kw (ld_blt I hg hm hv ?_ hn hdb)
  refine PyProof.Rows.callWith_kw (thn (ha.run pos pins s σ H _ I h) fun us s1 ⟨vs, H1, I1, r1, q1⟩ => ?_) he hpl rfl rfl
  show wpAny _ _ (evalAll ((do let v ← eval cst X.env; standAt pos; pure v) :: [])) _ _ s1
  refine wpAny_evalAll_cons (wpAny_bind (wpAny_mono (hcst.run pins s1 σ H1 _ I1 q1) (fun dv s2 h2 => ?_) fun _ _ e => e))
  obtain ⟨d, H2, I2, rd, q2⟩ := h2
  refine wpAny_bind (wpAny_standAt (wpAny_pure ?_))
  refine wpAny_evalAll_nil ?_
  obtain ⟨a, ns, rfl, hs, rfl, q⟩ := q2
  obtain ⟨td, rfl⟩ := rd
  rw [Vals.ref1 r1]
  show wpAny _ _ (call (.builtin "max") [.ref a] [(Str.ofString "default", .int 0 td)]) _ _ s2
  obtain ⟨its, rv, hl, _⟩ := I2.list (.inl (.inl hs))
  have e0 : (ns.map fun n : Nat => V.int (n : Nat)) = (ns.map fun n : Nat => ((n : Nat) : Int)).map V.int := by
    rw [List.map_map]
    rfl
  rw [e0] at rv
  have hi := rv.ints
  obtain ⟨xs, ex⟩ := hi.allInts.items
  have hn' : numsOf (intItems xs).toList = ns.map fun n : Nat => ((n : Nat) : Int) := by rw [← ex]; exact hi.numsOf
  rw [nums_intItems] at hn'
  have hl' : s2.heap.IsList a (intItems xs) := by rw [← ex]; exact hl.isList
  refine max_listD (I2.ok.hd hcalm) hl' (fun h0 h' tk hk => ?_) fun hz v h' tk hv hk => ?_
  · have en : ns = [] := List.length_eq_zero_iff.mp (by
      have := congrArg List.length hn'
      rw [List.length_map, List.length_map, Array.length_toList] at this
      omega)
    subst en
    exact ⟨.int _, H2, I2.kept (t' := tk) hk, ⟨_, rfl⟩, q⟩
  · obtain ⟨M, t', rfl, hm', hle⟩ := best_is (its := []) hn' hz hv
    rw [big_nat hm' hle] at *
    exact ⟨.int _, H2, I2.kept (t' := tk) hk, ⟨_, rfl⟩, q⟩
end
end CK

set_option linter.all false
namespace CK
open PySem PySem.Spec PyProof.Rows L2
section
variable {X : Cx}
/-- s += t -/
theorem ip_addS : PIp X .Add (fun x y H Q => ∃ i j, x = .str i ∧ y = .str j ∧ i.length + j.length ≤ sizeLine ∧ Q (.str (i ++ j)) H) := by
  intro pins s σ H x y v u Q I r1 r2 h
  obtain ⟨i, j, e1, e2, hz, q⟩ := h
  subst e1; subst e2
  obtain ⟨t, rfl⟩ := r1
  obtain ⟨t', rfl⟩ := r2
  exact iadd_str (fun t' tk => ⟨.str (i ++ j), H, I.tok _, ⟨_, rfl⟩, q⟩) hz
/-- == of data within a comprehension -/
theorem op_eqDK {K : PySem.W.Frag} (hK : X.K = K) (hu : X.A.units + 64 < cLine) : OpR X (compareOp .Eq) (rEqD K) := by
  subst hK
  exact op_eqD hu
end
end CK

set_option Elab.async false
set_option linter.all false
set_option maxRecDepth 100000
set_option maxHeartbeats 4000000
namespace K67
open PySem PySem.Spec PyProof.Rows L2 CK SX NM
theorem okr_v0 {m : Nat} {p : Pn} (h : OkR m p) : v0 p ≤ measP p := by
  unfold v0 measP
  have : 1 ≤ p.2.headD 0 + if isOpen p.2 = true then 1 else 0 := by
    rcases h.any_open with e | e
    · rw [e, if_pos rfl]; omega
    · omega
  exact Nat.le_trans (Nat.le_of_eq (Nat.mul_one _).symm) (Nat.mul_le_mul_left _ this)
theorem sum_le_sum {e f : Pn → Nat} : ∀ {l : List Pn}, (∀ p ∈ l, e p ≤ f p) → (l.map e).sum ≤ (l.map f).sum
  | [], _ => Nat.le_refl _
  | p :: r, h => by
    have a := sum_le_sum (l := r) fun q hq => h q (List.mem_cons_of_mem _ hq)
    have b := h p List.mem_cons_self
    rw [List.map_cons, List.map_cons, List.sum_cons, List.sum_cons]
    omega
theorem Pcs.setAt {H : Hp} {a : Addr} {p' : Pn} : ∀ {us : List V} {ps : List Pn} (j : Nat), Pcs H us ps → PC H a p' → Pcs H (us.set j (.ref a)) (ps.set j p')
  | _, _, _, .nil, _ => by rw [List.set_nil, List.set_nil]; exact .nil
  | _, _, 0, .cons h t, hp => .cons hp t
  | _, _, j + 1, .cons h t, hp => .cons h (Pcs.setAt j t hp)
theorem set_mid (pre post : List Pn) (u u' : Pn) : (pre ++ [u] ++ post).set pre.length u' = pre ++ [u'] ++ post := by
  rw [List.append_assoc, List.set_append_right _ _ (Nat.le_refl _), Nat.sub_self]
  simp
theorem get_mid (pre post : List Pn) (u : Pn) : (pre ++ [u] ++ post)[pre.length]? = some u := by
  rw [List.append_assoc, List.getElem?_append_right (Nat.le_refl _), Nat.sub_self]
  rfl
theorem gath0_v0 {m : Nat} {ps : List Pn} (h : ∀ p ∈ ps, OkR m p) : ((gath ps).out.map v0).sum ≤ (ps.map v0).sum := gath_le v0 (fun u p _ _ _ _ => by
  rw [cons0_sum]
  show u.1.length + (if _ then 0 else p.1.length) ≤ u.1.length + p.1.length
  split <;> omega) h
theorem gath_len {m : Nat} {ps : List Pn} (h : ∀ p ∈ ps, OkR m p) : (gath ps).out.length ≤ ps.length := by
  have := gath_le (fun _ => 1) (fun u p _ _ _ _ => by rw [cons0_sum]; split <;> omega) h
  rw [sum_one, sum_one] at this
  exact this
theorem st_0 : (V.str "") = V.str (S []) := by decide +kernel
/-- the names beside a state -/
def Rp (s : GS) (X : List Nat) (lv : V) : Prop := match s.last with
  | none => X = [] ∧ lv = .non
  | some u => lv = .int (s.pre.length : Nat)
theorem ixN_nat {n j : Nat} (h : j < n) : ixN n (j : Int) = some j := by
  unfold ixN
  rw [if_pos (by omega), if_pos (by omega), Int.toNat_natCast]
theorem stepG_shut {s : GS} {p : Pn} (h : isOpen p.2 = false) : stepG s p = ⟨s.pre, s.last, s.post ++ [p], s.bare ++ WM.pw p.1 (p.2.headD 0)⟩ := by
  unfold stepG
  rw [h, if_neg Bool.false_ne_true]
theorem stepG_new {s : GS} {p : Pn} (h : isOpen p.2 = true) (no : ∀ u, s.last = some u → ¬ Sam u.1 s.bare p.1) : stepG s p = ⟨s.out, some p, [], WM.pw p.1 (p.2.headD 0)⟩ := by
  obtain ⟨pre, last, post, z⟩ := s
  unfold stepG
  rw [h, if_pos rfl]
  cases last with
  | none =>
    show GS.mk (pre ++ post) _ _ _ = GS.mk (pre ++ [] ++ post) _ _ _
    rw [List.append_nil]
  | some u =>
    show (if Sam u.1 z p.1 then _ else _) = _
    rw [if_neg (no u rfl)]
    rfl
theorem stepG_same {pre post : List Pn} {u p : Pn} {z : List Nat} (h : isOpen p.2 = true) (c : Sam u.1 z p.1) : stepG ⟨pre, some u, post, z⟩ p = ⟨pre, some (u.1, addF u.2 (0 :: p.2.tail)), post ++ cons0 p, z ++ WM.pw p.1 (p.2.headD 0)⟩ := by
  unfold stepG
  rw [h, if_pos rfl]
  show (if Sam u.1 z p.1 then _ else _) = _
  rw [if_pos c]
section
variable {P : Program} {w : World} {K : PySem.W.Frag} {mg : Str → Option Value} {base : Heap} {C : Addr}
def sp_gath : Sp := fun vs H Q _ => ∃ (l : Addr) (ps : List Pn) (m : Nat), vs = [.ref l] ∧ PL H l ps ∧ (∀ p ∈ ps, OkR m p) ∧ m ≤ 3 ∧ ps.length ≤ 5000 ∧ meas ps ≤ 5000 ∧ ∀ r H', NewL H H' r (gath ps).out → Q (.ref r) H'
theorem c_powers_gathered (T : Txt K mg C) : C8.Cal P w K mg base 4 "powers_gathered" sp_gath [] := by
  refine calF T.d_powers_gathered sc_powers_gathered (fun vs H Q E h => ?_) (fun f cdv A outer s H vs Q E hr h => ?_)
  · obtain ⟨_, _, _, rfl, _⟩ := h; rfl
  · obtain ⟨l, ps, m, rfl, ⟨vs, hl, hp⟩, ok, m3, few, hme, q⟩ := h
    have lv := hp.len
    refine ⟨_, (pss_cons (ps_set (i := 1) sc_powers_gathered.nd rfl (Or.inl rfl) (pe_lst pa_nil))
    (pss_cons (ps_asg (pe_tup (pa_cons pe_non (pa_cons pe_int (pa_cons pe_str pa_nil)))) (pg_tup rfl (pgs_cons (pg_name (i := 2) sc_powers_gathered.nd rfl (Or.inl rfl)) (pgs_cons (pg_name (i := 3) sc_powers_gathered.nd rfl (Or.inl rfl)) (pgs_cons (pg_name (i := 4) sc_powers_gathered.nd rfl (Or.inl rfl)) pgs_nil)))))
    (pss_cons (ps_for PassesOwn.never rfl (pi_list (pv 0)) (pg_two (K := K) (i := 5) (j := 6) rfl rfl sc_powers_gathered.nd rfl rfl (Or.inl rfl) (Or.inl rfl))
    (pss_cons (ps_if (pt_val (C8.pe_c (c_is_open_form T) hr (by decide) (by rfl) (pa_cons (pv 6) pa_nil)))
    (pss_one (ps_if (PW.pt (pw_and (pt_cmpR op_notN (pv 2) pe_non (nomark _)) (pw_and1 (pt_val (C8.pe_c (c_is_same_power T) hr (by decide) (by rfl) (pa_cons (pe_ix ix_tup (pe_ix ix_list (pv 1) (pv 2) (fun _ _ => rfl)) pe_int (fun _ _ => rfl)) (pa_cons (pe_slice C8.sl_txt (pv 4) (po_some (pv 3)) po_none) (pa_cons (pv 5) pa_nil))))))))
    (pss_cons (ps_asg (pe_tup (pa_cons (pe_ix ix_tup (pe_ix ix_list (pv 1) (pv 2) (fun _ _ => rfl)) pe_int (fun _ _ => rfl)) (pa_cons (C8.pe_c (c_form_sum T) hr (by decide) (by rfl) (pa_cons (pe_ix ix_tup (pe_ix ix_list (pv 1) (pv 2) (fun _ _ => rfl)) pe_int (fun _ _ => rfl)) (pa_cons (pe_op op_catS (pe_tup (pa_cons pe_int pa_nil)) (pe_slice sl_drop (pv 6) (po_some pe_int) po_none)) pa_nil))) pa_nil))) (pg_sub (pv 1) (pv 2) set_list))
    (pss_one (ps_set (i := 6) sc_powers_gathered.nd rfl (Or.inl rfl) (C8.pe_c (c_plain_form T) hr (by decide) (by rfl) (pa_cons (pe_ix ix_tup (pv 6) pe_int (fun _ _ => rfl)) (pa_cons (pe_op op_sub (pe_callB call_len_seq (by rfl) T.m_len (by decide +kernel) (pa_cons (pv 6) pa_nil)) pe_int) pa_nil))))))
    (pss_one (ps_par (i := 2) (j := 3) (by rfl) sc_powers_gathered.nd rfl rfl (by decide) rfl rfl (pa_cons (pe_callB call_len_seq (by rfl) T.m_len (by decide +kernel) (pa_cons (pv 1) pa_nil)) (pa_cons (pe_callB call_len_str (by rfl) T.m_len (by decide +kernel) (pa_cons (pv 4) pa_nil)) pa_nil)) (by rfl)))))
    pss_nil)
    (pss_cons (ps_aug (i := 4) sc_powers_gathered.nd rfl (.inl rfl) (pe_op op_repM (pv 5) (pe_ix ix_tup (pv 6) pe_int (fun _ _ => rfl))) ip_addS)
    (pss_one (ps_if (pt_val (pe_callB (cr_anyN rfl) (by rfl) T.m_any (by decide +kernel) (pa_cons (pv 6) pa_nil)))
    (pss_one (ps_expr (pe_bm PySem.F.plainAttrs_list PySem.F.slot_list_append PySem.F.type_list_append mt_append (pv 1) (pa_cons (pe_tup (pa_cons (pv 5) (pa_cons (pv 6) pa_nil))) pa_nil))))
    pss_nil)))))
    (pss_one (ps_ret (pv 1)))))), ?_⟩
    refine ⟨by show 0 ≤ sizeLine; omega, fun r hr0 => ?_⟩
    have rl : r ≠ l := fun z => by rw [z, hl] at hr0; cases hr0
    have s0 := sameNew (o := .lst []) hr0
    have hr1 : upd H r (.lst []) r = some (.lst []) := upd_same
    generalize upd H r (.lst []) = H1 at s0 hr1
    refine ⟨by show 3 ≤ sizeLine; decide, fun t1 n1 => ?_⟩
    have s1 := sameNew (o := .tup [.non, .int 0, .str ""]) n1
    have hr2 := s1 _ _ hr1
    have s01 := s0.trans s1
    refine ⟨t1, _, rfl, .inl (.inl upd_same), rfl, _, _, rfl, _, _, rfl, _, _, rfl, rfl, ?_⟩
    generalize upd H1 t1 (.tup [.non, .int 0, .str ""]) = H2 at s1 hr2 s01
    refine ⟨_, rfl, l, rfl, ⟨_, .inl (.inl (s01 _ _ hl))⟩, for_list (K := K) (a := l) (xs := vs) (fun i σ H' => Same H H' ∧ ∃ (X : List Nat) (lv : V) (y5 y6 : Option V), σ = [some (.ref l), some (.ref r), some lv, some (.int (X.length : Nat)), some (.str (S (X ++ (gath (ps.take i)).bare))), y5, y6] ∧ PL H' r (gath (ps.take i)).out ∧ Rp (gath (ps.take i)) X lv ∧ (X ++ (gath (ps.take i)).bare).length ≤ meas (ps.take i))
      ⟨s01, [], .non, none, none, by show _ = _; exact congrArg (fun v => [some (V.ref l), some (.ref r), some .non, some (.int 0), some v, none, none]) st_0, ⟨[], hr2, .nil⟩, ⟨rfl, rfl⟩, Nat.zero_le _⟩ (fun i σ H' _ p => .inl (.inl (p.1 _ _ hl))) (fun i y σ H' hi pI => ?_) (fun σ H' pI => ?_)⟩
    · obtain ⟨s3, X, lv', y5, y6, rfl, pl, rp, lX⟩ := pI
      obtain ⟨a, p, rfl, hpi, pc⟩ := hp.get hi
      have mem := List.mem_of_getElem? hpi
      have op := ok p mem
      have lp := op.len
      obtain ⟨fa, h1, h2⟩ := pc.mono (tup_same s3)
      have okT : ∀ p ∈ ps.take i, OkR m p := fun q hq => ok q (List.mem_of_mem_take hq)
      have okG := gath_ok okT
      have lG := gath_len okT
      have vG := gath0_v0 okT
      have vT := take_sum v0 ps i
      have vM : (ps.map v0).sum ≤ meas ps := sum_le_sum fun q hq => okr_v0 (ok q hq)
      have wG : ∀ q ∈ (gath (ps.take i)).out, q.1.length ≤ 5000 := fun q hq => by
        have : v0 q ≤ _ := mem_sum v0 hq
        have e : v0 q = q.1.length := rfl
        omega
      have wp : p.1.length ≤ 5000 := by
        have : v0 p ≤ _ := mem_sum v0 mem
        have e : v0 p = p.1.length := rfl
        omega
      rw [List.length_take] at lG
      have eg : gath (ps.take (i + 1)) = stepG (gath (ps.take i)) p := by
        rw [List.take_succ, hpi]
        unfold gath
        rw [List.foldl_append]
        rfl
      have em : meas (ps.take (i + 1)) = meas (ps.take i) + measP p := by
        rw [List.take_succ, hpi, meas_app]
        show _ + meas [p] = _
        simp [meas]
      have tM : meas (ps.take (i + 1)) ≤ meas ps := by
        have := take_sum measP ps (i + 1)
        exact this
      rw [eg]
      rw [em] at tM ⊢
      clear eg em vG vT
      generalize gath (ps.take i) = gs at pl rp lX okG lG wG
      generalize meas (ps.take i) = M at lX tM
      obtain ⟨us, hus, pus⟩ := id pl
      have lus := pus.len
      have mP : p.1.length * p.2.headD 0 ≤ measP p := by unfold measP; exact Nat.mul_le_mul_left _ (by omega)
      refine ⟨a, _, rfl, .inl (.inl h1), rfl, _, _, rfl, _, _, rfl, rfl, ?_⟩
      refine cut_seq (fun σ' H3 => ∃ (X' : List Nat) (L : List Pn) (g : F) (fb : Addr) (lv2 : V), σ' = [some (.ref l), some (.ref r), some lv2, some (.int (X'.length : Nat)), some (.str (S (X ++ gs.bare))), some (.str (S p.1)), some (.ref fb)] ∧ SameX r H' H3 ∧ PL H3 r L ∧ L.length = gs.out.length ∧ FT H3 fb g ∧ g.length = m + 1 ∧ g.headD 0 = p.2.headD 0 ∧
        (stepG gs p).out = L ++ (if (g.any fun x => decide (x ≠ 0)) = true then [(p.1, g)] else []) ∧ X ++ gs.bare ++ WM.pw p.1 (g.headD 0) = X' ++ (stepG gs p).bare ∧ Rp (stepG gs p) X' lv2) (fun K' hK => ?_) fun σ' H3 pM => ?_
      · refine ⟨_, rfl, fa, p.2, rfl, h2, fun H3 s4 => ⟨_, rfl, ?_⟩⟩
        have hus4 := s4 _ _ hus
        have h24 := h2.same s4
        have pus4 := pus.same s4
        have anyT : (p.2.any fun x => decide (x ≠ 0)) = true := by
          obtain ⟨x, hx, hz⟩ := op.any
          exact List.any_eq_true.mpr ⟨x, hx, decide_eq_true hz⟩
        cases ho : isOpen p.2 with
        | false =>
          refine iteF (hK _ _ ⟨X, gs.out, p.2, fa, lv', rfl, .of s4, ⟨us, hus4, pus4⟩, rfl, h24, lp, rfl, ?_, ?_, ?_⟩)
          · rw [stepG_shut ho, anyT, if_pos rfl]
            show gs.pre ++ gs.last.toList ++ (gs.post ++ [p]) = _
            rw [← List.append_assoc]
            rfl
          · rw [stepG_shut ho, List.append_assoc]
          · rw [stepG_shut ho]
            exact rp
        | true =>
          refine iteT ?_
          have new : (∀ u, gs.last = some u → ¬ Sam u.1 gs.bare p.1) → K' [some (.ref l), some (.ref r), some (.int (us.length : Nat)), some (.int ((S (X ++ gs.bare)).length : Nat)), some (.str (S (X ++ gs.bare))), some (.str (S p.1)), some (.ref fa)] H3 := fun no => by
            rw [lus, S_len]
            refine hK _ _ ⟨X ++ gs.bare, gs.out, p.2, fa, _, rfl, .of s4, ⟨us, hus4, pus4⟩, rfl, h24, lp, rfl, ?_, ?_, ?_⟩
            · rw [stepG_new ho no, anyT, if_pos rfl]
              show gs.out ++ [p] ++ [] = _
              rw [List.append_nil]
            · rw [stepG_new ho no]
            · rw [stepG_new ho no]
              exact rfl
          obtain ⟨pre, last, post, z⟩ := gs
          cases last with
          | none =>
            obtain ⟨rfl, rfl⟩ := rp
            refine ⟨_, rfl, rfl, false, rfl, iteF (iteF ?_)⟩
            refine ⟨_, rfl, r, us, rfl, .inl (.inl (.inl hus4)), _, rfl, S _, rfl, len_line (by omega), ?_⟩
            exact ⟨_, _, rfl, new fun u hu => by cases hu⟩
          | some u =>
            have rp : lv' = .int (pre.length : Nat) := rp
            subst rp
            have okU : OkR m u := okG u (by show u ∈ pre ++ [u] ++ post; simp)
            have wU : u.1.length ≤ 5000 := wG u (by show u ∈ pre ++ [u] ++ post; simp)
            have gu : (pre ++ [u] ++ post)[pre.length]? = some u := get_mid pre post u
            have lt : pre.length < us.length := by rw [lus]; exact (List.getElem?_eq_some_iff.mp gu).1
            have hb := List.getElem?_eq_getElem lt
            obtain ⟨b, u', eb, hu', pcu⟩ := pus4.get hb
            have : u = u' := Option.some.inj (gu.symm.trans hu')
            subst this
            rw [eb] at hb
            obtain ⟨fu, g1, g2⟩ := id pcu
            have dz : (X ++ z).drop X.length = z := List.drop_left
            have lz : z.length ≤ 5000 := by rw [List.length_append] at lX; have lX : X.length + z.length ≤ M := lX; omega
            refine ⟨_, rfl, rfl, true, rfl, iteT ?_⟩
            refine ⟨_, rfl, _, rfl, r, _, (pre.length : Nat), _, rfl, rfl, .inl (.inl hus4), atI_nat hb, b, _, 0, _, rfl, rfl, .inl (.inl g1), atI_nat (j := 0) rfl, ?_⟩
            refine ⟨_, rfl, _, rfl, _, rfl, S (X ++ z), rfl, len_line (by have lX : (X ++ z).length ≤ M := lX; omega), ?_⟩
            rw [SX.slice_from (by omega), Int.toNat_natCast, dz]
            refine ⟨_, rfl, u.1, z, p.1, rfl, okU.ne, op.ne, by omega, by omega, by omega, _, rfl, ite2 (fun e => ?_) (fun e => ?_)⟩
            · have c : Sam u.1 z p.1 := of_decide_eq_true e
              have hgl : (p.2.headD 0 :: List.replicate (p.2.length - 1) 0 : F) = p.2.headD 0 :: List.replicate m 0 := by rw [show p.2.length - 1 = m by omega]
              refine ⟨_, rfl, _, rfl, r, _, (pre.length : Nat), _, rfl, rfl, .inl (.inl hus4), atI_nat hb, b, _, 0, _, rfl, rfl, .inl (.inl g1), atI_nat (j := 0) rfl, ?_⟩
              refine ⟨_, rfl, _, rfl, r, _, (pre.length : Nat), _, rfl, rfl, .inl (.inl hus4), atI_nat hb, b, _, 1, _, rfl, rfl, .inl (.inl g1), atI_nat (j := 1) rfl, ?_⟩
              refine ⟨by show 1 ≤ sizeLine; decide, fun t1 n1 => ?_⟩
              have st1 := sameNew (o := .tup [V.int 0]) n1
              refine ⟨_, rfl, 1, rfl, fa, _, 1, rfl, rfl, rfl, st1 _ _ h24, fun p4 H4 s5 h4 => ?_⟩
              have l4 : ((p.2.map fun n : Nat => V.int (n : Nat)).drop 1).length ≤ 4 := by rw [List.length_drop, List.length_map]; omega
              refine ⟨t1, p4, _, _, rfl, rfl, s5 _ _ upd_same, h4, Nat.le_trans (Nat.add_le_add_left l4 1) (by decide), fun p5 H5 s6 h5 => ?_⟩
              have hF5 : FT H5 p5 (0 :: p.2.tail) := by
                unfold FT
                obtain ⟨x, f, ef⟩ : ∃ x f, p.2 = x :: f := by
                  cases e : p.2 with
                  | nil => rw [e] at lp; simp at lp
                  | cons x f => exact ⟨x, f, rfl⟩
                rw [h5, ef]
                rfl
              have s15 := (st1.trans s5).trans s6
              refine ⟨fu, p5, u.2, 0 :: p.2.tail, rfl, s15 _ _ g2, hF5, by rw [okU.len]; omega, by rw [okU.len, List.length_cons, List.length_tail]; omega, fun p6 H6 s7 h6 => ⟨by show 2 ≤ sizeLine; decide, fun t7 n7 => ?_⟩⟩
              have st7 := sameNew (o := .tup [.str (S u.1), .ref p6]) n7
              have s17 := (s15.trans s7).trans st7
              have hus7 := s17 _ _ hus4
              have h27 : FT (upd H6 t7 (.tup [.str (S u.1), .ref p6])) fa p.2 := h24.same s17
              have pc7 : PC (upd H6 t7 (.tup [.str (S u.1), .ref p6])) t7 (u.1, addF u.2 (0 :: p.2.tail)) := ⟨p6, upd_same, st7 _ _ h6⟩
              have pus7 := (pus4.same s17).setAt pre.length pc7
              rw [show GS.out ⟨pre, some u, post, z⟩ = pre ++ [u] ++ post from rfl, set_mid] at pus7
              generalize upd H6 t7 (.tup [.str (S u.1), .ref p6]) = H7 at s17 hus7 h27 pus7
              refine ⟨_, rfl, _, rfl, r, us, (pre.length : Nat), pre.length, rfl, rfl, hus7, ?_, ?_⟩
              · exact ixN_nat lt
              have h28 : FT (upd H7 r (.lst (us.set pre.length (.ref t7)))) fa p.2 := tup_upd hus7 _ _ h27
              have pus8 := pus7.upd (ys := us.set pre.length (.ref t7)) hus7
              refine ⟨_, rfl, fa, _, 0, _, rfl, rfl, .inl (.inl h28), atI_nat (j := 0) (head_get lp), _, rfl, fa, _, rfl, .inr (.inl (.inl h28)), _, _, rfl, rfl, m, p.2.headD 0, ?_, m3, fun p8 H8 s8 h8 => ?_⟩
              · rw [List.length_map, lp]
                show [V.int _, V.int _] = [V.int _, V.int _]
                rw [show (((m + 1 : Nat) : Int)) - 1 = (m : Int) by omega]
              refine hK _ _ ⟨X, pre ++ [(u.1, addF u.2 (0 :: p.2.tail))] ++ post, p.2.headD 0 :: List.replicate m 0, p8, _, rfl, ?_, ⟨_, s8 _ _ upd_same, pus8.same s8⟩, by simp [GS.out], h8, by simp, rfl, ?_, ?_, ?_⟩
              · exact fun b' o hb' e' => s8 _ _ (by rw [upd_ne hb']; exact s17 _ _ (s4 _ _ e'))
              · rw [stepG_same ho c]
                show pre ++ [_] ++ (post ++ cons0 p) = _
                rw [← List.append_assoc]
                congr 1
                unfold cons0
                rw [hgl]
                by_cases z0 : p.2.headD 0 = 0
                · rw [if_pos z0, z0, if_neg]
                  simp
                · rw [if_neg z0, if_pos]
                  rw [List.any_cons, decide_eq_true z0, Bool.true_or]
              · rw [stepG_same ho c, List.append_assoc]
                rfl
              · rw [stepG_same ho c]
                exact rfl
            · have c : ¬ Sam u.1 z p.1 := of_decide_eq_false (by cases h : decide (Sam u.1 z p.1) with | true => exact absurd h e | false => rfl)
              refine ⟨_, rfl, r, us, rfl, .inl (.inl (.inl hus4)), _, rfl, S _, rfl, len_line (by have lX : (X ++ z).length ≤ M := lX; omega), ?_⟩
              exact ⟨_, _, rfl, new fun u2 hu2 => by cases hu2; exact c⟩
      · obtain ⟨X', L, g, fb, lv2, rfl, sX, plL, lL, hfb, lg, hg, eo, eb, rp2⟩ := pM
        obtain ⟨ws, hws, pws⟩ := id plL
        have lws := pws.len
        have lpw : (WM.pw p.1 (g.headD 0)).length = p.1.length * p.2.headD 0 := by rw [WM.pw_len, hg]
        have g0 : g.headD 0 ≤ p.1.length * p.2.headD 0 := by
          rw [hg]
          exact Nat.le_mul_of_pos_left _ (List.length_pos_iff.mpr op.ne)
        refine ⟨_, rfl, _, rfl, _, rfl, fb, _, 0, _, rfl, rfl, .inl (.inl hfb), atI_nat (j := 0) (head_get lg), p.1, g.headD 0, rfl, rfl, by omega, by omega, by rw [hg, Nat.mul_comm]; omega, ?_⟩
        refine ⟨_, _, rfl, rfl, ?_, ?_⟩
        · rw [S_len, S_len]
          have : (List.replicate (g.headD 0) p.1).flatten.length = _ := lpw
          rw [this, sizeLine_eq]
          omega
        rw [S_cat]
        have eb' : X ++ gs.bare ++ (List.replicate (g.headD 0) p.1).flatten = X' ++ (stepG gs p).bare := eb
        have lb := congrArg List.length eb
        rw [List.length_append, lpw] at lb
        rw [eb', eo]
        refine ⟨_, rfl, fb, g, rfl, hfb, _, rfl, ?_⟩
        have sH : Same H H3 := fun b o e => sX _ _ (fun z => by rw [z, hr0] at e; cases e) (s3 _ _ e)
        have ll : (X' ++ (stepG gs p).bare).length ≤ M + measP p := by omega
        cases ag : g.any fun x => decide (x ≠ 0) with
        | false => exact iteF ⟨sH, X', lv2, _, _, rfl, by rw [if_neg Bool.false_ne_true, List.append_nil]; exact plL, rp2, ll⟩
        | true =>
          refine iteT ⟨_, rfl, .inl ⟨rfl, _, .inl (.inl hws)⟩, _, rfl, _, rfl, by show 2 ≤ sizeLine; decide, fun t4 n4 => ?_⟩
          have st := sameNew (o := .tup [.str (S p.1), .ref fb]) n4
          have hws4 := st _ _ hws
          refine ⟨r, _, _, rfl, rfl, hws4, by rw [lws, sizeLine_eq]; omega, ?_⟩
          refine ⟨same_updN (sH.trans st) hr0, X', lv2, _, _, rfl, ?_, rp2, ll⟩
          rw [if_pos rfl]
          exact ⟨_, upd_same, ((pws.same st).upd hws4).app (.one ⟨fb, tup_upd hws4 _ _ upd_same, tup_upd hws4 _ _ (st _ _ hfb)⟩)⟩
    · obtain ⟨s3, X, lv', y5, y6, rfl, pl, rp, lX⟩ := pI
      rw [lv, List.take_length] at pl
      exact ⟨_, rfl, q r H' ⟨s3, hr0, pl⟩⟩
end
end K67

set_option Elab.async false
set_option linter.all false
set_option maxRecDepth 100000
set_option maxHeartbeats 4000000
namespace K67
open PySem PySem.Spec PyProof.Rows L2 CK SX NM
/-! letters, measure and numbers of what leaned returns -/
theorem low_stepG {s : GS} {p : Pn} (h : ∀ q ∈ s.out, Low q.1) (hp : Low p.1) : ∀ q ∈ (stepG s p).out, Low q.1 := by
  cases ho : isOpen p.2 with
  | false =>
    rw [stepG_shut ho]
    intro q hq
    have hq : q ∈ s.pre ++ s.last.toList ++ (s.post ++ [p]) := hq
    rw [← List.append_assoc] at hq
    rcases List.mem_append.mp hq with x | x
    · exact h q x
    · rw [List.mem_singleton.mp x]; exact hp
  | true =>
    by_cases c : ∃ u, s.last = some u ∧ Sam u.1 s.bare p.1
    · obtain ⟨u, e, c⟩ := c
      obtain ⟨pre, last, post, z⟩ := s
      have e : last = some u := e
      subst e
      rw [stepG_same ho c]
      intro q hq
      have hq : q ∈ pre ++ [(u.1, addF u.2 (0 :: p.2.tail))] ++ (post ++ cons0 p) := hq
      rcases List.mem_append.mp hq with x | x
      · rcases List.mem_append.mp x with x | x
        · exact h q (by show q ∈ pre ++ [u] ++ post; simp [x])
        · rw [List.mem_singleton.mp x]; exact h u (by show u ∈ pre ++ [u] ++ post; simp)
      · rcases List.mem_append.mp x with x | x
        · exact h q (by show q ∈ pre ++ [u] ++ post; simp [x])
        · unfold cons0 at x
          split at x
          · cases x
          · rw [List.mem_singleton.mp x]; exact hp
    · rw [stepG_new ho fun u e c' => c ⟨u, e, c'⟩]
      intro q hq
      have hq : q ∈ s.out ++ [p] ++ [] := hq
      rw [List.append_nil] at hq
      rcases List.mem_append.mp hq with x | x
      · exact h q x
      · rw [List.mem_singleton.mp x]; exact hp
theorem low_gath : ∀ (ps : List Pn) (s : GS), (∀ q ∈ s.out, Low q.1) → LowP ps → ∀ q ∈ (ps.foldl stepG s).out, Low q.1
  | [], _, h, _ => h
  | p :: ps, s, h, hp => low_gath ps _ (low_stepG h (hp p List.mem_cons_self)) fun q hq => hp q (List.mem_cons_of_mem _ hq)
theorem low_joinL {m : Nat} : ∀ (ps acc : List Pn), LowP acc → LowP ps → (∀ p ∈ ps, p.2.length = m + 1) → LowP (ps.foldl stepJ acc)
  | [], _, h, _, _ => h
  | p :: ps, acc, h, hp, hl => by
    refine low_joinL ps _ ?_ (fun q hq => hp q (List.mem_cons_of_mem _ hq)) fun q hq => hl q (List.mem_cons_of_mem _ hq)
    have h0 := hp p List.mem_cons_self
    rcases stepJ_cases (acc := acc) (hl p List.mem_cons_self) with ⟨e, _⟩ | ⟨B, q, rfl, _, _, e⟩
    · rw [e]
      intro x hx
      rcases List.mem_append.mp hx with y | y
      · exact h x y
      · rw [List.mem_singleton.mp y]; exact h0
    · rw [e]
      intro x hx
      rcases List.mem_append.mp hx with y | y
      · exact h x (List.mem_append_left _ y)
      · rw [List.mem_singleton.mp y]
        exact low_app (h q (by simp)) h0
theorem low_leanL {m : Nat} {ps : List Pn} (hl : LenF m ps) (h : LowP ps) : LowP (leanL ps) := by
  have hr : LowP (rootedL ps) := fun p hp => by
    obtain ⟨q, hq, rfl⟩ := List.mem_map.mp hp
    have := h q (List.mem_filter.mp hq).1
    unfold rootP
    split
    · exact low_take this _
    · exact this
  exact low_joinL (m := m) _ [] (fun p hp => absurd hp List.not_mem_nil) (low_gath _ _ (fun p hp => absurd hp List.not_mem_nil) hr) fun p hp => (gath_ok (rootedL_ok hl) p hp).len
theorem meas_rootP {p : Pn} (hk : keepR p = true) : measP (rootP p) ≤ measP p := by
  unfold rootP
  cases ho : isOpen p.2 with
  | false => exact Nat.le_refl _
  | true =>
    have hn := (keepR_iff.mp hk).1
    show measP (p.1.take (WM.rootN p.1), timesF (p.1.length / WM.rootN p.1) p.2) ≤ _
    unfold measP
    rw [show isOpen (p.1.take (WM.rootN p.1), timesF (p.1.length / WM.rootN p.1) p.2).2 = true from by rw [show (p.1.take (WM.rootN p.1), timesF (p.1.length / WM.rootN p.1) p.2).2 = timesF (p.1.length / WM.rootN p.1) p.2 from rfl, open_timesA (root_times hn)]; exact ho, ho, if_pos rfl]
    have hd : (timesF (p.1.length / WM.rootN p.1) p.2).headD 0 = (p.1.length / WM.rootN p.1) * p.2.headD 0 := by
      unfold timesF
      cases p.2 with
      | nil => rfl
      | cons a f => rfl
    show (p.1.take (WM.rootN p.1)).length * ((timesF (p.1.length / WM.rootN p.1) p.2).headD 0 + 1) ≤ p.1.length * (p.2.headD 0 + 1)
    rw [hd, List.length_take, Nat.min_eq_left (WM.rootN_le hn), Nat.mul_add, Nat.mul_add, ← Nat.mul_assoc, Nat.mul_div_cancel' (WM.rootN_dvd p.1)]
    have := WM.rootN_le hn
    omega
theorem meas_rooted {m : Nat} {ps : List Pn} (hl : LenF m ps) : meas (rootedL ps) ≤ meas ps := rootedL_sum measP (fun p _ hk => meas_rootP hk) ps hl
theorem mea_shut (z : List Nat) (k m : Nat) : measP (z, k :: List.replicate m 0) = z.length * k := by
  unfold measP
  rw [open_rep0]
  rfl
theorem meas_leanL {m : Nat} {ps : List Pn} (hl : LenF m ps) : meas (leanL ps) ≤ meas ps := by
  refine leanL_sum measP (fun p _ hk => meas_rootP hk) (fun u p hu hp ou op => ?_) (fun u v _ _ => ?_) hl
  · have e1 : measP (u.1, addF u.2 (0 :: p.2.tail)) = measP u := by
      unfold measP
      rw [show isOpen (u.1, addF u.2 (0 :: p.2.tail)).2 = true from sum_open hu hp op, ou]
      show u.1.length * ((addF u.2 (0 :: p.2.tail)).headD 0 + _) = _
      rw [addF_head (by rw [hu.len, List.length_tail, hp.len]; omega)]
    have e2 : ((cons0 p).map measP).sum ≤ measP p := by
      rw [cons0_sum]
      split
      · omega
      · rw [mea_shut]
        unfold measP
        exact Nat.mul_le_mul_left _ (by omega)
    omega
  · unfold one1
    rw [mea_shut, mea_shut, mea_shut, List.length_append]
    omega
theorem le_val : ∀ {f : List Nat} {m n : Nat}, f.length = m → n ∈ f → n ≤ dot f (List.replicate m 1)
  | [], _, _, _, h => absurd h List.not_mem_nil
  | a :: f, 0, _, h, _ => by cases h
  | a :: f, m + 1, n, h, hn => by
    rw [List.replicate_succ, dot]
    rcases List.mem_cons.mp hn with x | x
    · rw [x]; omega
    · have := le_val (f := f) (m := m) (by simpa using h) x
      omega
theorem num_okr {m : Nat} {qs : List Pn} (ok : ∀ p ∈ qs, OkR m p) : ∀ p ∈ qs, ∀ n ∈ p.2, n ≤ (wr (List.replicate m 1) qs).length := fun p hp n hn => by
  have op := ok p hp
  have hv : n ≤ valF p.2 (List.replicate m 1) := by
    have hl := op.len
    unfold valF
    cases e : p.2 with
    | nil => rw [e] at hn; cases hn
    | cons a f =>
      rw [e] at hn hl
      show n ≤ a + dot f _
      rcases List.mem_cons.mp hn with x | x
      · rw [x]; omega
      · have := le_val (f := f) (m := m) (by simpa using hl) x
        omega
  have hw : n ≤ (wrt (List.replicate m 1) p).length := by
    unfold wrt
    rw [WM.pw_len]
    exact Nat.le_trans hv (Nat.le_mul_of_pos_left _ (List.length_pos_iff.mpr op.ne))
  obtain ⟨A, B, rfl⟩ := List.append_of_mem hp
  rw [wr_app, List.length_append, wr, List.length_append]
  omega
/-- all there is to know of a lean list -/
theorem lean_gl {H : Hp} {m : Nat} {r : Addr} {ps : List Pn} (hl : LenF m ps) (low : LowP ps) (hme : meas ps ≤ 2000) (hw : Wl m ps) (few : ps.length ≤ 5000) (h : PL H r (leanL ps)) : GL H m r (leanL ps) := by
  have jn := leanL_jn hl []
  have ok := jn.ok
  have me := meas_leanL hl
  have v : ((leanL ps).map v0).sum ≤ meas (leanL ps) := sum_le_sum fun q hq => okr_v0 (ok q hq)
  refine ⟨h, fun p hp => (ok p hp).len, fun p hp => ?_, low_leanL hl low, fun p hp n hn => ?_, ?_⟩
  · have := mem_sum v0 hp
    have e : v0 p = p.1.length := rfl
    omega
  · have := num_okr ok p hp n hn
    rw [leanL_wr hl] at this
    exact Nat.lt_of_le_of_lt this hw
  · have a := joinL_len (gath_ok (rootedL_ok hl))
    have b := gath_len (rootedL_ok hl)
    have c : (rootedL ps).length ≤ ps.length := by
      unfold rootedL
      rw [List.length_map]
      exact List.length_filter_le _ _
    unfold leanL
    omega
theorem lean_wl {m : Nat} {ps : List Pn} (hl : LenF m ps) (hw : Wl m ps) : Wl m (leanL ps) := by
  unfold Wl
  rw [leanL_wr hl]
  exact hw
theorem new_back {H H' : Hp} {r : Addr} (s : Same H H') (n : H' r = none) : H r = none := by
  cases e : H r with
  | none => rfl
  | some o => rw [s _ _ e] at n; cases n
section
variable {P : Program} {w : World} {K : PySem.W.Frag} {mg : Str → Option Value} {base : Heap} {C : Addr}
def sp_leaned : Sp := fun vs H Q _ => ∃ (m : Nat) (l : Addr) (ps : List Pn), vs = [.int m, .ref l] ∧ m ≤ 3 ∧ GL H m l ps ∧ meas ps ≤ 2000 ∧ ∀ r H', NewL H H' r (leanL ps) → Q (.ref r) H'
/-- the i-th of a list, and nothing -/
def at1 {α : Type} (l : List α) (i : Nat) : List α := (l.drop i).take 1
theorem at1_rel {vs : List V} {us : List Value} (h : Vals vs us) (i : Nat) : Vals (at1 vs i) (at1 us i) := by
  unfold at1
  induction h generalizing i with
  | nil => rw [List.drop_nil, List.drop_nil]; exact .nil
  | cons r t ih =>
    cases i with
    | zero => exact .cons r .nil
    | succ i => exact ih i
variable {f : Addr} {fd : FuncData}
abbrev FL (K : PySem.W.Frag) (f : Addr) (fd : FuncData) := FunD K "leaned" "leaned" (C8.fnArgs (topS 46)) (C8.fnBody (topS 46)) (C8.fnScope (topS 46)) [] [] f fd
theorem ok_leaned (T : Txt K mg C) (F : FL K f fd) : FnOk P w K mg base C8.CX0 6 f fd ["many", "pieces"] sp_leaned := by
  refine C8.fn0 (fun_of F) sc_leaned (fun vs H Q E h => ?_) (fun cdv A outer s H vs Q E hr h => ?_)
  · obtain ⟨_, _, _, rfl, _⟩ := h; rfl
  · obtain ⟨m, l, ps, rfl, m3, gl, hme, q⟩ := h
    refine ⟨_, (pss_cons (ps_expr (C8.pe_c (c_need_pieces T) hr (by decide) (by rfl) (pa_cons (pv 0) (pa_cons (pv 1) pa_nil))))
    (pss_one (ps_ret (C8.pe_c (c_fixed_joined T) hr (by decide) (by rfl) (pa_cons (C8.pe_c (c_powers_gathered T) hr (by decide) (by rfl) (pa_cons (C8.pe_c (c_rooted T) hr (by decide) (by rfl) (pa_cons (pv 1) pa_nil)) pa_nil)) pa_nil))))), ?_⟩
    have lF := gl.len
    have v0m : ((rootedL ps).map v0).sum ≤ meas (rootedL ps) := sum_le_sum fun q hq => okr_v0 (rootedL_ok lF q hq)
    have mr := meas_rooted lF
    have few := gl.few
    have lr : (rootedL ps).length ≤ ps.length := by
      unfold rootedL
      rw [List.length_map]
      exact List.length_filter_le _ _
    have okR := rootedL_ok lF
    have lg := gath_len okR
    have vg := gath0_v0 okR
    refine ⟨_, rfl, _, rfl, m, l, ps, rfl, m3, gl, hme, fun H1 s1 => ?_⟩
    refine ⟨_, rfl, l, ps, m, rfl, gl.same s1, m3, hme, fun r1 H2 n1 => ?_⟩
    refine ⟨r1, rootedL ps, m, rfl, n1.2.2, okR, m3, by omega, by omega, fun r2 H3 n2 => ?_⟩
    refine ⟨r2, (gath (rootedL ps)).out, m, rfl, n2.2.2, gath_ok okR, m3, by omega, by omega, fun r3 H4 n3 => ?_⟩
    have s13 := s1.trans (n1.1.trans n2.1)
    exact q r3 H4 ⟨s13.trans n3.1, new_back s13 n3.2.1, n3.2.2⟩
theorem c_leaned (T : Txt K mg C) : C8.Cal P w K mg base 6 "leaned" sp_leaned [] := by
  obtain ⟨f, fd, F, hm⟩ := T.d_leaned.ex
  refine ⟨f, fd, _, [], ok_leaned T F, hm, F.kp, F.bindsN fun kV doc pm an cdv ct us hl => ?_, .nil⟩
  match us, hl with
  | [u, v], _ => rfl
def c_leaned_K_pieces_many (T : Txt K mg C) : CalN P w K mg base 6 "leaned" ["pieces", "many"] sp_leaned (fun vs zs => vs ++ (at1 zs 1 ++ at1 zs 0)) := by
  obtain ⟨f, fd, F, hm⟩ := T.d_leaned.ex
  refine ⟨f, fd, ["many", "pieces"], _, ok_leaned T F, hm, F.kp, FunD.kbindsN F 0 ["pieces", "many"] (fun us ws => us ++ (at1 ws 1 ++ at1 ws 0)) (fun r1 r2 => r1.append ((at1_rel r2 1).append (at1_rel r2 0))) fun kV doc pm an cdv ct us ws l1 l2 => ?_⟩
  match us, l1, ws, l2 with
  | [], _, [u, v], _ => rfl
end
end K67

set_option Elab.async false
set_option linter.all false
set_option maxRecDepth 100000
set_option maxHeartbeats 4000000
namespace K67
open PySem PySem.Spec PyProof.Rows L2 CK SX NM
theorem strip_low {z : List Nat} (h : Low z) : Txt.stripChars (S z) "abcdefghijklmnopqrstuvwxyz" = (Str.ofString "") := by
  unfold Txt.stripChars
  rw [stripBy_eq]
  obtain ⟨a0, _, a2⟩ := lo_facts (("abcdefghijklmnopqrstuvwxyz" : Str).cps.contains) (S z)
  have hl : stripLo (("abcdefghijklmnopqrstuvwxyz" : Str).cps.contains) true (S z) = (S z).length := by
    rcases a2 with e | e
    · exact e
    · refine Classical.byContradiction fun hne => ?_
      have hlt : stripLo (("abcdefghijklmnopqrstuvwxyz" : Str).cps.contains) true (S z) < z.length := by
        rw [S_len] at a0 hne
        omega
      have hm := h _ (List.getElem_mem hlt)
      have eg : (S z).cps.getD (stripLo (("abcdefghijklmnopqrstuvwxyz" : Str).cps.contains) true (S z)) 0 = z[stripLo (("abcdefghijklmnopqrstuvwxyz" : Str).cps.contains) true (S z)] := by
        rw [← getD_list]
        show z.getD _ 0 = _
        rw [List.getD_eq_getElem?_getD, List.getElem?_eq_getElem hlt]
        rfl
      rw [eg] at e
      generalize z[stripLo (("abcdefghijklmnopqrstuvwxyz" : Str).cps.contains) true (S z)] = c at e hm
      have all : ∀ c : Fin 123, 97 ≤ c.val → (("abcdefghijklmnopqrstuvwxyz" : Str).cps.contains c.val) = true := by decide +kernel
      have := all ⟨c, by omega⟩ hm.1
      rw [this] at e
      cases e
  obtain ⟨b0, b1, _, _⟩ := hi_facts (("abcdefghijklmnopqrstuvwxyz" : Str).cps.contains) (S z) _ a0
  rw [hl] at b0 b1 ⊢
  rw [show stripHi (("abcdefghijklmnopqrstuvwxyz" : Str).cps.contains) true (S z) (S z).length = (S z).length by omega]
  rw [strSub_mk, Nat.sub_self, List.take_zero]
  rfl
section
variable {P : Program} {w : World} {K : PySem.W.Frag} {mg : Str → Option Value} {base : Heap} {C : Addr}
def sp_count : Sp := fun vs H Q _ => ∃ n : Nat, vs = [.int n] ∧ Q (.bl true) H
theorem c_law_count (T : Txt K mg C) : C8.Cal P w K mg base 1 "_law_count" sp_count [] := by
  refine calF T.d_law_count sc_law_count (fun vs H Q E h => ?_) (fun f cdv A outer s H vs Q E hr h => ?_)
  · obtain ⟨_, rfl, _⟩ := h; rfl
  · obtain ⟨n, rfl, q⟩ := h
    refine ⟨_, (pss_one (ps_ret (pe_and (pe_callB call_isK (by rfl) T.m_isinstance (by decide +kernel) (pa_cons (pv 0) (pa_cons (pe_bltn (v := .ty "int") (by rfl) T.m_int (by decide +kernel) rfl) pa_nil))) (pe_and (pe_not (pe_callB call_isK (by rfl) T.m_isinstance (by decide +kernel) (pa_cons (pv 0) (pa_cons (pe_bltn (v := .ty "bool") (by rfl) T.m_bool (by decide +kernel) rfl) pa_nil)))) (pe_one (pe_cmpR op_ge (pv 0) pe_int (nomark _))))))), ?_⟩
    refine ⟨_, rfl, .int (n : Nat), "int", _, rfl, .int _, kit_int (.int _), true, rfl, iteT ?_⟩
    refine ⟨_, rfl, .int (n : Nat), "bool", _, rfl, .int _, kit_bool (.int _), false, rfl, true, rfl, iteT ⟨_, rfl, _, _, rfl, rfl, ?_⟩⟩
    dsimp only
    rw [decide_eq_true (show (0 : Int) ≤ ((n : Nat) : Int) by omega)]
    exact q
def sp_lis_piece : Sp := fun vs H Q _ => ∃ (m : Nat) (a : Addr) (p : Pn), vs = [.int m, .ref a] ∧ PC H a p ∧ p.2.length = m + 1 ∧ m ≤ 3 ∧ Low p.1 ∧ p.1.length ≤ 100000 ∧ ∀ H', Same H H' → Q (.bl true) H'
theorem c_law_is_piece (T : Txt K mg C) : C8.Cal P w K mg base 2 "_law_is_piece" sp_lis_piece [] := by
  refine calF T.d_law_is_piece sc_law_is_piece (fun vs H Q E h => ?_) (fun f cdv A outer s H vs Q E hr h => ?_)
  · obtain ⟨_, _, _, rfl, _⟩ := h; rfl
  · obtain ⟨m, a, p, rfl, ⟨fa, e1, e2⟩, lp, m3, low, hw, q⟩ := h
    refine ⟨_, (pss_cons (ps_if (PW.pt (pw_or (pt_not (pt_val (pe_callB call_isK (by rfl) T.m_isinstance (by decide +kernel) (pa_cons (pv 1) (pa_cons (pe_bltn (v := .ty "tuple") (by rfl) T.m_tuple (by decide +kernel) rfl) pa_nil))))) (pw_or (pt_cmpR op_ne (pe_callB call_len_seq (by rfl) T.m_len (by decide +kernel) (pa_cons (pv 1) pa_nil)) pe_int (nomark _)) (pw_or1 (pt_not (pt_val (pe_callB call_isK (by rfl) T.m_isinstance (by decide +kernel) (pa_cons (pe_ix ix_tup (pv 1) pe_int (fun _ _ => rfl)) (pa_cons (pe_bltn (v := .ty "str") (by rfl) T.m_str (by decide +kernel) rfl) pa_nil)))))))))
    (pss_one (ps_ret pe_bl))
    pss_nil)
    (pss_cons (ps_if (PW.pt (pw_or (pt_cmpR op_ne (pe_m1 PySem.F.slot_str_strip PySem.F.type_str_strip mt_stripChars (pe_ix ix_tup (pv 1) pe_int (fun _ _ => rfl)) pe_str) pe_str (nomark _)) (pw_or1 (pt_not (pt_val (pe_callB call_isK (by rfl) T.m_isinstance (by decide +kernel) (pa_cons (pe_ix ix_tup (pv 1) pe_int (fun _ _ => rfl)) (pa_cons (pe_bltn (v := .ty "tuple") (by rfl) T.m_tuple (by decide +kernel) rfl) pa_nil))))))))
    (pss_one (ps_ret pe_bl))
    pss_nil)
    (pss_one (ps_ret (pe_and (pe_cmpR op_eq (pe_callB call_len_seq (by rfl) T.m_len (by decide +kernel) (pa_cons (pe_ix ix_tup (pv 1) pe_int (fun _ _ => rfl)) pa_nil)) (pe_op op_add (pv 0) pe_int) (nomark _)) (pe_one (pe_cmpR (op_eqD hr.units) (pe_lc (own := [("_law_number_here", 2)]) (by rfl) sc_law_is_piece.nd (pi_tup (pe_ix ix_tup (pv 1) pe_int (fun _ _ => rfl))) (blkOk_by (N := ["_law_many", "_law_thing", "_law_number_here"]) (sc := C8.fnScope (topS 65)) (own := [("_law_number_here", 2)]) (by decide +kernel)) (fun _ _ _ _ _ => (pg_name (i := 2) sc_law_is_piece.nd rfl (Or.inl rfl))) (fun _ _ _ _ _ => (pts_one (pt_not (pt_val (C8.pe_c (c_law_count T) hr (by decide) (by rfl) (pa_cons (pv 2) pa_nil)))))) (fun _ _ _ _ _ => (pv 2))) (pe_lst pa_nil) (nomark _)))))))), ?_⟩
    have kn1 : Kn H (.ref a) := .tup e1
    have kn2 : Kn H (.ref fa) := .tup e2
    refine ⟨_, rfl, .ref a, "tuple", _, rfl, kn1, kit_tuple kn1, _, rfl, ?_⟩
    rw [isTu_tup e1]
    refine iteF ⟨_, rfl, a, _, rfl, .inr (.inl (.inl e1)), rfl, _, rfl, iteF ?_⟩
    refine ⟨_, rfl, a, _, 0, _, rfl, rfl, .inl (.inl e1), atI_nat (j := 0) rfl, .str (S p.1), "str", true, rfl, .str _, by show kitB "str" "str" = some true; decide +kernel, _, rfl, iteF ?_⟩
    rw [tnext_eq]
    refine ⟨_, rfl, a, _, 0, _, rfl, rfl, .inl (.inl e1), atI_nat (j := 0) rfl, ⟨_, rfl⟩, S p.1, _, rfl, rfl, len_line (by omega), rfl, ?_⟩
    rw [strip_low low]
    refine ⟨false, rfl, iteF ?_⟩
    refine ⟨_, rfl, a, _, 1, _, rfl, rfl, .inl (.inl e1), atI_nat (j := 1) rfl, .ref fa, "tuple", _, rfl, kn2, kit_tuple kn2, _, rfl, ?_⟩
    rw [isTu_tup e2]
    refine iteF ?_
    rw [tnext_eq]
    refine ⟨_, rfl, a, _, 1, _, rfl, rfl, .inl (.inl e1), atI_nat (j := 1) rfl, fa, _, rfl, .inr (.inl (.inl e2)), _, rfl, _, _, rfl, rfl, rfl, true, ?_, iteT ?_⟩
    · rw [List.length_map, lp]
      exact congrArg V.bl (decide_eq_true (congrArg V.int (by omega)))
    refine ⟨_, rfl, a, _, 1, _, rfl, rfl, .inl (.inl e1), atI_nat (j := 1) rfl, fa, rfl, ⟨_, .inl (.inl e2)⟩, fun D hD => ?_⟩
    refine lcT_filt (K := K) (a := fa) (xs := p.2.map fun n : Nat => V.int (n : Nat)) (fun _ => false) (fun _ => .non) (fun H' s => .inl (.inl (s _ _ e2))) (small5 (by rw [List.length_map]; omega)) (fun j z H4 R R0 hz s4 q1 q0 => ?_) hD fun H4 s4 hE => ?_
    · obtain ⟨n, _, hn, rfl⟩ := get_nat hz
      exact ⟨rfl, _, rfl, n, rfl, _, rfl, iteF (q0 rfl _ (Same.refl _))⟩
    have hE' : H4 D = some (.lst []) := by
      rw [hE]
      have : ((List.range (p.2.map fun n : Nat => V.int (n : Nat)).length).filter fun _ => false) = [] := List.filter_eq_nil_iff.mpr fun _ _ => by simp
      rw [this]
      rfl
    refine ⟨Nat.zero_le _, fun L0 nL0 => ?_⟩
    have s5 := sameNew (o := .lst []) nL0
    refine ⟨.list [], .list [], .lst (.inl (.inl (s5 _ _ hE'))) .nil, .lst (.inl (.inl upd_same)) .nil, by decide +kernel, by decide +kernel, ?_⟩
    exact q _ (s4.trans s5)
def sp_lare_pieces : Sp := fun vs H Q _ => ∃ (m : Nat) (l : Addr) (ps : List Pn), vs = [.int m, .ref l] ∧ m ≤ 3 ∧ GL H m l ps ∧ ∀ H', Same H H' → Q (.bl true) H'
theorem c_law_are_pieces (T : Txt K mg C) : C8.Cal P w K mg base 3 "_law_are_pieces" sp_lare_pieces [] := by
  refine calF T.d_law_are_pieces sc_law_are_pieces (fun vs H Q E h => ?_) (fun f cdv A outer s H vs Q E hr h => ?_)
  · obtain ⟨_, _, _, rfl, _⟩ := h; rfl
  · obtain ⟨m, l, ps, rfl, m3, gl, q⟩ := h
    obtain ⟨vs, hl, hp⟩ := gl.at_
    have lv := hp.len
    have few := gl.few
    have kn : Kn H (.ref l) := .lst hl
    refine ⟨_, (pss_one (ps_ret (pe_and (pe_callB call_isK (by rfl) T.m_isinstance (by decide +kernel) (pa_cons (pv 1) (pa_cons (pe_bltn (v := .ty "list") (by rfl) T.m_list (by decide +kernel) rfl) pa_nil))) (pe_one (pe_cmpR (op_eqD hr.units) (pe_lc (own := [("_law_thing", 2)]) (by rfl) sc_law_are_pieces.nd (pi_list (pv 1)) (blkOk_by (N := ["_law_many", "_law_things", "_law_thing"]) (sc := C8.fnScope (topS 66)) (own := [("_law_thing", 2)]) (by decide +kernel)) (fun _ _ _ _ _ => (pg_name (i := 2) sc_law_are_pieces.nd rfl (Or.inl rfl))) (fun _ _ _ _ _ => (pts_one (pt_not (pt_val (C8.pe_c (c_law_is_piece T) hr (by decide) (by rfl) (pa_cons (pv 0) (pa_cons (pv 2) pa_nil))))))) (fun _ _ _ _ _ => (pv 2))) (pe_lst pa_nil) (nomark _)))))), ?_⟩
    refine ⟨_, rfl, .ref l, "list", _, rfl, kn, kit_list kn, ?_⟩
    rw [isLi_lst hl]
    refine ⟨true, rfl, iteT ?_⟩
    refine ⟨_, rfl, l, rfl, ⟨_, .inl (.inl hl)⟩, fun D hD => ?_⟩
    refine lcL_filt (K := K) (a := l) (xs := vs) (fun _ => false) (fun _ => .non) (fun H' s => .inl (.inl (s _ _ hl))) (by rw [lv, sizeLine_eq]; omega) (fun j z H4 R R0 hz s4 q1 q0 => ?_) hD fun H4 s4 hE => ?_
    · obtain ⟨a, p, rfl, hpi, pc⟩ := hp.get hz
      have mem := List.mem_of_getElem? hpi
      refine ⟨rfl, _, rfl, _, rfl, m, a, p, rfl, pc.mono (tup_same s4), gl.len p mem, m3, gl.low p mem, Nat.le_trans (gl.ws p mem) (by decide), fun H5 s5 => ⟨_, rfl, iteF (q0 rfl _ s5)⟩⟩
    have hE' : H4 D = some (.lst []) := by
      rw [hE]
      have : ((List.range vs.length).filter fun _ => false) = [] := List.filter_eq_nil_iff.mpr fun _ _ => by simp
      rw [this]
      rfl
    refine ⟨Nat.zero_le _, fun L0 nL0 => ?_⟩
    have s5 := sameNew (o := .lst []) nL0
    refine ⟨.list [], .list [], .lst (.inl (.inl (s5 _ _ hE'))) .nil, .lst (.inl (.inl upd_same)) .nil, by decide +kernel, by decide +kernel, ?_⟩
    exact q _ (s4.trans s5)
end
theorem dot_take : ∀ {f pt : List Nat} {j x y : Nat}, f[j]? = some x → pt[j]? = some y → dot (f.take (j + 1)) (pt.take (j + 1)) = dot (f.take j) (pt.take j) + x * y
  | [], _, _, _, _, h, _ => by simp at h
  | _ :: _, [], _, _, _, _, h => by simp at h
  | a :: f, b :: pt, 0, x, y, h, g => by
    cases h
    cases g
    simp [dot]
  | a :: f, b :: pt, j + 1, x, y, h, g => by
    have := dot_take (f := f) (pt := pt) (j := j) (x := x) (y := y) h g
    rw [List.take_succ_cons, List.take_succ_cons, List.take_succ_cons, List.take_succ_cons, dot, dot, this]
    omega
section
variable {P : Program} {w : World} {K : PySem.W.Frag} {mg : Str → Option Value} {base : Heap} {C : Addr}
/-- a point as drawn -/
def sp_lwrite : Sp := fun vs H Q _ => ∃ (l pa : Addr) (ps : List Pn) (pt : List Nat) (m : Nat), vs = [.ref l, .ref pa] ∧ PL H l ps ∧ LP H pa pt ∧ LenF m ps ∧ pt.length = m ∧ m ≤ 3 ∧ (∀ p ∈ ps, Bf p.2) ∧ Bf pt ∧ Ws 100000 ps ∧ ps.length ≤ 100000 ∧ (wr pt ps).length ≤ 900000 ∧ (∀ p ∈ ps, valF p.2 pt ≤ 900000) ∧ ∀ H', Same H H' → Q (.str (S (wr pt ps))) H'
theorem c_law_write (T : Txt K mg C) : C8.Cal P w K mg base 1 "_law_write" sp_lwrite [] := by
  refine calF T.d_law_write sc_law_write (fun vs H Q E h => ?_) (fun f cdv A outer s H vs Q E hr h => ?_)
  · obtain ⟨_, _, _, _, _, rfl, _⟩ := h; rfl
  · obtain ⟨l, pa, ps, pt, m, rfl, ⟨us, hus, pus⟩, hpa, lF, lpt, m3, bf, bpt, ws, few, hw, hval, q⟩ := h
    have lus := pus.len
    refine ⟨_, (pss_cons (ps_set (i := 2) sc_law_write.nd rfl (Or.inl rfl) pe_str)
    (pss_cons (ps_for PassesOwn.never rfl (pi_list (pv 0)) (pg_two (K := K) (i := 3) (j := 4) rfl rfl sc_law_write.nd rfl rfl (Or.inl rfl) (Or.inl rfl))
    (pss_cons (ps_set (i := 5) sc_law_write.nd rfl (Or.inl rfl) (pe_ix ix_tup (pv 4) pe_int (fun _ _ => rfl)))
    (pss_cons (ps_for PassesOwn.never rfl (pi_zipB (K := K) rfl (by rfl) T.m_zip (pa_cons (pe_slice sl_drop (pv 4) (po_some pe_int) po_none) (pa_cons (pv 1) pa_nil))) (pg_two (K := K) (i := 6) (j := 7) rfl rfl sc_law_write.nd rfl rfl (Or.inl rfl) (Or.inl rfl))
    (pss_one (ps_set (i := 5) sc_law_write.nd rfl (Or.inl rfl) (pe_op op_add (pv 5) (pe_op op_mulW (pv 6) (pv 7))))))
    (pss_one (ps_set (i := 2) sc_law_write.nd rfl (Or.inl rfl) (pe_op op_add_str (pv 2) (pe_op op_repM (pv 3) (pv 5))))))))
    (pss_one (ps_ret (pv 2))))), ?_⟩
    refine ⟨_, rfl, l, rfl, ⟨_, .inl (.inl hus)⟩, ?_⟩
    refine for_list (K := K) (a := l) (xs := us) (fun i σ H' => Same H H' ∧ ∃ y3 y4 y5 y6 y7, σ = [some (.ref l), some (.ref pa), some (.str (S (wr pt (ps.take i)))), y3, y4, y5, y6, y7]) ⟨Same.refl _, none, none, none, none, none, by show _ = _; exact congrArg (fun v => [some (V.ref l), some (V.ref pa), some v, none, none, none, none, none]) st_0⟩ (fun i σ H' _ p => .inl (.inl (p.1 _ _ hus))) (fun i y σ H' hi pI => ?_) (fun σ H' pI => ?_)
    · obtain ⟨s1, y3, y4, y5, y6, y7, rfl⟩ := pI
      obtain ⟨a, p, rfl, hpi, pc⟩ := pus.get hi
      have mem := List.mem_of_getElem? hpi
      have lp := lF p mem
      obtain ⟨fa, h1, h2⟩ := pc.mono (tup_same s1)
      refine ⟨a, _, rfl, .inl (.inl h1), rfl, _, _, rfl, _, _, rfl, rfl, ?_⟩
      refine ⟨_, rfl, fa, _, 0, _, rfl, rfl, .inl (.inl h2), atI_nat (j := 0) (head_get lp), ?_⟩
      have bp := bf p mem
      have vp := hval p mem
      have wp := ws p mem
      refine ⟨_, rfl, 1, rfl, fa, _, 1, rfl, rfl, rfl, h2, fun b1 H2 s2 e2 => ?_⟩
      have e2' : H2 b1 = some (.tup (p.2.tail.map fun n : Nat => V.int (n : Nat))) := by
        rw [e2, ← List.map_drop]
        cases p.2 <;> rfl
      have hpa2 := s2 _ _ (s1 _ _ hpa)
      refine ⟨_, rfl, .T, .L, b1, pa, _, _, rfl, .inl (.inl e2'), .inl (.inl hpa2), ?_⟩
      refine for_it (walkB (K := K) (k := .T) (k' := .L) (a := b1) (b := pa) (xs := p.2.tail.map fun n : Nat => V.int (n : Nat)) (ys := natsV pt) (by unfold natsV; rw [List.length_map, List.length_map, List.length_tail, lp, lpt]; omega)) (fun j σ H3 => Same H2 H3 ∧ ∃ y6 y7, σ = [some (.ref l), some (.ref pa), some (.str (S (wr pt (ps.take i)))), some (.str (S p.1)), some (.ref fa), some (.int ((p.2.headD 0 + dot (p.2.tail.take j) (pt.take j) : Nat))), y6, y7])
        ⟨Same.refl _, y6, y7, by simp [dot]⟩ (fun j σ H3 _ p' => ⟨.inl (.inl (p'.1 _ _ e2')), .inl (.inl (p'.1 _ _ hpa2))⟩) (fun j v σ H3 H4 hj pJ yy => ?_) fun σ H3 pJ => ?_
      · obtain ⟨s3, z6, z7, rfl⟩ := pJ
        obtain ⟨tn, x, y, rfl, ht, rfl, hx, hy⟩ := yy
        have hx : (p.2.tail.map fun n : Nat => V.int (n : Nat))[j]? = some x := hx
        have hy : (pt.map fun n : Nat => V.int (n : Nat))[j]? = some y := hy
        obtain ⟨x', mx, ex, rfl⟩ := get_nat hx
        obtain ⟨y', my, ey, rfl⟩ := get_nat hy
        have bx := bp x' (List.mem_of_mem_tail mx)
        have by' := bpt y' my
        have st := sameNew (o := .tup [V.int (x' : Nat), V.int (y' : Nat)]) ht
        refine ⟨tn, _, rfl, .inl (.inl upd_same), rfl, _, _, rfl, _, _, rfl, rfl, ?_⟩
        refine ⟨_, rfl, _, rfl, _, rfl, _, _, rfl, rfl, wide_mul (a := 900) (b := 900) (by omega) (by omega) (by decide) (by decide) (by decide), _, _, rfl, rfl, ?_⟩
        refine ⟨s3.trans st, some (.int (x' : Nat)), some (.int (y' : Nat)), ?_⟩
        rw [dot_take ex ey]
        rw [← show ((p.2.headD 0 + dot (p.2.tail.take j) (pt.take j) : Nat) : Int) + (x' : Int) * (y' : Int) = ((p.2.headD 0 + (dot (p.2.tail.take j) (pt.take j) + x' * y') : Nat) : Int) by rw [Int.natCast_add, Int.natCast_add, Int.natCast_add, Int.natCast_mul]; omega]
        rfl
      · obtain ⟨s3, z6, z7, rfl⟩ := pJ
        have ed : dot (p.2.tail.take (p.2.tail.map fun n : Nat => V.int (n : Nat)).length) (pt.take (p.2.tail.map fun n : Nat => V.int (n : Nat)).length) = dot p.2.tail pt := by
          rw [List.length_map, List.take_length, List.take_of_length_le (by rw [List.length_tail, lp, lpt]; omega)]
        rw [ed]
        have ev : p.2.headD 0 + dot p.2.tail pt = valF p.2 pt := rfl
        rw [ev]
        have ew : wr pt (ps.take (i + 1)) = wr pt (ps.take i) ++ wrt pt p := by
          rw [List.take_succ, hpi, wr_app]
          show _ ++ wr pt [p] = _
          rw [wr_one]
        have lw : (wr pt (ps.take (i + 1))).length ≤ (wr pt ps).length := by
          conv => rhs; rw [← List.take_append_drop (i + 1) ps]
          rw [wr_app, List.length_append]
          omega
        have lwt : (wrt pt p).length = p.1.length * valF p.2 pt := by unfold wrt; rw [WM.pw_len]
        rw [ew, List.length_append, lwt] at lw
        refine ⟨_, rfl, _, rfl, _, rfl, p.1, valF p.2 pt, rfl, rfl, by omega, by omega, by rw [Nat.mul_comm]; omega, _, _, rfl, rfl, ?_, ?_⟩
        · rw [S_len, S_len]
          have : (List.replicate (valF p.2 pt) p.1).flatten.length = p.1.length * valF p.2 pt := WM.pw_len _ _
          rw [this, sizeLine_eq]
          omega
        rw [S_cat]
        refine ⟨s1.trans (s2.trans s3), some (.str (S p.1)), some (.ref fa), some (.int (valF p.2 pt : Nat)), z6, z7, ?_⟩
        rw [ew]
        rfl
    · obtain ⟨s1, y3, y4, y5, y6, y7, rfl⟩ := pI
      rw [lus, List.take_length]
      exact ⟨_, rfl, q H' s1⟩
end
end K67

set_option Elab.async false
set_option linter.all false
set_option maxRecDepth 100000
set_option maxHeartbeats 4000000
set_option exponentiation.threshold 1000
namespace K67
open PySem PySem.Spec PyProof.Rows L2 CK SX NM
/-- a lean writer of the normal list -/
structure Ln (m : Nat) (ns qs : List Pn) : Prop where
  nm : normL qs = ns
  ok : ∀ p ∈ qs, OkR m p
  ap : ∀ (A B : List Pn) (p q : Pn), qs = A ++ [p, q] ++ B → ¬ (p.2 = one1 m ∧ q.2 = one1 m)
  np : nOpen qs = nOpen ns
  sum : (qs.map fun p => p.1.length * p.2.headD 0).sum = (ns.map fun p => p.1.length * p.2.headD 0).sum
theorem tail_ints {H : Hp} {b : Addr} {f : F} (h : H b = some (.tup ((f.map fun n : Nat => V.int (n : Nat)).drop 1))) : H b = some (.tup ((f.tail.map fun n : Nat => (n : Int)).map V.int)) := by
  rw [h, ← List.map_drop, List.map_map]
  cases f <;> rfl
theorem sum_zero : ∀ l : List Nat, (0 : Int) ≤ (l.map fun n : Nat => (n : Int)).sum ∧ ((0 : Int) < (l.map fun n : Nat => (n : Int)).sum ↔ ∃ x ∈ l, x ≠ 0)
  | [] => by simp
  | a :: l => by
    obtain ⟨h1, h2⟩ := sum_zero l
    rw [List.map_cons, List.sum_cons]
    refine ⟨by omega, ?_⟩
    constructor
    · intro h
      by_cases z : a = 0
      · obtain ⟨x, hx, hz⟩ := h2.mp (by omega)
        exact ⟨x, List.mem_cons_of_mem _ hx, hz⟩
      · exact ⟨a, List.mem_cons_self, z⟩
    · rintro ⟨x, hx, hz⟩
      rcases List.mem_cons.mp hx with rfl | hx
      · omega
      · have := h2.mpr ⟨x, hx, hz⟩
        omega
theorem tail_sum (f : F) : decide ((0 : Int) < (f.tail.map fun n : Nat => (n : Int)).sum) = isOpen f := by
  cases ho : isOpen f with
  | true => exact decide_eq_true ((sum_zero f.tail).2.mpr (isOpen_iff.mp ho))
  | false => exact decide_eq_false fun h => by rw [isOpen_iff.mpr ((sum_zero f.tail).2.mp h)] at ho; cases ho
theorem filt_true (l : List Pn) : (l.filter fun _ => true) = l := List.filter_eq_self.mpr fun _ _ => rfl
theorem sum_ints {H : Hp} {D : Addr} {qs : List Pn} (h : H D = some (.lst ((qs.filter fun _ => true).map fun p => V.int ((p.1.length * p.2.headD 0 : Nat) : Int)))) : H D = some (.lst ((qs.map fun p => ((p.1.length * p.2.headD 0 : Nat) : Int)).map V.int)) := by
  rw [h, filt_true, List.map_map]
  rfl
theorem int_sum : ∀ l : List Pn, (l.map fun p => ((p.1.length * p.2.headD 0 : Nat) : Int)).sum = (((l.map fun p => p.1.length * p.2.headD 0).sum : Nat) : Int)
  | [] => rfl
  | p :: l => by rw [List.map_cons, List.sum_cons, List.map_cons, List.sum_cons, int_sum l, Int.natCast_add]
theorem mk_text {C : Addr} {Hc : Hp} {x dx l : Addr} {m : Nat} {ps : List Pn} {R : V → Hp → Prop} {E : XK} (nx : Hc x = none) (ndx : Hc dx = none) (nex : dx ≠ x) (gl : GL Hc m l ps) (m3 : m ≤ 3) (hme : meas ps ≤ 2000) (hw : Wl m ps)
    (q : ∀ r H', Same Hc H' → Hc r = none → OTl C H' x r m (normL ps) → R .non H') : sp_init C [.ref x, .int (m : Nat), .ref l] (upd (upd Hc dx (.own x)) x (.ins C dx [])) R E := by
  have s0 : Same Hc (upd (upd Hc dx (.own x)) x (.ins C dx [])) := fun b o e => by
    rw [upd_ne (ne_of_none e nx), upd_ne (ne_of_none e ndx)]
    exact e
  refine ⟨x, dx, l, m, ps, rfl, upd_same, m3, gl.same s0, hme, hw, fun r H1 s1 n1 ot => q r H1 (fun b o e => ?_) (new_back s0 n1) ot⟩
  exact s1 _ _ (fun z => by rw [z, nx] at e; cases e) (s0 _ _ e)
/-- a comprehension over a list of pieces -/
theorem lcP {K : PySem.W.Frag} {a : Addr} {us : List V} {ps : List Pn} {j1 j2 : Nat} {tt : TT} {te : TE} {vs : List Nat} {σ : L2.St} {H1 : Hp} {D : Addr} {Qd : Hp → Prop} (b : Pn → Bool) (f : Pn → V) (hn : us.length < sizeLine) (hl : H1 a = some (.lst us)) (hp : Pcs H1 us ps)
    (hs : ∀ (p : Pn) (fa : Addr) (H : Hp) (R : VK) (R0 : Hp → Prop), p ∈ ps → Same H1 H → FT H fa p.2 → (b p = true → ∀ H'', Same H H'' → R (f p) H'') → (b p = false → ∀ H'', Same H H'' → R0 H'') →
      wipe (((wipe σ vs).set j1 (some (.str (S p.1)))).set j2 (some (.ref fa))) vs = wipe σ vs ∧ tt (((wipe σ vs).set j1 (some (.str (S p.1)))).set j2 (some (.ref fa))) H fun c H3 => if c = true then te (((wipe σ vs).set j1 (some (.str (S p.1)))).set j2 (some (.ref fa))) H3 R else R0 H3)
    (hD : H1 D = none) (hd : ∀ H : Hp, Same H1 H → H D = some (.lst ((ps.filter b).map f)) → Qd H) :
    ∃ W : Nat → Nat → Hp → Prop, (∃ m, W 0 m (upd H1 D (.lst []))) ∧ ∀ i m H, W i m H →
      ((Itl K a).stop i H ∧ Qd H) ∨ ((Itl K a).go i H ∧ ∃ Nx : Hp → Prop, (∀ H', Nx H' → ∃ m', m' < m ∧ W (i + 1) m' H') ∧ ∀ x H', (Itl K a).yld i H x H' → gTup K 2 (gCons (gName j1) (gCons (gName j2) gNil)) x (wipe σ vs) H' fun σ2 H2 => wipe σ2 vs = wipe σ vs ∧ tt σ2 H2 fun b H3 =>
        if b = true then te σ2 H3 fun y H4 => ∃ acc, H4 D = some (.lst acc) ∧ acc.length < sizeLine ∧ Nx (upd H4 D (.lst (acc ++ [y]))) else Nx H3) := by
  have lv := hp.len
  refine lc_list (K := K) (a := a) (xs := us) (fun i H => Same H1 H ∧ H D = some (.lst (((ps.take i).filter b).map f))) ⟨sameNew hD, upd_same⟩ (fun i H _ p => .inl (.inl (p.1 _ _ hl))) (fun i y H hi p => ?_) fun H p => hd H p.1 (by have := p.2; rwa [lv, List.take_length] at this)
  obtain ⟨s1, hD1⟩ := p
  obtain ⟨c, p, rfl, hpi, pc⟩ := hp.get hi
  have mem := List.mem_of_getElem? hpi
  obtain ⟨fa, e1, e2⟩ := pc.mono (tup_same s1)
  have eT : ps.take (i + 1) = ps.take i ++ [p] := by rw [List.take_succ, hpi]; rfl
  refine ⟨c, _, rfl, .inl (.inl e1), rfl, _, _, rfl, _, _, rfl, rfl, ?_⟩
  refine hs p fa H _ _ mem s1 e2 (fun hb H'' s => ?_) fun hb H'' s => ?_
  · refine ⟨_, s D _ hD1, ?_, same_upd2 hD (s1.trans s), ?_⟩
    · have := List.length_filter_le b (ps.take i)
      rw [List.length_take] at this
      rw [List.length_map]
      omega
    · rw [upd_same, eT, List.filter_append, List.map_append, List.filter_cons_of_pos hb]
      rfl
  · refine ⟨s1.trans s, ?_⟩
    rw [s D _ hD1, eT, List.filter_append, List.filter_cons_of_neg (by rw [hb]; exact Bool.false_ne_true), List.filter_nil, List.append_nil]
section
variable {P : Program} {w : World} {K : PySem.W.Frag} {mg : Str → Option Value} {base : Heap} {C : Addr}
def sp_llean (C : Addr) : Sp := fun vs H Q _ => ∃ (t l : Addr) (m : Nat) (ns qs : List Pn), vs = [.ref t, .ref l] ∧ m ≤ 3 ∧ OT C H t m ns ∧ GL H m l qs ∧ meas qs ≤ 2000 ∧ Wl m qs ∧ Ln m ns qs ∧ ∀ H', Same H H' → Q (.bl true) H'
theorem c_law_lean (T : Txt K mg C) : C8.Cal P w K mg base 9 "_law_lean" (sp_llean C) [] := by
  refine calF T.d_law_lean sc_law_lean (fun vs H Q E h => ?_) (fun f cdv A outer s H vs Q E hr h => ?_)
  · obtain ⟨_, _, _, _, _, rfl, _⟩ := h; rfl
  · obtain ⟨t, l, m, ns, qs, rfl, m3, ot, gl, hme, hwl, ln, q⟩ := h
    refine ⟨_, (pss_cons (ps_set (i := 2) sc_law_lean.nd rfl (Or.inl rfl) (C8.pe_mt0 (m_OpenText_many T) hr (by decide) (pv 0)))
    (pss_cons (ps_asg (pe_tup (pa_cons (pe_op op_catS (pe_tup (pa_cons pe_int pa_nil)) (pe_op op_repOne (pe_tup (pa_cons pe_int pa_nil)) (pv 2))) (pa_cons (pe_op op_repOne (pe_tup (pa_cons pe_int pa_nil)) (pe_op op_add (pv 2) pe_int)) pa_nil))) (pg_two (K := K) (i := 3) (j := 4) rfl rfl sc_law_lean.nd rfl rfl (Or.inr rfl) (Or.inr rfl)))
    (pss_cons (ps_if (PW.pt (pw_or (pt_not (pt_val (C8.pe_c (c_law_are_pieces T) hr (by decide) (by rfl) (pa_cons (pv 2) (pa_cons (pv 1) pa_nil))))) (pw_or1 (pt_cmpR (op_neSame hr.units) (pe_lc (own := [("_law_word_here", 5), ("_law_form_here", 6)]) (by rfl) sc_law_lean.nd (pi_list (pv 1)) (blkOk_by (N := ["_law_text", "_law_value", "_law_many", "_law_one", "_law_none", "_law_word_here", "_law_form_here", "_law_place", "_law_found", "_law_pieces"]) (sc := C8.fnScope (topS 68)) (own := [("_law_word_here", 5), ("_law_form_here", 6)]) (by decide +kernel)) (fun _ _ _ _ _ => (pg_two (K := K) (i := 5) (j := 6) rfl rfl sc_law_lean.nd rfl rfl (Or.inl rfl) (Or.inl rfl))) (fun _ _ _ _ _ => (pts_one (PW.pt (pw_or (pt_cmpR op_eq (pv 5) pe_str (nomark _)) (pw_or1 (pt_cmpR (op_eqDK (K := K) rfl hr.units) (pv 6) (pv 4) (nomark _))))))) (fun _ _ _ _ _ => (pv 5))) (pe_lst pa_nil) (nomark _)))))
    (pss_one (ps_ret pe_bl))
    pss_nil)
    (pss_cons (ps_if (pt_cmpR (op_neSame hr.units) (pe_lc (own := [("_law_place", 7)]) (by rfl) sc_law_lean.nd (pi_range2 (by rfl) T.m_range (pa_cons pe_int (pa_cons (pe_callB call_len_seq (by rfl) T.m_len (by decide +kernel) (pa_cons (pv 1) pa_nil)) pa_nil))) (blkOk_by (N := ["_law_text", "_law_value", "_law_many", "_law_one", "_law_none", "_law_word_here", "_law_form_here", "_law_place", "_law_found", "_law_pieces"]) (sc := C8.fnScope (topS 68)) (own := [("_law_place", 7)]) (by decide +kernel)) (fun _ _ _ _ _ => (pg_name (i := 7) sc_law_lean.nd rfl (Or.inl rfl))) (fun _ _ _ _ _ => (pts_one (PW.pt (pw_and (pt_cmpR (op_eqDK (K := K) rfl hr.units) (pe_ix ix_tupH (pe_ix ix_listH (pv 1) (pv 7) (fun _ _ => rfl)) pe_int (fun _ _ => rfl)) (pv 3) (nomark _)) (pw_and1 (pt_cmpR (op_eqDK (K := K) rfl hr.units) (pe_ix ix_tupH (pe_ix ix_listH (pv 1) (pe_op op_sub (pv 7) pe_int) (fun _ _ => rfl)) pe_int (fun _ _ => rfl)) (pv 3) (nomark _))))))) (fun _ _ _ _ _ => (pv 7))) (pe_lst pa_nil) (nomark _))
    (pss_one (ps_ret pe_bl))
    pss_nil)
    (pss_cons (ps_par (i := 8) (j := 9) (by rfl) sc_law_lean.nd rfl rfl (by decide) rfl rfl (pa_cons (pe_lc (own := [("_law_word_here", 5), ("_law_form_here", 6)]) (by rfl) sc_law_lean.nd (pi_list (pv 1)) (blkOk_by (N := ["_law_text", "_law_value", "_law_many", "_law_one", "_law_none", "_law_word_here", "_law_form_here", "_law_place", "_law_found", "_law_pieces"]) (sc := C8.fnScope (topS 68)) (own := [("_law_word_here", 5), ("_law_form_here", 6)]) (by decide +kernel)) (fun _ _ _ _ _ => (pg_two (K := K) (i := 5) (j := 6) rfl rfl sc_law_lean.nd rfl rfl (Or.inl rfl) (Or.inl rfl))) (fun _ _ _ _ _ => (pts_one (pt_cmpR op_gt (pe_callB (cr_sumT rfl) (by rfl) T.m_sum (by decide +kernel) (pa_cons (pe_slice sl_drop (pv 6) (po_some pe_int) po_none) pa_nil)) pe_int (nomark _)))) (fun _ _ _ _ _ => (pv 5))) (pa_cons (C8.pe_mt0 (m_OpenText_pieces T) hr (by decide) (pv 0)) pa_nil)) (by rfl))
    (pss_cons (ps_if (pt_cmpR op_ne (pe_callB call_len_seq (by rfl) T.m_len (by decide +kernel) (pa_cons (pv 8) pa_nil)) (pe_callB call_len_seq (by rfl) T.m_len (by decide +kernel) (pa_cons (pe_lc (own := [("_law_word_here", 5), ("_law_form_here", 6)]) (by rfl) sc_law_lean.nd (pi_list (pv 9)) (blkOk_by (N := ["_law_text", "_law_value", "_law_many", "_law_one", "_law_none", "_law_word_here", "_law_form_here", "_law_place", "_law_found", "_law_pieces"]) (sc := C8.fnScope (topS 68)) (own := [("_law_word_here", 5), ("_law_form_here", 6)]) (by decide +kernel)) (fun _ _ _ _ _ => (pg_two (K := K) (i := 5) (j := 6) rfl rfl sc_law_lean.nd rfl rfl (Or.inl rfl) (Or.inl rfl))) (fun _ _ _ _ _ => (pts_one (pt_cmpR op_gt (pe_callB (cr_sumT rfl) (by rfl) T.m_sum (by decide +kernel) (pa_cons (pe_slice sl_drop (pv 6) (po_some pe_int) po_none) pa_nil)) pe_int (nomark _)))) (fun _ _ _ _ _ => (pv 5))) pa_nil)) (nomark _))
    (pss_one (ps_ret pe_bl))
    pss_nil)
    (pss_cons (ps_if (pt_cmpR op_ne (pe_callB (cr_sum rfl) (by rfl) T.m_sum (by decide +kernel) (pa_cons (pe_lc (own := [("_law_word_here", 5), ("_law_form_here", 6)]) (by rfl) sc_law_lean.nd (pi_list (pv 1)) (blkOk_by (N := ["_law_text", "_law_value", "_law_many", "_law_one", "_law_none", "_law_word_here", "_law_form_here", "_law_place", "_law_found", "_law_pieces"]) (sc := C8.fnScope (topS 68)) (own := [("_law_word_here", 5), ("_law_form_here", 6)]) (by decide +kernel)) (fun _ _ _ _ _ => (pg_two (K := K) (i := 5) (j := 6) rfl rfl sc_law_lean.nd rfl rfl (Or.inl rfl) (Or.inl rfl))) (fun _ _ _ _ _ => pts_nil) (fun _ _ _ _ _ => (pe_op op_mulW (pe_callB call_len_str (by rfl) T.m_len (by decide +kernel) (pa_cons (pv 5) pa_nil)) (pe_ix ix_tupH (pv 6) pe_int (fun _ _ => rfl))))) pa_nil)) (pe_callB (cr_sum rfl) (by rfl) T.m_sum (by decide +kernel) (pa_cons (pe_lc (own := [("_law_word_here", 5), ("_law_form_here", 6)]) (by rfl) sc_law_lean.nd (pi_list (pv 9)) (blkOk_by (N := ["_law_text", "_law_value", "_law_many", "_law_one", "_law_none", "_law_word_here", "_law_form_here", "_law_place", "_law_found", "_law_pieces"]) (sc := C8.fnScope (topS 68)) (own := [("_law_word_here", 5), ("_law_form_here", 6)]) (by decide +kernel)) (fun _ _ _ _ _ => (pg_two (K := K) (i := 5) (j := 6) rfl rfl sc_law_lean.nd rfl rfl (Or.inl rfl) (Or.inl rfl))) (fun _ _ _ _ _ => pts_nil) (fun _ _ _ _ _ => (pe_op op_mulW (pe_callB call_len_str (by rfl) T.m_len (by decide +kernel) (pa_cons (pv 5) pa_nil)) (pe_ix ix_tupH (pv 6) pe_int (fun _ _ => rfl))))) pa_nil)) (nomark _))
    (pss_one (ps_ret pe_bl))
    pss_nil)
    (pss_one (ps_ret (pe_and (pe_cmpR (op_eqD hr.units) (pe_lc (own := [("_law_word_here", 5)]) (by rfl) sc_law_lean.nd (pi_list (pv 8)) (blkOk_by (N := ["_law_text", "_law_value", "_law_many", "_law_one", "_law_none", "_law_word_here", "_law_form_here", "_law_place", "_law_found", "_law_pieces"]) (sc := C8.fnScope (topS 68)) (own := [("_law_word_here", 5)]) (by decide +kernel)) (fun _ _ _ _ _ => (pg_name (i := 5) sc_law_lean.nd rfl (Or.inl rfl))) (fun _ _ _ _ _ => (pts_one (pt_not (pt_val (C8.pe_c (c_law_primitive T) hr (by decide) (by rfl) (pa_cons (pv 5) pa_nil)))))) (fun _ _ _ _ _ => (pv 5))) (pe_lst pa_nil) (nomark _)) (pe_one (pe_cmpR (op_eqO (m_OpenText___eq__ T) hr (by decide)) (C8.pe_mk (n_OpenText T) hr (by decide) (by rfl) (pa_cons (pv 2) (pa_cons (pe_callTy call_list_of (by rfl) T.m_list (by decide +kernel) (pa_cons (pv 1) pa_nil)) pa_nil))) (pv 0) (nomark _))))))))))))), ?_⟩
    obtain ⟨t0, ⟨dx, hat⟩, glt⟩ := id ot
    refine ⟨_, rfl, t, dx, _, rfl, hat, of_no t0 m (by decide +kernel) (by decide +kernel), t, m, ns, rfl, ot, ?_⟩
    refine ⟨by show 1 ≤ sizeLine; decide, fun a1 n1 => ⟨by show 1 ≤ sizeLine; decide, fun a2 n2 => ⟨_, rfl, a2, _, _, rfl, rfl, upd_same, by omega, by omega, fun a3 H3 s3 h3 => ?_⟩⟩⟩
    have s12 := (sameNew (o := .tup [.int 1]) n1).trans (sameNew (o := .tup [.int 0]) n2)
    have e1' : H3 a1 = some (.tup [.int 1]) := s3 _ _ (by rw [upd_ne (ne_of_none upd_same n2)]; exact upd_same)
    refine ⟨a1, a3, _, _, rfl, rfl, e1', h3, by simp; omega, fun a4 H4 s4 h4 => ?_⟩
    have s14 := (s12.trans s3).trans s4
    have hone : FT H4 a4 (one1 m) := by
      unfold FT one1
      rw [h4]
      simp
    refine ⟨by show 1 ≤ sizeLine; decide, fun a5 n5 => ⟨_, rfl, _, _, rfl, rfl, a5, ((m : Int) + 1), _, rfl, rfl, upd_same, by omega, by omega, fun a6 H6 s6 h6 => ⟨by show 2 ≤ sizeLine; decide, fun a7 n7 => ?_⟩⟩⟩
    have s46 := (sameNew (o := .tup [.int 0]) n5).trans s6
    have hzero : FT H6 a6 (List.replicate (m + 1) 0) := by
      unfold FT
      rw [h6, show ((m : Int) + 1).toNat = m + 1 by omega]
      simp
    have st7 := sameNew (o := .tup [.ref a4, .ref a6]) n7
    refine ⟨a7, _, rfl, .inl (.inl upd_same), rfl, _, _, rfl, _, _, rfl, rfl, ?_⟩
    have s17 := (s14.trans s46).trans st7
    have hone7 := (hone.same s46).same st7
    have hzero7 := hzero.same st7
    have ot7 := ot.same s17
    have gl7 := gl.same s17
    generalize upd H6 a7 (.tup [.ref a4, .ref a6]) = H7 at s17 hone7 hzero7 ot7 gl7
    clear hzero hone st7 s46 s14 s12 e1' h3 h4 h6
    obtain ⟨us, hus, pus⟩ := id gl7.at_
    have lus := pus.len
    have few := gl7.few
    -- all pieces
    refine ⟨_, rfl, _, rfl, m, l, qs, rfl, m3, gl7, fun H8 s8 => ⟨true, rfl, iteF ?_⟩⟩
    have hus8 := s8 _ _ hus
    have pus8 := pus.same s8
    refine ⟨_, rfl, l, rfl, ⟨_, .inl (.inl hus8)⟩, fun D hD => ?_⟩
    refine lcP (fun _ => false) (fun _ => .non) (by rw [lus, sizeLine_eq]; omega) hus8 pus8 (fun p fa H9 R R0 mem s9 hfa q1 q0 => ?_) hD fun H9 s9 hE => ?_
    · have op := ln.ok p mem
      refine ⟨rfl, _, rfl, rfl, _, rfl, ?_⟩
      rw [decide_eq_false (fun e => op.ne (S_nil (V.str.inj e)))]
      refine iteF ⟨_, rfl, _, rfl, dF p.2, dF (List.replicate (m + 1) 0), dp_FT hfa, dp_FT ((hzero7.same s8).same s9), shaped_dF _, shaped_dF _, ?_⟩
      rw [eqv_dF, decide_eq_false (fun e => by
        obtain ⟨x, hx, hz⟩ := op.any
        rw [e] at hx
        exact hz (List.mem_replicate.mp hx).2)]
      exact ⟨_, rfl, iteF (q0 rfl _ (Same.refl _))⟩
    have hE' : H9 D = some (.lst []) := by
      rw [hE, List.filter_eq_nil_iff.mpr fun _ _ => Bool.false_ne_true]
      rfl
    refine ⟨Nat.zero_le _, fun L0 nL0 => ?_⟩
    have s10 := sameNew (o := .lst []) nL0
    refine ⟨.list [], .lst (.inl (.inl (s10 _ _ hE'))) .nil, .lst (.inl (.inl upd_same)) .nil, by decide +kernel, _, rfl, iteF ?_⟩
    rw [tnext_eq]
    have s18 := s17.trans ((s8.trans s9).trans s10)
    have sA := (s8.trans s9).trans s10
    have hone8 := hone7.same sA
    have ot8 := ot7.same sA
    have gl8 := gl7.same sA
    have hus8' := sA _ _ hus
    have pus8' := pus.same sA
    generalize upd H9 L0 (.lst []) = H10 at s18 hone8 ot8 gl8 hus8' pus8'
    clear hE hE' s10 sA s8 s9 hus8 pus8 hone7 hzero7 ot7 gl7 hus pus
    -- neighbours
    refine ⟨_, rfl, l, us, rfl, .inl (.inl (.inl hus8')), 1, us.length, rfl, ⟨by decide, by decide, by omega, by omega⟩, fun D hD => ?_⟩
    have en : ((us.length : Nat) - (1 : Int)).toNat = us.length - 1 := by omega
    rw [en]
    refine lc_filtW (walk_range (lo := 1) (n := us.length - 1)) (fun _ => false) (fun _ => .non) (by rw [lus, sizeLine_eq]; omega) (fun _ _ => True.intro) (fun i v H11 H12 R R0 hi s11 yy q1 q0 => ?_) hD fun H11 s11 hE => ?_
    · obtain ⟨rfl, rfl⟩ := yy
      have hi1 : i < us.length := by omega
      have hi2 : i + 1 < us.length := by omega
      obtain ⟨b1, p1, e1, g1, pc1⟩ := (pus8'.same s11).get (List.getElem?_eq_getElem hi1)
      obtain ⟨b2, p2, e2, g2, pc2⟩ := (pus8'.same s11).get (List.getElem?_eq_getElem hi2)
      obtain ⟨f1, c1, d1⟩ := pc1
      obtain ⟨f2, c2, d2⟩ := pc2
      have u1 : us[i]? = some (.ref b1) := by rw [List.getElem?_eq_getElem hi1, e1]
      have u2 : us[i + 1]? = some (.ref b2) := by rw [List.getElem?_eq_getElem hi2, e2]
      have hus11 := s11 _ _ hus8'
      have hone11 := hone8.same s11
      have i1 : (1 : Int) + (i : Nat) = ((i + 1 : Nat) : Int) := by omega
      have i2 : ((i + 1 : Nat) : Int) - 1 = ((i : Nat) : Int) := by omega
      dsimp only
      rw [i1]
      refine ⟨rfl, ?_⟩
      refine ⟨_, rfl, _, rfl, l, us, ((i + 1 : Nat) : Int), .ref b2, rfl, rfl, hus11, atI_nat u2, b2, _, 1, _, rfl, rfl, c2, atI_nat (j := 1) rfl, _, rfl, dF p2.2, dF (one1 m), dp_FT d2, dp_FT hone11, shaped_dF _, shaped_dF _, ?_⟩
      rw [eqv_dF]
      refine ⟨_, rfl, ?_⟩
      by_cases z2 : p2.2 = one1 m
      · rw [decide_eq_true z2]
        refine iteT ⟨_, rfl, _, rfl, _, _, rfl, rfl, l, us, ((i : Nat) : Int), .ref b1, rfl, congrArg V.int i2, hus11, atI_nat u1, b1, _, 1, _, rfl, rfl, c1, atI_nat (j := 1) rfl, _, rfl, dF p1.2, dF (one1 m), dp_FT d1, dp_FT hone11, shaped_dF _, shaped_dF _, ?_⟩
        rw [eqv_dF, decide_eq_false (fun z1 => by
          have es : qs = qs.take i ++ [p1, p2] ++ qs.drop (i + 2) := by
            have a1 : qs.drop i = p1 :: qs.drop (i + 1) := by rw [← List.getElem_cons_drop (List.getElem?_eq_some_iff.mp g1).1, (List.getElem?_eq_some_iff.mp g1).2]
            have a2 : qs.drop (i + 1) = p2 :: qs.drop (i + 2) := by rw [← List.getElem_cons_drop (List.getElem?_eq_some_iff.mp g2).1, (List.getElem?_eq_some_iff.mp g2).2]
            conv => lhs; rw [← List.take_append_drop i qs, a1, a2]
            simp
          exact ln.ap _ _ _ _ es ⟨z1, z2⟩)]
        exact ⟨_, rfl, iteF (q0 rfl _ (Same.refl _))⟩
      · rw [decide_eq_false z2]
        exact iteF (iteF (q0 rfl _ (Same.refl _)))
    have hE' : H11 D = some (.lst []) := by
      rw [hE, List.filter_eq_nil_iff.mpr fun _ _ => Bool.false_ne_true]
      rfl
    refine ⟨Nat.zero_le _, fun L0 nL0 => ?_⟩
    have s12 := sameNew (o := .lst []) nL0
    refine ⟨.list [], .lst (.inl (.inl (s12 _ _ hE'))) .nil, .lst (.inl (.inl upd_same)) .nil, by decide +kernel, _, rfl, iteF ?_⟩
    rw [tnext_eq]
    have sA := s11.trans s12
    have sB := s18.trans sA
    have ot9 := ot8.same sA
    have gl9 := gl8.same sA
    have hus9 := sA _ _ hus8'
    have pus9 := pus8'.same sA
    generalize upd H11 L0 (.lst []) = H13 at sB ot9 gl9 hus9 pus9
    clear hE hE' s12 sA s11 ot8 gl8 hus8' pus8' hone8 s18
    -- powers
    refine ⟨_, rfl, l, rfl, ⟨_, .inl (.inl hus9)⟩, fun D hD => ?_⟩
    refine lcP (fun p => isOpen p.2) (fun p => .str (S p.1)) (by rw [lus, sizeLine_eq]; omega) hus9 pus9 (fun p fa H14 R R0 mem s14 hfa q1 q0 => ?_) hD fun H14 s14 hE => ?_
    · refine ⟨rfl, _, rfl, 1, rfl, fa, _, 1, rfl, rfl, rfl, hfa, fun b1 H15 s15 e15 => ?_⟩
      refine ⟨b1, p.2.tail.map fun n : Nat => (n : Int), rfl, tail_ints e15, _, _, rfl, rfl, _, rfl, ?_⟩
      rw [tail_sum]
      cases ho : isOpen p.2 with
      | true => exact iteT ⟨_, rfl, q1 ho _ s15⟩
      | false => exact iteF (q0 ho _ s15)
    have ot14 := ot9.same s14
    obtain ⟨t1, ⟨dx1, hat1⟩, glt1⟩ := id ot14
    refine ⟨_, rfl, t, dx1, _, rfl, hat1, of_no t1 m (by decide +kernel) (by decide +kernel), t, m, ns, rfl, ot14, fun L1 H15 s15 nL1 glL => ⟨_, _, rfl, ?_⟩⟩
    have hF15 := s15 _ _ hE
    have sC := sB.trans (s14.trans s15)
    have ot15 := ot14.same s15
    have gl15 := (gl9.same s14).same s15
    obtain ⟨vs, hvs, pvs⟩ := id glL.at_
    have lvs := pvs.len
    have fewN := glL.few
    clear hE ot14 hat1 glt1 gl9 hus9 pus9 ot9 nL1 s15 s14 sB
    refine ⟨_, rfl, D, _, rfl, .inl (.inl (.inl hF15)), _, rfl, L1, rfl, ⟨_, .inl (.inl hvs)⟩, fun D2 hD2 => ?_⟩
    refine lcP (fun p => isOpen p.2) (fun p => .str (S p.1)) (by rw [lvs, sizeLine_eq]; omega) hvs pvs (fun p fa H14 R R0 mem s14 hfa q1 q0 => ?_) hD2 fun H16 s16 hE2 => ?_
    · refine ⟨rfl, _, rfl, 1, rfl, fa, _, 1, rfl, rfl, rfl, hfa, fun b1 H15 s15 e15 => ?_⟩
      refine ⟨b1, p.2.tail.map fun n : Nat => (n : Int), rfl, tail_ints e15, _, _, rfl, rfl, _, rfl, ?_⟩
      rw [tail_sum]
      cases ho : isOpen p.2 with
      | true => exact iteT ⟨_, rfl, q1 ho _ s15⟩
      | false => exact iteF (q0 ho _ s15)
    have ec : ((qs.filter fun p => isOpen p.2).map fun p => V.str (S p.1)).length = ((ns.filter fun p => isOpen p.2).map fun p => V.str (S p.1)).length := by
      rw [List.length_map, List.length_map]
      exact ln.np
    refine ⟨D2, _, rfl, .inl (.inl (.inl hE2)), rfl, false, by rw [ec]; exact congrArg V.bl (ne_no _), iteF ?_⟩
    rw [tnext_eq]
    have ot16 := ot15.same s16
    have gl16 := gl15.same s16
    have glL16 := glL.same s16
    have hF16 := s16 _ _ hF15
    have sD := sC.trans s16
    clear hE2 ot15 gl15 glL hvs pvs hF15 sC
    obtain ⟨us2, hus2, pus2⟩ := id gl16.at_
    have lus2 := pus2.len
    -- sums
    refine ⟨_, rfl, l, rfl, ⟨_, .inl (.inl hus2)⟩, fun D3 hD3 => ?_⟩
    refine lcP (fun _ => true) (fun p => .int ((p.1.length * p.2.headD 0 : Nat) : Int)) (by rw [lus2, sizeLine_eq]; omega) hus2 pus2 (fun p fa H14 R R0 mem s14 hfa q1 q0 => ?_) hD3 fun H17 s17 hE3 => ?_
    · have bp := gl16.bf p mem
      have lp := gl16.len p mem
      have wp := gl16.ws p mem
      have h0 : p.2.headD 0 < 2 ^ 900 := by
        cases e : p.2 with
        | nil => decide
        | cons a f => exact bp a (by rw [e]; exact List.mem_cons_self)
      refine ⟨rfl, ?_⟩
      refine ⟨_, rfl, S p.1, rfl, len_line (by omega), _, rfl, fa, _, 0, _, rfl, rfl, hfa, atI_nat (j := 0) (head_get lp), _, _, rfl, rfl, wide_mul (a := 900) (b := 900) ?_ (by omega) (by decide) (by decide) (by decide), ?_⟩
      · rw [S_len, Int.natAbs_natCast]
        exact Nat.lt_of_le_of_lt wp (by decide +kernel)
      · rw [S_len]
        have := q1 rfl H14 (Same.refl _)
        rw [Int.natCast_mul] at this
        exact this
    have sum3 := sum_ints hE3
    refine ⟨D3, _, rfl, .inl (.inl sum3), ?_⟩
    have s17' := s17
    obtain ⟨vs, hvs, pvs⟩ := id (glL16.same s17).at_
    have lvs := pvs.len
    have glL17 := glL16.same s17
    refine ⟨_, rfl, L1, rfl, ⟨_, .inl (.inl hvs)⟩, fun D4 hD4 => ?_⟩
    refine lcP (fun _ => true) (fun p => .int ((p.1.length * p.2.headD 0 : Nat) : Int)) (by rw [lvs, sizeLine_eq]; omega) hvs pvs (fun p fa H14 R R0 mem s14 hfa q1 q0 => ?_) hD4 fun H18 s18 hE4 => ?_
    · have bp := glL17.bf p mem
      have lp := glL17.len p mem
      have wp := glL17.ws p mem
      have h0 : p.2.headD 0 < 2 ^ 900 := by
        cases e : p.2 with
        | nil => decide
        | cons a f => exact bp a (by rw [e]; exact List.mem_cons_self)
      refine ⟨rfl, ?_⟩
      refine ⟨_, rfl, S p.1, rfl, len_line (by omega), _, rfl, fa, _, 0, _, rfl, rfl, hfa, atI_nat (j := 0) (head_get lp), _, _, rfl, rfl, wide_mul (a := 900) (b := 900) ?_ (by omega) (by decide) (by decide) (by decide), ?_⟩
      · rw [S_len, Int.natAbs_natCast]
        exact Nat.lt_of_le_of_lt wp (by decide +kernel)
      · rw [S_len]
        have := q1 rfl H14 (Same.refl _)
        rw [Int.natCast_mul] at this
        exact this
    have sum4 := sum_ints hE4
    refine ⟨D4, _, rfl, .inl (.inl sum4), rfl, false, by rw [int_sum, int_sum, ln.sum]; exact congrArg V.bl (ne_no _), iteF ?_⟩
    rw [tnext_eq]
    have sE := s17.trans s18
    have sF := sD.trans sE
    have ot18 := ot16.same sE
    have gl18 := gl16.same sE
    have hF18 := sE _ _ hF16
    have hus18 := sE _ _ hus2
    have pus18 := pus2.same sE
    clear hE3 hE4 sum3 sum4 s17 s17' s18 glL17 glL16 ot16 gl16 hF16 hvs pvs hus2 pus2 sD sE
    -- primitive, and the text
    refine ⟨_, rfl, D, rfl, ⟨_, .inl (.inl hF18)⟩, fun D5 hD5 => ?_⟩
    refine lcL_filt (K := K) (a := D) (xs := (qs.filter fun p => isOpen p.2).map fun p => V.str (S p.1)) (fun _ => false) (fun _ => .non) (fun H' s => .inl (.inl (s _ _ hF18))) (by rw [List.length_map]; have := List.length_filter_le (fun p : Pn => isOpen p.2) qs; rw [sizeLine_eq]; omega) (fun j z H4 R R0 hz s4 q1 q0 => ?_) hD5 fun H19 s19 hE5 => ?_
    · rw [List.getElem?_map] at hz
      cases hp : (qs.filter fun p => isOpen p.2)[j]? with
      | none => rw [hp] at hz; cases hz
      | some p =>
        rw [hp] at hz
        cases hz
        obtain ⟨hm, ho⟩ := List.mem_filter.mp (List.mem_of_getElem? hp)
        exact ⟨rfl, _, rfl, p.1, rfl, Nat.le_trans (gl18.ws p hm) (by decide), fun b hb => ⟨b, rfl, by rw [hb.mpr ((ln.ok p hm).prim ho)]; exact iteF (q0 rfl _ (Same.refl _))⟩⟩
    have hE' : H19 D5 = some (.lst []) := by
      rw [hE5, List.filter_eq_nil_iff.mpr fun _ _ => Bool.false_ne_true]
      rfl
    refine ⟨Nat.zero_le _, fun L0 nL0 => ?_⟩
    have s20 := sameNew (o := .lst []) nL0
    refine ⟨.list [], .list [], .lst (.inl (.inl (s20 _ _ hE'))) .nil, .lst (.inl (.inl upd_same)) .nil, by decide +kernel, by decide +kernel, ?_⟩
    refine ⟨true, rfl, iteT ?_⟩
    have sG := s19.trans s20
    have sH := sF.trans sG
    have ot20 := ot18.same sG
    have gl20 := gl18.same sG
    have hus20 := sG _ _ hus18
    have pus20 := pus18.same sG
    generalize upd H19 L0 (.lst []) = H20 at sH ot20 gl20 hus20 pus20
    refine ⟨_, rfl, _, rfl, l, us2, rfl, .inl (.inl (.inl hus20)), fun L2' nL2 => ?_⟩
    have s21 := sameNew (o := .lst us2) nL2
    have gl21 : GL (upd H20 L2' (.lst us2)) m L2' qs := ⟨⟨us2, upd_same, pus20.same s21⟩, gl20.len, gl20.ws, gl20.low, gl20.bf, gl20.few⟩
    have ot21 := ot20.same s21
    have sI := sH.trans s21
    generalize upd H20 L2' (.lst us2) = H21 at sI gl21 ot21
    intro x dy nx ndx nex
    refine mk_text nx ndx nex gl21 m3 hme hwl fun r3 H22 s22 nr3 ot22 => ⟨rfl, ?_⟩
    rw [ln.nm] at ot22
    have ot23 := ot21.same s22
    obtain ⟨⟨dz, hx⟩, _⟩ := id ot22
    obtain ⟨t3, ⟨dw, hw3⟩, glw⟩ := id ot23
    refine ⟨_, rfl, x, t, dz, _, dw, _, rfl, rfl, hx, hw3, x, t, m, m, ns, ns, rfl, ⟨r3, ot22⟩, ot23, ⟨_, rfl⟩, ?_⟩
    rw [decide_eq_true (rfl : m = m), decide_eq_true (rfl : ns = ns), Bool.true_and]
    exact q _ (sI.trans s22)
end
end K67

set_option Elab.async false
set_option linter.all false
set_option maxRecDepth 100000
set_option maxHeartbeats 4000000
set_option exponentiation.threshold 3000
namespace K67
open PySem PySem.Spec PyProof.Rows L2 CK SX NM
theorem filt_pow {m : Nat} : ∀ {ns : List Pn}, (∀ p ∈ ns, NormP m p) → nPow ns = nOpen ns
  | [], _ => rfl
  | p :: r, h => by
    have ih := filt_pow (ns := r) fun q hq => h q (List.mem_cons_of_mem _ hq)
    have hp := h p List.mem_cons_self
    unfold nPow nOpen at ih ⊢
    rw [List.filter_cons, List.filter_cons]
    cases e : isPow p with
    | true => rw [(hp.pow e).2, if_pos rfl, if_pos rfl, List.length_cons, List.length_cons, ih]
    | false =>
      have : isOpen p.2 = false := by rw [hp.fix e]; exact open_one m
      rw [this, if_neg Bool.false_ne_true, if_neg Bool.false_ne_true, ih]
theorem dot_zeros : ∀ (f : List Nat) (m : Nat), dot f (List.replicate m 0) = 0
  | [], _ => by simp [dot]
  | _ :: _, 0 => by simp [dot]
  | a :: f, m + 1 => by rw [List.replicate_succ, dot, dot_zeros f m]; omega
theorem wr_zero (m : Nat) : ∀ ps : List Pn, (wr (List.replicate m 0) ps).length = (ps.map fun p => p.1.length * p.2.headD 0).sum
  | [] => rfl
  | p :: r => by
    rw [wr, List.length_append, wr_zero m r, List.map_cons, List.sum_cons]
    unfold wrt
    rw [WM.pw_len]
    unfold valF
    rw [dot_zeros, Nat.add_zero]
theorem ln_lean {m : Nat} {ps : List Pn} (lF : LenF m ps) : Ln m (normL ps) (leanL ps) := by
  have jn := leanL_jn lF []
  have lQ : LenF m (leanL ps) := fun p hp => (jn.ok p hp).len
  have lR : LenF m (rootedL ps) := fun p hp => (rootedL_ok lF p hp).len
  refine ⟨norm_same lQ lF fun pt _ => leanL_wr lF pt, jn.ok, jn.ap, ?_, ?_⟩
  · rw [leanL_open lF, norm_same lR lF fun pt _ => rootedL_wr pt ps]
    exact filt_pow (nm_normL lF).all
  · rw [← wr_zero m, ← wr_zero m, leanL_wr lF, wr_normL lF]
theorem dot_le {a c : Nat} : ∀ {f pt : List Nat}, (∀ x ∈ f, x ≤ a) → (∀ y ∈ pt, y ≤ c) → dot f pt ≤ f.length * (a * c)
  | [], _, _, _ => by simp [dot]
  | _ :: _, [], _, _ => by simp [dot]
  | x :: f, y :: pt, h, g => by
    have ih := dot_le (f := f) (pt := pt) (fun z hz => h z (List.mem_cons_of_mem _ hz)) fun z hz => g z (List.mem_cons_of_mem _ hz)
    have : x * y ≤ a * c := Nat.mul_le_mul (h x List.mem_cons_self) (g y List.mem_cons_self)
    rw [dot, List.length_cons, Nat.succ_mul]
    omega
theorem val_dr {m B c : Nat} {p : Pn} (d : DrP m B p) (m3 : m ≤ 3) {pt : List Nat} (hp : ∀ y ∈ pt, y ≤ c) : valF p.2 pt ≤ 3 + 3 * (B * c) := by
  have h := dot_le (a := B) (f := p.2.tail) (pt := pt) (fun x hx => Nat.le_of_lt (d.num x (List.mem_of_mem_tail hx))) hp
  have l : p.2.tail.length ≤ 3 := by rw [List.length_tail, d.len]; omega
  have := Nat.mul_le_mul_right (B * c) l
  have := d.hd
  unfold valF
  omega
theorem wr_dr {m B c : Nat} (m3 : m ≤ 3) {pt : List Nat} (hp : ∀ y ∈ pt, y ≤ c) : ∀ {ps : List Pn}, Dr m B ps → (wr pt ps).length ≤ ps.length * (12 * (3 + 3 * (B * c)))
  | [], _ => by simp [wr]
  | p :: r, h => by
    have ih := wr_dr m3 hp (ps := r) fun q hq => h q (List.mem_cons_of_mem _ hq)
    have hd := h p List.mem_cons_self
    have v := val_dr hd m3 hp
    have : (wrt pt p).length ≤ 12 * (3 + 3 * (B * c)) := by
      unfold wrt
      rw [WM.pw_len]
      exact Nat.mul_le_mul hd.few v
    rw [wr, List.length_append, List.length_cons, Nat.add_mul]
    omega
theorem Dr.wl {m B : Nat} {ps : List Pn} (d : Dr m B ps) (m3 : m ≤ 3) (hB : B ≤ 2 ^ 200) (hl : ps.length ≤ 40) : Wl m ps := by
  have h := wr_dr (c := 1) m3 (pt := List.replicate m 1) (fun y hy => by rw [(List.mem_replicate.mp hy).2]; exact Nat.le_refl _) d
  have a : 3 + 3 * (B * 1) ≤ 3 + 3 * 2 ^ 200 := by omega
  have b : ps.length * (12 * (3 + 3 * (B * 1))) ≤ 40 * (12 * (3 + 3 * 2 ^ 200)) := Nat.mul_le_mul hl (Nat.mul_le_mul_left _ a)
  exact Nat.lt_of_le_of_lt (Nat.le_trans h b) (by decide +kernel)
/-! repr of a list within bounds -/
theorem show_gP {m : Nat} {p : Pn} (lp : p.2.length = m + 1) (m3 : m ≤ 3) (low : Low p.1) (wp : p.1.length ≤ 2000) (bp : Bf p.2) : (dP p).showable = true ∧ (dP p).hasDict = false ∧ (dP p).shown.length ≤ 30000 := by
  have hn : ∀ n ∈ p.2, n < 2 ^ 1900 := fun n hn => Nat.lt_of_lt_of_le (bp n hn) (Nat.pow_le_pow_right (by decide) (by decide))
  have hl := logs hn
  have a1 := shown_ints _ hl
  have a2 := noDict_ints (p.2.map fun n : Nat => ((n : Nat) : Int))
  have a3 := piled_ints _ hl
  have a4 := fmt_text (PyData.shownAll ((p.2.map fun n : Nat => ((n : Nat) : Int)).map PyData.int))
  rw [List.length_map, lp] at a3
  have b1 : (reprText (S p.1)).length ≤ 10 * (S p.1).length + 2 := StrLaws.reprText_len _ fun c hc => by
    have := low c hc
    omega
  have b0 := S_len p.1
  unfold dP dF
  rw [dF_ints]
  refine ⟨?_, ?_, ?_⟩
  · rw [PyData.showable, PyData.showableAll, PyData.showableAll, PyData.showableAll, PyData.showable, PyData.showable, a1]
    rfl
  · rw [PyData.hasDict, PyData.hasDictAll, PyData.hasDictAll, PyData.hasDictAll, PyData.hasDict, PyData.hasDict, a2]
    rfl
  · rw [PyData.shown, PyData.shownAll, PyData.shownAll, PyData.shownAll, PyData.shown, PyData.shown]
    have c := fmt_text [reprText (S p.1), tupleText (PyData.shownAll ((p.2.map fun n : Nat => ((n : Nat) : Int)).map PyData.int))]
    rw [piled_cons, piled_cons, piled_nil] at c
    omega
theorem show_gs {m : Nat} (m3 : m ≤ 3) : ∀ {ps : List Pn}, LenF m ps → LowP ps → Ws 2000 ps → (∀ p ∈ ps, Bf p.2) → PyData.showableAll (ps.map dP) = true ∧ PyData.hasDictAll (ps.map dP) = false ∧ ((PyData.shownAll (ps.map dP)).map (·.length)).sum ≤ ps.length * 30000 ∧ (PyData.shownAll (ps.map dP)).length = ps.length
  | [], _, _, _, _ => by decide +kernel
  | p :: r, h1, h2, h3, h4 => by
    obtain ⟨a1, a2, a3, a4⟩ := show_gs m3 (ps := r) (fun q hq => h1 q (List.mem_cons_of_mem _ hq)) (fun q hq => h2 q (List.mem_cons_of_mem _ hq)) (fun q hq => h3 q (List.mem_cons_of_mem _ hq)) fun q hq => h4 q (List.mem_cons_of_mem _ hq)
    have mp := List.mem_cons_self (a := p) (l := r)
    obtain ⟨b1, b2, b3⟩ := show_gP (h1 p mp) m3 (h2 p mp) (h3 p mp) (h4 p mp)
    refine ⟨?_, ?_, ?_, ?_⟩
    · rw [List.map_cons, PyData.showableAll, a1, b1]; rfl
    · rw [List.map_cons, PyData.hasDictAll, a2, b2]; rfl
    · rw [List.map_cons, PyData.shownAll, List.map_cons, List.sum_cons, List.length_cons, Nat.add_mul]; omega
    · rw [List.map_cons, PyData.shownAll, List.length_cons, a4, List.length_cons]
theorem GL.show {H : Hp} {m : Nat} {l : Addr} {ps : List Pn} (g : GL H m l ps) (m3 : m ≤ 3) (hl : ps.length ≤ 100) : (PyData.list (ps.map dP)).showable = true ∧ (PyData.list (ps.map dP)).hasDict = false ∧ (PyData.list (ps.map dP)).depth ≤ 60 ∧ (PyData.list (ps.map dP)).shown.length ≤ sizeLine := by
  obtain ⟨a1, a2, a3, a4⟩ := show_gs m3 g.len g.low g.ws g.bf
  refine ⟨?_, ?_, ?_, ?_⟩
  · rw [PyData.showable, a1]
  · rw [PyData.hasDict, a2]
  · have := deep_dPs ps
    rw [PyData.depth]
    omega
  · rw [PyData.shown]
    have := listText_len_le (PyData.shownAll (ps.map dP))
    have : ps.length * 30000 ≤ 100 * 30000 := Nat.mul_le_mul_right _ hl
    rw [sizeLine_eq]
    omega
theorem lean_len {m : Nat} {ps : List Pn} (hl : LenF m ps) : (leanL ps).length ≤ ps.length := by
  have a := joinL_len (gath_ok (rootedL_ok hl))
  have b := gath_len (rootedL_ok hl)
  have c : (rootedL ps).length ≤ ps.length := by
    unfold rootedL
    rw [List.length_map]
    exact List.length_filter_le _ _
  unfold leanL
  omega
theorem vec_le {m : Nat} {ps : List Pn} (hl : LenF m ps) : ∀ (i x y : Nat), (vecs (leanL ps))[i]? = some x → (vecs ps)[i]? = some y → x ≤ y := by
  have h0 : sm e0 (leanL ps) ≤ sm e0 ps := lean_v0 hl
  have h1 : sm e1 (leanL ps) ≤ sm e1 ps := lean_v1 hl
  have h2 : sm e2 (leanL ps) ≤ sm e2 ps := lean_v2 hl
  have h3 : sm e3 (leanL ps) ≤ sm e3 ps := lean_v3 hl
  intro i x y hx hy
  unfold vecs at hx hy
  match i, hx, hy with
  | 0, hx, hy => cases hx; cases hy; exact h0
  | 1, hx, hy => cases hx; cases hy; exact h1
  | 2, hx, hy => cases hx; cases hy; exact h2
  | 3, hx, hy => cases hx; cases hy; exact h3
  | i + 4, hx, hy => simp at hx
section
variable {P : Program} {w : World} {K : PySem.W.Frag} {mg : Str → Option Value} {base : Heap} {C : Addr}
def sp_one : Sp := fun vs H Q _ => ∃ (m B : Nat) (l : Addr) (ps : List Pn), vs = [.int m, .ref l] ∧ m ≤ 3 ∧ B ≤ 2 ^ 200 ∧ PL H l ps ∧ Dr m B ps ∧ ps.length ≤ 30 ∧ ∀ H', Same H H' → Q (.bl true) H'
theorem c_law_one_right (T : Txt K mg C) : CalG P w K mg base 10 "_law_one_right" sp_one := by
  refine calG T.d_law_one_right sc_law_one_right (fun vs H Q E h => ?_) (fun f cdv A outer s H vs Q E hr gd0 h => ?_)
  · obtain ⟨_, _, _, _, rfl, _⟩ := h; rfl
  · obtain ⟨m, B, l, ps, rfl, m3, hB, pl, d, hl, q⟩ := h
    have gd : (A.deeper (envOfC "_law_one_right" (C8.fnScope (topS 70)) s.heap.objs.size f cdv)).guards = some [] := gd0
    refine ⟨_, (pss_cons (ps_par (i := 2) (j := 3) (by rfl) sc_law_one_right.nd rfl rfl (by decide) rfl rfl (pa_cons (C8.pe_mk (n_OpenText T) hr (by decide) (by rfl) (pa_cons (pv 0) (pa_cons (pe_callTy call_list_of (by rfl) T.m_list (by decide +kernel) (pa_cons (pv 1) pa_nil)) pa_nil))) (pa_cons (pe_callB (call_repr hr gd) (by rfl) T.m_repr (by decide +kernel) (pa_cons (pv 1) pa_nil)) pa_nil)) (by rfl))
    (pss_cons (ps_set (i := 4) sc_law_one_right.nd rfl (Or.inl rfl) (C8.pe_c (c_leaned T) hr (by decide) (by rfl) (pa_cons (pv 0) (pa_cons (pv 1) pa_nil))))
    (pss_cons (ps_if (PW.pt (pw_or (pt_not (pt_val (C8.pe_c (c_law_lean T) hr (by decide) (by rfl) (pa_cons (pv 2) (pa_cons (pv 4) pa_nil))))) (pw_or1 (pt_cmpR op_ne (pe_callB (call_repr hr gd) (by rfl) T.m_repr (by decide +kernel) (pa_cons (pv 1) pa_nil)) (pv 3) (nomark _)))))
    (pss_one (ps_ret pe_bl))
    pss_nil)
    (pss_cons (ps_if (pt_cmpR (op_neSame hr.units) (pe_lc (own := [("_law_low", 5), ("_law_high", 6)]) (by rfl) sc_law_one_right.nd (pi_zipB (K := K) rfl (by rfl) T.m_zip (pa_cons (C8.pe_c (c_law_vector T) hr (by decide) (by rfl) (pa_cons (pv 4) pa_nil)) (pa_cons (C8.pe_c (c_law_vector T) hr (by decide) (by rfl) (pa_cons (pv 1) pa_nil)) pa_nil))) (blkOk_by (N := ["_law_many", "_law_pieces", "_law_text", "_law_kept", "_law_told", "_law_low", "_law_high", "_law_again"]) (sc := C8.fnScope (topS 70)) (own := [("_law_low", 5), ("_law_high", 6)]) (by decide +kernel)) (fun _ _ _ _ _ => (pg_two (K := K) (i := 5) (j := 6) rfl rfl sc_law_one_right.nd rfl rfl (Or.inl rfl) (Or.inl rfl))) (fun _ _ _ _ _ => (pts_one (pt_cmpR op_gt (pv 5) (pv 6) (nomark _)))) (fun _ _ _ _ _ => pe_bl)) (pe_lst pa_nil) (nomark _))
    (pss_one (ps_ret pe_bl))
    pss_nil)
    (pss_cons (ps_set (i := 7) sc_law_one_right.nd rfl (Or.inl rfl) (pe_callB (call_repr hr gd) (by rfl) T.m_repr (by decide +kernel) (pa_cons (pv 4) pa_nil)))
    (pss_cons (ps_expr (pe_bm PySem.F.plainAttrs_list PySem.F.slot_list_append PySem.F.type_list_append mt_append (pv 4) (pa_cons pe_non pa_nil)))
    (pss_one (ps_ret (pe_cmpR op_eq (pe_callB (call_repr hr gd) (by rfl) T.m_repr (by decide +kernel) (pa_cons (pe_cN (c_leaned_K_pieces_many T) hr (by decide) (by rfl) (pk_cons (pv 1) (pk_cons (pv 0) pk_nil))) pa_nil)) (pv 7) (nomark _)))))))))), ?_⟩
    have gl := d.gl pl hB (by omega)
    have hme := d.mea
    have hwl := d.wl m3 hB (by omega)
    have lF := gl.len
    obtain ⟨us, hus, pus⟩ := id pl
    refine ⟨_, rfl, _, rfl, l, us, rfl, .inl (.inl (.inl hus)), fun L nL => ?_⟩
    have sL := sameNew (o := .lst us) nL
    have glL : GL (upd H L (.lst us)) m L ps := ⟨⟨us, upd_same, pus.same sL⟩, gl.len, gl.ws, gl.low, gl.bf, gl.few⟩
    generalize upd H L (.lst us) = H1 at sL glL
    intro x dx nx ndx nex
    refine mk_text nx ndx nex glL m3 (by omega) hwl fun r0 H2 s2 nr0 ot => ⟨rfl, ?_⟩
    have sA := sL.trans s2
    have gl2 := gl.same sA
    obtain ⟨k1, k2, k3, k4⟩ := gl.show m3 (by omega)
    refine ⟨_, rfl, .ref l, .list (ps.map dP), rfl, dp_PL gl2.at_, k1, k2, k3, k4, _, _, rfl, ?_⟩
    refine ⟨_, rfl, _, rfl, m, l, ps, rfl, m3, gl2, by omega, fun r H3 n3 => ?_⟩
    obtain ⟨s3, nr, plr⟩ := n3
    have lN := lean_len lF
    have meN := meas_leanL lF
    have glr : GL H3 m r (leanL ps) := lean_gl lF gl.low (by omega) hwl (by omega) plr
    obtain ⟨j1, j2, j3, j4⟩ := glr.show m3 (by omega)
    refine ⟨_, rfl, _, rfl, x, r, m, normL ps, leanL ps, rfl, m3, ⟨r0, ot.same s3⟩, glr, by omega, lean_wl lF hwl, ln_lean lF, fun H4 s4 => ⟨true, rfl, iteF ?_⟩⟩
    have sB := (sA.trans s3).trans s4
    refine ⟨_, rfl, .ref l, .list (ps.map dP), rfl, dp_PL (gl.same sB).at_, k1, k2, k3, k4, _, rfl, rfl, false, congrArg V.bl (ne_no _), iteF ?_⟩
    rw [tnext_eq]
    have gl4 := gl.same sB
    have glr4 := glr.same s4
    refine ⟨_, rfl, r, leanL ps, m, rfl, glr4.at_, glr4.len, m3, glr4.low, glr4.ws, glr4.few, fun v1 H5 s5 hv1 => ?_⟩
    refine ⟨_, rfl, l, ps, m, rfl, (gl4.same s5).at_, gl.len, m3, gl.low, gl.ws, gl.few, fun v2 H6 s6 hv2 => ?_⟩
    have hv1' := hv1.same s6
    refine ⟨.T, .T, v1, v2, _, _, rfl, .inl (.inl hv1'), .inl (.inl hv2), fun D hD => ?_⟩
    refine lcZ_filt (K := K) (k := .T) (k' := .T) (a := v1) (c := v2) (fun _ => false) (fun _ => .non) (by rfl) (small5 (by show 4 ≤ 5; decide)) (fun H' s' => ⟨.inl (.inl (s' _ _ hv1')), .inl (.inl (s' _ _ hv2))⟩) (fun i a b H7 R R0 ha hb s7 q1 q0 => ?_) hD fun H7 s7 hE => ?_
    · obtain ⟨a', _, ea, rfl⟩ := get_nat ha
      obtain ⟨b', _, eb, rfl⟩ := get_nat hb
      have le := vec_le lF i a' b' ea eb
      refine ⟨rfl, _, rfl, _, rfl, _, _, rfl, rfl, _, rfl, ?_⟩
      rw [decide_eq_false (by omega)]
      exact iteF (q0 rfl _ (Same.refl _))
    have hE' : H7 D = some (.lst []) := by
      rw [hE, List.filter_eq_nil_iff.mpr fun _ _ => Bool.false_ne_true]
      rfl
    refine ⟨Nat.zero_le _, fun L0 nL0 => ?_⟩
    have s8 := sameNew (o := .lst []) nL0
    refine ⟨.list [], .lst (.inl (.inl (s8 _ _ hE'))) .nil, .lst (.inl (.inl upd_same)) .nil, by decide +kernel, _, rfl, iteF ?_⟩
    rw [tnext_eq]
    have sC := ((s5.trans s6).trans s7).trans s8
    have gl8 := gl4.same sC
    have glr8 := glr4.same sC
    have sD := sB.trans sC
    generalize upd H7 L0 (.lst []) = H8 at sC gl8 glr8 sD
    refine ⟨_, rfl, .ref r, .list ((leanL ps).map dP), rfl, dp_PL glr8.at_, j1, j2, j3, j4, ?_⟩
    obtain ⟨ws, hws, pws⟩ := id glr8.at_
    have lws := pws.len
    refine ⟨_, rfl, .inl ⟨rfl, _, .inl (.inl hws)⟩, r, _, _, rfl, rfl, hws, by rw [lws, sizeLine_eq]; omega, ?_⟩
    have nrH : H r = none := new_back sA nr
    have s9 : Same H (upd H8 r (.lst (ws ++ [.non]))) := same_updN sD nrH
    have gl9 := gl.same s9
    generalize upd H8 r (.lst (ws ++ [.non])) = H9 at s9 gl9
    refine ⟨_, rfl, _, rfl, rfl, rfl, m, l, ps, rfl, m3, gl9, by omega, fun r2 H10 n10 => ?_⟩
    obtain ⟨s10, nr2, pl2⟩ := n10
    refine ⟨.ref r2, .list ((leanL ps).map dP), rfl, dp_PL pl2, j1, j2, j3, j4, _, rfl, rfl, ?_⟩
    rw [decide_eq_true rfl]
    exact q H10 (s9.trans s10)
end
end K67

set_option Elab.async false
set_option linter.all false
set_option maxRecDepth 100000
set_option maxHeartbeats 4000000
set_option exponentiation.threshold 3000
namespace K67
open PySem PySem.Spec PyProof.Rows L2 CK SX NM
theorem add_comm (f g : F) : addF f g = addF g f := by
  unfold addF
  rw [List.zipWith_comm]
  congr 1
  funext a b
  exact Nat.add_comm _ _
theorem mem_addL : ∀ {f g : F} {x : Nat}, f.length = g.length → x ∈ f → ∃ y ∈ addF f g, x ≤ y
  | a :: f, b :: g, x, h, hx => by
    rcases List.mem_cons.mp hx with z | z
    · exact ⟨a + b, List.mem_cons_self, by omega⟩
    · obtain ⟨y, hy, l⟩ := mem_addL (f := f) (g := g) (by simpa using h) z
      exact ⟨y, List.mem_cons_of_mem _ hy, l⟩
  | _ :: _, [], _, h, _ => by simp at h
theorem headD_add {f g : F} (h : f.length = g.length) : (addF f g).headD 0 = f.headD 0 + g.headD 0 := by
  cases f with
  | nil =>
    cases g with
    | nil => rfl
    | cons b g => simp at h
  | cons a f =>
    cases g with
    | nil => simp at h
    | cons b g => rfl
def SameW (m : Nat) (ps qs : List Pn) : Prop := ∀ pt : List Nat, pt.length = m → wr pt qs = wr pt ps
theorem SameW.repl {m : Nat} {A X Y B : List Pn} (h : SameW m X Y) : SameW m (A ++ X ++ B) (A ++ Y ++ B) := fun pt hp => by
  simp only [wr_app, h pt hp]
theorem split1 {ps : List Pn} {k : Nat} {p : Pn} (h : ps[k]? = some p) : ps = ps.take k ++ [p] ++ ps.drop (k + 1) := by
  obtain ⟨hk, e⟩ := List.getElem?_eq_some_iff.mp h
  conv => lhs; rw [← List.take_append_drop k ps, ← List.getElem_cons_drop hk, e]
  simp
theorem Pcs.take {H : Hp} {vs : List V} {ps : List Pn} (h : Pcs H vs ps) (k : Nat) : Pcs H (vs.take k) (ps.take k) := by
  induction h generalizing k with
  | nil => simp; exact .nil
  | cons e _ ih =>
    cases k with
    | zero => exact .nil
    | succ k => exact .cons e (ih k)
theorem Pcs.drop {H : Hp} {vs : List V} {ps : List Pn} (h : Pcs H vs ps) (k : Nat) : Pcs H (vs.drop k) (ps.drop k) := by
  induction h generalizing k with
  | nil => simp; exact .nil
  | cons e h ih =>
    cases k with
    | zero => exact .cons e h
    | succ k => exact ih k
theorem cut_take (vs : List V) (k : Nat) : cutV vs none (some (k : Int)) = vs.take k := cutV_take vs k
theorem cut_drop1 (vs : List V) (k : Nat) : cutV vs (some ((k : Int) + 1)) none = vs.drop (k + 1) := by
  rw [show ((k : Int) + 1) = ((k + 1 : Nat) : Int) by omega, cutV_drop]
def vSubN : V → V → V
  | .int i, .int j => .int (i - j)
  | _, _ => .non
theorem zip_subN : ∀ (f g : List Nat), f.length = g.length → (∀ (i x y : Nat), f[i]? = some x → g[i]? = some y → y ≤ x) → ∃ h : List Nat, List.zipWith vSubN (natsV f) (natsV g) = natsV h ∧ h.length = f.length ∧ addF g h = f
  | [], [], _, _ => ⟨[], rfl, rfl, rfl⟩
  | x :: f, y :: g, hl, hle => by
    obtain ⟨h, e1, e2, e3⟩ := zip_subN f g (by simpa using hl) fun i a b ha hb => hle (i + 1) a b ha hb
    have h0 := hle 0 x y rfl rfl
    refine ⟨(x - y) :: h, ?_, by simp [e2], ?_⟩
    · show V.int ((x : Int) - (y : Int)) :: List.zipWith vSubN (natsV f) (natsV g) = V.int ((x - y : Nat) : Int) :: natsV h
      rw [e1]
      congr 2
      omega
    · show (y + (x - y)) :: addF g h = x :: f
      rw [e3]
      congr 1
      omega
  | [], _ :: _, hl, _ => by simp at hl
  | _ :: _, [], hl, _ => by simp at hl
theorem natsV_app (a b : List Nat) : natsV (a ++ b) = natsV a ++ natsV b := by unfold natsV; rw [List.map_append]
theorem three_new {H : Hp} {c1 p2 c2 : Addr} {o1 o2 o3 : HO} (n1 : H c1 = none) (n2 : (upd H c1 o1) p2 = none) (n3 : (upd (upd H c1 o1) p2 o2) c2 = none) : Same H (upd (upd (upd H c1 o1) p2 o2) c2 o3) := ((sameNew n1).trans (sameNew n2)).trans (sameNew n3)
theorem pl_cut {H H' : Hp} {c2 : Addr} {vs us ws : List V} {ps Y : List Pn} {k j : Nat} (hp : Pcs H vs ps) (hY : Pcs H us Y) (s : Same H H') (e : H' c2 = some (.lst (vs.take k ++ us ++ ws))) (ew : ws = vs.drop j) : PL H' c2 (ps.take k ++ Y ++ ps.drop j) := by
  subst ew
  exact ⟨_, e, (((hp.take k).app hY).app (hp.drop j)).same s⟩
theorem shaped_nil : SeqAt.shaped (.list []) = true := by decide +kernel
def odd (x : Nat) : Bool := decide (x % 2 ≠ 0)
theorem SameW.rfl' {m : Nat} {ps : List Pn} : SameW m ps ps := fun _ _ => rfl
theorem SameW.trans {m : Nat} {a b c : List Pn} (h : SameW m a b) (g : SameW m b c) : SameW m a c := fun pt hp => (g pt hp).trans (h pt hp)
theorem sw_parted {m : Nat} {w : List Nat} {f g h : F} (e : addF g h = f) (l : g.length = h.length) : SameW m [(w, f)] [(w, g), (w, h)] := fun pt _ => by
  show wrt pt (w, g) ++ (wrt pt (w, h) ++ []) = wrt pt (w, f) ++ []
  rw [List.append_nil, List.append_nil]
  unfold wrt
  show WM.pw w (valF g pt) ++ WM.pw w (valF h pt) = WM.pw w (valF f pt)
  rw [← e, val_add pt l, WM.pw_add]
theorem sw_doubled {m : Nat} {w : List Nat} {f g : F} (e : f = timesF 2 g) : SameW m [(w, f)] [(WM.pw w 2, g)] := fun pt _ => by
  show wrt pt (WM.pw w 2, g) ++ [] = wrt pt (w, f) ++ []
  unfold wrt
  show WM.pw (WM.pw w 2) (valF g pt) ++ [] = WM.pw w (valF f pt) ++ []
  rw [e, val_times, pw_mul]
theorem sw_turned {m c : Nat} {a b : List Nat} {t : F} : SameW m [(a ++ b, (c + 1) :: t)] [(a, one1 m), (b ++ a, c :: t), (b, one1 m)] := fun pt _ => by
  show wrt pt (a, one1 m) ++ (wrt pt (b ++ a, c :: t) ++ (wrt pt (b, one1 m) ++ [])) = wrt pt (a ++ b, (c + 1) :: t) ++ []
  rw [wrt_one1 (p := (a, one1 m)) rfl, wrt_one1 (p := (b, one1 m)) rfl, List.append_nil, List.append_nil]
  unfold wrt
  have e : valF ((c + 1) :: t) pt = valF (c :: t) pt + 1 := by
    show c + 1 + dot t pt = c + dot t pt + 1
    omega
  show a ++ (WM.pw (b ++ a) (valF (c :: t) pt) ++ b) = WM.pw (a ++ b) (valF ((c + 1) :: t) pt)
  rw [e, WM.pw_add, NM.pw_one, ← List.append_assoc, ← pw_comm b a, List.append_assoc]
theorem sw_empty {m : Nat} {f : F} : SameW m [] [([], f)] := fun pt _ => by
  show wrt pt ([], f) ++ [] = []
  unfold wrt
  show WM.pw [] _ ++ [] = []
  rw [pw_nil]
  rfl
theorem Dr.repl {m B : Nat} {ps Y : List Pn} {k j : Nat} (d : Dr m B ps) (y : Dr m B Y) : Dr m B (ps.take k ++ Y ++ ps.drop j) := fun p hp => by
  rcases List.mem_append.mp hp with x | x
  · rcases List.mem_append.mp x with x | x
    · exact d p (List.mem_of_mem_take x)
    · exact y p x
  · exact d p (List.mem_of_mem_drop x)
theorem DrP.addL {m B : Nat} {w : List Nat} {f g h : F} (d : DrP m B (w, f)) (e : addF g h = f) (lg : g.length = m + 1) (lh : h.length = m + 1) : DrP m B (w, g) := by
  have hh : f.headD 0 = g.headD 0 + h.headD 0 := by rw [← e, headD_add (by omega)]
  have hd : f.headD 0 ≤ 3 := d.hd
  refine ⟨lg, d.low, d.few, ?_, fun x hx => ?_⟩
  · show g.headD 0 ≤ 3
    omega
  · obtain ⟨y, hy, le⟩ := mem_addL (g := h) (by omega : g.length = h.length) hx
    rw [e] at hy
    exact Nat.lt_of_le_of_lt le (d.num y hy)
theorem DrP.addR {m B : Nat} {w : List Nat} {f g h : F} (d : DrP m B (w, f)) (e : addF g h = f) (lg : g.length = m + 1) (lh : h.length = m + 1) : DrP m B (w, h) := d.addL (by rw [add_comm]; exact e) lh lg
theorem dr_one {m B : Nat} {z : List Nat} (low : Low z) (l : z.length ≤ 12) (hB : 4 ≤ B) : DrP m B (z, one1 m) := ⟨by unfold one1; simp, low, l, by show 1 ≤ 3; decide, fun x hx => by
  have : x = 1 ∨ x ∈ List.replicate m 0 := List.mem_cons.mp hx
  rcases this with rfl | h
  · omega
  · rw [(List.mem_replicate.mp h).2]; omega⟩
section
variable {P : Program} {w : World} {K : PySem.W.Frag} {mg : Str → Option Value} {base : Heap} {C : Addr}
def Stepd (H : Hp) (g : Addr) (n m B : Nat) (ps : List Pn) (Q : VK) : Prop := ∀ r qs H', SameX g H H' → Gn n H' g → r ≠ g → PL H' r qs → Dr m B qs → qs.length ≤ 12 → SameW m ps qs → Q (.ref r) H'
def sp_stepped : Sp := fun vs H Q _ => ∃ (g l : Addr) (m B n : Nat) (ps : List Pn), vs = [.ref g, .int m, .ref l] ∧ PL H l ps ∧ l ≠ g ∧ Dr m B ps ∧ ps.length ≤ 12 ∧ m ≤ 3 ∧ 4 ≤ B ∧ B < 2 ^ 190 ∧ Gn (n + 20) H g ∧ Stepd H g n m B ps Q
theorem c_law_stepped (T : Txt K mg C) : C8.Cal P w K mg base 5 "_law_stepped" sp_stepped [] := by
  refine calF T.d_law_stepped sc_law_stepped (fun vs H Q E h => ?_) (fun f0 cdv A outer s H vs Q E hr h => ?_)
  · obtain ⟨_, _, _, _, _, _, rfl, _⟩ := h; rfl
  · obtain ⟨g, l, m, B, n, ps, rfl, ⟨vs, hl, hp⟩, lg, d, few, m3, b4, bb, G, q⟩ := h
    have lv := hp.len
    have low : LowP ps := fun p hp => (d p hp).low
    refine ⟨_, (pss_cons (ps_if (PW.pt (pw_or (pt_cmpR (op_eqD hr.units) (pv 2) (pe_lst pa_nil) (nomark _)) (pw_or1 (pt_cmpR op_gt (pe_callB call_len_seq (by rfl) T.m_len (by decide +kernel) (pa_cons (pv 2) pa_nil)) pe_int (nomark _)))))
    (pss_one (ps_ret (pv 2)))
    pss_nil)
    (pss_cons (ps_par (i := 3) (j := 4) (by rfl) sc_law_stepped.nd rfl rfl (by decide) rfl rfl (pa_cons (C8.pe_c (c_law_random T) hr (by decide) (by rfl) (pa_cons (pv 0) (pa_cons (pe_callB call_len_seq (by rfl) T.m_len (by decide +kernel) (pa_cons (pv 2) pa_nil)) pa_nil))) (pa_cons (pe_op op_catS (pe_tup (pa_cons pe_int pa_nil)) (pe_op op_repOne (pe_tup (pa_cons pe_int pa_nil)) (pv 1))) pa_nil)) (by rfl))
    (pss_cons (ps_asg (pe_ix ix_list (pv 2) (pv 3) (fun _ _ => rfl)) (pg_two (K := K) (i := 5) (j := 6) rfl rfl sc_law_stepped.nd rfl rfl (Or.inl rfl) (Or.inl rfl)))
    (pss_cons (ps_set (i := 7) sc_law_stepped.nd rfl (Or.inl rfl) (C8.pe_c (c_law_random T) hr (by decide) (by rfl) (pa_cons (pv 0) (pa_cons pe_int pa_nil))))
    (pss_cons (ps_if (pt_cmpR op_eq (pv 7) pe_int (nomark _))
    (pss_cons (ps_set (i := 8) sc_law_stepped.nd rfl (Or.inl rfl) (pe_callTy call_tupL (by rfl) T.m_tuple (by decide +kernel) (pa_cons (pe_lc (own := [("_law_number_here", 9)]) (by rfl) sc_law_stepped.nd (pi_tup (pv 6)) (blkOk_by (N := ["_law_generator_here", "_law_many", "_law_pieces", "_law_at", "_law_one", "_law_word_here", "_law_form_here", "_law_way", "_law_first", "_law_number_here", "_law_rest", "_law_taken", "_law_turned"]) (sc := C8.fnScope (topS 69)) (own := [("_law_number_here", 9)]) (by decide +kernel)) (fun _ _ _ _ _ => (pg_name (i := 9) sc_law_stepped.nd rfl (Or.inl rfl))) (fun _ _ _ _ _ => pts_nil) (fun _ _ _ _ _ => (C8.pe_c (c_law_random T) hr (by decide) (by rfl) (pa_cons (pv 0) (pa_cons (pe_op op_add (pv 9) pe_int) pa_nil))))) pa_nil)))
    (pss_cons (ps_set (i := 10) sc_law_stepped.nd rfl (Or.inl rfl) (pe_callTy call_tupL (by rfl) T.m_tuple (by decide +kernel) (pa_cons (pe_lc (own := [("_law_number_here", 9), ("_law_taken", 11)]) (by rfl) sc_law_stepped.nd (pi_zipB (K := K) rfl (by rfl) T.m_zip (pa_cons (pv 6) (pa_cons (pv 8) pa_nil))) (blkOk_by (N := ["_law_generator_here", "_law_many", "_law_pieces", "_law_at", "_law_one", "_law_word_here", "_law_form_here", "_law_way", "_law_first", "_law_number_here", "_law_rest", "_law_taken", "_law_turned"]) (sc := C8.fnScope (topS 69)) (own := [("_law_number_here", 9), ("_law_taken", 11)]) (by decide +kernel)) (fun _ _ _ _ _ => (pg_two (K := K) (i := 9) (j := 11) rfl rfl sc_law_stepped.nd rfl rfl (Or.inl rfl) (Or.inl rfl))) (fun _ _ _ _ _ => pts_nil) (fun _ _ _ _ _ => (pe_op op_sub (pv 9) (pv 11)))) pa_nil)))
    (pss_one (ps_ret (pe_op op_cat (pe_op op_cat (pe_slice sl_list (pv 2) po_none (po_some (pv 3))) (pe_lst (pa_cons (pe_tup (pa_cons (pv 5) (pa_cons (pv 8) pa_nil))) (pa_cons (pe_tup (pa_cons (pv 5) (pa_cons (pv 10) pa_nil))) pa_nil)))) (pe_slice sl_list (pv 2) (po_some (pe_op op_add (pv 3) pe_int)) po_none))))))
    pss_nil)
    (pss_cons (ps_if (PW.pt (pw_and (pt_cmpR op_eq (pv 7) pe_int (nomark _)) (pw_and (pt_cmpR op_lt (pe_callB call_len_str (by rfl) T.m_len (by decide +kernel) (pa_cons (pv 5) pa_nil)) pe_int (nomark _)) (pw_and1 (pt_cmpR (op_eqD hr.units) (pe_lc (own := [("_law_number_here", 9)]) (by rfl) sc_law_stepped.nd (pi_tup (pv 6)) (blkOk_by (N := ["_law_generator_here", "_law_many", "_law_pieces", "_law_at", "_law_one", "_law_word_here", "_law_form_here", "_law_way", "_law_first", "_law_number_here", "_law_rest", "_law_taken", "_law_turned"]) (sc := C8.fnScope (topS 69)) (own := [("_law_number_here", 9)]) (by decide +kernel)) (fun _ _ _ _ _ => (pg_name (i := 9) sc_law_stepped.nd rfl (Or.inl rfl))) (fun _ _ _ _ _ => (pts_one (pt_cmpR op_ne (pe_op op_modZ (pe_callTy call_int1 (by rfl) T.m_int (by decide +kernel) (pa_cons (pv 9) pa_nil)) pe_int) pe_int (nomark _)))) (fun _ _ _ _ _ => (pv 9))) (pe_lst pa_nil) (nomark _))))))
    (pss_one (ps_ret (pe_op op_cat (pe_op op_cat (pe_slice sl_list (pv 2) po_none (po_some (pv 3))) (pe_lst (pa_cons (pe_tup (pa_cons (pe_op op_repS (pv 5) pe_int) (pa_cons (pe_callTy call_tupL (by rfl) T.m_tuple (by decide +kernel) (pa_cons (pe_lc (own := [("_law_number_here", 9)]) (by rfl) sc_law_stepped.nd (pi_tup (pv 6)) (blkOk_by (N := ["_law_generator_here", "_law_many", "_law_pieces", "_law_at", "_law_one", "_law_word_here", "_law_form_here", "_law_way", "_law_first", "_law_number_here", "_law_rest", "_law_taken", "_law_turned"]) (sc := C8.fnScope (topS 69)) (own := [("_law_number_here", 9)]) (by decide +kernel)) (fun _ _ _ _ _ => (pg_name (i := 9) sc_law_stepped.nd rfl (Or.inl rfl))) (fun _ _ _ _ _ => pts_nil) (fun _ _ _ _ _ => (pe_op op_fdivZ (pv 9) pe_int))) pa_nil)) pa_nil))) pa_nil))) (pe_slice sl_list (pv 2) (po_some (pe_op op_add (pv 3) pe_int)) po_none))))
    pss_nil)
    (pss_cons (ps_if (PW.pt (pw_and (pt_cmpR op_eq (pv 7) pe_int (nomark _)) (pw_and (pt_cmpR op_ne (pv 5) pe_str (nomark _)) (pw_and1 (pt_cmpR op_gt (pe_ix ix_tup (pv 6) pe_int (fun _ _ => rfl)) pe_int (nomark _))))))
    (pss_cons (ps_set (i := 12) sc_law_stepped.nd rfl (Or.inl rfl) (pe_tup (pa_cons (pe_op op_add_str (pe_slice C8.sl_txt (pv 5) (po_some pe_int) po_none) (pe_slice C8.sl_txt (pv 5) po_none (po_some pe_int))) (pa_cons (pe_op op_catS (pe_tup (pa_cons (pe_op op_sub (pe_ix ix_tup (pv 6) pe_int (fun _ _ => rfl)) pe_int) pa_nil)) (pe_slice sl_drop (pv 6) (po_some pe_int) po_none)) pa_nil))))
    (pss_one (ps_ret (pe_op op_cat (pe_op op_cat (pe_slice sl_list (pv 2) po_none (po_some (pv 3))) (pe_lst (pa_cons (pe_tup (pa_cons (pe_slice C8.sl_txt (pv 5) po_none (po_some pe_int)) (pa_cons (pv 4) pa_nil))) (pa_cons (pv 12) (pa_cons (pe_tup (pa_cons (pe_slice C8.sl_txt (pv 5) (po_some pe_int) po_none) (pa_cons (pv 4) pa_nil))) pa_nil))))) (pe_slice sl_list (pv 2) (po_some (pe_op op_add (pv 3) pe_int)) po_none)))))
    pss_nil)
    (pss_one (ps_ret (pe_op op_cat (pe_op op_cat (pe_slice sl_list (pv 2) po_none (po_some (pv 3))) (pe_lst (pa_cons (pe_tup (pa_cons pe_str (pa_cons (C8.pe_c (c_law_form T) hr (by decide) (by rfl) (pa_cons (pv 0) (pa_cons (pv 1) (pa_cons pe_int (pa_cons pe_int pa_nil))))) pa_nil))) pa_nil))) (pe_slice sl_list (pv 2) (po_some (pv 3)) po_none))))))))))), ?_⟩
    refine ⟨_, rfl, Nat.zero_le _, fun L0 nL0 => ?_⟩
    have s0 := sameNew (o := .lst []) nL0
    refine ⟨.list (ps.map dP), .list [], dp_PL ⟨vs, s0 _ _ hl, hp.same s0⟩, .lst (.inl (.inl upd_same)) .nil, shaped_dPs low, by decide +kernel, ?_⟩
    have ee : PyData.eqv (.list (ps.map dP)) (.list []) = decide (ps = []) := eqv_dPs ps []
    rw [ee]
    have G0 := G.same s0
    have hl0 := s0 _ _ hl
    have hp0 := hp.same s0
    generalize upd H L0 (.lst []) = H0 at s0 G0 hl0 hp0
    have stay : Q (.ref l) H0 := q l ps H0 (.of s0) (G0.le (by omega)) lg ⟨vs, hl0, hp0⟩ d few SameW.rfl'
    refine ⟨_, rfl, ite2 (fun e => ?_) (fun e => ?_)⟩
    · exact iteT ⟨_, rfl, stay⟩
    have pne : ps ≠ [] := fun z => e (decide_eq_true z)
    have p0 := List.length_pos_iff.mpr pne
    refine ⟨_, rfl, l, vs, rfl, .inl (.inl (.inl hl0)), _, _, rfl, rfl, _, rfl, ite2 (fun e9 => ⟨_, rfl, stay⟩) (fun e9 => ?_)⟩
    rw [tnext_eq]
    have l9 : ps.length ≤ 9 := by
      refine Classical.byContradiction fun z => e9 (decide_eq_true ?_)
      rw [lv]
      omega
    refine ⟨_, rfl, _, rfl, l, vs, rfl, .inl (.inl (.inl hl0)), g, _, n + 19, rfl, G0, by omega, by omega, fun at' H1 s1 G1 r0 r1 => ?_⟩
    obtain ⟨k, rfl⟩ : ∃ k : Nat, at' = k := ⟨at'.toNat, by omega⟩
    have hk : k < vs.length := by omega
    refine ⟨by show 1 ≤ sizeLine; decide, fun a1 n1 => ⟨by show 1 ≤ sizeLine; decide, fun a2 n2 => ⟨_, rfl, a2, _, _, rfl, rfl, upd_same, by omega, by omega, fun a3 H3 s3 h3 => ?_⟩⟩⟩
    have e1' : H3 a1 = some (.tup [.int 1]) := s3 _ _ (by rw [upd_ne (ne_of_none upd_same n2)]; exact upd_same)
    refine ⟨a1, a3, _, _, rfl, rfl, e1', h3, by simp; omega, fun po H4 s4 h4 => ⟨_, _, rfl, ?_⟩⟩
    have hone : FT H4 po (one1 m) := by
      unfold FT one1
      rw [h4]
      simp
    have s14 := (((sameNew (o := .tup [.int 1]) n1).trans (sameNew (o := .tup [.int 0]) n2)).trans s3).trans s4
    have G4 := G1.same s14
    have sx4 : SameX g H H4 := (SameX.of s0).trans (s1.trans (.of s14))
    have hl4 : H4 l = some (.lst vs) := s14 _ _ (s1 _ _ lg hl0)
    have hp4 : Pcs H4 vs ps := (hp0.mono fun a xs e => s1.tup G0 e).same s14
    clear s3 s4 h3 h4 e1' s14
    have hk' := List.getElem?_eq_getElem hk
    obtain ⟨a, p, ea, hpi, pc⟩ := hp4.get hk'
    rw [ea] at hk'
    obtain ⟨w, f⟩ := p
    have mem := List.mem_of_getElem? hpi
    have dp := d _ mem
    have lf : f.length = m + 1 := dp.len
    have wl : w.length ≤ 12 := dp.few
    have wlow : Low w := dp.low
    have numf : ∀ x ∈ f, x < B := dp.num
    have hdf : f.headD 0 ≤ 3 := dp.hd
    obtain ⟨fa, e1, e2⟩ := id pc
    have e2' : H4 fa = some (.tup (natsV f)) := e2
    refine ⟨_, rfl, _, rfl, l, _, k, _, rfl, rfl, .inl (.inl hl4), atI_nat hk', a, _, rfl, .inl (.inl e1), rfl, _, _, rfl, _, _, rfl, rfl, ?_⟩
    refine ⟨_, rfl, g, 4, n + 18, rfl, G4, by decide, by decide, fun way H5 s5 G5 w0 w1 => ?_⟩
    have sx5 := sx4.trans s5
    have hl5 := s5 _ _ lg hl4
    have hp5 : Pcs H5 vs ps := hp4.mono fun a xs e => s5.tup G4 e
    have e25 : H5 fa = some (.tup (natsV f)) := s5.tup G4 e2'
    have hone5 : FT H5 po (one1 m) := s5.tup G4 hone
    have es := split1 hpi
    have fin : ∀ {r : Addr} {Y : List Pn} {H' : Hp}, SameX g H5 H' → Gn n H' g → r ≠ g → PL H' r (ps.take k ++ Y ++ ps.drop (k + 1)) → Dr m B Y → Y.length ≤ 3 → SameW m [(w, f)] Y → Q (.ref r) H' := fun {r Y H'} s G' rg pl dY lY sw => by
      refine q r _ H' (sx5.trans s) G' rg pl (d.repl dY) ?_ ?_
      · rw [List.length_append, List.length_append, List.length_take, List.length_drop]; omega
      · have := SameW.repl (A := ps.take k) (B := ps.drop (k + 1)) sw
        rw [← es] at this
        exact this
    clear hl0 hp0 hl4 hp4 e1 e2 e2' hone pc stay s1 s5 hl hp s0
    refine ⟨_, rfl, rfl, _, rfl, ite2 (fun ew => ?_) (fun ew => ?_)⟩
    · -- parted
      refine ⟨_, rfl, fa, rfl, ⟨_, .inl (.inl e25)⟩, fun D hD => ?_⟩
      have Dg := G5.ne hD
      refine lc_tup (K := K) (a := fa) (xs := natsV f) (fun j H1 => SameX g H5 H1 ∧ Gn (n + 10 + (5 - j)) H1 g ∧ ∃ f1 : List Nat, H1 D = some (.lst (natsV f1)) ∧ f1.length = j ∧ ∀ (t x y : Nat), f[t]? = some x → f1[t]? = some y → y ≤ x)
        ⟨sameX_new hD, (G5.upd Dg).le (by omega), [], by rw [upd_same]; rfl, rfl, fun t x y _ h => by simp at h⟩ (fun j H1 _ p => .inl (.inl (p.1.tup G5 e25))) (fun j y H1 hj pI => ?_) fun H1 pI => ?_
      · obtain ⟨s1, G1, f1, hD1, l1, le1⟩ := pI
        obtain ⟨x, mx, hx, rfl⟩ := get_nat hj
        have jl := (List.getElem?_eq_some_iff.mp hx).1
        have ux := numf x mx
        have e5 : n + 10 + (5 - j) = n + 10 + (5 - (j + 1)) + 1 := by omega
        rw [e5] at G1
        refine ⟨rfl, _, rfl, _, rfl, _, _, rfl, rfl, g, _, _, rfl, G1, by omega, by omega, fun r H2 s2 G2 r0 r1 => ?_⟩
        obtain ⟨rn, rfl⟩ : ∃ t : Nat, r = t := ⟨r.toNat, by omega⟩
        refine ⟨_, s2 _ _ Dg hD1, by rw [natsV_len, l1]; exact small5 (by omega), (s1.trans s2).upd2 hD, G2.upd Dg, f1 ++ [rn], ?_, by rw [List.length_append, l1]; rfl, fun t a b ha hb => ?_⟩
        · rw [upd_same, natsV_app]
          rfl
        · by_cases z : t < f1.length
          · rw [List.getElem?_append_left z] at hb
            exact le1 t a b ha hb
          · have tl : t = f1.length := by
              have := (List.getElem?_eq_some_iff.mp hb).1
              rw [List.length_append, List.length_singleton] at this
              omega
            rw [tl, List.getElem?_append_right (Nat.le_refl _), Nat.sub_self] at hb
            cases hb
            rw [tl, l1, hx] at ha
            cases ha
            omega
      · obtain ⟨s1, G1, f1, hD1, l1, le1⟩ := pI
        rw [natsV_len] at l1 G1
        refine ⟨D, _, rfl, hD1, fun t1 H2 s2 h1 => ?_⟩
        have s12 := s1.trans (SameX.of s2)
        have G2 := (G1.same s2).le (m := n + 10) (by omega)
        have e2a : H2 fa = some (.tup (natsV f)) := s12.tup G5 e25
        obtain ⟨f2, ez, l2, ead⟩ := zip_subN f f1 l1.symm le1
        refine ⟨_, rfl, _, rfl, .T, .T, fa, t1, natsV f, natsV f1, rfl, .inl (.inl e2a), .inl (.inl h1), ?_⟩
        refine fun D2 hD2 => lcZ_map vSubN (by rw [natsV_len, natsV_len, l1]) (by rw [natsV_len]; exact small5 (by omega)) (fun H' s => ⟨.inl (.inl (s _ _ e2a)), .inl (.inl (s _ _ h1))⟩) (fun j x y H' R hx hy s q' => ?_) hD2 fun H3 s3 hL => ?_
        · obtain ⟨x', _, _, rfl⟩ := get_nat hx
          obtain ⟨y', _, _, rfl⟩ := get_nat hy
          exact ⟨rfl, _, rfl, _, rfl, _, _, rfl, rfl, q' _ (Same.refl _)⟩
        · rw [ez] at hL
          refine ⟨D2, _, rfl, hL, fun t2 H4 s4 h4 => ?_⟩
          have s34 := s3.trans s4
          have hl4 : H4 l = some (.lst vs) := s34 _ _ (s12 _ _ lg hl5)
          have hp4 : Pcs H4 vs ps := (hp5.mono fun a xs e => s12.tup G5 e).same s34
          have h1' := s34 _ _ h1
          have G4 := G2.same s34
          have sx4 := s12.trans (.of s34)
          refine ⟨_, rfl, _, rfl, k, rfl, l, vs, rfl, .inl (.inl hl4), fun p1 np1 => ⟨_, rfl, _, rfl, by show 2 ≤ sizeLine; decide, fun ta na => ⟨_, rfl, _, rfl, by show 2 ≤ sizeLine; decide, fun tb nb => ⟨by show 2 ≤ sizeLine; decide, fun L2 nL2 => ?_⟩⟩⟩⟩
          have sp1 := sameNew (o := .lst (cutV vs none (some (k : Int)))) np1
          have sa := sameNew (o := .tup [.str (S w), .ref t1]) na
          have sb := sameNew (o := .tup [.str (S w), .ref t2]) nb
          have sL := sameNew (o := .lst [.ref ta, .ref tb]) nL2
          have sx5' := (sp1.trans sa).trans (sb.trans sL)
          have ep1 := sL _ _ (sb _ _ (sa _ _ (upd_same (H := H4) (a := p1) (o := .lst (cutV vs none (some (k : Int)))))))
          have eta := sL _ _ (sb _ _ (upd_same (H := upd H4 p1 (.lst (cutV vs none (some (k : Int))))) (a := ta) (o := .tup [.str (S w), .ref t1])))
          have etb := sL _ _ (upd_same (H := upd (upd H4 p1 (.lst (cutV vs none (some (k : Int))))) ta (.tup [.str (S w), .ref t1])) (a := tb) (o := .tup [.str (S w), .ref t2]))
          have eL := upd_same (H := upd (upd (upd H4 p1 (.lst (cutV vs none (some (k : Int))))) ta (.tup [.str (S w), .ref t1])) tb (.tup [.str (S w), .ref t2])) (a := L2) (o := .lst [.ref ta, .ref tb])
          generalize upd (upd (upd (upd H4 p1 (.lst (cutV vs none (some (k : Int))))) ta (.tup [.str (S w), .ref t1])) tb (.tup [.str (S w), .ref t2])) L2 (.lst [.ref ta, .ref tb]) = H5' at sx5' ep1 eta etb eL
          rw [cut_take] at ep1
          have lt : (vs.take k).length = k := by rw [List.length_take]; omega
          refine ⟨p1, L2, _, _, rfl, rfl, ep1, eL, by rw [lt, sizeLine_eq]; simp; omega, fun c1 nc1 => ⟨_, rfl, _, rfl, _, _, rfl, rfl, (k : Int) + 1, rfl, l, vs, rfl, .inl (.inl (sameNew nc1 _ _ (sx5' _ _ hl4))), fun p2 np2 => ?_⟩⟩
          refine ⟨c1, p2, _, _, rfl, rfl, sameNew np2 _ _ upd_same, upd_same, by rw [cut_drop1, List.length_append, lt, List.length_drop, sizeLine_eq]; simp; omega, fun c2 nc2 => ?_⟩
          have s3n := three_new (o3 := .lst (vs.take k ++ [.ref ta, .ref tb] ++ cutV vs (some ((k : Int) + 1)) none)) nc1 np2 nc2
          have hY : Pcs H5' [.ref ta, .ref tb] [(w, f1), (w, f2)] := .cons ⟨t1, eta, sx5' _ _ h1'⟩ (.cons ⟨t2, etb, sx5' _ _ h4⟩ .nil)
          have pl := pl_cut (H' := _) (k := k) (j := k + 1) (hp4.same sx5') hY s3n upd_same (cut_drop1 vs k)
          have Gf := ((G4.same sx5').same s3n).le (m := n) (by omega)
          refine fin (sx4.trans (.of (sx5'.trans s3n))) Gf (((((G4.same sx5').same (sameNew nc1)).same (sameNew np2)).ne nc2)) pl (fun p hp => ?_) (by show 2 ≤ 3; omega) (sw_parted ead (by omega))
          rcases List.mem_cons.mp hp with rfl | hp
          · exact dp.addL ead (by omega) (by omega)
          · rw [List.mem_singleton.mp hp]
            exact dp.addR ead (by omega) (by omega)
    rw [tnext_eq]
    dsimp only
    refine cut_seq (fun σ' H' => Same H5 H' ∧ σ' = [some (.ref g), some (.int (m : Nat)), some (.ref l), some (.int (k : Nat)), some (.ref po), some (.str (S w)), some (.ref fa), some (.int way), none, none, none, none, none]) (fun K' hK => ?_) fun σ' H6 pM => ?_
    · have skip : ∀ {H' : Hp}, Same H5 H' → K' [some (.ref g), some (.int (m : Nat)), some (.ref l), some (.int (k : Nat)), some (.ref po), some (.str (S w)), some (.ref fa), some (.int way), none, none, none, none, none] H' := fun s => hK _ _ ⟨s, rfl⟩
      refine ⟨_, rfl, rfl, _, rfl, ite2 (fun e1 => ?_) (fun e1 => iteF (skip (Same.refl _)))⟩
      refine ⟨_, rfl, S w, rfl, len_line (by omega), _, _, rfl, rfl, _, rfl, ite2 (fun e2 => ?_) (fun e2 => iteF (skip (Same.refl _)))⟩
      have w7 : w.length < 7 := by
        have := of_decide_eq_true e2
        rw [S_len] at this
        omega
      refine ⟨_, rfl, fa, rfl, ⟨_, .inl (.inl e25)⟩, fun D hD => ?_⟩
      refine lc_tup (K := K) (a := fa) (xs := natsV f) (fun j H1 => Same H5 H1 ∧ H1 D = some (.lst (natsV ((f.take j).filter odd)))) ⟨sameNew hD, by rw [upd_same]; rfl⟩ (fun j H1 _ p => .inl (.inl (p.1 _ _ e25))) (fun j y H1 hj pI => ?_) fun H1 pI => ?_
      · obtain ⟨s1, hD1⟩ := pI
        obtain ⟨x, mx, hx, rfl⟩ := get_nat hj
        have eT : f.take (j + 1) = f.take j ++ [x] := by rw [List.take_succ, hx]; rfl
        refine ⟨rfl, _, rfl, .inl ⟨_, rfl, x, 2, rfl, rfl, by decide, rfl, _, rfl, ?_⟩⟩
        rw [eT, List.filter_append]
        by_cases z : x % 2 = 0
        · refine iteNS (by rw [z]; rfl) ⟨s1, ?_⟩
          have : odd x = false := by unfold odd; simp [z]
          rw [List.filter_cons_of_neg (by rw [this]; exact Bool.false_ne_true), List.filter_nil, List.append_nil]
          exact hD1
        · have hx' : odd x = true := decide_eq_true z
          refine ite2 (fun _ => ?_) (fun e => absurd (by rw [decide_eq_false (fun y => z (by have := V.int.inj y; omega))]; rfl) e)
          refine ⟨_, rfl, _, hD1, ?_, same_upd2 hD s1, ?_⟩
          · have := List.length_filter_le odd (f.take j)
            rw [List.length_take] at this
            rw [natsV_len]
            exact small5 (by omega)
          · rw [upd_same, List.filter_cons_of_pos hx', List.filter_nil, natsV_app]
            rfl
      · obtain ⟨s1, hD1⟩ := pI
        rw [natsV_len, List.take_length] at hD1
        refine ⟨by show 0 ≤ sizeLine; omega, fun M hM => ?_⟩
        have sM := s1.trans (sameNew (o := .lst []) hM)
        refine ⟨_, .list ([] : List PyData), dp_natL (sameNew hM _ _ hD1), .lst (.inl (.inl upd_same)) .nil, shaped_natL _, shaped_nil, ?_⟩
        have ev : PyData.eqv (.list ((f.filter odd).map fun n : Nat => PyData.int (n : Nat))) (.list []) = decide (f.filter odd = []) := eqv_natL (f.filter odd) []
        rw [ev]
        refine ⟨_, rfl, ?_⟩
        by_cases z : f.filter odd = []
        · rw [decide_eq_true z]
          refine iteT ?_
          have he : ∀ x ∈ f, x % 2 = 0 := fun x hx => Classical.byContradiction fun y => by
            have : x ∈ f.filter odd := List.mem_filter.mpr ⟨hx, decide_eq_true y⟩
            rw [z] at this
            cases this
          have hlM := sM _ _ hl5
          have eM := sM _ _ e25
          generalize upd H1 M (.lst []) = H2 at sM hlM eM
          refine ⟨_, rfl, _, rfl, k, rfl, l, vs, rfl, .inl (.inl hlM), fun p1 np1 => ⟨_, rfl, w, 2, rfl, rfl, by decide, by omega, ?_⟩⟩
          have sp1 := sameNew (o := .lst (cutV vs none (some (k : Int)))) np1
          have ep1 := upd_same (H := H2) (a := p1) (o := .lst (cutV vs none (some (k : Int))))
          have eM1 := sp1 _ _ eM
          have hl1 := sp1 _ _ hlM
          generalize upd H2 p1 (.lst (cutV vs none (some (k : Int)))) = H3 at sp1 ep1 eM1 hl1
          refine ⟨_, rfl, fa, rfl, ⟨_, .inl (.inl eM1)⟩, fun D2 hD2 => ?_⟩
          refine lc_tup (K := K) (a := fa) (xs := natsV f) (fun j H4 => Same H3 H4 ∧ H4 D2 = some (.lst (natsV ((f.take j).map fun x => x / 2)))) ⟨sameNew hD2, by rw [upd_same]; rfl⟩ (fun j H4 _ p => .inl (.inl (p.1 _ _ eM1))) (fun j y H4 hj pI => ?_) fun H4 pI => ?_
          · obtain ⟨s4, hD4⟩ := pI
            obtain ⟨x, mx, hx, rfl⟩ := get_nat hj
            have eT : f.take (j + 1) = f.take j ++ [x] := by rw [List.take_succ, hx]; rfl
            refine ⟨rfl, _, rfl, x, 2, rfl, rfl, by decide, by decide, _, hD4, ?_, same_upd2 hD2 s4, ?_⟩
            · rw [natsV_len, List.length_map, List.length_take]
              exact small5 (by omega)
            · rw [upd_same, eT, List.map_append, natsV_app]
              rfl
          · obtain ⟨s4, hD4⟩ := pI
            rw [natsV_len, List.take_length] at hD4
            refine ⟨D2, _, rfl, hD4, fun t2 H9 s5 h5 => ⟨by show 2 ≤ sizeLine; decide, fun ta na => ⟨by show 1 ≤ sizeLine; decide, fun L2 nL2 => ?_⟩⟩⟩
            have sa := sameNew (o := .tup [.str (S (List.replicate 2 w).flatten), .ref t2]) na
            have sL := sameNew (o := .lst [.ref ta]) nL2
            have s39 := ((s4.trans s5).trans sa).trans sL
            have sAll := (sM.trans sp1).trans s39
            have ep1' := s39 _ _ ep1
            have hl9 := s39 _ _ hl1
            have eta := sL _ _ (upd_same (H := H9) (a := ta) (o := .tup [.str (S (List.replicate 2 w).flatten), .ref t2]))
            have et2 := sL _ _ (sa _ _ h5)
            have eL := upd_same (H := upd H9 ta (.tup [.str (S (List.replicate 2 w).flatten), .ref t2])) (a := L2) (o := .lst [.ref ta])
            generalize upd (upd H9 ta (.tup [.str (S (List.replicate 2 w).flatten), .ref t2])) L2 (.lst [.ref ta]) = H10 at sAll ep1' hl9 eta et2 eL
            rw [cut_take] at ep1'
            have lt : (vs.take k).length = k := by rw [List.length_take]; omega
            refine ⟨p1, L2, _, _, rfl, rfl, ep1', eL, by rw [lt, sizeLine_eq]; simp; omega, fun c1 nc1 => ⟨_, rfl, _, rfl, _, _, rfl, rfl, (k : Int) + 1, rfl, l, vs, rfl, .inl (.inl (sameNew nc1 _ _ hl9)), fun p2 np2 => ?_⟩⟩
            refine ⟨c1, p2, _, _, rfl, rfl, sameNew np2 _ _ upd_same, upd_same, by rw [cut_drop1, List.length_append, lt, List.length_drop, sizeLine_eq]; simp; omega, fun c2 nc2 => ?_⟩
            have s3n := three_new (o3 := .lst (vs.take k ++ [.ref ta] ++ cutV vs (some ((k : Int) + 1)) none)) nc1 np2 nc2
            have hY : Pcs H10 [.ref ta] [(WM.pw w 2, f.map fun x => x / 2)] := .one ⟨t2, eta, et2⟩
            have pl := pl_cut (H' := _) (k := k) (j := k + 1) (hp5.same sAll) hY s3n upd_same (cut_drop1 vs k)
            have G10 := (G5.same sAll)
            have ef : f = timesF 2 (f.map fun x => x / 2) := by
              unfold timesF
              rw [List.map_map]
              conv => lhs; rw [← List.map_id f]
              refine List.map_congr_left fun x hx => ?_
              have := he x hx
              show x = 2 * (x / 2)
              omega
            refine fin (.of (sAll.trans s3n)) ((G10.same s3n).le (by omega)) ((((G10.same (sameNew nc1)).same (sameNew np2)).ne nc2)) pl (fun p hp => ?_) (by show 1 ≤ 3; omega) (sw_doubled ef)
            rw [List.mem_singleton.mp hp]
            refine ⟨by rw [List.length_map]; exact lf, low_pw wlow 2, by show (WM.pw w 2).length ≤ 12; rw [WM.pw_len]; omega, ?_, fun x hx => ?_⟩
            · show (f.map fun x => x / 2).headD 0 ≤ 3
              cases e : f with
              | nil => decide
              | cons a r =>
                rw [e] at hdf
                have hdf : a ≤ 3 := hdf
                show a / 2 ≤ 3
                omega
            · obtain ⟨y, hy, rfl⟩ := List.mem_map.mp hx
              have := numf y hy
              omega
        · rw [decide_eq_false z]
          exact iteF (skip sM)
    obtain ⟨s6, rfl⟩ := pM
    have hl6 := s6 _ _ hl5
    have hp6 := hp5.same s6
    have e26 := s6 _ _ e25
    have hone6 := hone5.same s6
    have G6 := G5.same s6
    have lt : (vs.take k).length = k := by rw [List.length_take]; omega
    refine cut_seq (fun σ' H' => Same H6 H' ∧ σ' = [some (.ref g), some (.int (m : Nat)), some (.ref l), some (.int (k : Nat)), some (.ref po), some (.str (S w)), some (.ref fa), some (.int way), none, none, none, none, none]) (fun K' hK => ?_) fun σ' H7 pM => ?_
    · have skip : K' [some (.ref g), some (.int (m : Nat)), some (.ref l), some (.int (k : Nat)), some (.ref po), some (.str (S w)), some (.ref fa), some (.int way), none, none, none, none, none] H6 := hK _ _ ⟨Same.refl _, rfl⟩
      refine ⟨_, rfl, rfl, _, rfl, ite2 (fun e1 => ?_) (fun e1 => iteF skip)⟩
      refine ⟨_, rfl, rfl, _, rfl, ite2 (fun e2 => ?_) (fun e2 => iteF skip)⟩
      refine ⟨_, rfl, fa, _, 0, _, rfl, rfl, .inl (.inl e26), atI_nat (j := 0) (head_get lf), _, _, rfl, rfl, _, rfl, ite2 (fun e3 => ?_) (fun e3 => skip)⟩
      have f0 : 0 < f.headD 0 := by
        have := of_decide_eq_true e3
        omega
      obtain ⟨c, tl, ef⟩ : ∃ c tl, f = (c + 1) :: tl := by
        cases e : f with
        | nil => rw [e] at lf; cases lf
        | cons x r =>
          rw [e] at f0
          have f0 : 0 < x := f0
          exact ⟨x - 1, r, by rw [Nat.sub_add_cancel f0]⟩
      subst ef
      refine ⟨_, rfl, _, rfl, S w, rfl, len_line (by omega), _, rfl, _, rfl, S w, rfl, len_line (by omega), ?_⟩
      rw [SX.slice_from (by decide), SX.slice_to (by decide), show Int.toNat 1 = 1 from rfl]
      refine ⟨_, _, rfl, rfl, by rw [S_len, S_len, List.length_drop, List.length_take, sizeLine_eq]; omega, ?_⟩
      rw [S_cat]
      refine ⟨_, rfl, fa, _, 0, _, rfl, rfl, .inl (.inl e26), atI_nat (j := 0) (head_get lf), _, _, rfl, rfl, by show 1 ≤ sizeLine; decide, fun b1 nb1 => ?_⟩
      have sb1 := sameNew (o := .tup [.int ((((((c + 1) :: tl : F).headD 0) : Nat) : Int) - 1)]) nb1
      refine ⟨_, rfl, 1, rfl, fa, _, 1, rfl, rfl, rfl, sb1 _ _ e26, fun b2 H7 s7 h7 => ?_⟩
      have l4 : ((natsV ((c + 1) :: tl)).drop 1).length ≤ 4 := by rw [List.length_drop, natsV_len]; omega
      refine ⟨b1, b2, _, _, rfl, rfl, s7 _ _ upd_same, h7, Nat.le_trans (Nat.add_le_add_left l4 1) (by decide), fun b3 H8 s8 h8 => ⟨by show 2 ≤ sizeLine; decide, fun tt ntt => ?_⟩⟩
      have hb3 : FT H8 b3 (c :: tl) := by
        unfold FT
        rw [h8]
        have : ((((((c + 1) :: tl : F).headD 0) : Nat) : Int) - 1) = ((c : Nat) : Int) := by show (((c + 1 : Nat)) : Int) - 1 = _; omega
        show some (HO.tup (V.int _ :: _)) = _
        rw [this]
        rfl
      have stt := sameNew (o := .tup [.str (S (w.drop 1 ++ w.take 1)), .ref b3]) ntt
      have s69 := ((sb1.trans s7).trans s8).trans stt
      have hb9 := hb3.same stt
      have htt := upd_same (H := H8) (a := tt) (o := .tup [.str (S (w.drop 1 ++ w.take 1)), .ref b3])
      have hl9 := s69 _ _ hl6
      have hone9 := hone6.same s69
      generalize upd H8 tt (.tup [.str (S (w.drop 1 ++ w.take 1)), .ref b3]) = H9 at s69 hb9 htt hl9 hone9
      refine ⟨_, rfl, _, rfl, k, rfl, l, vs, rfl, .inl (.inl hl9), fun p1 np1 => ?_⟩
      have sp1 := sameNew (o := .lst (cutV vs none (some (k : Int)))) np1
      have ep1 := upd_same (H := H9) (a := p1) (o := .lst (cutV vs none (some (k : Int))))
      refine ⟨_, rfl, _, rfl, S w, rfl, len_line (by omega), ?_⟩
      rw [SX.slice_to (by decide), show Int.toNat 1 = 1 from rfl]
      refine ⟨_, rfl, by show 2 ≤ sizeLine; decide, fun ta na => ⟨_, rfl, ?_⟩⟩
      refine ⟨_, rfl, _, rfl, S w, rfl, len_line (by omega), ?_⟩
      rw [SX.slice_from (by decide), show Int.toNat 1 = 1 from rfl]
      refine ⟨_, rfl, by show 2 ≤ sizeLine; decide, fun tb nb => ⟨by show 3 ≤ sizeLine; decide, fun L2 nL2 => ?_⟩⟩
      have sa := sameNew (o := .tup [.str (S (w.take 1)), .ref po]) na
      have sb := sameNew (o := .tup [.str (S (w.drop 1)), .ref po]) nb
      have sL := sameNew (o := .lst [.ref ta, .ref tt, .ref tb]) nL2
      have s9' := (sp1.trans sa).trans (sb.trans sL)
      have ep1' := sL _ _ (sb _ _ (sa _ _ ep1))
      have eta := sL _ _ (sb _ _ (upd_same (H := upd H9 p1 (.lst (cutV vs none (some (k : Int))))) (a := ta) (o := .tup [.str (S (w.take 1)), .ref po])))
      have etb := sL _ _ (upd_same (H := upd (upd H9 p1 (.lst (cutV vs none (some (k : Int))))) ta (.tup [.str (S (w.take 1)), .ref po])) (a := tb) (o := .tup [.str (S (w.drop 1)), .ref po]))
      have eL := upd_same (H := upd (upd (upd H9 p1 (.lst (cutV vs none (some (k : Int))))) ta (.tup [.str (S (w.take 1)), .ref po])) tb (.tup [.str (S (w.drop 1)), .ref po])) (a := L2) (o := .lst [.ref ta, .ref tt, .ref tb])
      generalize upd (upd (upd (upd H9 p1 (.lst (cutV vs none (some (k : Int))))) ta (.tup [.str (S (w.take 1)), .ref po])) tb (.tup [.str (S (w.drop 1)), .ref po])) L2 (.lst [.ref ta, .ref tt, .ref tb]) = H10 at s9' ep1' eta etb eL
      rw [cut_take] at ep1'
      have sAll := s6.trans (s69.trans s9')
      refine ⟨p1, L2, _, _, rfl, rfl, ep1', eL, by rw [lt, sizeLine_eq]; simp; omega, fun c1 nc1 => ⟨_, rfl, _, rfl, _, _, rfl, rfl, (k : Int) + 1, rfl, l, vs, rfl, .inl (.inl (sameNew nc1 _ _ (s9' _ _ hl9))), fun p2 np2 => ?_⟩⟩
      refine ⟨c1, p2, _, _, rfl, rfl, sameNew np2 _ _ upd_same, upd_same, by rw [cut_drop1, List.length_append, lt, List.length_drop, sizeLine_eq]; simp; omega, fun c2 nc2 => ?_⟩
      have s3n := three_new (o3 := .lst (vs.take k ++ [.ref ta, .ref tt, .ref tb] ++ cutV vs (some ((k : Int) + 1)) none)) nc1 np2 nc2
      have hY : Pcs H10 [.ref ta, .ref tt, .ref tb] [(w.take 1, one1 m), (w.drop 1 ++ w.take 1, c :: tl), (w.drop 1, one1 m)] := .cons ⟨po, eta, s9' _ _ hone9⟩ (.cons ⟨b3, s9' _ _ htt, s9' _ _ hb9⟩ (.cons ⟨po, etb, s9' _ _ hone9⟩ .nil))
      have pl := pl_cut (H' := _) (k := k) (j := k + 1) (hp5.same sAll) hY s3n upd_same (cut_drop1 vs k)
      have G10 := G5.same sAll
      refine fin (.of (sAll.trans s3n)) ((G10.same s3n).le (by omega)) ((((G10.same (sameNew nc1)).same (sameNew np2)).ne nc2)) pl (fun p hp => ?_) (by show 3 ≤ 3; omega) (by have := sw_turned (m := m) (c := c) (a := w.take 1) (b := w.drop 1) (t := tl); rw [List.take_append_drop] at this; exact this)
      rcases List.mem_cons.mp hp with rfl | hp
      · exact dr_one (low_take wlow _) (by rw [List.length_take]; omega) b4
      rcases List.mem_cons.mp hp with rfl | hp
      · refine ⟨lf, low_app (low_drop wlow _) (low_take wlow _), by show (w.drop 1 ++ w.take 1).length ≤ 12; rw [List.length_append, List.length_drop, List.length_take]; omega, ?_, fun x hx => ?_⟩
        · have hdf : c + 1 ≤ 3 := hdf
          show c ≤ 3
          omega
        · rcases List.mem_cons.mp hx with rfl | hx
          · have := numf _ List.mem_cons_self
            omega
          · exact numf _ (List.mem_cons_of_mem _ hx)
      · rw [List.mem_singleton.mp hp]
        exact dr_one (low_drop wlow _) (by rw [List.length_drop]; omega) b4
    obtain ⟨s7, rfl⟩ := pM
    have hl7 := s7 _ _ hl6
    have hp7 := hp6.same s7
    have G7 := G6.same s7
    have s57 := s6.trans s7
    refine ⟨_, rfl, _, rfl, k, rfl, l, vs, rfl, .inl (.inl hl7), fun p1 np1 => ?_⟩
    have sp1 := sameNew (o := .lst (cutV vs none (some (k : Int)))) np1
    have ep1 := upd_same (H := H7) (a := p1) (o := .lst (cutV vs none (some (k : Int))))
    have hl8 := sp1 _ _ hl7
    have hp8 := hp7.same sp1
    have G8 := G7.same sp1
    have p1g := G7.ne np1
    generalize upd H7 p1 (.lst (cutV vs none (some (k : Int)))) = H8 at sp1 ep1 hl8 hp8 G8
    rw [cut_take] at ep1
    refine ⟨_, rfl, _, rfl, g, m, 2, 3, B, n + 8, rfl, G8, m3, by decide, by decide, by omega, b4, bb, fun pf ff H9 s9 G9 hf lff h2 hb => ⟨by show 2 ≤ sizeLine; decide, fun ta na => ⟨by show 1 ≤ sizeLine; decide, fun L2 nL2 => ?_⟩⟩⟩
    have hl9 := s9 _ _ lg hl8
    have hp9 : Pcs H9 vs ps := hp8.mono fun a xs e => s9.tup G8 e
    have ep9 := s9 _ _ p1g ep1
    have sa := sameNew (o := .tup [.str "", .ref pf]) na
    have sL := sameNew (o := .lst [.ref ta]) nL2
    have s9' := sa.trans sL
    have eta := sL _ _ (upd_same (H := H9) (a := ta) (o := .tup [.str "", .ref pf]))
    have eL := upd_same (H := upd H9 ta (.tup [.str "", .ref pf])) (a := L2) (o := .lst [.ref ta])
    generalize upd (upd H9 ta (.tup [.str "", .ref pf])) L2 (.lst [.ref ta]) = H10 at s9' eta eL
    refine ⟨p1, L2, _, _, rfl, rfl, s9' _ _ ep9, eL, by rw [lt, sizeLine_eq]; simp; omega, fun c1 nc1 => ⟨_, rfl, _, rfl, (k : Int), rfl, l, vs, rfl, .inl (.inl (sameNew nc1 _ _ (s9' _ _ hl9))), fun p2 np2 => ?_⟩⟩
    refine ⟨c1, p2, _, _, rfl, rfl, sameNew np2 _ _ upd_same, upd_same, by rw [cutV_drop, List.length_append, lt, List.length_drop, sizeLine_eq]; simp; omega, fun c2 nc2 => ?_⟩
    have s3n := three_new (o3 := .lst (vs.take k ++ [.ref ta] ++ cutV vs (some (k : Int)) none)) nc1 np2 nc2
    have hY : Pcs H10 [.ref ta] [([], ff)] := .one ⟨pf, eta.trans (congrArg (fun v => some (HO.tup [v, V.ref pf])) st_0), s9' _ _ hf⟩
    have pl := pl_cut (H' := _) (k := k) (j := k) (hp9.same s9') hY s3n upd_same (cutV_drop vs k)
    have G10 := G9.same s9'
    refine q c2 _ _ (sx5.trans ((SameX.of s57).trans ((SameX.of sp1).trans (s9.trans (.of (s9'.trans s3n)))))) ((G10.same s3n).le (by omega)) ((((G10.same (sameNew nc1)).same (sameNew np2)).ne nc2)) pl (d.repl fun p hp => ?_) ?_ ?_
    · rw [List.mem_singleton.mp hp]
      exact ⟨lff, fun c hc => absurd hc List.not_mem_nil, Nat.zero_le _, Nat.le_trans h2 (by decide), hb⟩
    · rw [List.length_append, List.length_append, List.length_take, List.length_drop, List.length_singleton]; omega
    · have := SameW.repl (m := m) (A := ps.take k) (B := ps.drop k) (sw_empty (m := m) (f := ff))
      rw [List.append_nil, List.take_append_drop] at this
      exact this
end
end K67

set_option Elab.async false
set_option linter.all false
set_option maxRecDepth 100000
set_option maxHeartbeats 8000000
set_option exponentiation.threshold 3000
namespace K67
open PySem PySem.Spec PyProof.Rows L2 CK SX NM
theorem e18 : (10 : Int) ^ Int.toNat 18 = ((10 ^ 18 : Nat) : Int) := by decide +kernel
theorem val_wr {m : Nat} {pt : List Nat} : ∀ {qs : List Pn}, (∀ p ∈ qs, OkR m p) → ∀ p ∈ qs, valF p.2 pt ≤ (wr pt qs).length := fun {qs} ok p hp => by
  have hw : valF p.2 pt ≤ (wrt pt p).length := by
    unfold wrt
    rw [WM.pw_len]
    exact Nat.le_mul_of_pos_left _ (List.length_pos_iff.mpr (ok p hp).ne)
  obtain ⟨A, B, rfl⟩ := List.append_of_mem hp
  rw [wr_app, List.length_append, wr, List.length_append]
  omega
theorem st_a : (V.str "a") = V.str (S [97]) := by decide +kernel
theorem st_aa : (V.str "aa") = V.str (S [97, 97]) := by decide +kernel
def oneL : List Pn := [([97], [1, 3])]
def twoL : List Pn := [([97, 97], [0, 1]), ([97], [1, 1])]
theorem one_dr : Dr 1 4 oneL := fun p hp => by
  rw [List.mem_singleton.mp hp]
  exact ⟨rfl, fun c hc => by simp at hc; omega, by decide, by decide, by decide⟩
theorem two_dr : Dr 1 4 twoL := fun p hp => by
  simp only [twoL, List.mem_cons, List.not_mem_nil, or_false] at hp
  rcases hp with rfl | rfl
  · exact ⟨rfl, fun c hc => by simp at hc; omega, by decide, by decide, by decide⟩
  · exact ⟨rfl, fun c hc => by simp at hc; omega, by decide, by decide, by decide⟩
theorem two_one : normL twoL = normL oneL := by
  refine norm_same (m := 1) (fun p hp => (two_dr p hp).len) (fun p hp => (one_dr p hp).len) ?_
  have h1 : SameW 1 oneL [([97], [0, 2]), ([97], [1, 1])] := sw_parted rfl rfl
  have h2 : SameW 1 ([] ++ [([97], [0, 2])] ++ [([97], [1, 1])]) ([] ++ [(WM.pw [97] 2, [0, 1])] ++ [([97], [1, 1])]) := SameW.repl (sw_doubled rfl)
  exact SameW.trans h1 h2
/-- a piece that is written out -/
theorem mk_pc {H : Hp} {fa a : Addr} {s : Str} {z : List Nat} {f : F} (e : V.str s = V.str (S z)) (n1 : H fa = none) (n2 : upd H fa (.tup (f.map fun n : Nat => V.int (n : Nat))) a = none) :
    Same H (upd (upd H fa (.tup (f.map fun n : Nat => V.int (n : Nat)))) a (.tup [.str s, .ref fa])) ∧ PC (upd (upd H fa (.tup (f.map fun n : Nat => V.int (n : Nat)))) a (.tup [.str s, .ref fa])) a (z, f) :=
  ⟨(sameNew n1).trans (sameNew n2), fa, by rw [upd_same, e], sameNew n2 _ _ upd_same⟩
section
variable {P : Program} {w : World} {K : PySem.W.Frag} {mg : Str → Option Value} {base : Heap} {C : Addr}
theorem law_tail (T : Txt K mg C) (f0 : Addr) (cdv : Value) (A : Around) (outer : List Env) (s0 : Shared) (H0 : Hp) (E : XK) (hr : Room 10 (A.deeper (envOfC "law" (C8.fnScope (topS 71)) s0.heap.objs.size f0 cdv))) :
    ∃ u, PSs (cxOf C8.CX0 P w K mg base ["_law_script", "_law_index", "_law_generator_here", "_law_many", "_law_signs", "_law_pieces", "_law_first", "_law_turn", "_law_point", "_law_unknown", "_law_due", "_law_text"] "law" (C8.fnScope (topS 71)) f0 cdv A outer s0 H0 E).nox ((C8.fnBody (topS 71)).drop 1) u ∧
      ∀ (Dn : Ends) (H : Hp) (v0 v1 v2 v3 v4 v5 v6 v7 v8 v9 v10 v11 : Option V), (∀ H', Dn.rt (.bl true) H') →
        u Dn [v0, v1, v2, v3, v4, v5, v6, v7, v8, v9, v10, v11] H := by
  refine ⟨_, (pss_cons (ps_set (i := 11) sc_law.nd rfl (Or.inl rfl) (C8.pe_mk (n_OpenText T) hr (by decide) (by rfl) (pa_cons pe_int (pa_cons (pe_lst (pa_cons (pe_tup (pa_cons pe_str (pa_cons (pe_tup (pa_cons pe_int (pa_cons pe_int pa_nil))) pa_nil))) pa_nil)) pa_nil))))
    (pss_one (ps_ret (pe_and (C8.pe_c (c_law_lean T) hr (by decide) (by rfl) (pa_cons (pv 11) (pa_cons (C8.pe_c (c_leaned T) hr (by decide) (by rfl) (pa_cons pe_int (pa_cons (pe_lst (pa_cons (pe_tup (pa_cons pe_str (pa_cons (pe_tup (pa_cons pe_int (pa_cons pe_int pa_nil))) pa_nil))) (pa_cons (pe_tup (pa_cons pe_str (pa_cons (pe_tup (pa_cons pe_int (pa_cons pe_int pa_nil))) pa_nil))) pa_nil))) pa_nil))) pa_nil))) (pe_one (pe_cmpR (op_eqD hr.units) (C8.pe_c (c_leaned T) hr (by decide) (by rfl) (pa_cons pe_int (pa_cons (pe_lst pa_nil) pa_nil))) (pe_lst pa_nil) (nomark _))))))), ?_⟩
  intro Dn H v0 v1 v2 v3 v4 v5 v6 v7 v8 v9 v10 v11 q
  refine ⟨by show 2 ≤ sizeLine; decide, fun f1 nf1 => ⟨by show 2 ≤ sizeLine; decide, fun p1 np1 => ?_⟩⟩
  generalize eH1 : upd (upd H f1 _) p1 _ = H1
  have c1 : Same H H1 ∧ PC H1 p1 ([97], [1, 3]) := by
    rw [← eH1]
    exact mk_pc (f := [1, 3]) st_a nf1 np1
  clear eH1 np1 nf1
  obtain ⟨s1, d1⟩ := c1
  refine ⟨by show 1 ≤ sizeLine; decide, fun N nN => ?_⟩
  have sN := sameNew (o := .lst [.ref p1]) nN
  have PN : PL (upd H1 N (.lst [.ref p1])) N oneL := ⟨_, upd_same, .one (d1.mono (tup_same sN))⟩
  generalize upd H1 N (.lst [.ref p1]) = H2 at PN
  intro x dx nx ndx nex
  refine mk_text nx ndx nex (one_dr.gl PN (by decide) (by decide)) (m := 1) (by decide) (Nat.le_trans one_dr.mea (by decide)) (one_dr.wl (by decide) (by decide) (by decide)) fun r0 H3 s3 nr0 ot => ⟨rfl, ?_⟩
  refine ⟨_, rfl, ?_⟩
  refine ⟨by show 2 ≤ sizeLine; decide, fun f4 nf4 => ⟨by show 2 ≤ sizeLine; decide, fun p4 np4 => ?_⟩⟩
  generalize eH4 : upd (upd H3 f4 _) p4 _ = H4
  have c4 : Same H3 H4 ∧ PC H4 p4 ([97, 97], [0, 1]) := by
    rw [← eH4]
    exact mk_pc (f := [0, 1]) st_aa nf4 np4
  clear eH4 np4 nf4
  refine ⟨by show 2 ≤ sizeLine; decide, fun f5 nf5 => ⟨by show 2 ≤ sizeLine; decide, fun p5 np5 => ?_⟩⟩
  generalize eH5 : upd (upd H4 f5 _) p5 _ = H5
  have c5 : Same H4 H5 ∧ PC H5 p5 ([97], [1, 1]) := by
    rw [← eH5]
    exact mk_pc (f := [1, 1]) st_a nf5 np5
  clear eH5 np5 nf5
  obtain ⟨s4, d4⟩ := c4
  obtain ⟨s5, d5⟩ := c5
  refine ⟨by show 2 ≤ sizeLine; decide, fun M nM => ?_⟩
  have sM := sameNew (o := .lst [.ref p4, .ref p5]) nM
  have PM : PL (upd H5 M (.lst [.ref p4, .ref p5])) M twoL := ⟨_, upd_same, .cons ((d4.mono (tup_same s5)).mono (tup_same sM)) (.one (d5.mono (tup_same sM)))⟩
  have ot6 := ot.same ((s4.trans s5).trans sM)
  generalize upd H5 M (.lst [.ref p4, .ref p5]) = H6 at PM ot6
  have glM := two_dr.gl PM (by decide) (by decide)
  have meM := two_dr.mea
  have wlM := two_dr.wl (by decide) (by decide) (by decide)
  refine ⟨1, M, twoL, rfl, by decide, glM, Nat.le_trans meM (by decide), fun r H7 n7 => ?_⟩
  have glr := lean_gl glM.len glM.low (Nat.le_trans meM (by decide)) wlM (by decide) n7.2.2
  have lnr := ln_lean glM.len
  rw [two_one] at lnr
  refine ⟨x, r, 1, normL oneL, leanL twoL, rfl, by decide, ⟨r0, ot6.same n7.1⟩, glr, Nat.le_trans (meas_leanL glM.len) (Nat.le_trans meM (by decide)), lean_wl glM.len wlM, lnr, fun H8 s8 => ⟨true, rfl, iteT ?_⟩⟩
  refine ⟨Nat.zero_le _, fun L0 nL0 => ?_⟩
  have PE0 : PL (upd H8 L0 (.lst [])) L0 [] := ⟨[], upd_same, .nil⟩
  generalize upd H8 L0 (.lst []) = H9 at PE0
  have n0 : Dr 3 4 [] := fun p hp => absurd hp List.not_mem_nil
  refine ⟨3, L0, [], rfl, by decide, n0.gl PE0 (by decide) (by decide), by decide, fun r2 H10 n10 => ?_⟩
  obtain ⟨vs, hvs, pvs⟩ := n10.2.2
  have ev : vs = [] := List.length_eq_zero_iff.mp pvs.len
  subst ev
  refine ⟨Nat.zero_le _, fun L1 nL1 => ?_⟩
  have sE := sameNew (o := .lst []) nL1
  refine ⟨.list [], .list [], .lst (.inl (.inl (sE _ _ hvs))) .nil, .lst (.inl (.inl upd_same)) .nil, by decide +kernel, by decide +kernel, ?_⟩
  exact q _
def sp_law (K : PySem.W.Frag) : Sp := fun vs H Q _ => ∃ (a : Addr) (ns : List Int), vs = [.ref a] ∧ SqL K H a (ns.map V.int) ∧ ns.length ≤ 63 ∧ ∀ H', Q (.bl true) H'
end
theorem law_end {l : PySem.W.OpenLaw} {w : World} {K : PySem.W.Frag} {mg : Str → Option Value} {fa C : Addr} (T : Txt K mg C) (hfa : mg "law" = some (.ref fa)) :
    ∃ fd : FuncData, (∀ (s : Shared) (v : Value), BindsTo s fd ⟨[v], []⟩ [("_law_script", v)]) ∧ ∀ base : Heap, K.In base → base.Ns mainGlobals mg → FnG l.prog w K mg base 11 fa fd ["_law_script"] (sp_law K) := by
  obtain ⟨f, fd, hm, hb, hF⟩ := T.d_law.oneG
  have e := hfa.symm.trans hm
  cases e
  refine ⟨fd, hb, fun base _ _ => hF sc_law (fun vs H Q E h => ?_) (fun cdv A outer s H vs Q E hr gd0 h => ?_)⟩
  · obtain ⟨_, _, rfl, _⟩ := h; rfl
  · obtain ⟨sa, ns, rfl, hS, hl, q⟩ := h
    have gd : (A.deeper (envOfC "law" (C8.fnScope (topS 71)) s.heap.objs.size fa cdv)).guards = some [] := gd0
    obtain ⟨u, hu, tail⟩ := law_tail T fa cdv A outer s H E hr
    refine ⟨_, (pss_cons (ps_for PassesOwn.never rfl (pi_range1 (by rfl) T.m_range (pa_cons pe_int pa_nil)) (pg_name (i := 1) sc_law.nd rfl (Or.inl rfl))
    (pss_cons (ps_set (i := 2) sc_law.nd rfl (Or.inr rfl) (C8.pe_c (c_law_generator T) hr (by decide) (by rfl) (pa_cons (pv 0) (pa_cons (pv 1) pa_nil))))
    (pss_cons (ps_par (i := 3) (j := 4) (by rfl) sc_law.nd rfl rfl (by decide) rfl rfl (pa_cons (C8.pe_c (c_law_random T) hr (by decide) (by rfl) (pa_cons (pv 2) (pa_cons pe_int pa_nil))) (pa_cons (C8.pe_c (c_law_letters T) hr (by decide) (by rfl) (pa_cons (pv 2) pa_nil)) pa_nil)) (by rfl))
    (pss_cons (ps_set (i := 5) sc_law.nd rfl (Or.inl rfl) (C8.pe_c (c_law_raw T) hr (by decide) (by rfl) (pa_cons (pv 2) (pa_cons (pv 3) (pa_cons (pv 4) (pa_cons pe_int (pa_cons (pe_ix ix_list (pe_lst (pa_cons (pe_op op_powB pe_int pe_int) (pa_cons pe_int pa_nil))) (pv 1) (fun _ _ => rfl)) pa_nil)))))))
    (pss_cons (ps_if (pt_not (pt_val (pe_cG (c_law_one_right T) hr gd (by decide) (by rfl) (pa_cons (pv 3) (pa_cons (pv 5) pa_nil)))))
    (pss_one (ps_ret pe_bl))
    pss_nil)
    (pss_cons (ps_set (i := 6) sc_law.nd rfl (Or.inl rfl) (pe_callTy call_list_of (by rfl) T.m_list (by decide +kernel) (pa_cons (pv 5) pa_nil)))
    (pss_cons (ps_for PassesOwn.never rfl (pi_range1 (by rfl) T.m_range (pa_cons (pe_op op_mulW pe_int (pv 1)) pa_nil)) (pg_name (i := 7) sc_law.nd rfl (Or.inl rfl))
    (pss_cons (ps_set (i := 5) sc_law.nd rfl (Or.inl rfl) (C8.pe_c (c_law_stepped T) hr (by decide) (by rfl) (pa_cons (pv 2) (pa_cons (pv 3) (pa_cons (pv 5) pa_nil)))))
    (pss_one (ps_if (pt_not (pt_val (pe_cG (c_law_one_right T) hr gd (by decide) (by rfl) (pa_cons (pv 3) (pa_cons (pv 5) pa_nil)))))
    (pss_one (ps_ret pe_bl))
    pss_nil))))
    (pss_one (ps_if (pt_cmpR op_eq (pv 1) pe_int (nomark _))
    (pss_cons (ps_setLc (i := 8) (own := [("_law_unknown", 9)]) rfl sc_law.nd rfl rfl (sw_true rfl rfl rfl (by decide +kernel)) (pi_range1 (by rfl) T.m_range (pa_cons (pv 3) pa_nil)) (blkOk_by (N := ["_law_script", "_law_index", "_law_generator_here", "_law_many", "_law_signs", "_law_pieces", "_law_first", "_law_turn", "_law_point", "_law_unknown", "_law_due", "_law_text"]) (sc := C8.fnScope (topS 71)) (own := [("_law_unknown", 9)]) (by decide +kernel)) (fun _ _ _ _ _ => (pg_name (i := 9) sc_law.nd rfl (Or.inl rfl))) (fun _ _ _ _ _ => pts_nil) (fun _ _ _ _ _ => (C8.pe_c (c_law_random T) hr (by decide) (by rfl) (pa_cons (pv 2) (pa_cons pe_int pa_nil)))))
    (pss_cons (ps_set (i := 10) sc_law.nd rfl (Or.inl rfl) (C8.pe_c (c_law_write T) hr (by decide) (by rfl) (pa_cons (pv 6) (pa_cons (pv 8) pa_nil))))
    (pss_one (ps_if (PW.pt (pw_or (pt_cmpR op_ne (C8.pe_c (c_law_write T) hr (by decide) (by rfl) (pa_cons (C8.pe_c (c_leaned T) hr (by decide) (by rfl) (pa_cons (pv 3) (pa_cons (pv 5) pa_nil))) (pa_cons (pv 8) pa_nil))) (pv 10) (nomark _)) (pw_or1 (pt_cmpR op_ne (C8.pe_c (c_law_write T) hr (by decide) (by rfl) (pa_cons (C8.pe_c (c_leaned T) hr (by decide) (by rfl) (pa_cons (pv 3) (pa_cons (pv 6) pa_nil))) (pa_cons (pv 8) pa_nil))) (pv 10) (nomark _)))))
    (pss_one (ps_ret pe_bl))
    pss_nil))))
    pss_nil)))))))))
    hu), ?_⟩
    refine ⟨2, rfl, by decide, by decide, ?_⟩
    refine for_it walk_range (fun i σ H' => Same H H' ∧ ∃ y1 y2 y3 y4 y5 y6 y7 y8 y10, σ = [some (.ref sa), y1, y2, y3, y4, y5, y6, y7, y8, none, y10, none]) ⟨Same.refl _, none, none, none, none, none, none, none, none, none, rfl⟩ (fun _ _ _ _ _ => True.intro) (fun i x σ H' H'' hi p y => ?_) fun σ H' p => ?_
    · obtain ⟨s0, y1, y2, y3, y4, y5, y6, y7, y8, y10, rfl⟩ := p
      obtain ⟨rfl, rfl⟩ := y
      have i2 : i < 2 := hi
      obtain ⟨B0, B, at1, b01, b0B, b4, bB, bi⟩ : ∃ B0 B : Nat, ([V.int ((10 ^ 18 : Nat) : Int), V.int 3] : List V)[i]? = some (.int (B0 : Nat)) ∧ 1 ≤ B0 ∧ B0 ≤ B ∧ 4 ≤ B ∧ B ≤ 10 ^ 18 ∧ (i = 1 → B = 4) := by
        rcases (by omega : i = 0 ∨ i = 1) with rfl | rfl
        · exact ⟨10 ^ 18, 10 ^ 18, rfl, by decide, Nat.le_refl _, by decide, Nat.le_refl _, fun h => by cases h⟩
        · exact ⟨3, 4, rfl, by decide, by decide, by decide, by decide, fun _ => rfl⟩
      have bb : B < 2 ^ 190 := Nat.lt_of_le_of_lt bB (by decide +kernel)
      have b200 : B ≤ 2 ^ 200 := Nat.le_trans bB (by decide +kernel)
      refine ⟨_, rfl, _, rfl, sa, ns, i, by show [V.ref sa, V.int (0 + (i : Int))] = _; rw [Int.zero_add], s0.seq hS, by omega, fun g H1 H2 s1 n1 s2 G2 => ?_⟩
      refine ⟨_, rfl, g, 4, 90000, rfl, G2.le (by decide), by decide, by decide, fun mz H3 s3 G3 m0 m1 => ?_⟩
      obtain ⟨m, rfl⟩ : ∃ m : Nat, mz = m := ⟨mz.toNat, by omega⟩
      have m3 : m ≤ 3 := by omega
      refine ⟨_, rfl, g, 80000, rfl, G3.le (by decide), fun cs H4 s4 G4 lcs lowc _ => ⟨_, _, rfl, ?_⟩⟩
      refine ⟨_, rfl, _, rfl, _, rfl, _, _, rfl, rfl, ⟨by decide, by decide⟩, by show 2 ≤ sizeLine; decide, fun M nM => ?_⟩
      dsimp only at nM ⊢
      rw [e18]
      have sM := sameNew (o := .lst [.int ((10 ^ 18 : Nat) : Int), .int 3]) nM
      have hM : upd H4 M (.lst [.int ((10 ^ 18 : Nat) : Int), .int 3]) M = some (.lst [.int ((10 ^ 18 : Nat) : Int), .int 3]) := upd_same
      have GM := G4.same sM
      generalize upd H4 M (.lst [.int ((10 ^ 18 : Nat) : Int), .int 3]) = H5 at sM hM GM
      refine ⟨_, rfl, M, _, (i : Int), .int (B0 : Nat), rfl, by show V.int (0 + (i : Int)) = _; rw [Int.zero_add], .inl (.inl hM), atI_nat at1, g, cs, m, 5, B0, B, 60000, rfl, lcs, lowc, m3, b01, b0B, b4, bb, by decide, GM.le (by decide), fun L ps H6 gr G6 n6 d6 => ?_⟩
      have sx6 : SameX g H2 H6 := s3.trans (s4.trans ((SameX.of sM).trans gr.sx))
      refine ⟨_, rfl, _, rfl, m, B, L, ps, rfl, m3, b200, gr.pl, d6, by omega, fun H7 s7 => ⟨true, rfl, iteF ?_⟩⟩
      rw [tnext_eq]
      have G7 := G6.same s7
      have Lg : L ≠ g := gr.ne
      obtain ⟨us, hus, pus⟩ := gr.pl.same s7
      refine ⟨_, rfl, L, us, rfl, .inl (.inl (.inl hus)), fun F nF => ?_⟩
      have sF := sameNew (o := .lst us) nF
      have G8 := G7.same sF
      have plF : PL (upd H7 F (.lst us)) F ps := ⟨us, upd_same, pus.same sF⟩
      have plL : PL (upd H7 F (.lst us)) L ps := ⟨us, sF _ _ hus, pus.same sF⟩
      have Fg := G7.ne nF
      have sx8 : SameX g H2 (upd H7 F (.lst us)) := sx6.trans (.of (s7.trans sF))
      generalize upd H7 F (.lst us) = H8 at sF G8 plF plL sx8
      have same : ∀ {Hx : Hp}, SameX g H2 Hx → Same H Hx := fun sx b o e => by
        have e1 := s1 _ _ (s0 b o e)
        exact sx b o (fun z => by rw [z, n1] at e1; cases e1) (s2 _ _ e1)
      clear hus pus nF sF s7 sM hM nM gr sx6
      refine ⟨_, rfl, _, _, rfl, rfl, wide_mul (a := 10) (b := 10) (by decide) (by show (0 + (i : Int)).natAbs < 2 ^ 10; omega) (by decide) (by decide) (by decide), _, rfl, ?_, ?_, ?_⟩
      · show -(2 ^ 62) ≤ (6 : Int) * (0 + (i : Int)); omega
      · show (6 : Int) * (0 + (i : Int)) < 2 ^ 62; omega
      refine for_it walk_range (fun j σ H' => j ≤ 6 ∧ SameX g H8 H' ∧ Gn (20000 + 20 * (6 - j)) H' g ∧ ∃ (L' : Addr) (qs : List Pn) (y7' : Option V), σ = [some (.ref sa), some (.int (0 + (i : Int))), some (.ref g), some (.int (m : Nat)), some (.str (S cs)), some (.ref L'), some (.ref F), y7', y8, none, y10, none] ∧ L' ≠ g ∧ PL H' L' qs ∧ Dr m B qs ∧ qs.length ≤ 12 ∧ SameW m ps qs)
        ⟨by decide, .refl _ _, G8.le (by decide), L, ps, y7, rfl, Lg, plL, d6, by omega, SameW.rfl'⟩ (fun _ _ _ _ _ => True.intro) (fun j y σ H9 H9' hj pJ yy => ?_) fun σ H9 pJ => ?_
      · obtain ⟨_, s9, G9, L', qs, y7', rfl, Lg', pl9, d9, n9, sw9⟩ := pJ
        obtain ⟨rfl, rfl⟩ := yy
        have hj' : j < ((6 : Int) * (0 + (i : Int))).toNat := hj
        have j6 : j < 6 := by omega
        have e20 : 20000 + 20 * (6 - j) = 20000 + 20 * (6 - (j + 1)) + 20 := by omega
        rw [e20] at G9
        refine ⟨_, rfl, _, rfl, _, rfl, g, L', m, B, _, qs, rfl, pl9, Lg', d9, n9, m3, b4, bb, G9, fun r rs H10 s10 G10 rg pl10 d10 n10 sw10 => ?_⟩
        refine ⟨_, rfl, _, rfl, m, B, r, rs, rfl, m3, b200, pl10, d10, by omega, fun H11 s11 => ⟨true, rfl, iteF ?_⟩⟩
        exact ⟨j6, s9.trans (s10.trans (.of s11)), G10.same s11, r, rs, _, rfl, rg, pl10.same s11, d10, n10, sw9.trans sw10⟩
      · obtain ⟨_, s9, G9, L', qs, y7', rfl, Lg', pl9, d9, n9, sw9⟩ := pJ
        have sx9 := sx8.trans s9
        have plF9 : PL H9 F ps := by
          obtain ⟨us, hus, pus⟩ := plF
          exact ⟨us, s9 _ _ Fg hus, pus.mono fun a xs e => s9.tup G8 e⟩
        refine ⟨_, rfl, rfl, _, rfl, ite2 (fun e => ?_) (fun e => ⟨same sx9, _, _, _, _, _, _, _, _, _, rfl⟩)⟩
        have i1 : i = 1 := by
          have := V.int.inj (of_decide_eq_true e)
          omega
        have B4 := bi i1
        subst B4
        refine ⟨_, rfl, (m : Int), rfl, by omega, by omega, fun D hD => ?_⟩
        refine lcC_draw 1 (lo := 0) (g := g) (n := 10000) (cnt := m) (fun v => ∃ c : Nat, v = V.int (c : Nat) ∧ c < 3) (small5 (by omega)) hD (G9.le (by omega)) (fun i' H11 R hi' s11 G11 q' => ?_) fun H11 vs11 s11 G11 hL11 hl11 hP11 => ?_
        · exact ⟨rfl, _, rfl, g, 3, _, rfl, G11, by decide, by decide, fun r' H12 s12 G12 r0' r1' => q' _ H12 s12 G12 ⟨r'.toNat, congrArg V.int (by omega), by omega⟩⟩
        obtain ⟨pt, rfl, hpt, lpt⟩ := Nn_of hP11
        have lpt' : pt.length = m := lpt.trans hl11
        have Dg := G9.ne hD
        have plF11 : PL H11 F ps := by
          obtain ⟨us, hus, pus⟩ := plF9
          exact ⟨us, s11 _ _ Fg hus, pus.mono fun a xs e => s11.tup G9 e⟩
        have pl11 : PL H11 L' qs := by
          obtain ⟨us, hus, pus⟩ := pl9
          exact ⟨us, s11 _ _ Lg' hus, pus.mono fun a xs e => s11.tup G9 e⟩
        have hLP : LP H11 D pt := hL11
        have sx11 := sx9.trans s11
        have glF := d6.gl plF11 b200 (by omega)
        have glQ := d9.gl pl11 b200 (by omega)
        have meF := d6.mea
        have meQ := d9.mea
        have wlF := d6.wl m3 b200 (by omega)
        have wlQ := d9.wl m3 b200 (by omega)
        have hpt2 : ∀ y ∈ pt, y ≤ 2 := fun y hy => by have := hpt y hy; omega
        have bpt : Bf pt := fun y hy => Nat.lt_of_lt_of_le (hpt y hy) (by decide +kernel)
        have wF := wr_dr m3 hpt2 d6
        have wF' : (wr pt ps).length ≤ 12 * 324 := Nat.le_trans wF (Nat.mul_le_mul (by omega) (by decide))
        have vF : ∀ p ∈ ps, valF p.2 pt ≤ 900000 := fun p hp => Nat.le_trans (val_dr (d6 p hp) m3 hpt2) (by decide)
        have eQ : wr pt (leanL qs) = wr pt ps := (leanL_wr glQ.len pt).trans (sw9 pt lpt')
        have eF : wr pt (leanL ps) = wr pt ps := leanL_wr glF.len pt
        have okQ := (leanL_jn glQ.len []).ok
        have okF := (leanL_jn glF.len []).ok
        have vlQ : ∀ p ∈ leanL qs, valF p.2 pt ≤ 900000 := fun p hp => by have := val_wr (pt := pt) okQ p hp; rw [eQ] at this; omega
        have vlF : ∀ p ∈ leanL ps, valF p.2 pt ≤ 900000 := fun p hp => by have := val_wr (pt := pt) okF p hp; rw [eF] at this; omega
        refine ⟨_, rfl, _, rfl, F, D, ps, pt, m, rfl, plF11, hLP, glF.len, lpt', m3, glF.bf, bpt, fun p hp => Nat.le_trans (glF.ws p hp) (by decide), by omega, by omega, vF, fun H13 s13 => ?_⟩
        refine ⟨_, rfl, _, rfl, m, L', qs, rfl, m3, glQ.same s13, by omega, fun r H14 n14 => ?_⟩
        have glr := lean_gl glQ.len glQ.low (by omega) wlQ (by omega) n14.2.2
        have s14 := s13.trans n14.1
        refine ⟨_, rfl, r, D, leanL qs, pt, m, rfl, glr.at_, s14 _ _ hLP, glr.len, lpt', m3, glr.bf, bpt, fun p hp => Nat.le_trans (glr.ws p hp) (by decide), Nat.le_trans glr.few (by decide), by rw [eQ]; omega, vlQ, fun H15 s15 => ?_⟩
        rw [eQ]
        refine ⟨_, rfl, rfl, false, congrArg V.bl (ne_no _), iteF ?_⟩
        have s15' := s14.trans s15
        refine ⟨_, rfl, _, rfl, m, F, ps, rfl, m3, glF.same s15', by omega, fun r2 H16 n16 => ?_⟩
        have glr2 := lean_gl glF.len glF.low (by omega) wlF (by omega) n16.2.2
        have s16 := s15'.trans n16.1
        refine ⟨_, rfl, r2, D, leanL ps, pt, m, rfl, glr2.at_, s16 _ _ hLP, glr2.len, lpt', m3, glr2.bf, bpt, fun p hp => Nat.le_trans (glr2.ws p hp) (by decide), Nat.le_trans glr2.few (by decide), by rw [eF]; omega, vlF, fun H17 s17 => ?_⟩
        rw [eF]
        refine ⟨_, rfl, rfl, false, congrArg V.bl (ne_no _), iteF ?_⟩
        exact ⟨same (sx11.trans (.of (s16.trans s17))), _, _, _, _, _, _, _, _, _, rfl⟩
    · obtain ⟨s0, y1, y2, y3, y4, y5, y6, y7, y8, y10, rfl⟩ := p
      exact tail _ H' _ _ _ _ _ _ _ _ _ _ _ _ fun H'' => q H''
end K67

open PySem PySem.W PyProof.Rows
set_option maxHeartbeats 0 in
theorem PySem.Challenge.cw_countscribe_k67_whole_leaned_writers_holds : PySem.Challenge.rw_countscribe_k67_whole_leaned_writers.Holds := by
  w_on; o_law; k_head; (case hw => w_witness2)
  k_fill
  refine CK.walkG (l := PySem.Challenge.rw_countscribe_k67_whole_leaned_writers) (n := 63) (k := 11) (x := "_law_script") (sp := fun w => K67.sp_law _) rfl (by decide) rfl ⟨rfl, by decide, by decide⟩ (fun w h Y => PySem.W.kIn_of Y) ?F (fun _ _ a ns hl _ hS => ⟨a, ns, rfl, hS, hl, fun _ => rfl⟩)
  case F =>
    intro w mg fa h KX G hmg
    refine' CK.with_cls KX "OpenText" (CK.clF_mk KX G ?a ?pg ?hd ?po ?sa ?mk ?kp ?ha ?hn ?htk ?hm) fun k_OpenText => ?_
    (case a => k_is); (case pg => k_is); (case hd => k_is); (case po => k_is); (case sa => k_is); (case mk => k_is); (case kp => k_is); (case ha => k_is); (case hn => k_is); (case htk => k_is); (case hm => k_is)
    have f_many : L2.NoAttr _ _ "_many" := CK.noA k_OpenText "_many" (by k_is)
    have f_pieces : L2.NoAttr _ _ "_pieces" := CK.noA k_OpenText "_pieces" (by k_is)
    refine' CK.with_def KX "is_whole" (K67.topS 8) ["value"] (CK.defF_mk KX G ?a ?l ?c ?k fun _ _ _ _ _ _ us hl => match us, hl with | [_], _ => rfl) fun d_is_whole => ?_
    (case a => k_is); (case l => k_is); (case c => k_is); (case k => k_is)
    refine' CK.with_def KX "is_count" (K67.topS 9) ["value"] (CK.defF_mk KX G ?a ?l ?c ?k fun _ _ _ _ _ _ us hl => match us, hl with | [_], _ => rfl) fun d_is_count => ?_
    (case a => k_is); (case l => k_is); (case c => k_is); (case k => k_is)
    refine' CK.with_def KX "is_within" (K67.topS 10) ["value", "low", "high"] (CK.defF_mk KX G ?a ?l ?c ?k fun _ _ _ _ _ _ us hl => match us, hl with | [_, _, _], _ => rfl) fun d_is_within => ?_
    (case a => k_is); (case l => k_is); (case c => k_is); (case k => k_is)
    refine' CK.with_def KX "is_lettered" (K67.topS 11) ["value", "most"] (CK.defF_mk KX G ?a ?l ?c ?k fun _ _ _ _ _ _ us hl => match us, hl with | [_, _], _ => rfl) fun d_is_lettered => ?_
    (case a => k_is); (case l => k_is); (case c => k_is); (case k => k_is)
    refine' CK.with_def KX "need_within" (K67.topS 12) ["value", "low", "high"] (CK.defF_mk KX G ?a ?l ?c ?k fun _ _ _ _ _ _ us hl => match us, hl with | [_, _, _], _ => rfl) fun d_need_within => ?_
    (case a => k_is); (case l => k_is); (case c => k_is); (case k => k_is)
    refine' CK.with_def KX "need_many" (K67.topS 13) ["value"] (CK.defF_mk KX G ?a ?l ?c ?k fun _ _ _ _ _ _ us hl => match us, hl with | [_], _ => rfl) fun d_need_many => ?_
    (case a => k_is); (case l => k_is); (case c => k_is); (case k => k_is)
    refine' CK.with_def KX "is_form_for" (K67.topS 15) ["many", "value"] (CK.defF_mk KX G ?a ?l ?c ?k fun _ _ _ _ _ _ us hl => match us, hl with | [_, _], _ => rfl) fun d_is_form_for => ?_
    (case a => k_is); (case l => k_is); (case c => k_is); (case k => k_is)
    refine' CK.with_def KX "plain_form" (K67.topS 16) ["number", "many"] (CK.defF_mk KX G ?a ?l ?c ?k fun _ _ _ _ _ _ us hl => match us, hl with | [_, _], _ => rfl) fun d_plain_form => ?_
    (case a => k_is); (case l => k_is); (case c => k_is); (case k => k_is)
    refine' CK.with_def KX "form_sum" (K67.topS 17) ["one", "other"] (CK.defF_mk KX G ?a ?l ?c ?k fun _ _ _ _ _ _ us hl => match us, hl with | [_, _], _ => rfl) fun d_form_sum => ?_
    (case a => k_is); (case l => k_is); (case c => k_is); (case k => k_is)
    refine' CK.with_def KX "form_times" (K67.topS 18) ["number", "form"] (CK.defF_mk KX G ?a ?l ?c ?k fun _ _ _ _ _ _ us hl => match us, hl with | [_, _], _ => rfl) fun d_form_times => ?_
    (case a => k_is); (case l => k_is); (case c => k_is); (case k => k_is)
    refine' CK.with_def KX "turned_word" (K67.topS 20) ["word", "by"] (CK.defF_mk KX G ?a ?l ?c ?k fun _ _ _ _ _ _ us hl => match us, hl with | [_, _], _ => rfl) fun d_turned_word => ?_
    (case a => k_is); (case l => k_is); (case c => k_is); (case k => k_is)
    refine' CK.with_def KX "stretch" (K67.topS 21) ["word", "start", "size"] (CK.defF_mk KX G ?a ?l ?c ?k fun _ _ _ _ _ _ us hl => match us, hl with | [_, _, _], _ => rfl) fun d_stretch => ?_
    (case a => k_is); (case l => k_is); (case c => k_is); (case k => k_is)
    refine' CK.with_def KX "alike_ahead" (K67.topS 22) ["one", "other"] (CK.defF_mk KX G ?a ?l ?c ?k fun _ _ _ _ _ _ us hl => match us, hl with | [_, _], _ => rfl) fun d_alike_ahead => ?_
    (case a => k_is); (case l => k_is); (case c => k_is); (case k => k_is)
    refine' CK.with_def KX "alike_behind" (K67.topS 23) ["one", "other"] (CK.defF_mk KX G ?a ?l ?c ?k fun _ _ _ _ _ _ us hl => match us, hl with | [_, _], _ => rfl) fun d_alike_behind => ?_
    (case a => k_is); (case l => k_is); (case c => k_is); (case k => k_is)
    refine' CK.with_def KX "follows" (K67.topS 24) ["word", "text"] (CK.defF_mk KX G ?a ?l ?c ?k fun _ _ _ _ _ _ us hl => match us, hl with | [_, _], _ => rfl) fun d_follows => ?_
    (case a => k_is); (case l => k_is); (case c => k_is); (case k => k_is)
    refine' CK.with_def KX "border_sizes" (K67.topS 25) ["word"] (CK.defF_mk KX G ?a ?l ?c ?k fun _ _ _ _ _ _ us hl => match us, hl with | [_], _ => rfl) fun d_border_sizes => ?_
    (case a => k_is); (case l => k_is); (case c => k_is); (case k => k_is)
    refine' CK.with_def KX "root_size" (K67.topS 26) ["word"] (CK.defF_mk KX G ?a ?l ?c ?k fun _ _ _ _ _ _ us hl => match us, hl with | [_], _ => rfl) fun d_root_size => ?_
    (case a => k_is); (case l => k_is); (case c => k_is); (case k => k_is)
    refine' CK.with_def KX "is_piece" (K67.topS 31) ["many", "value"] (CK.defF_mk KX G ?a ?l ?c ?k fun _ _ _ _ _ _ us hl => match us, hl with | [_, _], _ => rfl) fun d_is_piece => ?_
    (case a => k_is); (case l => k_is); (case c => k_is); (case k => k_is)
    refine' CK.with_def KX "is_open_form" (K67.topS 32) ["form"] (CK.defF_mk KX G ?a ?l ?c ?k fun _ _ _ _ _ _ us hl => match us, hl with | [_], _ => rfl) fun d_is_open_form => ?_
    (case a => k_is); (case l => k_is); (case c => k_is); (case k => k_is)
    refine' CK.with_def KX "is_power" (K67.topS 33) ["piece"] (CK.defF_mk KX G ?a ?l ?c ?k fun _ _ _ _ _ _ us hl => match us, hl with | [_], _ => rfl) fun d_is_power => ?_
    (case a => k_is); (case l => k_is); (case c => k_is); (case k => k_is)
    refine' CK.with_def KX "fixed_piece" (K67.topS 34) ["word", "many"] (CK.defF_mk KX G ?a ?l ?c ?k fun _ _ _ _ _ _ us hl => match us, hl with | [_, _], _ => rfl) fun d_fixed_piece => ?_
    (case a => k_is); (case l => k_is); (case c => k_is); (case k => k_is)
    refine' CK.with_def KX "measure" (K67.topS 35) ["pieces"] (CK.defF_mk KX G ?a ?l ?c ?k fun _ _ _ _ _ _ us hl => match us, hl with | [_], _ => rfl) fun d_measure => ?_
    (case a => k_is); (case l => k_is); (case c => k_is); (case k => k_is)
    refine' CK.with_def KX "normal_pieces" (K67.topS 36) ["pieces"] (CK.defF_mk KX G ?a ?l ?c ?k fun _ _ _ _ _ _ us hl => match us, hl with | [_], _ => rfl) fun d_normal_pieces => ?_
    (case a => k_is); (case l => k_is); (case c => k_is); (case k => k_is)
    refine' CK.with_def KX "put_fixed" (K67.topS 37) ["ready", "word", "many"] (CK.defF_mk KX G ?a ?l ?c ?k fun _ _ _ _ _ _ us hl => match us, hl with | [_, _, _], _ => rfl) fun d_put_fixed => ?_
    (case a => k_is); (case l => k_is); (case c => k_is); (case k => k_is)
    refine' CK.with_def KX "put_power" (K67.topS 38) ["ready", "word", "form"] (CK.defF_mk KX G ?a ?l ?c ?k fun _ _ _ _ _ _ us hl => match us, hl with | [_, _, _], _ => rfl) fun d_put_power => ?_
    (case a => k_is); (case l => k_is); (case c => k_is); (case k => k_is)
    refine' CK.with_def KX "need_pieces" (K67.topS 40) ["many", "pieces"] (CK.defF_mk KX G ?a ?l ?c ?k fun _ _ _ _ _ _ us hl => match us, hl with | [_, _], _ => rfl) fun d_need_pieces => ?_
    (case a => k_is); (case l => k_is); (case c => k_is); (case k => k_is)
    refine' CK.with_def KX "need_measure" (K67.topS 41) ["total"] (CK.defF_mk KX G ?a ?l ?c ?k fun _ _ _ _ _ _ us hl => match us, hl with | [_], _ => rfl) fun d_need_measure => ?_
    (case a => k_is); (case l => k_is); (case c => k_is); (case k => k_is)
    refine' CK.with_def KX "normal" (K67.topS 42) ["many", "pieces"] (CK.defF_mk KX G ?a ?l ?c ?k fun _ _ _ _ _ _ us hl => match us, hl with | [_, _], _ => rfl) fun d_normal => ?_
    (case a => k_is); (case l => k_is); (case c => k_is); (case k => k_is)
    refine' CK.with_met k_OpenText "__init__" "OpenText.__init__" (L2.inClass (K67.topS 44) 0) ["self", "many", "pieces"] (CK.metF_mk k_OpenText _ _ _ _ ?a ?i ?l ?c ?k fun _ _ _ _ _ _ us hl => match us, hl with | [_, _, _], _ => rfl) fun d_OpenText___init__ => ?_
    (case a => k_is); (case i => k_is); (case l => k_is); (case c => k_is); (case k => k_is)
    refine' CK.with_met k_OpenText "__eq__" "OpenText.__eq__" (L2.inClass (K67.topS 44) 1) ["self", "other"] (CK.metF_mk k_OpenText _ _ _ _ ?a ?i ?l ?c ?k fun _ _ _ _ _ _ us hl => match us, hl with | [_, _], _ => rfl) fun d_OpenText___eq__ => ?_
    (case a => k_is); (case i => k_is); (case l => k_is); (case c => k_is); (case k => k_is)
    refine' CK.with_met k_OpenText "many" "OpenText.many" (L2.inClass (K67.topS 44) 2) ["self"] (CK.metF_mk k_OpenText _ _ _ _ ?a ?i ?l ?c ?k fun _ _ _ _ _ _ us hl => match us, hl with | [_], _ => rfl) fun d_OpenText_many => ?_
    (case a => k_is); (case i => k_is); (case l => k_is); (case c => k_is); (case k => k_is)
    refine' CK.with_met k_OpenText "pieces" "OpenText.pieces" (L2.inClass (K67.topS 44) 3) ["self"] (CK.metF_mk k_OpenText _ _ _ _ ?a ?i ?l ?c ?k fun _ _ _ _ _ _ us hl => match us, hl with | [_], _ => rfl) fun d_OpenText_pieces => ?_
    (case a => k_is); (case i => k_is); (case l => k_is); (case c => k_is); (case k => k_is)
    refine' CK.with_defD KX "leaned" (K67.topS 46) [] [] (CK.defD_mk _ _ _ _ KX G ?a ?l ?c ?k ?dd ?kk) fun d_leaned => ?_
    (case a => k_is); (case l => k_is); (case c => k_is); (case k => k_is); (case dd => exact CK.dfl_nil); (case kk => exact CK.kwd_nil)
    refine' CK.with_def KX "rooted" (K67.topS 47) ["pieces"] (CK.defF_mk KX G ?a ?l ?c ?k fun _ _ _ _ _ _ us hl => match us, hl with | [_], _ => rfl) fun d_rooted => ?_
    (case a => k_is); (case l => k_is); (case c => k_is); (case k => k_is)
    refine' CK.with_def KX "powers_gathered" (K67.topS 48) ["pieces"] (CK.defF_mk KX G ?a ?l ?c ?k fun _ _ _ _ _ _ us hl => match us, hl with | [_], _ => rfl) fun d_powers_gathered => ?_
    (case a => k_is); (case l => k_is); (case c => k_is); (case k => k_is)
    refine' CK.with_def KX "is_same_power" (K67.topS 49) ["ahead", "between", "word"] (CK.defF_mk KX G ?a ?l ?c ?k fun _ _ _ _ _ _ us hl => match us, hl with | [_, _, _], _ => rfl) fun d_is_same_power => ?_
    (case a => k_is); (case l => k_is); (case c => k_is); (case k => k_is)
    refine' CK.with_def KX "fixed_joined" (K67.topS 50) ["pieces"] (CK.defF_mk KX G ?a ?l ?c ?k fun _ _ _ _ _ _ us hl => match us, hl with | [_], _ => rfl) fun d_fixed_joined => ?_
    (case a => k_is); (case l => k_is); (case c => k_is); (case k => k_is)
    refine' CK.with_def KX "_law_hash" (K67.topS 52) ["_law_seed", "_law_index"] (CK.defF_mk KX G ?a ?l ?c ?k fun _ _ _ _ _ _ us hl => match us, hl with | [_, _], _ => rfl) fun d_law_hash => ?_
    (case a => k_is); (case l => k_is); (case c => k_is); (case k => k_is)
    refine' CK.with_def KX "_law_random" (K67.topS 53) ["_law_generator_here", "_law_bound"] (CK.defF_mk KX G ?a ?l ?c ?k fun _ _ _ _ _ _ us hl => match us, hl with | [_, _], _ => rfl) fun d_law_random => ?_
    (case a => k_is); (case l => k_is); (case c => k_is); (case k => k_is)
    refine' CK.with_def KX "_law_cell" (K67.topS 54) ["_law_script", "_law_index"] (CK.defF_mk KX G ?a ?l ?c ?k fun _ _ _ _ _ _ us hl => match us, hl with | [_, _], _ => rfl) fun d_law_cell => ?_
    (case a => k_is); (case l => k_is); (case c => k_is); (case k => k_is)
    refine' CK.with_def KX "_law_generator" (K67.topS 55) ["_law_script", "_law_index"] (CK.defF_mk KX G ?a ?l ?c ?k fun _ _ _ _ _ _ us hl => match us, hl with | [_, _], _ => rfl) fun d_law_generator => ?_
    (case a => k_is); (case l => k_is); (case c => k_is); (case k => k_is)
    refine' CK.with_def KX "_law_letters" (K67.topS 56) ["_law_generator_here"] (CK.defF_mk KX G ?a ?l ?c ?k fun _ _ _ _ _ _ us hl => match us, hl with | [_], _ => rfl) fun d_law_letters => ?_
    (case a => k_is); (case l => k_is); (case c => k_is); (case k => k_is)
    refine' CK.with_def KX "_law_word" (K67.topS 57) ["_law_generator_here", "_law_signs", "_law_least", "_law_most"] (CK.defF_mk KX G ?a ?l ?c ?k fun _ _ _ _ _ _ us hl => match us, hl with | [_, _, _, _], _ => rfl) fun d_law_word => ?_
    (case a => k_is); (case l => k_is); (case c => k_is); (case k => k_is)
    refine' CK.with_def KX "_law_number" (K67.topS 58) ["_law_generator_here", "_law_great"] (CK.defF_mk KX G ?a ?l ?c ?k fun _ _ _ _ _ _ us hl => match us, hl with | [_, _], _ => rfl) fun d_law_number => ?_
    (case a => k_is); (case l => k_is); (case c => k_is); (case k => k_is)
    refine' CK.with_def KX "_law_form" (K67.topS 59) ["_law_generator_here", "_law_many", "_law_most", "_law_great"] (CK.defF_mk KX G ?a ?l ?c ?k fun _ _ _ _ _ _ us hl => match us, hl with | [_, _, _, _], _ => rfl) fun d_law_form => ?_
    (case a => k_is); (case l => k_is); (case c => k_is); (case k => k_is)
    refine' CK.with_def KX "_law_piece" (K67.topS 60) ["_law_generator_here", "_law_many", "_law_signs", "_law_base", "_law_great"] (CK.defF_mk KX G ?a ?l ?c ?k fun _ _ _ _ _ _ us hl => match us, hl with | [_, _, _, _, _], _ => rfl) fun d_law_piece => ?_
    (case a => k_is); (case l => k_is); (case c => k_is); (case k => k_is)
    refine' CK.with_def KX "_law_raw" (K67.topS 61) ["_law_generator_here", "_law_many", "_law_signs", "_law_most", "_law_great"] (CK.defF_mk KX G ?a ?l ?c ?k fun _ _ _ _ _ _ us hl => match us, hl with | [_, _, _, _, _], _ => rfl) fun d_law_raw => ?_
    (case a => k_is); (case l => k_is); (case c => k_is); (case k => k_is)
    refine' CK.with_def KX "_law_write" (K67.topS 62) ["_law_pieces", "_law_point"] (CK.defF_mk KX G ?a ?l ?c ?k fun _ _ _ _ _ _ us hl => match us, hl with | [_, _], _ => rfl) fun d_law_write => ?_
    (case a => k_is); (case l => k_is); (case c => k_is); (case k => k_is)
    refine' CK.with_def KX "_law_vector" (K67.topS 63) ["_law_pieces"] (CK.defF_mk KX G ?a ?l ?c ?k fun _ _ _ _ _ _ us hl => match us, hl with | [_], _ => rfl) fun d_law_vector => ?_
    (case a => k_is); (case l => k_is); (case c => k_is); (case k => k_is)
    refine' CK.with_def KX "_law_count" (K67.topS 64) ["_law_thing"] (CK.defF_mk KX G ?a ?l ?c ?k fun _ _ _ _ _ _ us hl => match us, hl with | [_], _ => rfl) fun d_law_count => ?_
    (case a => k_is); (case l => k_is); (case c => k_is); (case k => k_is)
    refine' CK.with_def KX "_law_is_piece" (K67.topS 65) ["_law_many", "_law_thing"] (CK.defF_mk KX G ?a ?l ?c ?k fun _ _ _ _ _ _ us hl => match us, hl with | [_, _], _ => rfl) fun d_law_is_piece => ?_
    (case a => k_is); (case l => k_is); (case c => k_is); (case k => k_is)
    refine' CK.with_def KX "_law_are_pieces" (K67.topS 66) ["_law_many", "_law_things"] (CK.defF_mk KX G ?a ?l ?c ?k fun _ _ _ _ _ _ us hl => match us, hl with | [_, _], _ => rfl) fun d_law_are_pieces => ?_
    (case a => k_is); (case l => k_is); (case c => k_is); (case k => k_is)
    refine' CK.with_def KX "_law_primitive" (K67.topS 67) ["_law_word_here"] (CK.defF_mk KX G ?a ?l ?c ?k fun _ _ _ _ _ _ us hl => match us, hl with | [_], _ => rfl) fun d_law_primitive => ?_
    (case a => k_is); (case l => k_is); (case c => k_is); (case k => k_is)
    refine' CK.with_def KX "_law_lean" (K67.topS 68) ["_law_text", "_law_value"] (CK.defF_mk KX G ?a ?l ?c ?k fun _ _ _ _ _ _ us hl => match us, hl with | [_, _], _ => rfl) fun d_law_lean => ?_
    (case a => k_is); (case l => k_is); (case c => k_is); (case k => k_is)
    refine' CK.with_def KX "_law_stepped" (K67.topS 69) ["_law_generator_here", "_law_many", "_law_pieces"] (CK.defF_mk KX G ?a ?l ?c ?k fun _ _ _ _ _ _ us hl => match us, hl with | [_, _, _], _ => rfl) fun d_law_stepped => ?_
    (case a => k_is); (case l => k_is); (case c => k_is); (case k => k_is)
    refine' CK.with_def KX "_law_one_right" (K67.topS 70) ["_law_many", "_law_pieces"] (CK.defF_mk KX G ?a ?l ?c ?k fun _ _ _ _ _ _ us hl => match us, hl with | [_, _], _ => rfl) fun d_law_one_right => ?_
    (case a => k_is); (case l => k_is); (case c => k_is); (case k => k_is)
    refine' CK.with_def KX "law" (K67.topS 71) ["_law_script"] (CK.defF_mk KX G ?a ?l ?c ?k fun _ _ _ _ _ _ us hl => match us, hl with | [_], _ => rfl) fun d_law => ?_
    (case a => k_is); (case l => k_is); (case c => k_is); (case k => k_is)
    have m_all : mg "all" = none := by
      refine' PySem.W.mg_none_of KX G ?z
      (case z => k_is)
    have m_any : mg "any" = none := by
      refine' PySem.W.mg_none_of KX G ?z
      (case z => k_is)
    have m_bool : mg "bool" = none := by
      refine' PySem.W.mg_none_of KX G ?z
      (case z => k_is)
    have m_int : mg "int" = none := by
      refine' PySem.W.mg_none_of KX G ?z
      (case z => k_is)
    have m_isinstance : mg "isinstance" = none := by
      refine' PySem.W.mg_none_of KX G ?z
      (case z => k_is)
    have m_len : mg "len" = none := by
      refine' PySem.W.mg_none_of KX G ?z
      (case z => k_is)
    have m_list : mg "list" = none := by
      refine' PySem.W.mg_none_of KX G ?z
      (case z => k_is)
    have m_max : mg "max" = none := by
      refine' PySem.W.mg_none_of KX G ?z
      (case z => k_is)
    have m_min : mg "min" = none := by
      refine' PySem.W.mg_none_of KX G ?z
      (case z => k_is)
    have m_range : mg "range" = none := by
      refine' PySem.W.mg_none_of KX G ?z
      (case z => k_is)
    have m_repr : mg "repr" = none := by
      refine' PySem.W.mg_none_of KX G ?z
      (case z => k_is)
    have m_str : mg "str" = none := by
      refine' PySem.W.mg_none_of KX G ?z
      (case z => k_is)
    have m_sum : mg "sum" = none := by
      refine' PySem.W.mg_none_of KX G ?z
      (case z => k_is)
    have m_tuple : mg "tuple" = none := by
      refine' PySem.W.mg_none_of KX G ?z
      (case z => k_is)
    have m_zip : mg "zip" = none := by
      refine' PySem.W.mg_none_of KX G ?z
      (case z => k_is)
    have k_MOST_MEASURE : ∃ u, mg "MOST_MEASURE" = some u ∧ L2.RelV (.int 2000) u := by
      refine' ⟨?u_MOST_MEASURE, PySem.W.mg_of KX G ?z_MOST_MEASURE, ?r_MOST_MEASURE⟩
      (case z_MOST_MEASURE => k_is)
      all_goals exact ⟨_, rfl⟩
    have k_MOST_PIECES : ∃ u, mg "MOST_PIECES" = some u ∧ L2.RelV (.int 5000) u := by
      refine' ⟨?u_MOST_PIECES, PySem.W.mg_of KX G ?z_MOST_PIECES, ?r_MOST_PIECES⟩
      (case z_MOST_PIECES => k_is)
      all_goals exact ⟨_, rfl⟩
    have k_MOST_PIECE_LETTERS : ∃ u, mg "MOST_PIECE_LETTERS" = some u ∧ L2.RelV (.int 2000) u := by
      refine' ⟨?u_MOST_PIECE_LETTERS, PySem.W.mg_of KX G ?z_MOST_PIECE_LETTERS, ?r_MOST_PIECE_LETTERS⟩
      (case z_MOST_PIECE_LETTERS => k_is)
      all_goals exact ⟨_, rfl⟩
    have k_MOST_UNKNOWNS : ∃ u, mg "MOST_UNKNOWNS" = some u ∧ L2.RelV (.int 3) u := by
      refine' ⟨?u_MOST_UNKNOWNS, PySem.W.mg_of KX G ?z_MOST_UNKNOWNS, ?r_MOST_UNKNOWNS⟩
      (case z_MOST_UNKNOWNS => k_is)
      all_goals exact ⟨_, rfl⟩
    have T : K67.Txt _ mg _ := ⟨k_OpenText, f_many, f_pieces, d_is_whole, d_is_count, d_is_within, d_is_lettered, d_need_within, d_need_many, d_is_form_for, d_plain_form, d_form_sum, d_form_times, d_turned_word, d_stretch, d_alike_ahead, d_alike_behind, d_follows, d_border_sizes, d_root_size, d_is_piece, d_is_open_form, d_is_power, d_fixed_piece, d_measure, d_normal_pieces, d_put_fixed, d_put_power, d_need_pieces, d_need_measure, d_normal, d_OpenText___init__, d_OpenText___eq__, d_OpenText_many, d_OpenText_pieces, d_leaned, d_rooted, d_powers_gathered, d_is_same_power, d_fixed_joined, d_law_hash, d_law_random, d_law_cell, d_law_generator, d_law_letters, d_law_word, d_law_number, d_law_form, d_law_piece, d_law_raw, d_law_write, d_law_vector, d_law_count, d_law_is_piece, d_law_are_pieces, d_law_primitive, d_law_lean, d_law_stepped, d_law_one_right, d_law, m_all, m_any, m_bool, m_int, m_isinstance, m_len, m_list, m_max, m_min, m_range, m_repr, m_str, m_sum, m_tuple, m_zip, k_MOST_MEASURE, k_MOST_PIECES, k_MOST_PIECE_LETTERS, k_MOST_UNKNOWNS⟩
    exact K67.law_end T hmg
