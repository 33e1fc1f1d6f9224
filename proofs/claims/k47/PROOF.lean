import PyProof.Rows.All
import Wide.All
import OpenK.AllK
import Wide.FinOn
import HandS.ForMost
import HandS.Wide
import HandS.WideBits
import HandS.TupAny
import HandS.TupMul
import HandS.IsInst
import HandS.Walk
import HandS.Style
import KE.GoesZip
import KE.GoesMore
import KE.GoesEnum
import HandS.Codes
import HandS.FStrTup
import PyProof.ListMulRoad
import PyProof.FactsAll.tuple_2
import PyProof.ReprLoop
import PyProof.ReprHeadsTuple
import PyProof.StrHeap
import PyProof.CallStr
import HandS.StrMore
import HandS.SortInts
import PyProof.Rows.StrRev
import PyProof.StrOps2
import KE.DataAny
import PyProof.ReprRoads
import HandS.Ends
import HandS.Defaults
import HandS.MakeKwOnly
import HandS.MakeKw
import HandS.Records
import HandS.Exc
import HandS.ExcOwn
import HandS.ExcInit
import HandS.ExcField
import HandS.ExcIs
import HandS.WordsExc
import HandS.TryOnly
import KE.KExcIs
import HandS.OwnEq
import PyProof.ReprLen
import PyProof.StrLawsRepr
import PySem.Challenge.RW_countscribe_k47_sums_and_lessers
import HandS.Flow
import HandS.Conv
set_option Elab.async false
set_option linter.all false
set_option maxRecDepth 100000
set_option maxHeartbeats 2000000
/-! rules that the layer lacks: a power of great numbers, zip over a list and a tuple in any mix -/
namespace CK
open PySem PySem.Spec PyProof.Rows L2

section
variable {X : Cx}
theorem op_powB : OpR X (binaryOp .Pow) (rI (fun i j => 0 ≤ j ∧ (Builtin.Int.intBits i : Int) * j ≤ 2 ^ 27) fun i j => .int (i ^ j.toNat)) :=
  opI fun _ _ _ _ _ _ _ c q => pow_int c.1 c.2 q
end

/-- a list, or a tuple -/
inductive Kd | L | T
def SqB (K : PySem.W.Frag) : Kd → Hp → Addr → List V → Prop
  | .L, H, a, xs => SqL K H a xs
  | .T, H, a, xs => SqT K H a xs
def HasB : Kd → Heap → Addr → Array Value → Prop
  | .L, h, a, xs => h.IsList a xs
  | .T, h, a, xs => h.IsTuple a xs
def IterB : Kd → Heap → Addr → Addr → Nat → Prop
  | .L, h, it, a, i => h.IsListIter it a i
  | .T, h, it, a, i => h.IsTupleIter it a i
def objB : Kd → Addr → Obj
  | .L, a => { cls := .type "list_iterator", data := .fields #[.ref a, .int 0 0] }
  | .T, a => { cls := .type "tuple_iterator", data := .fields #[.ref a, .int 0 0] }
theorem drawsB (k : Kd) {prog : Program} {w : World} {A : Around} (hh : A.handled = none) (it t : Addr) (ne : t ≠ it) (zs : Array Value) :
    Draws prog w A it [it, t] zs.size (fun i v => zs[i]? = some v) (fun i h => IterB k h it t i ∧ HasB k h t zs) := by
  cases k with
  | L => exact Draws.list hh it t ne zs
  | T => exact Draws.tuple hh it t ne zs
theorem beginsB (k : Kd) (t : Addr) (zs : Array Value) : Begins (.ref t) (objB k t) fun h => HasB k h t zs := by
  cases k with
  | L => exact begins_list t zs
  | T => exact begins_tuple t zs
theorem IterB.at {k : Kd} {h h' : Heap} {it a : Addr} {i : Nat} (x : IterB k h it a i) (e : ∀ o, h.get? it = some o → h'.get? it = some o) : IterB k h' it a i := by
  cases k with
  | L => exact Heap.IsListIter.at x e
  | T => exact Heap.IsTupleIter.at x e
theorem IterB.there {k : Kd} {h : Heap} {it a : Addr} {i : Nat} (x : IterB k h it a i) : ∃ o, h.get? it = some o ∧ ∀ v, o.data ≠ .cell v := by
  cases k with
  | L =>
    obtain ⟨o, e, _, d⟩ := x
    exact ⟨o, e, fun v z => by rw [d] at z; cases z⟩
  | T =>
    obtain ⟨o, e, _, d⟩ := x
    exact ⟨o, e, fun v z => by rw [d] at z; cases z⟩
theorem IterB.new {k : Kd} {h : Heap} {it a : Addr} (e : h.get? it = some (objB k a)) : IterB k h it a 0 := by
  cases k with
  | L => exact ⟨_, e, rfl, rfl⟩
  | T => exact ⟨_, e, rfl, rfl⟩
theorem SqB.get {X : Cx} {pins : List (Addr × Obj)} {σ : L2.St} {H : Hp} {s : Shared} {k : Kd} {a : Addr} {xs : List V} (I : Inv X pins σ H s) (h : SqB X.K k H a xs) :
    ∃ zs : List Value, Vals xs zs ∧ HasB k s.heap a zs.toArray ∧ a < s.heap.objs.size := by
  cases k with
  | L =>
    obtain ⟨zs, r, p, _⟩ := I.list h
    exact ⟨zs, r, p.isList, p.lt⟩
  | T =>
    obtain ⟨zs, r, p, _⟩ := I.tuple h
    exact ⟨zs, r, p, p.lt⟩
theorem SqB.inj {X : Cx} {pins : List (Addr × Obj)} {σ : L2.St} {H : Hp} {s : Shared} {k : Kd} {a : Addr} {xs ys : List V} (I : Inv X pins σ H s) (h : SqB X.K k H a xs) (h' : SqB X.K k H a ys) : xs = ys := by
  cases k with
  | L => exact I.list_inj h h'
  | T => exact I.tuple_inj h h'

/-- both as they stand at each turn, the items in new pairs -/
def ItB (K : PySem.W.Frag) (k k' : Kd) (a b : Addr) : It :=
  ⟨fun i H => ∃ (xs ys : List V) (x y : V), SqB K k H a xs ∧ SqB K k' H b ys ∧ xs[i]? = some x ∧ ys[i]? = some y,
    fun i H v H' => ∃ T x y, v = .ref T ∧ H T = none ∧ H' = upd H T (.tup [x, y]) ∧ (∀ xs, SqB K k H a xs → xs[i]? = some x) ∧ ∀ ys, SqB K k' H b ys → ys[i]? = some y,
    fun i H => ∃ xs ys : List V, SqB K k H a xs ∧ SqB K k' H b ys ∧ i ≤ xs.length ∧ i ≤ ys.length ∧ (i = xs.length ∨ i = ys.length)⟩
theorem five {z TI TO i1 i2 c : Addr} (h : c ∈ [z, TI, TO, i1, i2]) : c = z ∨ c = TI ∨ c = TO ∨ c = i1 ∨ c = i2 := by simpa using h
theorem turnB {P : Program} {w : World} {K : PySem.W.Frag} {elts : List Expr} {kk : Nat} {tp : Pos} {k k' : Kd} {a b z TI TO i1 i2 : Addr} (S : ZipSep2 z TI TO i1 i2 [i1, a] [i2, b]) (na : a ≠ i1) (nb : b ≠ i2) :
    Turn P w K (.Tuple elts kk tp) (ItB K k k' a b) [z, TI, TO, i1, i2] z
      (fun i h => IsZip h z TI TO .none ∧ IsTupOf2 h TI (.ref i1) (.ref i2) ∧ (∃ x y, IsTupOf2 h TO x y) ∧ IterB k h i1 a i ∧ IterB k' h i2 b i) where
  mem := by simp
  obj := fun i h st c hc => by
    obtain ⟨hz, hI, ⟨x, y, hO⟩, h1, h2⟩ := st
    rcases five hc with q | q | q | q | q <;> subst q
    · exact ⟨_, hz, fun v q => nomatch q⟩
    · exact ⟨_, hI, fun v q => nomatch q⟩
    · exact ⟨_, hO, fun v q => nomatch q⟩
    · exact h1.there
    · exact h2.there
  keep := fun i h h' st q => by
    obtain ⟨hz, hI, ⟨x, y, hO⟩, h1, h2⟩ := st
    exact ⟨q z (by simp) _ hz, q TI (by simp) _ hI, ⟨x, y, q TO (by simp) _ hO⟩, h1.at (q i1 (by simp)), h2.at (q i2 (by simp))⟩
  item := by
    intro X hP hw hK hc i pins s σ H E I hf st hg
    subst hP hw hK
    obtain ⟨hz, hI, ⟨x0, y0, hO⟩, h1, h2⟩ := st
    obtain ⟨xs, ys, x, y, qx, qy, hx, hy⟩ := hg
    obtain ⟨zs, r1, p1, la⟩ := SqB.get I qx
    obtain ⟨zs', r2, p2, lb⟩ := SqB.get I qy
    obtain ⟨u, hu, ru⟩ := r1.get hx
    obtain ⟨u2, hu2, ru2⟩ := r2.get hy
    have z0 : z < s.heap.objs.size := Heap.lt_size hz
    have l1 : i < zs.toArray.size := by
      obtain ⟨q, _⟩ := List.getElem?_eq_some_iff.mp hu
      simpa using q
    have l2 : i < zs'.toArray.size := by
      obtain ⟨q, _⟩ := List.getElem?_eq_some_iff.mp hu2
      simpa using q
    have hh : X.A.in1.handled = none := I.ok.hd hc
    refine wpAny_pyNext_zipD2_item S (drawsB k hh i1 a na zs.toArray) (drawsB k' hh i2 b nb zs'.toArray) hz hI hO ⟨h1, p1⟩ ⟨h2, p2⟩ l1 l2 fun x1 x2 h' tk e1 e2 z' TO' t1 t2 hT hsz hk => ?_
    have e1' : x1 = u := by
      have q : zs[i]? = some x1 := by simpa using e1
      exact Option.some.inj (q.symm.trans hu)
    have e2' : x2 = u2 := by
      have q : zs'[i]? = some x2 := by simpa using e2
      exact Option.some.inj (q.symm.trans hu2)
    subst e1' e2'
    refine ⟨_, rfl, wpAny_letOwnedTupleGo_zip (s := { s with heap := h', toks := tk }) z' fun h'' z'' sb => ?_⟩
    have hT2 : h''.get? s.heap.objs.size = some { cls := .type "tuple", data := .seq #[x1, x2] } := (sb.2 _ (Nat.ne_of_gt z0)).trans hT
    have new : ObjOk X.prog X.w (upd H s.heap.objs.size (.tup [x, y])) h'' s.heap.objs.size (.tup [x, y]) :=
      ⟨by show 2 ≤ sizeLine; decide, [x1, x2], .cons ru (.cons ru2 .nil), ⟨_, hT2, rfl, _, rfl⟩⟩
    have I1 : Inv X pins σ (upd H s.heap.objs.size (.tup [x, y])) { s with heap := h'', toks := tk } :=
      I.turnedNew (ch := [z, TI, TO, i1, i2]) (fun c o hb q => by
        have n : c ≠ z ∧ c ≠ TI ∧ c ≠ TO ∧ c ≠ i1 ∧ c ≠ i2 := by simpa using hb
        exact (sb.2 c n.1).trans (hk c o n.1 n.2.2.1 n.2.2.2.1 n.2.2.2.2 q)) hf (Nat.le_refl _) new
    refine ⟨.ref s.heap.objs.size, _, I1, rfl, ⟨_, x, y, rfl, I.hok.fresh (Nat.le_refl _), rfl, fun l hl => by rw [SqB.inj I hl qx]; exact hx, fun l hl => by rw [SqB.inj I hl qy]; exact hy⟩, ⟨z'', ?_, ⟨x1, x2, ?_⟩, ?_, ?_⟩, fun c hcm => ?_⟩
    · exact (sb.2 _ S.TIz).trans (hk _ _ S.TIz S.TITO S.TIi1 S.TIi2 hI)
    · exact (sb.2 _ S.TOz).trans TO'
    · exact t1.1.at fun o q => (sb.2 _ S.zi1.symm).trans q
    · exact t2.1.at fun o q => (sb.2 _ S.zi2.symm).trans q
    · have lt : c < s.heap.objs.size := by
        rcases five hcm with q | q | q | q | q <;> subst q
        · exact z0
        · exact Heap.lt_size hI
        · exact Heap.lt_size hO
        · obtain ⟨_, e, _⟩ := h1.there
          exact Heap.lt_size e
        · obtain ⟨_, e, _⟩ := h2.there
          exact Heap.lt_size e
      rw [upd_ne (Nat.ne_of_lt lt)]
      exact (hf c hcm).1
  done := by
    intro X hP hw hK hc i pins s σ H E I hf st hg
    subst hP hw hK
    obtain ⟨hz, hI, ⟨x0, y0, hO⟩, h1, h2⟩ := st
    obtain ⟨xs, ys, qx, qy, m1, m2, hend⟩ := hg
    obtain ⟨zs, r1, p1, la⟩ := SqB.get I qx
    obtain ⟨zs', r2, p2, lb⟩ := SqB.get I qy
    have e1 : zs.toArray.size = xs.length := by rw [List.size_toArray]; exact r1.length.symm
    have e2 : zs'.toArray.size = ys.length := by rw [List.size_toArray]; exact r2.length.symm
    have hh : X.A.in1.handled = none := I.ok.hd hc
    exact wpAny_pyNext_zipD2_end S (drawsB k hh i1 a na zs.toArray) (drawsB k' hh i2 b nb zs'.toArray) hz hI hO ⟨h1, p1⟩ ⟨h2, p2⟩ (by omega) (by omega) (by omega) fun h' tk hk =>
      ⟨rfl, I.turnedL (ch := [z, TI, TO, i1, i2]) (fun c o hb q => by
        have n : c ≠ z ∧ c ≠ TI ∧ c ≠ TO ∧ c ≠ i1 ∧ c ≠ i2 := by simpa using hb
        exact hk c o n.1 n.2.2.1 n.2.2.2.1 n.2.2.2.2 q) hf⟩
  self := fun A i s Q E st h => wpAny_pyIter_zip st.1 h

def iZipB (K : PySem.W.Frag) (ta : TA) : TI := fun σ H R => ta σ H fun vs H1 => ∃ (k k' : Kd) (a b : Addr) (xs ys : List V), vs = [.ref a, .ref b] ∧ SqB K k H1 a xs ∧ SqB K k' H1 b ys ∧ R (ItB K k k' a b) H1
theorem pi_zipB {X : Cx} {K : PySem.W.Frag} {e e2 : Expr} {ta : TA} {p pos tp : Pos} {elts : List Expr} {kk : Nat} (hK : X.K = K) (hg : Gl X "zip") (hm : X.mg "zip" = none) (ha : PA X [e, e2] ta)
    (hs : starEach [e, e2] X.env = (false, eval e X.env) :: starEach [e2] X.env := by rfl) (hpl : (backTo pos (starEach [e2] X.env)).any (·.1) = false := by rfl) :
    PI X (.Tuple elts kk tp) (.Call (.Name "zip" p) [e, e2] [] pos) (iZipB K ta) := by
  subst hK
  refine ⟨fun pins s σ H R I h => Call_ (ld_blt I hg hm PyProof.Rows.boot_zip (callWith_type1 (thn (ha.run pos pins s σ H _ I h) fun us s1 q => ?_) hs hpl))⟩
  obtain ⟨vs, H1, I1, r1, k, k', a, b, xs, ys, rfl, qx, qy, q⟩ := q
  cases r1 with
  | cons r rr =>
  cases rr with
  | cons r' rr =>
  cases rr
  cases r
  cases r'
  obtain ⟨zs, _, p1, la⟩ := SqB.get I1 qx
  obtain ⟨zs', _, p2, lb⟩ := SqB.get I1 qy
  refine zip_begins2 (beginsB k a zs.toArray) (beginsB k' b zs'.toArray) p1 p2 fun h' hz hI hO o1 o2 hsz hk => wpAny_pyIter_zip hz ?_
  have S := zip_sep2 (N := s1.heap.objs.size) (fp1 := [a]) (fp2 := [b]) (fun c hc => by rw [List.mem_singleton.mp hc]; exact la) (fun c hc => by rw [List.mem_singleton.mp hc]; exact lb)
  refine ⟨s1.heap.objs.size + 4, _, _, _, H1, rfl, I1.kept (t' := s1.toks) hk, turnB S (Nat.ne_of_lt la) (Nat.ne_of_lt (Nat.lt_succ_of_lt lb)), ⟨hz, hI, ⟨_, _, hO⟩, .new o1, .new o2⟩, fun c hc => ?_, q⟩
  have le : s1.heap.objs.size ≤ c := by
    rcases five hc with z | z | z | z | z <;> subst z <;> first | exact Nat.le_add_right _ _ | exact Nat.le_refl _
  exact I1.fpOk le (I1.hok.fresh le)
theorem walkB {K : PySem.W.Frag} {k k' : Kd} {a b : Addr} {xs ys : List V} (hl : xs.length = ys.length) :
    Walk (ItB K k k' a b) xs.length (fun H => SqB K k H a xs ∧ SqB K k' H b ys) (YPair (fun i => xs[i]?) (fun i => ys[i]?)) := by
  refine ⟨fun i H hi q => ?_, fun H q => ⟨xs, ys, q.1, q.2, Nat.le_refl _, Nat.le_of_eq hl, .inl rfl⟩, fun i H v H' _ q y => ?_⟩
  · have h2 : i < ys.length := by omega
    exact ⟨xs, ys, xs[i], ys[i], q.1, q.2, by simp [hi], by simp [h2]⟩
  · obtain ⟨T, x, z, h1, h2, h3, h4, h5⟩ := y
    exact ⟨T, x, z, h1, h2, h3, h4 xs q.1, h5 ys q.2⟩
end CK

set_option Elab.async false
set_option linter.all false
set_option maxRecDepth 100000
set_option maxHeartbeats 4000000
namespace CK
open PySem PySem.Spec PyProof.Rows L2
theorem mulFill : fillsNumberSlot (.type "tuple") "mul" = pure false :=
  PySem.fillsNumberSlot_seq (r := some (.builtin "tuple.__rmul__")) (id := "tuple.__mul__") PySem.F.slot_tuple_mul.lookup (by decide +kernel)
    PySem.F.slot_tuple_rmul.lookup (by decide +kernel)
theorem mulSeq : seqRepeat? (.type "tuple") = pure (some (.builtin "tuple.__mul__")) := by
  unfold seqRepeat?
  rw [PySem.seqSlot_of (name := "__mul__") (id := "tuple.__mul__") (T := "tuple") PySem.F.slot_tuple_mul.lookup (by decide +kernel),
    PySem.seqSlot_of (name := "__rmul__") (id := "tuple.__rmul__") (T := "tuple") PySem.F.slot_tuple_rmul.lookup (by decide +kernel)]
  rfl
theorem rmulNo (a : Int) (t : Tok) (l : Addr) (zs : Array Value) (n : Nat) (dd : Option Addr) (sl : Array (Option Value)) :
    Meets (Builtin.«int.__rmul__» ⟨[.int a t, .ref l], []⟩) (fun _ R s =>
      s.heap.get? l = some { cls := .type "tuple", dict := dd, data := .seq zs n, slots := sl } ∧ R (.ok (.ret Value.notImplemented)) s) := by
  refine Meets.of_wp fun prog w A R s h => ?_
  obtain ⟨hq, g, d, tk, o2⟩ := s
  obtain ⟨hl, h⟩ := h
  wp_walk using wpAny_loadPart' hl
  exact ⟨_, rfl, h⟩
/-- one item, no times: a new empty tuple -/
theorem mul0 (l : Addr) (v : Value) (n : Nat) (dd : Option Addr) (sl : Array (Option Value)) (u : Tok) :
    Meets (Builtin.«tuple.__mul__» ⟨[.ref l, .int 0 u], []⟩) (fun _ R s =>
      s.heap.get? l = some { cls := .type "tuple", dict := dd, data := .seq #[v] n, slots := sl } ∧
      R (.ok (.ret (Value.ref s.heap.objs.size))) { s with heap := s.heap.push { cls := Value.type "tuple", data := Data.seq #[] } }) := by
  refine Meets.of_wp fun prog w A R s h => ?_
  obtain ⟨hq, g, d, tk, o2⟩ := s
  obtain ⟨hl, h⟩ := h
  have f1 := AutoSeq1.idx_int
  wp_walk using wpAny_loadPart' hl
  exact ⟨_, rfl, h⟩
/-- one item, once: the tuple itself -/
theorem mul1 (l : Addr) (v : Value) (n : Nat) (dd : Option Addr) (sl : Array (Option Value)) (u : Tok) :
    Meets (Builtin.«tuple.__mul__» ⟨[.ref l, .int 1 u], []⟩) (fun _ R s =>
      s.heap.get? l = some { cls := .type "tuple", dict := dd, data := .seq #[v] n, slots := sl } ∧ R (.ok (.ret (Value.ref l))) s) := by
  refine Meets.of_wp fun prog w A R s h => ?_
  obtain ⟨hq, g, d, tk, o2⟩ := s
  obtain ⟨hl, h⟩ := h
  have f1 := AutoSeq1.idx_int
  have f2 : (⟨hq, g, d, tk, o2⟩ : Shared).TypeIs (.ref l) "tuple" := ⟨_, hl, rfl⟩
  wp_walk using wpAny_loadPart' hl, wpAny_typeOf f2
  exact ⟨_, rfl, h⟩
section
variable {X : Cx}
theorem sameNew {H : Hp} {p : Addr} {o : HO} (h : H p = none) : Same H (upd H p o) := fun b z e => by
  rw [upd_ne (ne_of_none e h)]
  exact e
/-- one item, k times: 0 or 1 -/
def rRep01 : R2 := fun x y H Q => ∃ (l : Addr) (k : Int) (v : V), x = .ref l ∧ y = .int k ∧ H l = some (.tup [v]) ∧ (k = 0 ∨ k = 1) ∧
  ∀ p H', Same H H' → H' p = some (.tup (List.replicate k.toNat v)) → Q (.ref p) H'
theorem op_rep01 : OpR X (binaryOp .Mult) rRep01 := by
  intro pins s σ H x y xv yv Q I rx ry h
  obtain ⟨l, k, v, rfl, rfl, hl, hk, q⟩ := h
  cases rx
  obtain ⟨t, rfl⟩ := ry
  obtain ⟨zs, r, ⟨⟨cl, dd, da, sl⟩, ho, hc, n, hd⟩, hs⟩ := I.tuple (.inl (.inl hl) : SqT X.K H l [v])
  simp only at hc hd
  subst hc hd
  cases r with
  | cons r1 r2 =>
  cases r2
  rename_i u
  rcases hk with e | e <;> subst e
  · refine wpAny_binaryOp_repeat_ref (T := "tuple") (U := "int") (by decide) ⟨_, ho, rfl⟩ (fun s' => typeIs_int s' 0 t) mulFill F.fills_int_mul F.slot_int_rmul mulSeq F.slot_int_index.lookup
      (call_meets F.slot_int_rmul (typeIs_int s 0 t) F.entry_int_rmul (F.args_int_rmul_2 _ _) (rmulNo 0 t l _ n dd sl)
        ⟨ho, rfl, ⟨_, ho, rfl⟩, call_meets F.slot_tuple_mul ⟨_, ho, rfl⟩ F.entry_tuple_mul (F.args_tuple_mul_2 _ _) (mul0 l _ n dd sl t) ⟨ho, ?_⟩⟩)
    have hn : H s.heap.objs.size = none := I.hok.fresh (Nat.le_refl _)
    refine ⟨.ref s.heap.objs.size, _, I.laid (t' := s.toks) (o := .tup []) (fun b ob q => Heap.get?_push_of_some _ q) (Nat.le_refl _) ?_, rfl, q _ _ (sameNew hn) upd_same⟩
    exact ⟨Nat.zero_le _, [], .nil, IsTup.new _ _⟩
  · exact wpAny_binaryOp_repeat_ref (T := "tuple") (U := "int") (by decide) ⟨_, ho, rfl⟩ (fun s' => typeIs_int s' 1 t) mulFill F.fills_int_mul F.slot_int_rmul mulSeq F.slot_int_index.lookup
      (call_meets F.slot_int_rmul (typeIs_int s 1 t) F.entry_int_rmul (F.args_int_rmul_2 _ _) (rmulNo 1 t l _ n dd sl)
        ⟨ho, rfl, ⟨_, ho, rfl⟩, call_meets F.slot_tuple_mul ⟨_, ho, rfl⟩ F.entry_tuple_mul (F.args_tuple_mul_2 _ _) (mul1 l _ n dd sl t)
          ⟨ho, ⟨.ref l, H, I, rfl, q l H (Same.refl H) hl⟩⟩⟩)
/-! ### str(tuple of whole numbers): some text -/
theorem reprInts {prog : Program} {w : World} : ∀ {ns : List Int} {zs : List Value}, Vals (ns.map V.int) zs → (∀ n ∈ ns, n.natAbs.log2 < 1920) → ReprAll prog w zs (ns.map fun n => (toString n : Str))
  | [], _, r, _ => by
    cases r
    exact .nil
  | n :: l, _, r, h => by
    cases r with
    | cons r1 r2 =>
    obtain ⟨t, rfl⟩ := r1
    exact .cons (ReprIs.int t (h n List.mem_cons_self)) (reprInts r2 fun z hz => h z (List.mem_cons_of_mem _ hz))
end
end CK
namespace CK
open PySem PySem.Spec PyProof.Rows L2
section
variable {X : Cx}
/-- one item, k times -/
def rRepOne (K : PySem.W.Frag) : R2 := fun x y H Q => ∃ (l : Addr) (k : Int) (v : V), x = .ref l ∧ y = .int k ∧ H l = some (.tup [v]) ∧ 0 ≤ k ∧ k ≤ 1000 ∧
  ∀ p H', Same H H' → H' p = some (.tup (List.replicate k.toNat v)) → Q (.ref p) H'
theorem flat_rep {α : Type} (v : α) : ∀ n : Nat, (List.replicate n [v]).flatten = List.replicate n v
  | 0 => rfl
  | n + 1 => by rw [List.replicate_succ, List.flatten_cons, flat_rep v n, List.replicate_succ]; rfl
theorem op_repOne : OpR X (binaryOp .Mult) (rRepOne X.K) := by
  intro pins s σ H x y xv yv Q I rx ry h
  obtain ⟨l, k, v, rfl, rfl, hl, h0, h1, q⟩ := h
  by_cases hk : k = 0 ∨ k = 1
  · exact op_rep01 pins s σ H _ _ xv yv Q I rx ry ⟨l, k, v, rfl, rfl, hl, hk, q⟩
  · refine op_repT pins s σ H _ _ xv yv Q I rx ry ⟨l, k, [v], rfl, rfl, .inl (.inl hl), List.cons_ne_nil _ _, by omega, h1, by show 1 ≤ 1000; omega, fun p hp => q p _ (sameNew hp) ?_⟩
    rw [upd_same, flat_rep]
/-- str of a tuple of whole numbers: some text -/
theorem call_str_tup {k : Nat} (hr : Room k X.A) : CallR X (.type "str") (fun xs H Q => ∃ (a : Addr) (ns : List Int), xs = [.ref a] ∧ H a = some (.tup (ns.map V.int)) ∧ ns.length ≤ 100 ∧ (∀ n ∈ ns, n.natAbs.log2 < 1920) ∧ ∀ m : Str, Q (.str m) H) := by
  intro pins s σ H xs us Q I r h
  obtain ⟨a, ns, rfl, ha, hl, hn, q⟩ := h
  obtain ⟨u, rfl, rx⟩ := vals1 r
  cases rx
  obtain ⟨zs, rv, ⟨o, ho, hc, n, hd⟩, hz⟩ := I.tuple (.inl (.inl ha) : SqT X.K H a _)
  have hu := hr.units
  have hT : ReprAll X.prog X.w zs.toArray.toList (ns.map fun n => (toString n : Str)) := by simpa using reprInts rv hn
  have hp : ∀ l : List Int, (∀ n ∈ l, n.natAbs.log2 < 1920) → piled (l.map fun n => (toString n : Str)) ≤ l.length * 1923 := by
    intro l
    induction l with
    | nil => intro _; exact Nat.le_refl _
    | cons z l ih =>
      intro h
      have a1 := int_text_length_le (a := z) (k := 1920) (by omega) (h z List.mem_cons_self)
      have a2 := ih fun n hn => h n (List.mem_cons_of_mem _ hn)
      rw [List.map_cons, piled_cons, List.length_cons]
      have a3 : ((toString z : Str)).length = (toString z).length := PySem.ofString_length _
      omega
  have h1 := fmt_text (ns.map fun n => (toString n : Str))
  have h2 := hp ns hn
  have h3 : ns.length * 1923 ≤ 192300 := by omega
  have h4 : (tupleText (ns.map fun n => (toString n : Str))).length ≤ sizeLine := by
    rw [sizeLine_eq]
    omega
  refine callType_new F.called_str (by decide) (F.typeCall_str_1 _) (F.newCall_str_1 _) (fun obj => F.args_object_init_2 obj _) F.entry_str_new
    (meets_str_new (S := fun A' R s' => A'.units + 4 < cLine ∧ s'.heap.get? a = some o ∧ ∀ (m : Str) (u tk : Tok), R (.ok (.ret (.str m u))) { s' with toks := tk }) fun prog w A' R s' h =>
      wpAny_strOf_slot rfl (by show A'.units + 1 + 1 < cLine; have := h.1; omega) ⟨o, h.2.1, hc⟩ F.slot_tuple_str F.slot_tuple_repr
        (fmt_tuple_repr h.2.1 hc hd ?_ h4 fun m u tk _ => ⟨m, u, rfl, h.2.2 m u tk⟩))
    ⟨by show X.A.units + 1 + 4 < cLine; omega, ho, fun m u tk => ⟨typeIs_str _ _ _, .str m, H, I.tok _, ⟨u, rfl⟩, q m⟩⟩
  exact by simpa using reprInts rv hn
end
end CK

set_option Elab.async false
set_option linter.all false
set_option maxRecDepth 100000
set_option maxHeartbeats 2000000
namespace CK
open PySem PySem.Spec PyProof.Rows L2
/-! ### a def as it stands behind the top, and its promise by its body -/
structure DefF (K : PySem.W.Frag) (mg : Str → Option Value) (x : Str) (st : Stmt) (ps : List Str) : Prop where
  ex : ∃ (f : Addr) (fd : FuncData), C8.Def K mg x st f fd ∧ ∀ us : List Value, us.length = ps.length → bindArgs fd ⟨us, []⟩ = pure (ps.zip us)
theorem defF_mk {K : PySem.W.Frag} {h : Heap} {mg : Str → Option Value} {x : Str} {st : Stmt} {ps : List Str} {f : Addr} {od an : Option Addr} {oc kV dc pm cd ct : Value} {sl : Array (Option Value)}
    (X : K.In h) (G : h.Ns mainGlobals mg) (a : PySem.W.nsIn K mainGlobals x = some (some (.ref f)))
    (l : K.lookup f = some ⟨oc, od, .func (PySem.W.fnOf x x (C8.fnArgs st) (C8.fnBody st) (C8.fnScope st) .none kV dc pm an cd ct), sl⟩)
    (c : PySem.W.codeIn K cd x = true) (k : PySem.W.keepIn K (.ref f) = true)
    (hb : ∀ (kV doc pm : Value) (an : Option Addr) (cdv ct : Value) (us : List Value), us.length = ps.length →
      bindArgs (PySem.W.fnOf x x (C8.fnArgs st) (C8.fnBody st) (C8.fnScope st) .none kV doc pm an cdv ct) ⟨us, []⟩ = pure (ps.zip us)) : DefF K mg x st ps :=
  ⟨f, _, ⟨⟨oc, od, .none, kV, dc, pm, an, cd, ct, sl, rfl, l, c⟩, PySem.W.mg_of X G a, k⟩, hb kV dc pm an cd ct⟩
theorem calF {P : Program} {w : World} {K : PySem.W.Frag} {mg : Str → Option Value} {base : Heap} {x : Str} {st : Stmt} {N ps : List Str} {k : Nat} {sp : Sp} (D : DefF K mg x st ps) (S : FnScope N ps (C8.fnScope st))
    (len : ∀ vs H Q E, sp vs H Q E → vs.length = ps.length)
    (hbody : ∀ (f : Addr) (cdv : Value) (A : Around) (outer : List Env) (s : Shared) (H : Hp) (vs : List V) (Q : VK) (E : XK), Room k (A.deeper (envOfC x (C8.fnScope st) s.heap.objs.size f cdv)) → sp vs H Q E →
      ∃ t, PSs (cxOf C8.CX0 P w K mg base N x (C8.fnScope st) f cdv A outer s H E).nox (C8.fnBody st) t ∧ t { nx := fun _ H' => Q .non H', rt := Q } (start N vs) H) : C8.Cal P w K mg base (k + 1) x sp [] := by
  obtain ⟨f, fd, F, b⟩ := D.ex
  exact C8.cal0 F (.all b) .nil S len (hbody f)
/-- a def of one parameter as it stands, for the law's end -/
theorem DefF.one {K : PySem.W.Frag} {mg : Str → Option Value} {x p : Str} {st : Stmt} (D : DefF K mg x st [p]) : ∃ (f : Addr) (fd : FuncData), mg x = some (.ref f) ∧ (∀ (s : Shared) (v : Value), BindsTo s fd ⟨[v], []⟩ [(p, v)]) ∧
    ∀ {P : Program} {w : World} {base : Heap} {N : List Str} {k : Nat} {sp : Sp} (S : FnScope N [p] (C8.fnScope st)) (len : ∀ vs H Q E, sp vs H Q E → vs.length = 1)
      (hbody : ∀ (f : Addr) (cdv : Value) (A : Around) (outer : List Env) (s : Shared) (H : Hp) (vs : List V) (Q : VK) (E : XK), Room k (A.deeper (envOfC x (C8.fnScope st) s.heap.objs.size f cdv)) → sp vs H Q E →
        ∃ t, PSs (cxOf C8.CX0 P w K mg base N x (C8.fnScope st) f cdv A outer s H E).nox (C8.fnBody st) t ∧ t { nx := fun _ H' => Q .non H', rt := Q } (start N vs) H), FnOk P w K mg base C8.CX0 (k + 1) f fd [p] sp := by
  obtain ⟨f, fd, F, b⟩ := D.ex
  exact ⟨f, fd, F.mgf, fun s v => .of_eq (b [v] rfl), fun S len hbody => C8.fn0 F.fn S len (hbody f)⟩

theorem with_def {K : PySem.W.Frag} {h : Heap} {mg : Str → Option Value} (_ : K.In h) (x : Str) (st : Stmt) (ps : List Str) {R : Prop} (d : DefF K mg x st ps) (r : DefF K mg x st ps → R) : R := r d
/-! ### heaps -/
/-- all that was tracked is as it was, but for g -/
def SameX (g : Addr) (H H' : Hp) : Prop := ∀ b o, b ≠ g → H b = some o → H' b = some o
theorem SameX.refl (g : Addr) (H : Hp) : SameX g H H := fun _ _ _ h => h
theorem SameX.trans {g : Addr} {H H1 H2 : Hp} (a : SameX g H H1) (b : SameX g H1 H2) : SameX g H H2 := fun c o n h => b c o n (a c o n h)
theorem SameX.of {g : Addr} {H H1 : Hp} (a : Same H H1) : SameX g H H1 := fun c o _ h => a c o h
theorem sameX_upd {g : Addr} {H : Hp} {o : HO} : SameX g H (upd H g o) := fun b z n e => by
  rw [upd_ne n]
  exact e
theorem same_upd2 {H H1 : Hp} {D : Addr} {o : HO} (hD : H D = none) (s : Same H H1) : Same H (upd H1 D o) := fun b z e => by
  rw [upd_ne (ne_of_none e hD)]
  exact s b z e

/-! ### what a value is -/
/-- the built-in type of a value that is known -/
def tnm (H : Hp) : V → String
  | .non => "NoneType"
  | .bl _ => "bool"
  | .int _ => "int"
  | .str _ => "str"
  | .ref a => match H a with
    | some (.lst _) => "list"
    | some (.tup _) => "tuple"
    | _ => "?"
  | _ => "?"
theorem tnm_tup {H : Hp} {a : Addr} {xs : List V} (h : H a = some (.tup xs)) : tnm H (.ref a) = "tuple" := by
  simp only [tnm, h]
theorem tnm_lst {H : Hp} {a : Addr} {xs : List V} (h : H a = some (.lst xs)) : tnm H (.ref a) = "list" := by
  simp only [tnm, h]
/-- a value whose type is known -/
inductive Kn (H : Hp) : V → Prop
  | non : Kn H .non
  | bl (b : Bool) : Kn H (.bl b)
  | int (i : Int) : Kn H (.int i)
  | str (x : Str) : Kn H (.str x)
  | lst {a : Addr} {xs : List V} (e : H a = some (.lst xs)) : Kn H (.ref a)
  | tup {a : Addr} {xs : List V} (e : H a = some (.tup xs)) : Kn H (.ref a)
theorem Kn.same {H H' : Hp} {v : V} (k : Kn H v) (s : Same H H') : Kn H' v := by
  cases k with
  | non => exact .non
  | bl b => exact .bl b
  | int i => exact .int i
  | str x => exact .str x
  | lst e => exact .lst (s _ _ e)
  | tup e => exact .tup (s _ _ e)
theorem Kn.ty {K : PySem.W.Frag} {H : Hp} {v : V} (k : Kn H v) : TyX K H v (.type (tnm H v)) := by
  cases k with
  | non => exact .base .non
  | bl b => exact .base (.bl b)
  | int i => exact .base (.int i)
  | str x => exact .base (.str x)
  | lst e => rw [tnm_lst e]; exact .base (.lst e)
  | tup e => rw [tnm_tup e]; exact .base (.tup e)
section
variable {X : Cx}
/-- isinstance(v, T), a known value, a built-in type -/
theorem call_isK : CallR X (.builtin "isinstance") (fun xs H Q => ∃ (v : V) (T : String) (b : Bool), xs = [v, .ty T] ∧ Kn H v ∧ kitB (tnm H v) T = some b ∧ Q (.bl b) H) := by
  intro pins s σ H xs us Q I r h
  obtain ⟨v, T, b, rfl, k, e, q⟩ := h
  exact call_isi pins s σ H _ us Q I r ⟨v, .ty T, _, _, b, rfl, .ty T, k.ty, kit_ty e, q⟩
end
/-- a whole number, no Boolean -/
def isW : V → Bool
  | .int _ => true
  | _ => false
/-- a count -/
def isC : V → Bool
  | .int i => decide (0 ≤ i)
  | _ => false
/-- isinstance(v, int) -/
def isI : V → Bool
  | .int _ => true
  | .bl _ => true
  | _ => false
def isBo : V → Bool
  | .bl _ => true
  | _ => false
def isTu (H : Hp) : V → Bool
  | .ref a => match H a with
    | some (.tup _) => true
    | _ => false
  | _ => false
def isLi (H : Hp) : V → Bool
  | .ref a => match H a with
    | some (.lst _) => true
    | _ => false
  | _ => false
theorem kit_int {H : Hp} {v : V} (k : Kn H v) : kitB (tnm H v) "int" = some (isI v) := by
  cases k with
  | non => show kitB "NoneType" "int" = some false; decide +kernel
  | bl b => show kitB "bool" "int" = some true; decide +kernel
  | int i => show kitB "int" "int" = some true; decide +kernel
  | str x => show kitB "str" "int" = some false; decide +kernel
  | lst e => rw [tnm_lst e]; show kitB "list" "int" = some false; decide +kernel
  | tup e => rw [tnm_tup e]; show kitB "tuple" "int" = some false; decide +kernel
theorem kit_bool {H : Hp} {v : V} (k : Kn H v) : kitB (tnm H v) "bool" = some (isBo v) := by
  cases k with
  | non => show kitB "NoneType" "bool" = some false; decide +kernel
  | bl b => show kitB "bool" "bool" = some true; decide +kernel
  | int i => show kitB "int" "bool" = some false; decide +kernel
  | str x => show kitB "str" "bool" = some false; decide +kernel
  | lst e => rw [tnm_lst e]; show kitB "list" "bool" = some false; decide +kernel
  | tup e => rw [tnm_tup e]; show kitB "tuple" "bool" = some false; decide +kernel
theorem kit_tuple {H : Hp} {v : V} (k : Kn H v) : kitB (tnm H v) "tuple" = some (isTu H v) := by
  cases k with
  | non => show kitB "NoneType" "tuple" = some false; decide +kernel
  | bl b => show kitB "bool" "tuple" = some false; decide +kernel
  | int i => show kitB "int" "tuple" = some false; decide +kernel
  | str x => show kitB "str" "tuple" = some false; decide +kernel
  | lst e => rw [tnm_lst e, show isTu H (.ref _) = false by simp only [isTu, e]]; decide +kernel
  | tup e => rw [tnm_tup e, show isTu H (.ref _) = true by simp only [isTu, e]]; decide +kernel
theorem kit_list {H : Hp} {v : V} (k : Kn H v) : kitB (tnm H v) "list" = some (isLi H v) := by
  cases k with
  | non => show kitB "NoneType" "list" = some false; decide +kernel
  | bl b => show kitB "bool" "list" = some false; decide +kernel
  | int i => show kitB "int" "list" = some false; decide +kernel
  | str x => show kitB "str" "list" = some false; decide +kernel
  | lst e => rw [tnm_lst e, show isLi H (.ref _) = true by simp only [isLi, e]]; decide +kernel
  | tup e => rw [tnm_tup e, show isLi H (.ref _) = false by simp only [isLi, e]]; decide +kernel
theorem isTu_tup {H : Hp} {a : Addr} {xs : List V} (e : H a = some (.tup xs)) : isTu H (.ref a) = true := by simp only [isTu, e]
theorem isLi_lst {H : Hp} {a : Addr} {xs : List V} (e : H a = some (.lst xs)) : isLi H (.ref a) = true := by simp only [isLi, e]

/-! ### comprehensions that map -/
/-- n turns, each giving f i and leaving all that was tracked -/
theorem lc_mapW {J : It} {n : Nat} {G : Hp → Prop} {Y : Nat → Hp → V → Hp → Prop} (w : Walk J n G Y) {g : TG} {te : TE} {vs : List Nat} {σ : L2.St} {H1 : Hp} {D : Addr} {Qd : Hp → Prop} (f : Nat → V) (hn : n < sizeLine)
    (hG : ∀ H, Same H1 H → G H)
    (hs : ∀ (i : Nat) (x : V) (H H' : Hp) (R : VK), i < n → Same H1 H → Y i H x H' → (∀ H'', Same H H'' → R (f i) H'') → g x (wipe σ vs) H' fun σ2 H2 => wipe σ2 vs = wipe σ vs ∧ te σ2 H2 R)
    (hD : H1 D = none) (hd : ∀ H : Hp, Same H1 H → H D = some (.lst ((List.range n).map f)) → Qd H) :
    ∃ W : Nat → Nat → Hp → Prop, (∃ m, W 0 m (upd H1 D (.lst []))) ∧ ∀ i m H, W i m H →
      (J.stop i H ∧ Qd H) ∨ (J.go i H ∧ ∃ Nx : Hp → Prop, (∀ H', Nx H' → ∃ m', m' < m ∧ W (i + 1) m' H') ∧ ∀ x H', J.yld i H x H' → g x (wipe σ vs) H' fun σ2 H2 => wipe σ2 vs = wipe σ vs ∧ tYes σ2 H2 fun b H3 =>
        if b = true then te σ2 H3 fun y H4 => ∃ acc, H4 D = some (.lst acc) ∧ acc.length < sizeLine ∧ Nx (upd H4 D (.lst (acc ++ [y]))) else Nx H3) := by
  refine lc_it w (fun i H => Same H1 H ∧ H D = some (.lst ((List.range i).map f)) ∧ i ≤ n) ⟨sameNew hD, upd_same, Nat.zero_le _⟩ (fun i H _ p => hG H p.1) (fun i x H H' hi p y => ?_) fun H p => hd H p.1 p.2.1
  have q := hs i x H H' (fun y H4 => ∃ acc, H4 D = some (.lst acc) ∧ acc.length < sizeLine ∧ (Same H1 (upd H4 D (.lst (acc ++ [y]))) ∧ upd H4 D (.lst (acc ++ [y])) D = some (.lst ((List.range (i + 1)).map f)) ∧ i + 1 ≤ n)) hi p.1 y fun H'' s => by
    refine ⟨_, s D _ p.2.1, ?_, same_upd2 hD (p.1.trans s), ?_, hi⟩
    · rw [List.length_map, List.length_range]
      omega
    · rw [upd_same, List.range_succ, List.map_append]
      rfl
  exact q
theorem range_map_get {α β : Type} (xs : List α) (f : α → β) (d : Nat → β) (h : ∀ (i : Nat) (x : α), xs[i]? = some x → d i = f x) : (List.range xs.length).map d = xs.map f := by
  refine List.ext_getElem? fun i => ?_
  by_cases hi : i < xs.length
  · rw [List.getElem?_map, List.getElem?_map, List.getElem?_range hi, List.getElem?_eq_getElem hi]
    exact congrArg some (h i _ (List.getElem?_eq_getElem hi))
  · rw [List.getElem?_eq_none (by simp; omega), List.getElem?_eq_none (by simp; omega)]
/-- over a tuple -/
theorem lcT_map {K : PySem.W.Frag} {a : Addr} {xs : List V} {j : Nat} {te : TE} {vs : List Nat} {σ : L2.St} {H1 : Hp} {D : Addr} {Qd : Hp → Prop} (f : V → V) (ha : H1 a = some (.tup xs)) (hn : xs.length < sizeLine)
    (hs : ∀ (i : Nat) (x : V) (H : Hp) (R : VK), xs[i]? = some x → Same H1 H → (∀ H', Same H H' → R (f x) H') → wipe ((wipe σ vs).set j (some x)) vs = wipe σ vs ∧ te ((wipe σ vs).set j (some x)) H R)
    (hD : H1 D = none) (hd : ∀ H : Hp, Same H1 H → H D = some (.lst (xs.map f)) → Qd H) :
    ∃ W : Nat → Nat → Hp → Prop, (∃ m, W 0 m (upd H1 D (.lst []))) ∧ ∀ i m H, W i m H →
      ((Itt K a).stop i H ∧ Qd H) ∨ ((Itt K a).go i H ∧ ∃ Nx : Hp → Prop, (∀ H', Nx H' → ∃ m', m' < m ∧ W (i + 1) m' H') ∧ ∀ x H', (Itt K a).yld i H x H' → gName j x (wipe σ vs) H' fun σ2 H2 => wipe σ2 vs = wipe σ vs ∧ tYes σ2 H2 fun b H3 =>
        if b = true then te σ2 H3 fun y H4 => ∃ acc, H4 D = some (.lst acc) ∧ acc.length < sizeLine ∧ Nx (upd H4 D (.lst (acc ++ [y]))) else Nx H3) := by
  have e : (List.range xs.length).map (fun i => f (xs.getD i .non)) = xs.map f := range_map_get xs f _ fun i x h => by rw [List.getD_eq_getElem?_getD, h]; rfl
  refine lc_mapW (walk_tup (K := K) (a := a) (xs := xs)) (fun i => f (xs.getD i .non)) hn (fun H s => .inl (.inl (s _ _ ha))) (fun i x H H' R hi s y q => ?_) hD fun H s q => hd H s (by rw [q, e])
  obtain ⟨rfl, hx⟩ := y
  refine hs i x H' R hx s fun H'' s' => ?_
  have := q H'' s'
  rw [show xs.getD i .non = x by rw [List.getD_eq_getElem?_getD, hx]; rfl] at this
  exact this
/-- over a list -/
theorem lcL_map {K : PySem.W.Frag} {a : Addr} {xs : List V} {j : Nat} {te : TE} {vs : List Nat} {σ : L2.St} {H1 : Hp} {D : Addr} {Qd : Hp → Prop} (f : V → V) (ha : H1 a = some (.lst xs)) (hn : xs.length < sizeLine)
    (hs : ∀ (i : Nat) (x : V) (H : Hp) (R : VK), xs[i]? = some x → Same H1 H → (∀ H', Same H H' → R (f x) H') → wipe ((wipe σ vs).set j (some x)) vs = wipe σ vs ∧ te ((wipe σ vs).set j (some x)) H R)
    (hD : H1 D = none) (hd : ∀ H : Hp, Same H1 H → H D = some (.lst (xs.map f)) → Qd H) :
    ∃ W : Nat → Nat → Hp → Prop, (∃ m, W 0 m (upd H1 D (.lst []))) ∧ ∀ i m H, W i m H →
      ((Itl K a).stop i H ∧ Qd H) ∨ ((Itl K a).go i H ∧ ∃ Nx : Hp → Prop, (∀ H', Nx H' → ∃ m', m' < m ∧ W (i + 1) m' H') ∧ ∀ x H', (Itl K a).yld i H x H' → gName j x (wipe σ vs) H' fun σ2 H2 => wipe σ2 vs = wipe σ vs ∧ tYes σ2 H2 fun b H3 =>
        if b = true then te σ2 H3 fun y H4 => ∃ acc, H4 D = some (.lst acc) ∧ acc.length < sizeLine ∧ Nx (upd H4 D (.lst (acc ++ [y]))) else Nx H3) := by
  have e : (List.range xs.length).map (fun i => f (xs.getD i .non)) = xs.map f := range_map_get xs f _ fun i x h => by rw [List.getD_eq_getElem?_getD, h]; rfl
  refine lc_mapW (walk_list (K := K) (a := a) (xs := xs)) (fun i => f (xs.getD i .non)) hn (fun H s => .inl (.inl (s _ _ ha))) (fun i x H H' R hi s y q => ?_) hD fun H s q => hd H s (by rw [q, e])
  obtain ⟨rfl, hx⟩ := y
  refine hs i x H' R hx s fun H'' s' => ?_
  have := q H'' s'
  rw [show xs.getD i .non = x by rw [List.getD_eq_getElem?_getD, hx]; rfl] at this
  exact this
/-- over a range -/
theorem lcR_map {lo : Int} {n : Nat} {j : Nat} {te : TE} {vs : List Nat} {σ : L2.St} {H1 : Hp} {D : Addr} {Qd : Hp → Prop} (f : Nat → V) (hn : n < sizeLine)
    (hs : ∀ (i : Nat) (H : Hp) (R : VK), i < n → Same H1 H → (∀ H', Same H H' → R (f i) H') → wipe ((wipe σ vs).set j (some (.int (lo + i)))) vs = wipe σ vs ∧ te ((wipe σ vs).set j (some (.int (lo + i)))) H R)
    (hD : H1 D = none) (hd : ∀ H : Hp, Same H1 H → H D = some (.lst ((List.range n).map f)) → Qd H) :
    ∃ W : Nat → Nat → Hp → Prop, (∃ m, W 0 m (upd H1 D (.lst []))) ∧ ∀ i m H, W i m H →
      ((Itr lo n).stop i H ∧ Qd H) ∨ ((Itr lo n).go i H ∧ ∃ Nx : Hp → Prop, (∀ H', Nx H' → ∃ m', m' < m ∧ W (i + 1) m' H') ∧ ∀ x H', (Itr lo n).yld i H x H' → gName j x (wipe σ vs) H' fun σ2 H2 => wipe σ2 vs = wipe σ vs ∧ tYes σ2 H2 fun b H3 =>
        if b = true then te σ2 H3 fun y H4 => ∃ acc, H4 D = some (.lst acc) ∧ acc.length < sizeLine ∧ Nx (upd H4 D (.lst (acc ++ [y]))) else Nx H3) := by
  refine lc_mapW (walk_range (lo := lo) (n := n)) f hn (fun H s => True.intro) (fun i x H H' R hi s y q => ?_) hD fun H s q => hd H s q
  obtain ⟨rfl, rfl⟩ := y
  exact hs i H' R hi s q
theorem range_map_zip {α β γ : Type} (xs : List α) (ys : List β) (hl : xs.length = ys.length) (f : α → β → γ) (d : Nat → γ) (h : ∀ (i : Nat) (x : α) (y : β), xs[i]? = some x → ys[i]? = some y → d i = f x y) : (List.range xs.length).map d = List.zipWith f xs ys := by
  refine List.ext_getElem? fun i => ?_
  by_cases hi : i < xs.length
  · have hi2 : i < ys.length := by omega
    rw [List.getElem?_map, List.getElem?_range hi, List.getElem?_zipWith, List.getElem?_eq_getElem hi, List.getElem?_eq_getElem hi2]
    exact congrArg some (h i _ _ (List.getElem?_eq_getElem hi) (List.getElem?_eq_getElem hi2))
  · rw [List.getElem?_eq_none (by simp; omega), List.getElem?_eq_none (by simp; omega)]
/-- over zip -/
theorem lcZ_map {K : PySem.W.Frag} {k k' : Kd} {a b : Addr} {xs ys : List V} {i1 i2 : Nat} {te : TE} {vs : List Nat} {σ : L2.St} {H1 : Hp} {D : Addr} {Qd : Hp → Prop} (f : V → V → V) (hl : xs.length = ys.length) (hn : xs.length < sizeLine)
    (ha : ∀ H, Same H1 H → SqB K k H a xs ∧ SqB K k' H b ys)
    (hs : ∀ (i : Nat) (x y : V) (H : Hp) (R : VK), xs[i]? = some x → ys[i]? = some y → Same H1 H → (∀ H', Same H H' → R (f x y) H') → wipe (((wipe σ vs).set i1 (some x)).set i2 (some y)) vs = wipe σ vs ∧ te (((wipe σ vs).set i1 (some x)).set i2 (some y)) H R)
    (hD : H1 D = none) (hd : ∀ H : Hp, Same H1 H → H D = some (.lst (List.zipWith f xs ys)) → Qd H) :
    ∃ W : Nat → Nat → Hp → Prop, (∃ m, W 0 m (upd H1 D (.lst []))) ∧ ∀ i m H, W i m H →
      ((ItB K k k' a b).stop i H ∧ Qd H) ∨ ((ItB K k k' a b).go i H ∧ ∃ Nx : Hp → Prop, (∀ H', Nx H' → ∃ m', m' < m ∧ W (i + 1) m' H') ∧ ∀ x H', (ItB K k k' a b).yld i H x H' → gTup K 2 (gCons (gName i1) (gCons (gName i2) gNil)) x (wipe σ vs) H' fun σ2 H2 => wipe σ2 vs = wipe σ vs ∧ tYes σ2 H2 fun b H3 =>
        if b = true then te σ2 H3 fun y H4 => ∃ acc, H4 D = some (.lst acc) ∧ acc.length < sizeLine ∧ Nx (upd H4 D (.lst (acc ++ [y]))) else Nx H3) := by
  have e : (List.range xs.length).map (fun i => f (xs.getD i .non) (ys.getD i .non)) = List.zipWith f xs ys := range_map_zip xs ys hl f _ fun i x y h h' => by
    rw [List.getD_eq_getElem?_getD, List.getD_eq_getElem?_getD, h, h']
    rfl
  refine lc_mapW (walkB (K := K) (k := k) (k' := k') (a := a) (b := b) hl) (fun i => f (xs.getD i .non) (ys.getD i .non)) hn ha (fun i v H H' R hi s y q => ?_) hD fun H s q => hd H s (by rw [q, e])
  obtain ⟨T, x, y, rfl, hT, rfl, hx, hy⟩ := y
  have hx : xs[i]? = some x := hx
  have hy : ys[i]? = some y := hy
  have st : Same H (upd H T (.tup [x, y])) := sameNew hT
  refine ⟨T, [x, y], rfl, .inl (.inl upd_same), rfl, x, [y], rfl, y, [], rfl, rfl, hs i x y _ R hx hy (s.trans st) fun H'' s' => ?_⟩
  have := q H'' (st.trans s')
  rw [show xs.getD i .non = x by rw [List.getD_eq_getElem?_getD, hx]; rfl, show ys.getD i .non = y by rw [List.getD_eq_getElem?_getD, hy]; rfl] at this
  exact this
end CK

set_option Elab.async false
set_option linter.all false
set_option maxRecDepth 100000
set_option maxHeartbeats 2000000
namespace CK
open PySem PySem.Spec PyProof.Rows L2
theorem cutV_drop (xs : List V) (k : Nat) : cutV xs (some (k : Int)) none = xs.drop k := by
  unfold cutV
  rw [HT.sIx_nat xs.length 0 k, HT.sIx_none]
  by_cases h : k ≤ xs.length
  · rw [Nat.min_eq_left h, List.take_of_length_le (by rw [List.length_drop]; exact Nat.le_refl _)]
  · rw [Nat.min_eq_right (by omega), List.drop_of_length_le (Nat.le_refl _), List.drop_of_length_le (by omega), List.take_nil]
theorem cutV_take (xs : List V) (k : Nat) : cutV xs none (some (k : Int)) = xs.take k := by
  unfold cutV
  rw [HT.sIx_nat xs.length xs.length k, HT.sIx_none]
  show (xs.drop 0).take (min k xs.length - 0) = xs.take k
  rw [List.drop_zero, Nat.sub_zero]
  by_cases h : k ≤ xs.length
  · rw [Nat.min_eq_left h]
  · rw [Nat.min_eq_right (by omega), List.take_of_length_le (Nat.le_refl _), List.take_of_length_le (by omega)]
section
variable {X : Cx}
/-- a, b = a pair -/
theorem pg_two {K : PySem.W.Frag} {i j : Nat} {x y : Str} {px py pos : Pos} {k : Nat} (hK : X.K = K) (hc : X.calm = true) (hN : X.N.Nodup) (hi : X.N[i]? = some x) (hj : X.N[j]? = some y) (hx : Loc X.env.scope x) (hy : Loc X.env.scope y)
    (f1 : X.fn x = true ∨ X.env.scope.names.lookup x = some .local := by first | exact .inl rfl | exact .inr rfl)
    (f2 : X.fn y = true ∨ X.env.scope.names.lookup y = some .local := by first | exact .inl rfl | exact .inr rfl) :
    PG X (.Tuple [.Name x px, .Name y py] k pos) (gTup K 2 (gCons (gName i) (gCons (gName j) gNil))) := by
  subst hK
  exact pg_tup hc (pgs_cons (pg_name hN hi hx f1) (pgs_cons (pg_name hN hj hy f2) pgs_nil))
/-- t[k:], a tuple: what is behind, wherever it stands -/
theorem sl_drop : SlR X (fun x lo hi H Q => ∃ (a : Addr) (xs : List V) (k : Nat), x = .ref a ∧ lo = some (k : Int) ∧ hi = none ∧ H a = some (.tup xs) ∧ ∀ p H', Same H H' → H' p = some (.tup (xs.drop k)) → Q (.ref p) H') := by
  intro pins s σ H x v vl vu lo hi sl Q I rx hs pl pu h
  obtain ⟨a, xs, k, rfl, rfl, rfl, ha, q⟩ := h
  refine sl_tupA pins s σ H _ v vl vu _ _ sl Q I rx hs pl pu ⟨a, xs, rfl, .inl (.inl ha), fun z => q a H (Same.refl H) ?_, fun _ p hp => q p _ (sameNew hp) (by rw [upd_same, cutV_drop])⟩
  rw [ha, ← cutV_drop xs k]
  unfold cutV
  rw [z.1, z.2, Nat.sub_zero, List.drop_zero, List.take_length]
/-- t[:k] -/
theorem sl_take : SlR X (fun x lo hi H Q => ∃ (a : Addr) (xs : List V) (k : Nat), x = .ref a ∧ lo = none ∧ hi = some (k : Int) ∧ H a = some (.tup xs) ∧ ∀ p H', Same H H' → H' p = some (.tup (xs.take k)) → Q (.ref p) H') := by
  intro pins s σ H x v vl vu lo hi sl Q I rx hs pl pu h
  obtain ⟨a, xs, k, rfl, rfl, rfl, ha, q⟩ := h
  refine sl_tupA pins s σ H _ v vl vu _ _ sl Q I rx hs pl pu ⟨a, xs, rfl, .inl (.inl ha), fun z => q a H (Same.refl H) ?_, fun _ p hp => q p _ (sameNew hp) (by rw [upd_same, cutV_take])⟩
  rw [ha, ← cutV_take xs k]
  unfold cutV
  rw [z.1, z.2, Nat.sub_zero, List.drop_zero, List.take_length]
/-- t + u, tuples -/
theorem op_catS : OpR X (binaryOp .Add) (fun x y H Q => ∃ (a b : Addr) (xs ys : List V), x = .ref a ∧ y = .ref b ∧ H a = some (.tup xs) ∧ H b = some (.tup ys) ∧ xs.length + ys.length ≤ 1000 ∧
    ∀ p H', Same H H' → H' p = some (.tup (xs ++ ys)) → Q (.ref p) H') := by
  intro pins s σ H x y v u Q I rx ry h
  obtain ⟨a, b, xs, ys, rfl, rfl, ha, hb, hl, q⟩ := h
  refine op_catA pins s σ H _ _ v u Q I rx ry ⟨a, b, xs, ys, rfl, rfl, .inl (.inl ha), .inl (.inl hb), Nat.le_of_lt (small1000 hl), fun e => ?_, fun _ e => ?_, fun _ _ p hp => q p _ (sameNew hp) upd_same⟩
  · subst e
    exact q b H (Same.refl H) hb
  · subst e
    exact q a H (Same.refl H) (by rw [List.append_nil]; exact ha)
/-- t[i], xs[i] of what is tracked (no word of the written part, so that it stands in a comprehension) -/
theorem ix_tupH : IxR X (fun x y H Q => ∃ (p : Addr) (xs : List V) (i : Int) (v : V), x = .ref p ∧ y = .int i ∧ H p = some (.tup xs) ∧ atI xs i = some v ∧ Q v H) := by
  intro ve se pins s σ H x y xv yv Q I rx ry h e
  obtain ⟨p, xs, i, v, e1, e2, hp, e3, q⟩ := h
  exact ix_tup ve se pins s σ H x y xv yv Q I rx ry ⟨p, xs, i, v, e1, e2, .inl (.inl hp), e3, q⟩ e
theorem ix_listH : IxR X (fun x y H Q => ∃ (p : Addr) (xs : List V) (i : Int) (v : V), x = .ref p ∧ y = .int i ∧ H p = some (.lst xs) ∧ atI xs i = some v ∧ Q v H) := by
  intro ve se pins s σ H x y xv yv Q I rx ry h e
  obtain ⟨p, xs, i, v, e1, e2, hp, e3, q⟩ := h
  exact ix_list ve se pins s σ H x y xv yv Q I rx ry ⟨p, xs, i, v, e1, e2, .inl (.inl hp), e3, q⟩ e
theorem cr_sumH (hc : X.calm = true) : CallR X (.builtin "sum") (fun vs H Q => ∃ (a : Addr) (ns : List Int), vs = [V.ref a] ∧ H a = some (.lst (ns.map V.int)) ∧ Q (.int ns.sum) H) := by
  intro pins s σ H xs us Q I r h
  obtain ⟨a, ns, e, ha, q⟩ := h
  exact cr_sum hc pins s σ H xs us Q I r ⟨a, ns, e, .inl (.inl ha), q⟩
theorem call_listL : CallR X (.type "list") (fun xs H Q => ∃ (p : Addr) (ys : List V), xs = [.ref p] ∧ H p = some (.lst ys) ∧ ∀ l, H l = none → Q (.ref l) (upd H l (.lst ys))) := by
  intro pins s σ H xs us Q I r h
  obtain ⟨p, ys, e, hp, q⟩ := h
  exact call_list_of pins s σ H xs us Q I r ⟨p, ys, e, .inl (.inl (.inl hp)), q⟩
/-- tuple(xs) of a list: a new tuple -/
theorem call_tupL : CallR X (.type "tuple") (fun xs H Q => ∃ (p : Addr) (ys : List V), xs = [.ref p] ∧ H p = some (.lst ys) ∧ ∀ l H', Same H H' → H' l = some (.tup ys) → Q (.ref l) H') := by
  intro pins s σ H xs us Q I r h
  obtain ⟨p, ys, rfl, hp, q⟩ := h
  exact call_tuple_of pins s σ H _ us Q I r ⟨p, ys, rfl, .inl ⟨.inl (.inl hp), fun l hl => q l _ (sameNew hl) upd_same⟩⟩
end
end CK

set_option Elab.async false
set_option linter.all false
set_option maxRecDepth 100000
set_option maxHeartbeats 2000000
/-! the laws' generator of numbers: a list of three whole numbers -/
namespace CK
open PySem PySem.Spec PyProof.Rows L2
/-- the generator at g, from which n more numbers may be drawn -/
def Gn (n : Nat) (H : Hp) (g : Addr) : Prop := ∃ a b c : Int, H g = some (.lst [.int a, .int b, .int c]) ∧ 0 ≤ a ∧ 0 ≤ b ∧ b < 2 ^ 31 ∧ 0 ≤ c ∧ c + 8 * n ≤ 2 ^ 40
theorem Gn.le {n m : Nat} {H : Hp} {g : Addr} (h : Gn n H g) (hm : m ≤ n) : Gn m H g := by
  obtain ⟨a, b, c, h1, h2, h3, h4, h5, h6⟩ := h
  exact ⟨a, b, c, h1, h2, h3, h4, h5, by omega⟩
theorem Gn.same {n : Nat} {H H' : Hp} {g : Addr} (h : Gn n H g) (s : Same H H') : Gn n H' g := by
  obtain ⟨a, b, c, h1, r⟩ := h
  exact ⟨a, b, c, s _ _ h1, r⟩
theorem Gn.at {n : Nat} {H : Hp} {g : Addr} (h : Gn n H g) : ∃ xs, H g = some (.lst xs) := by
  obtain ⟨a, b, c, h1, r⟩ := h
  exact ⟨_, h1⟩
theorem Gn.ne {n : Nat} {H : Hp} {g D : Addr} (h : Gn n H g) (hD : H D = none) : D ≠ g := fun e => by
  obtain ⟨xs, h1⟩ := h.at
  rw [e, h1] at hD
  cases hD
theorem Gn.upd {n : Nat} {H : Hp} {g D : Addr} {o : HO} (h : Gn n H g) (hD : D ≠ g) : Gn n (upd H D o) g := by
  obtain ⟨a, b, c, h1, r⟩ := h
  exact ⟨a, b, c, by rw [upd_ne (Ne.symm hD)]; exact h1, r⟩
theorem sameX_new {g : Addr} {H : Hp} {D : Addr} {o : HO} (hD : H D = none) : SameX g H (L2.upd H D o) := .of (sameNew hD)
theorem SameX.upd2 {g D : Addr} {H H1 : Hp} {o : HO} (s : SameX g H H1) (hD : H D = none) : SameX g H (L2.upd H1 D o) := fun b z n e => by
  rw [upd_ne (ne_of_none e hD)]
  exact s b z n e
theorem SameX.tup {g a : Addr} {H H' : Hp} {xs : List V} {n : Nat} (s : SameX g H H') (G : Gn n H g) (h : H a = some (.tup xs)) : H' a = some (.tup xs) := s a _ (fun e => by
  obtain ⟨ys, h1⟩ := G.at
  rw [e, h1] at h
  cases h) h
theorem ix_at {n j : Nat} (h : j < n) : ixN n (j : Int) = some j := by
  unfold ixN
  rw [if_pos (by omega), if_pos (by omega)]
  rfl
/-- a comprehension that draws: its numbers stay within most -/
theorem lcD_draw {lo : Int} {g : Addr} {n cnt j : Nat} {most : Int} {te : TE} {vs : List Nat} {σ : L2.St} {H1 : Hp} {D : Addr} {Qd : Hp → Prop} (hc : cnt < sizeLine) (hD : H1 D = none) (hg : Gn (n + cnt) H1 g)
    (hs : ∀ (i : Nat) (H : Hp) (R : VK), i < cnt → SameX g H1 H → Gn (n + (cnt - (i + 1)) + 1) H g → (∀ (r : Int) H', SameX g H H' → Gn (n + (cnt - (i + 1))) H' g → 0 ≤ r → r ≤ most → R (.int r) H') →
      wipe ((wipe σ vs).set j (some (.int (lo + i)))) vs = wipe σ vs ∧ te ((wipe σ vs).set j (some (.int (lo + i)))) H R)
    (hd : ∀ (H : Hp) (ns : List Int), SameX g H1 H → Gn n H g → H D = some (.lst (ns.map V.int)) → ns.length = cnt → (∀ x ∈ ns, 0 ≤ x ∧ x ≤ most) → Qd H) :
    ∃ W : Nat → Nat → Hp → Prop, (∃ m, W 0 m (L2.upd H1 D (.lst []))) ∧ ∀ i m H, W i m H →
      ((Itr lo cnt).stop i H ∧ Qd H) ∨ ((Itr lo cnt).go i H ∧ ∃ Nx : Hp → Prop, (∀ H', Nx H' → ∃ m', m' < m ∧ W (i + 1) m' H') ∧ ∀ x H', (Itr lo cnt).yld i H x H' → gName j x (wipe σ vs) H' fun σ2 H2 => wipe σ2 vs = wipe σ vs ∧ tYes σ2 H2 fun b H3 =>
        if b = true then te σ2 H3 fun y H4 => ∃ acc, H4 D = some (.lst acc) ∧ acc.length < sizeLine ∧ Nx (L2.upd H4 D (.lst (acc ++ [y]))) else Nx H3) := by
  have hDg := hg.ne hD
  refine lc_range (fun i H => SameX g H1 H ∧ Gn (n + (cnt - i)) H g ∧ i ≤ cnt ∧ ∃ ns : List Int, H D = some (.lst (ns.map V.int)) ∧ ns.length = i ∧ ∀ x ∈ ns, 0 ≤ x ∧ x ≤ most)
    ⟨sameX_new hD, hg.upd hDg, Nat.zero_le _, [], upd_same, rfl, fun x h => absurd h List.not_mem_nil⟩ (fun i H hi p => ?_) fun H p => ?_
  · obtain ⟨s, G, _, ns, hL, hl, hb⟩ := p
    have G1 : Gn (n + (cnt - (i + 1)) + 1) H g := by
      have e : n + (cnt - (i + 1)) + 1 = n + (cnt - i) := by omega
      rw [e]
      exact G
    refine hs i H _ hi s G1 fun r H' s' G' h0 h1 => ⟨_, s' D _ hDg hL, by rw [List.length_map]; omega, (s.trans s').upd2 hD, G'.upd hDg, hi, ns ++ [r], ?_, ?_, fun x hx => ?_⟩
    · rw [upd_same, List.map_append]
      rfl
    · rw [List.length_append, hl]
      rfl
    · rcases List.mem_append.mp hx with z | z
      · exact hb x z
      · rw [List.mem_singleton.mp z]
        exact ⟨h0, h1⟩
  · obtain ⟨s, G, _, ns, hL, hl, hb⟩ := p
    rw [Nat.sub_self] at G
    exact hd H ns s G hL hl hb
end CK

set_option Elab.async false
set_option linter.all false
set_option maxRecDepth 100000
set_option maxHeartbeats 2000000
namespace CK
open PySem PySem.Spec PyProof.Rows L2
/-! ### data that are compared -/
def dI (ns : List Int) : PyData := .tuple (ns.map PyData.int)
theorem lay_ints : ∀ ns : List Int, PyData.canLayAll0 (ns.map PyData.int) = true
  | [] => by simp [PyData.canLayAll0]
  | n :: ns => by
    rw [List.map_cons, PyData.canLayAll0, lay_ints ns]
    simp [PyData.canLay0]
theorem deep_ints : ∀ ns : List Int, PyData.depthAll (ns.map PyData.int) = 0
  | [] => by simp [PyData.depthAll]
  | n :: ns => by
    rw [List.map_cons, PyData.depthAll, deep_ints ns]
    simp [PyData.depth]
theorem lay_dI (ns : List Int) : (dI ns).canLay0 = true := by
  unfold dI
  rw [PyData.canLay0]
  exact lay_ints ns
theorem deep_dI (ns : List Int) : (dI ns).depth = 1 := by
  unfold dI
  rw [PyData.depth, deep_ints]
theorem shaped_dI (ns : List Int) : SeqAt.shaped (dI ns) = true := by
  unfold SeqAt.shaped
  rw [lay_dI, deep_dI]
  rfl
theorem lay_forms : ∀ fs : List (List Int), PyData.canLayAll0 (fs.map dI) = true
  | [] => by simp [PyData.canLayAll0]
  | f :: fs => by
    rw [List.map_cons, PyData.canLayAll0, lay_forms fs, lay_dI]
    rfl
theorem deep_forms : ∀ fs : List (List Int), PyData.depthAll (fs.map dI) ≤ 1
  | [] => by simp [PyData.depthAll]
  | f :: fs => by
    have := deep_forms fs
    rw [List.map_cons, PyData.depthAll, deep_dI]
    omega
theorem shaped_forms (fs : List (List Int)) : SeqAt.shaped (.list (fs.map dI)) = true := by
  unfold SeqAt.shaped
  rw [PyData.canLay0, lay_forms, PyData.depth]
  have := deep_forms fs
  rw [decide_eq_true (by omega)]
  rfl
section
variable {K : PySem.W.Frag} {H : Hp}
theorem dpAll_ints : ∀ ns : List Int, DpAll K H (ns.map V.int) (ns.map PyData.int)
  | [] => .nil
  | n :: ns => .cons (.int n) (dpAll_ints ns)
theorem dp_ints {a : Addr} {ns : List Int} (h : H a = some (.tup (ns.map V.int))) : Dp K H (.ref a) (dI ns) := .tup (.inl (.inl h)) (dpAll_ints ns)
end
section
variable {X : Cx}
/-- x != y, of equal data -/
theorem op_neSame (hu : X.A.units + 64 < cLine) : OpR X (compareOp .NotEq) (fun x y H Q => ∃ d, Dp X.K H x d ∧ Dp X.K H y d ∧ SeqAt.shaped d = true ∧ Q (.bl false) H) := by
  intro pins s σ H x y v u Q I rx ry h
  obtain ⟨d, h1, h2, h3, q⟩ := h
  refine op_neD hu pins s σ H x y v u Q I rx ry ⟨d, d, h1, h2, h3, h3, ?_⟩
  rw [SeqAt.eqv_refl d (SeqAt.canLay_of_shaped h3)]
  exact q
end
/-! ### comprehensions that map, by the turn's number -/
theorem lcZ_mapI {K : PySem.W.Frag} {k k' : Kd} {a b : Addr} {xs ys : List V} {i1 i2 : Nat} {te : TE} {vs : List Nat} {σ : L2.St} {H1 : Hp} {D : Addr} {Qd : Hp → Prop} (f : Nat → V) (hl : xs.length = ys.length) (hn : xs.length < sizeLine)
    (ha : ∀ H, Same H1 H → SqB K k H a xs ∧ SqB K k' H b ys)
    (hs : ∀ (i : Nat) (x y : V) (H : Hp) (R : VK), xs[i]? = some x → ys[i]? = some y → Same H1 H → (∀ H', Same H H' → R (f i) H') → wipe (((wipe σ vs).set i1 (some x)).set i2 (some y)) vs = wipe σ vs ∧ te (((wipe σ vs).set i1 (some x)).set i2 (some y)) H R)
    (hD : H1 D = none) (hd : ∀ H : Hp, Same H1 H → H D = some (.lst ((List.range xs.length).map f)) → Qd H) :
    ∃ W : Nat → Nat → Hp → Prop, (∃ m, W 0 m (upd H1 D (.lst []))) ∧ ∀ i m H, W i m H →
      ((ItB K k k' a b).stop i H ∧ Qd H) ∨ ((ItB K k k' a b).go i H ∧ ∃ Nx : Hp → Prop, (∀ H', Nx H' → ∃ m', m' < m ∧ W (i + 1) m' H') ∧ ∀ x H', (ItB K k k' a b).yld i H x H' → gTup K 2 (gCons (gName i1) (gCons (gName i2) gNil)) x (wipe σ vs) H' fun σ2 H2 => wipe σ2 vs = wipe σ vs ∧ tYes σ2 H2 fun b H3 =>
        if b = true then te σ2 H3 fun y H4 => ∃ acc, H4 D = some (.lst acc) ∧ acc.length < sizeLine ∧ Nx (upd H4 D (.lst (acc ++ [y]))) else Nx H3) := by
  refine lc_mapW (walkB (K := K) (k := k) (k' := k') (a := a) (b := b) hl) f hn ha (fun i v H H' R hi s y q => ?_) hD hd
  obtain ⟨T, x, y, rfl, hT, rfl, hx, hy⟩ := y
  have hx : xs[i]? = some x := hx
  have hy : ys[i]? = some y := hy
  have st : Same H (upd H T (.tup [x, y])) := sameNew hT
  exact ⟨T, [x, y], rfl, .inl (.inl upd_same), rfl, x, [y], rfl, y, [], rfl, rfl, hs i x y _ R hx hy (s.trans st) fun H'' s' => q H'' (st.trans s')⟩
theorem lcL_mapI {K : PySem.W.Frag} {a : Addr} {xs : List V} {j : Nat} {te : TE} {vs : List Nat} {σ : L2.St} {H1 : Hp} {D : Addr} {Qd : Hp → Prop} (f : Nat → V) (ha : H1 a = some (.lst xs)) (hn : xs.length < sizeLine)
    (hs : ∀ (i : Nat) (x : V) (H : Hp) (R : VK), xs[i]? = some x → Same H1 H → (∀ H', Same H H' → R (f i) H') → wipe ((wipe σ vs).set j (some x)) vs = wipe σ vs ∧ te ((wipe σ vs).set j (some x)) H R)
    (hD : H1 D = none) (hd : ∀ H : Hp, Same H1 H → H D = some (.lst ((List.range xs.length).map f)) → Qd H) :
    ∃ W : Nat → Nat → Hp → Prop, (∃ m, W 0 m (upd H1 D (.lst []))) ∧ ∀ i m H, W i m H →
      ((Itl K a).stop i H ∧ Qd H) ∨ ((Itl K a).go i H ∧ ∃ Nx : Hp → Prop, (∀ H', Nx H' → ∃ m', m' < m ∧ W (i + 1) m' H') ∧ ∀ x H', (Itl K a).yld i H x H' → gName j x (wipe σ vs) H' fun σ2 H2 => wipe σ2 vs = wipe σ vs ∧ tYes σ2 H2 fun b H3 =>
        if b = true then te σ2 H3 fun y H4 => ∃ acc, H4 D = some (.lst acc) ∧ acc.length < sizeLine ∧ Nx (upd H4 D (.lst (acc ++ [y]))) else Nx H3) := by
  refine lc_mapW (walk_list (K := K) (a := a) (xs := xs)) f hn (fun H s => .inl (.inl (s _ _ ha))) (fun i x H H' R hi s y q => ?_) hD hd
  obtain ⟨rfl, hx⟩ := y
  exact hs i x H' R hx s q
end CK

set_option Elab.async false
set_option linter.all false
set_option maxRecDepth 100000
set_option maxHeartbeats 2000000
/-! own classes: their facts, their methods' promises by their bodies -/
namespace CK
open PySem PySem.Spec PyProof.Rows L2
/-- a method's def as it stands behind the top -/
structure MetF (K : PySem.W.Frag) (C : Addr) (m q : Str) (st : Stmt) (ps : List Str) : Prop where
  ex : ∃ (f : Addr) (fd : FuncData), C8.Fun K m q st f fd ∧ Meth K C m f ∧ Binds K fd ps []
/-- a class as it stands -/
structure ClF (K : PySem.W.Frag) (mg : Str → Option Value) (x : Str) (C : Addr) : Prop where
  mgC : mg x = some (.ref C)
  makes : PySem.W.makesIn K C = true
  kp : PySem.W.keepIn K (.ref C) = true
  ins : C8.InsC K C
theorem metF_mk {K : PySem.W.Frag} {mg : Str → Option Value} {x : Str} {C : Addr} (_ : ClF K mg x C) (m q : Str) (st : Stmt) (ps : List Str) {f : Addr} {od an : Option Addr} {oc kV dc pm cd ct : Value} {sl : Array (Option Value)}
    (a : PySem.W.findIn K (.ref C) m = some (some (.ref f))) (i : PySem.W.isFn K (.ref f) = true)
    (l : K.lookup f = some ⟨oc, od, .func (PySem.W.fnOf m q (C8.fnArgs st) (C8.fnBody st) (C8.fnScope st) .none kV dc pm an cd ct), sl⟩)
    (c : PySem.W.codeIn K cd q = true) (k : PySem.W.keepIn K (.ref f) = true)
    (hb : ∀ (kV doc pm : Value) (an : Option Addr) (cdv ct : Value) (us : List Value), us.length = ps.length →
      bindArgs (PySem.W.fnOf m q (C8.fnArgs st) (C8.fnBody st) (C8.fnScope st) .none kV doc pm an cdv ct) ⟨us, []⟩ = pure (ps.zip us)) : MetF K C m q st ps :=
  ⟨f, _, ⟨oc, od, .none, kV, dc, pm, an, cd, ct, sl, rfl, l, c⟩, ⟨a, i, k⟩, C8.Fun.binds ⟨oc, od, .none, kV, dc, pm, an, cd, ct, sl, rfl, l, c⟩ rfl hb⟩
theorem clF_mk {K : PySem.W.Frag} {h : Heap} {mg : Str → Option Value} {x : Str} {C : Addr} (X : K.In h) (G : h.Ns mainGlobals mg)
    (a : PySem.W.nsIn K mainGlobals x = some (some (.ref C))) (pg : PySem.W.plainGet K C Str.empty = true) (hd : PySem.W.hasDictIn K C = true) (po : PySem.W.plainOver K C = true)
    (sa : PySem.W.findIn K (.ref C) "__setattr__" = some (some (.builtin "object.__setattr__"))) (mk : PySem.W.makesIn K C = true) (kp : PySem.W.keepIn K (.ref C) = true)
    (ha : PySem.W.findIn K (.ref C) "__class__" = some (some (.builtin "object.__class__"))) (hn : PySem.W.specialIn K (.builtin "object.__class__") "__get__" = some (some (.builtin "getset_descriptor.__get__")))
    (htk : PySem.W.takesIn K (.builtin "object.__class__") = some true) (hm : PySem.W.mroIn K C (.type "object") = some true) : ClF K mg x C :=
  ⟨PySem.W.mg_of X G a, mk, kp, ⟨⟨pg, hd, po, sa⟩, ha, hn, htk, hm, if_pos (beq_self_eq_true _)⟩⟩
theorem with_cls {K : PySem.W.Frag} {h : Heap} {mg : Str → Option Value} (_ : K.In h) (x : Str) {C : Addr} {R : Prop} (d : ClF K mg x C) (r : ClF K mg x C → R) : R := r d
theorem with_met {K : PySem.W.Frag} {mg : Str → Option Value} {x : Str} {C : Addr} (_ : ClF K mg x C) (m q : Str) (st : Stmt) (ps : List Str) {R : Prop} (d : MetF K C m q st ps) (r : MetF K C m q st ps → R) : R := r d
section
variable {P : Program} {w : World} {K : PySem.W.Frag} {mg : Str → Option Value} {base : Heap} {x : Str} {C : Addr}
theorem metF {m q : Str} {st : Stmt} {N ps : List Str} {k : Nat} {sp : Sp} (c : ClF K mg x C) (D : MetF K C m q st ps) (S : FnScope N ps (C8.fnScope st))
    (len : ∀ vs H Q E, sp vs H Q E → vs.length = ps.length)
    (hbody : ∀ (f : Addr) (cdv : Value) (A : Around) (outer : List Env) (s : Shared) (H : Hp) (vs : List V) (Q : VK) (E : XK), Room k (A.deeper (envOfC q (C8.fnScope st) s.heap.objs.size f cdv)) → sp vs H Q E →
      ∃ t, PSs (cxOf C8.CX0 P w K mg base N q (C8.fnScope st) f cdv A outer s H E).nox (C8.fnBody st) t ∧ t { nx := fun _ H' => Q .non H', rt := Q } (start N vs) H) : C8.Met P w K mg base (k + 1) C m sp [] := by
  obtain ⟨f, fd, F, me, b⟩ := D.ex
  exact C8.met0 c.ins.cl me F b S len (hbody f)
theorem makF {q : Str} {st : Stmt} {N ps : List Str} {k : Nat} {sp : Sp} (c : ClF K mg x C) (D : MetF K C "__init__" q st ps) (S : FnScope N ps (C8.fnScope st))
    (len : ∀ vs H Q E, sp vs H Q E → vs.length = ps.length)
    (hbody : ∀ (f : Addr) (cdv : Value) (A : Around) (outer : List Env) (s : Shared) (H : Hp) (vs : List V) (Q : VK) (E : XK), Room k (A.deeper (envOfC q (C8.fnScope st) s.heap.objs.size f cdv)) → sp vs H Q E →
      ∃ t, PSs (cxOf C8.CX0 P w K mg base N q (C8.fnScope st) f cdv A outer s H E).nox (C8.fnBody st) t ∧ t { nx := fun _ H' => Q .non H', rt := Q } (start N vs) H) : C8.Mak P w K mg base (k + 1) x C sp [] := by
  obtain ⟨f, fd, F, me, b⟩ := D.ex
  exact C8.mak0 ⟨c.makes, me.at_, me.fn, c.kp⟩ c.mgC F b .nil S len (hbody f)
end
end CK
namespace CK
open PySem L2
theorem noA {K : PySem.W.Frag} {mg : Str → Option Value} {x : Str} {C : Addr} (_ : ClF K mg x C) (f : Str) (h : PySem.W.findIn K (.ref C) f = some none) : NoAttr K C f := h
end CK

set_option Elab.async false
set_option linter.all false
set_option maxRecDepth 100000
set_option maxHeartbeats 2000000
/-! texts by their code points -/
namespace CK
open PySem PySem.Spec PyProof.Rows L2 SX
theorem rev_S (z : List Nat) : (⟨((Builtin.Str.strSliceIndices none none (-1) (S z).length).filterMap ((S z).cps[·]?)).toArray⟩ : Str) = S z.reverse := by
  refine TL.ext_tl ?_
  show ((Builtin.Str.strSliceIndices none none (-1) (S z).length).filterMap ((S z).cps[·]?)).toArray.toList = z.reverse
  rw [List.toList_toArray, S_len, picked_rev, filterMap_get, List.map_map]
  · refine List.ext_getElem (by simp) fun i h1 h2 => ?_
    have hi : i < z.length := by simpa using h1
    rw [List.getElem_map, List.getElem_range, List.getElem_reverse]
    show (S z).cps.getD (z.length - 1 - i) 0 = _
    have : z.length - 1 - i < z.length := by omega
    simp [Array.getD, S, this]
  · intro i hi
    obtain ⟨k, hk, rfl⟩ := List.mem_map.mp hi
    have := List.mem_range.mp hk
    show z.length - 1 - k < z.length
    omega
section
variable {X : Cx}
/-- s[::-1] -/
def tRevS (te : TE) : TE := fun σ H Q => te σ H fun x H1 => ∃ z : List Nat, x = .str (S z) ∧ z.length ≤ sizeLine ∧ Q (.str (S z.reverse)) H1
theorem pe_revS {e : Expr} {te : TE} {k : Nat} {p1 p2 p3 pos : Pos} (he : PE X e te) : PE X (.Subscript e (.Slice none none (some (.UnaryOp .USub (.Constant (.int 1) k p1) p2)) p3) pos) (tRevS te) := by
  refine ⟨fun pins s σ H Q I h => ?_⟩
  refine Subscript_ (thn (he.run pins s σ H _ I h) fun v s1 ⟨x, H1, I1, r1, q1⟩ => ?_)
  obtain ⟨z, ex, hz, q⟩ := q1
  subst ex
  obtain ⟨t, rfl⟩ := r1
  have hst : PO X (some (.UnaryOp .USub (.Constant (.int 1) k p1) p2)) (tPart (tUn (rU fun i => .int (-i)) (tC (.int 1)))) := po_some (pe_un un_neg pe_int)
  refine wpAny_Slice (thn (po_none.run pins s1 σ H1 (fun o H2 => o = none ∧ H2 = H1) I1 ⟨rfl, rfl⟩) fun vl s2 ⟨l, H2, I2, pl, el, e2⟩ => ?_)
  subst el e2
  refine thn (po_none.run pins s2 σ H2 (fun o H3 => o = none ∧ H3 = H2) I2 ⟨rfl, rfl⟩) fun vu s3 ⟨u, H3, I3, pu, eu, e3⟩ => ?_
  subst eu e3
  refine thn (hst.run pins s3 σ H3 (fun o H4 => o = some (-1) ∧ H4 = H3) I3 ⟨1, rfl, -1, rfl, rfl, rfl⟩) fun vs s4 ⟨o, H4, I4, ps, eo, e4⟩ => ?_
  subst eo e4
  have I5 : Inv X pins σ H4 { s4 with heap := s4.heap.push { cls := .type "slice", data := .fields #[vl, vu, vs] } } := I4.kept (t' := s4.toks) fun b ob q => Heap.get?_push_of_some _ q
  show wpAny (model X.prog X.w) X.A (subscriptTail e (.Slice none none (some (.UnaryOp .USub (.Constant (.int 1) k p1) p2)) p3) (.str (S z) t) (.ref s4.heap.objs.size)) (EP X pins σ Q) X.xe { s4 with heap := s4.heap.push { cls := .type "slice", data := .fields #[vl, vu, vs] } }
  refine tail_any (ops := [.str (S z) t, .ref s4.heap.objs.size]) (typeIs_str _ _ _) F.slot_str_getitem.lookup ?_ (by with_unfolding_all rfl)
  obtain ⟨l, rfl, el⟩ := IsPart.raw pl
  obtain ⟨u, rfl, eu⟩ := IsPart.raw pu
  obtain ⟨st, rfl, es⟩ := IsPart.raw ps
  refine wpAny_getItem_str_slice (l := l) (u := u) (st := st) ⟨_, Heap.get?_push_size _ rfl, rfl, rfl⟩ (by rw [es]; decide) ?_
  unfold sliceMade slicePicked
  rw [es, el, eu]
  have hr := rev_S z
  show Made.post (.str ⟨((Builtin.Str.strSliceIndices none none (-1) (S z).length).filterMap ((S z).cps[·]?)).toArray⟩) _ _
  rw [hr]
  exact ⟨by rw [S_len, List.length_reverse]; exact hz, .str _, H4, I5.tok _, ⟨_, rfl⟩, q⟩
/-- s * n -/
theorem foldl_arr {α : Type} : ∀ (n : Nat) (w : Array α) (acc : Array α), ((List.replicate n w).foldl (fun a b => a ++ b) acc).toList = acc.toList ++ (List.replicate n w.toList).flatten
  | 0, _, _ => by simp
  | n + 1, w, acc => by
    rw [List.replicate_succ, List.foldl_cons, foldl_arr n w (acc ++ w), List.replicate_succ, List.flatten_cons, Array.toList_append, List.append_assoc]
theorem op_repS : OpR X (binaryOp .Mult) (fun x y H Q => ∃ (z : List Nat) (n : Nat), x = .str (S z) ∧ y = .int n ∧ n ≤ 1000 ∧ z.length ≤ 1000 ∧ Q (.str (S (List.replicate n z).flatten)) H) := by
  intro pins s σ H x y v u Q I rx ry h
  obtain ⟨z, n, rfl, rfl, hn, hz, q⟩ := h
  obtain ⟨t, rfl⟩ := rx
  obtain ⟨t', rfl⟩ := ry
  have hl : (List.replicate n z).flatten.length = n * z.length := by simp
  have hm : n * z.length ≤ 1000 * 1000 := Nat.mul_le_mul hn hz
  refine P.mul_str (by simp; omega) (fun h1 h2 => ?_) (fun h1 h2 => ?_) ?_
  · rw [S_len]
    have hn0 : (0 : Int) < n := by omega
    have h3 : (1000 : Int) ≤ (2 ^ 63 - 1) / (n : Int) := by
      refine (Int.le_ediv_iff_mul_le hn0).mpr ?_
      have : (1000 : Int) * n ≤ 1000 * 1000 := Int.mul_le_mul_of_nonneg_left (by omega) (by decide)
      omega
    omega
  · rw [S_len, Int.toNat_natCast, Nat.mul_comm]
    have : n * z.length ≤ sizeLine := by rw [sizeLine_eq]; omega
    unfold Builtin.Str.tooLong
    simp
    omega
  · by_cases h1 : (n : Int) < 1
    · rw [if_pos h1]
      have e : n = 0 := by omega
      subst e
      exact ⟨by decide, .str _, H, I.tok _, ⟨_, rfl⟩, q⟩
    · rw [if_neg h1]
      by_cases h2 : ((n : Int) == 1 || (S z).length == 0) = true
      · rw [if_pos h2]
        have e : (List.replicate n z).flatten = z := by
          rw [Bool.or_eq_true, beq_iff_eq, beq_iff_eq, S_len] at h2
          rcases h2 with h2 | h2
          · have : n = 1 := by omega
            subst this
            simp
          · rw [List.length_eq_zero_iff.mp h2]
            simp
        rw [e] at q
        exact ⟨.str _, H, I, ⟨_, rfl⟩, q⟩
      · rw [if_neg h2]
        have e : (⟨(List.replicate (n : Int).toNat (S z).cps).foldl (· ++ ·) #[]⟩ : Str) = S (List.replicate n z).flatten := by
          refine TL.ext_tl ?_
          show ((List.replicate (n : Int).toNat (S z).cps).foldl (· ++ ·) #[]).toList = _
          rw [Int.toNat_natCast, foldl_arr]
          rfl
        rw [e]
        exact ⟨by rw [S_len, hl, sizeLine_eq]; omega, .str _, H, I.tok _, ⟨_, rfl⟩, q⟩
/-- a % b, a // b of natural numbers -/
theorem fmodN (k n : Nat) : Int.fmod (k : Int) (n : Int) = ((k % n : Nat) : Int) := by
  rw [Int.fmod_eq_emod_of_nonneg _ (by omega)]
  rfl
theorem op_modZ : OpR X (binaryOp .Mod) (fun x y H Q => ∃ (k n : Nat), x = .int k ∧ y = .int n ∧ n ≠ 0 ∧ Q (.int ((k % n : Nat) : Int)) H) := by
  intro pins s σ H x y v u Q I rx ry h
  obtain ⟨k, n, e1, e2, h0, q⟩ := h
  refine op_modN pins s σ H x y v u Q I rx ry ⟨_, _, e1, e2, by omega, ?_⟩
  rw [← fmodN] at q
  exact q
theorem op_fdivZ : OpR X (binaryOp .FloorDiv) (fun x y H Q => ∃ (k n : Nat), x = .int k ∧ y = .int n ∧ n ≠ 0 ∧ n < 2 ^ 29 ∧ Q (.int ((k / n : Nat) : Int)) H) := by
  intro pins s σ H x y v u Q I rx ry h
  obtain ⟨k, n, e1, e2, h0, h1, q⟩ := h
  refine op_fdivN pins s σ H x y v u Q I rx ry ⟨_, _, e1, e2, ⟨by omega, by omega⟩, ?_⟩
  have : Int.fdiv (k : Int) (n : Int) = ((k / n : Nat) : Int) := by
    rw [Int.fdiv_eq_ediv_of_nonneg _ (by omega)]
    rfl
  rw [← this] at q
  exact q
theorem op_mulZ : OpR X (binaryOp .Mult) (fun x y H Q => ∃ (k n : Nat), x = .int k ∧ y = .int n ∧ k < 2 ^ 1000 ∧ n < 2 ^ 1000 ∧ Q (.int ((k * n : Nat) : Int)) H) := by
  intro pins s σ H x y v u Q I rx ry h
  obtain ⟨k, n, e1, e2, h0, h1, q⟩ := h
  refine op_mulW pins s σ H x y v u Q I rx ry ⟨_, _, e1, e2, wide_mul (a := 1000) (b := 1000) h0 h1 (by decide) (by decide) (by decide), ?_⟩
  rw [Int.natCast_mul] at q
  exact q
/-- len of a list that is tracked (it may stand in a comprehension) -/
theorem call_lenH : CallR X (.builtin "len") (fun xs H Q => ∃ (p : Addr) (ys : List V), xs = [.ref p] ∧ H p = some (.lst ys) ∧ Q (.int (ys.length : Nat)) H) := by
  intro pins s σ H xs us Q I r h
  obtain ⟨p, ys, e, hp, q⟩ := h
  exact call_len_seq pins s σ H xs us Q I r ⟨p, ys, e, .inl (.inl (.inl hp)), q⟩
end
end CK

set_option Elab.async false
set_option linter.all false
set_option maxRecDepth 100000
set_option maxHeartbeats 2000000
/-! any of a tuple of numbers -/
namespace CK
open PySem PySem.Spec PyProof.Rows L2 SX
theorem plain_ints : ∀ ns : List Int, PyData.plainAll (ns.map PyData.int) = true
  | [] => by simp [PyData.plainAll]
  | n :: ns => by
    rw [List.map_cons, PyData.plainAll, plain_ints ns]
    simp [PyData.plain]
theorem any_ints (ns : List Nat) : ((ns.map fun n : Nat => ((n : Nat) : Int)).map PyData.int).any PyData.truthy = ns.any fun x => decide (x ≠ 0) := by
  induction ns with
  | nil => rfl
  | cons n ns ih =>
    rw [List.map_cons, List.map_cons, List.any_cons, List.any_cons, ih]
    congr 1
    show ((n : Int) != 0) = decide (n ≠ 0)
    by_cases h : n = 0
    · subst h
      rfl
    · rw [decide_eq_true h, bne_iff_ne]
      omega
section
variable {X : Cx}
theorem cr_anyN (hc : X.calm = true) : CallR X (.builtin "any") (fun vs H Q => ∃ (a : Addr) (ns : List Nat), vs = [V.ref a] ∧ H a = some (.tup (ns.map fun n : Nat => V.int (n : Nat))) ∧ Q (.bl (ns.any fun x => decide (x ≠ 0))) H) := by
  intro pins s σ H vs us Q I r h
  obtain ⟨a, ns, rfl, ha, q⟩ := h
  obtain ⟨its, rv, hT, _⟩ := I.tuple (.inl (.inl ha))
  rw [Vals.ref1 r]
  have e : (ns.map fun n : Nat => V.int (n : Nat)) = (ns.map fun n : Nat => ((n : Nat) : Int)).map V.int := by
    rw [List.map_map]
    rfl
  rw [e] at rv
  obtain ⟨as, hr⟩ := Dp.readsAll I _ _ its (dpAll_ints _) rv
  refine PySem.W.any_tuple_data (I.ok.hd hc) hT (by rw [List.toList_toArray]; exact hr) (plain_ints _) (fun x hx => ?_) fun h' tk hk => ?_
  · obtain ⟨i, _, rfl⟩ := List.mem_map.mp hx
    trivial
  · rw [any_ints]
    exact ⟨.bl _, H, I.kept (t' := tk) hk, rfl, q⟩
end
end CK
namespace CK
open PySem PySem.Spec PyProof.Rows L2 SX
section
variable {X : Cx}
/-- a whole number and a Boolean -/
theorem op_addB : OpR X (binaryOp .Add) (fun x y H Q => ∃ (i : Int) (b : Bool), x = .int i ∧ y = .bl b ∧ Q (.int (i + if b = true then (1 : Int) else 0)) H) := by
  intro pins s σ H x y v u Q I rx ry h
  obtain ⟨i, b, rfl, rfl, q⟩ := h
  obtain ⟨t, rfl⟩ := rx
  obtain rfl : u = Value.bool b := ry
  exact add_int_bool ⟨.int _, H, I.tok _, ⟨_, rfl⟩, q⟩
end
end CK
namespace CK
open PySem PySem.Spec PyProof.Rows L2 SX
theorem vals_of_get : ∀ (vs : List V) (us : List Value), us.length = vs.length → (∀ (j : Nat) (v : V) (u : Value), vs[j]? = some v → us[j]? = some u → RelV v u) → Vals vs us
  | [], [], _, _ => .nil
  | [], _ :: _, h, _ => by simp at h
  | _ :: _, [], h, _ => by simp at h
  | v :: vs, u :: us, h, g => .cons (g 0 v u rfl rfl) (vals_of_get vs us (by simpa using h) fun j a b ha hb => g (j + 1) a b (by simpa using ha) (by simpa using hb))
section
variable {X : Cx}
/-- list(text): its letters -/
theorem call_listS (hc : X.calm = true) : CallR X (.type "list") (fun xs H Q => ∃ z : List Nat, xs = [.str (S z)] ∧ z.length ≤ 1000000 ∧ ∀ l, H l = none → Q (.ref l) (upd H l (.lst (z.map fun c => V.str (S [c]))))) := by
  intro pins s σ H xs us Q I r h
  obtain ⟨z, rfl, hz, q⟩ := h
  obtain ⟨u, rfl, rx⟩ := vals1 r
  obtain ⟨t, rfl⟩ := rx
  have sz : (S z).cps.size = z.length := S_len z
  refine call_list_str (I.ok.hd hc) (S z) t (fun h' tk acc' c' hk hS hacc => ?_) (by rw [sz, sizeLine_eq]; omega)
  refine ⟨.ref s.heap.objs.size, upd H s.heap.objs.size (.lst (z.map fun c => V.str (S [c]))), I.laid (t' := tk) hk (Nat.le_refl _) ?_, rfl, q _ (I.hok.fresh (Nat.le_refl _))⟩
  refine ⟨by rw [List.length_map, sizeLine_eq]; omega, acc'.toList, c', vals_of_get _ _ (by rw [List.length_map, Array.length_toList, hacc.1, sz]) fun j v u hv hu => ?_, by simpa using hS⟩
  obtain ⟨c, tt, hc', rfl⟩ := hacc.2 j u (by simpa using hu)
  rw [List.getElem?_map] at hv
  have e : z[j]? = some c := by
    have : (S z).cps[j]? = some c := hc'
    simpa [S] using this
  rw [e] at hv
  cases hv
  exact ⟨tt, rfl⟩
end
end CK
namespace CK
open PySem PySem.Spec PyProof.Rows L2 SX
section
variable {X : Cx} {o e : Expr} {es : List Expr} {to : TE} {t : TA} {name : Str} {apos cpos : Pos} {T id : String} {r : V → List V → Hp → VK → Prop}
/-- a built-in's method, where the written part is told apart (it may stand in a comprehension) -/
theorem pe_bmB {K : PySem.W.Frag} (hK : X.K = K) (pa : PlainAttrs T) (slot : Slot T name id) (hty : typeOf (.builtin id) = pure (.type "method_descriptor")) (hm : MtR X id r) (ho : PE X o to) (ha : PA X (e :: es) t)
    (hb : attributeBase o name X.env (eval o X.env) = eval o X.env := by rfl)
    (hf : ((backTo cpos (starEach (e :: es) X.env)).all (fun x => !x.1) && (backToKw cpos (keywordEach [] X.env)).all (fun x => x.1.isSome) && decide ((e :: es).length + ([] : List Keyword).length + (if ([] : List Keyword).isEmpty then 0 else 1) < 30)) = true := by rfl)
    (hl : (apos.endLine == cpos.line) = true := by rfl) (hs : starEach (e :: es) X.env = (false, eval e X.env) :: starEach es X.env := by rfl) (hp : (backTo cpos (starEach es X.env)).any (·.1) = false := by rfl) :
    PE X (.Call (.Attribute o name apos) (e :: es) [] cpos) (tBM K T r to t) := by
  subst hK
  exact pe_bm pa slot hty hm ho ha hb hf hl hs hp
end
end CK

set_option Elab.async false
set_option linter.all false
set_option maxRecDepth 100000
set_option maxHeartbeats 2000000
/-! defs that are called with no repr under way; repr of data -/
namespace CK
open PySem PySem.Spec PyProof.Rows L2
/-- what a def promises where no repr is under way -/
structure FnG (P : Program) (w : World) (K : PySem.W.Frag) (mg : Str → Option Value) (base : Heap) (k : Nat) (f : Addr) (fd : FuncData) (ps : List Str) (sp : Sp) : Prop where
  len : ∀ vs H Q E, sp vs H Q E → vs.length = ps.length
  go : ∀ (A : Around) (outer : List Env) (z : Shared) (H : Hp) (args : Args) (us : List Value) (vs : List V) (Q : VK) (E : XK), Room k A → A.guards = some [] → Env0 P w K mg base A outer z H → BindsTo z fd args (ps.zip us) →
    Vals vs us → sp vs H Q E → codeAny (model P w) A (.call (.ref f) args) (CR C8.CX0 outer P w H z Q E) z
theorem FnG.of {P : Program} {w : World} {K : PySem.W.Frag} {mg : Str → Option Value} {base : Heap} {k : Nat} {f : Addr} {fd : FuncData} {ps : List Str} {sp : Sp} (F : FnOk P w K mg base C8.CX0 k f fd ps sp) : FnG P w K mg base k f fd ps sp :=
  ⟨F.len, fun A outer z H args us vs Q E hr _ e0 hb r h => F.run A outer z H args us vs Q E hr e0 hb r h⟩
theorem fnG_of {P : Program} {w : World} {K : PySem.W.Frag} {mg : Str → Option Value} {base : Heap} {k : Nat} {f : Addr} {x : Str} {st : Stmt} {fd : FuncData} {N ps : List Str} {sp : Sp} (F : C8.Fun K x x st f fd) (S : FnScope N ps (C8.fnScope st))
    (len : ∀ vs H Q E, sp vs H Q E → vs.length = ps.length)
    (body : ∀ (cdv : Value) (A : Around) (outer : List Env) (z : Shared) (H : Hp) (vs : List V) (Q : VK) (E : XK), Room k (A.deeper (envOfC x (C8.fnScope st) z.heap.objs.size f cdv)) → A.guards = some [] → sp vs H Q E →
      ∃ t, PSs (cxOf C8.CX0 P w K mg base N x (C8.fnScope st) f cdv A outer z H E).nox (C8.fnBody st) t ∧ t { nx := fun _ H' => Q .non H', rt := Q } (start N vs) H) : FnG P w K mg base (k + 1) f fd ps sp := by
  obtain ⟨_, _, _, _, _, _, _, cdv, _, _, rfl, lk, hc⟩ := F.ex
  refine ⟨len, fun A outer z H args us vs Q E room gd en bnd va want => ?_⟩
  have ln := len _ _ _ _ want
  have up : ∀ b o, base.get? b = some o → z.heap.get? b = some o := fun b o e => (en.bs b o e).1
  have inK : K.In z.heap := en.mod.kin.keeps up
  have kinds : ∀ y ∈ ps.zip us, (C8.fnScope st).names.lookup y.1 = some .local ∨ ((C8.fnScope st).names.lookup y.1 = some .cell ∧ ((cellsFrom (z.heap.objs.size + 1) (C8.fnScope st).names []).lookup y.1).isSome = true) := by
    intro y hy
    have := S.par y.1 (List.of_mem_zip (a := y.1) (b := y.2) hy).1
    cases this with
    | inl a => exact .inl a
    | inr a => exact .inr ⟨a, PySem.W.cellsFrom_some _ _ _ (.inl a)⟩
  refine codeAny_call_function room.depth (inK _ _ lk) rfl S.co S.gen rfl (PySem.W.codeRec_of inK hc) (bnd _ _ _ _ (wpAny_newFunctionEnv_cells S.kind kinds fun env he z1 call => ?_))
  subst he
  refine ⟨(en.mod.nolimit.keeps up).keeps call.toInCall.keep, codeAny_func ?_⟩
  obtain ⟨t, ht, ok⟩ := body cdv A outer z H vs Q E (room.deeper _) gd want
  refine wpAny_mono (ht.nox.run [] z1 (start N vs) H _ (inv_start S room.hd en ln va call) ok) (fun fl z' got => ?_) fun e z' got => got
  have last : ∀ {σ' : L2.St} {H' : Hp} {v : V} {u : Value}, Inv (cxOf C8.CX0 P w K mg base N x (C8.fnScope st) f cdv A outer z H E) [] σ' H' z' → RelV v u → Q v H' → CE outer P w H z Q u z' :=
    fun {_ H' v _} J a b => ⟨v, H', J.os, J.bare, J.base, J.hok, a, b⟩
  cases fl with
  | ret u =>
    obtain ⟨v, _, H', J, a, b⟩ := got
    exact last J a b
  | next =>
    obtain ⟨_, H', J, b⟩ := got
    exact last (v := V.non) (u := Value.none) J rfl b
  | brk => exact got.choose_spec.choose_spec.2.elim
  | cont => exact got.choose_spec.choose_spec.2.elim
/-- a def by its name -/
structure CalG (P : Program) (w : World) (K : PySem.W.Frag) (mg : Str → Option Value) (base : Heap) (k : Nat) (x : Str) (sp : Sp) : Prop where
  ex : ∃ (f : Addr) (fd : FuncData) (ps : List Str), FnG P w K mg base k f fd ps sp ∧ mg x = some (.ref f) ∧ PySem.W.keepIn K (.ref f) = true ∧ Binds K fd ps []
theorem calG {P : Program} {w : World} {K : PySem.W.Frag} {mg : Str → Option Value} {base : Heap} {x : Str} {st : Stmt} {N ps : List Str} {k : Nat} {sp : Sp} (D : DefF K mg x st ps) (S : FnScope N ps (C8.fnScope st))
    (len : ∀ vs H Q E, sp vs H Q E → vs.length = ps.length)
    (body : ∀ (f : Addr) (cdv : Value) (A : Around) (outer : List Env) (z : Shared) (H : Hp) (vs : List V) (Q : VK) (E : XK), Room k (A.deeper (envOfC x (C8.fnScope st) z.heap.objs.size f cdv)) → A.guards = some [] → sp vs H Q E →
      ∃ t, PSs (cxOf C8.CX0 P w K mg base N x (C8.fnScope st) f cdv A outer z H E).nox (C8.fnBody st) t ∧ t { nx := fun _ H' => Q .non H', rt := Q } (start N vs) H) : CalG P w K mg base (k + 1) x sp := by
  obtain ⟨f, fd, F, b⟩ := D.ex
  exact ⟨f, fd, ps, fnG_of F.fn S len (body f), F.mgf, F.kp, .all b⟩
section
variable {X : Cx} {k j : Nat} {x : Str} {sp : Sp} {p pos : Pos} {e : Expr} {es : List Expr} {t : TA}
theorem run_fnG {pins : List (Addr × Obj)} {σ : L2.St} {H : Hp} {z : Shared} {Q : VK} {us : List Value} {vs : List V} {f : Addr} {fd : FuncData} {ps : List Str} (F : FnG X.prog X.w X.K X.mg X.base k f fd ps sp) (room : Room k X.A) (gd : X.A.guards = some [])
    (b : Binds X.K fd ps []) (I : Inv X pins σ H z) (r : Vals vs us) (h : sp (vs ++ []) H Q E0) : wpAny (model X.prog X.w) X.A (call (.ref f) us) (EP X pins σ Q) X.xe z := by
  rw [List.append_nil] at h
  have ll : (us ++ []).length = ps.length := by
    rw [List.append_nil, ← r.length]
    exact F.len _ _ _ _ h
  have bb := b z us I.kIn ll
  rw [List.append_nil] at bb
  refine wpAny_call (codeAny_mono (F.go X.A X.stack z H ⟨us, []⟩ us vs Q E0 room gd I.env0 bb r h) fun res z' got => ?_)
  match res, got with
  | .ok (.ret u), got => exact I.after got
  | .error e, got => exact pass0 pins σ H z e z' I got
theorem pe_cG (c : CalG X.prog X.w X.K X.mg X.base k x sp) (hr : Room j X.A) (gd : X.A.guards = some []) (hk : k ≤ j) (hg : Gl X x) (ha : PA X (e :: es) t)
    (hdb : (x == ("__debug__" : Str)) = false := by decide) (he : starEach (e :: es) X.env = (false, eval e X.env) :: starEach es X.env := by rfl) (hpl : (backTo pos (starEach es X.env)).any (·.1) = false := by rfl) :
    PE X (.Call (.Name x p) (e :: es) [] pos) (tCall sp [] E0 t) := by
  obtain ⟨f, fd, ps, F, hm, kp, b⟩ := c.ex
  refine ⟨fun pins s σ H Q I h => wpAny_Call_Name_kw (ld_glob I hg hm ?_ hdb)⟩
  exact PySem.W.callWith_K (h₀ := X.base) I.ok.mod.kin kp (thn (ha.run pos pins s σ H _ I h) fun us s1 ⟨vs, H1, I1, r, q⟩ => ⟨I1.kIn, run_fnG F (hr.mono hk) gd b I1 r q⟩) he hpl
theorem pe_cG0 (c : CalG X.prog X.w X.K X.mg X.base k x sp) (hr : Room j X.A) (gd : X.A.guards = some []) (hk : k ≤ j) (hg : Gl X x)
    (hdb : (x == ("__debug__" : Str)) = false := by decide) :
    PE X (.Call (.Name x p) [] [] pos) (tCall sp [] E0 tNil) := by
  obtain ⟨f, fd, ps, F, hm, kp, b⟩ := c.ex
  refine ⟨fun pins s σ H Q I h => wpAny_Call_Name_kw (ld_glob I hg hm ?_ hdb)⟩
  exact PySem.W.callWith_K0 I.kIn kp (run_fnG (us := []) F (hr.mono hk) gd b I .nil h)
/-- repr of data -/
theorem call_repr (hr : Room j X.A) (gd : X.A.guards = some []) : CallR X (.builtin "repr") (fun xs H Q => ∃ (v : V) (d : PyData), xs = [v] ∧ Dp X.K H v d ∧ d.showable = true ∧ d.hasDict = false ∧ d.depth ≤ 60 ∧ d.shown.length ≤ sizeLine ∧ Q (.str d.shown) H) := by
  intro pins s σ H xs us Q I r h
  obtain ⟨v, d, rfl, dp, hs, hd, hdep, hz, q⟩ := h
  obtain ⟨u, rfl, rx⟩ := vals1 r
  obtain ⟨as, rd⟩ := Dp.reads I d v u dp rx
  have hu := hr.units
  have fin : ∀ (a : Addr) (d : PyData), Reads s.heap (.ref a) d as → d.showable = true → d.hasDict = false → d.depth ≤ 60 → d.shown.length ≤ sizeLine → Q (.str d.shown) H →
      wpAny (model X.prog X.w) X.A (call (.builtin "repr") [.ref a]) (EP X pins σ Q) X.xe s := fun a d rd hs hd hdep hz q =>
    repr_of_reads' rd hs (PyData.noDict_hsm hd) gd (by omega) (fun _ _ e => e) (fun h' u tk hk => ⟨.str _, H, I.kept (t' := tk) hk, ⟨u, rfl⟩, q⟩) hz
  cases rd with
  | none => exact PySem.P.repr_of_none ⟨.str _, H, I.tok _, ⟨_, rfl⟩, by simpa only [PyData.shown] using q⟩
  | bool b => exact PySem.P.repr_of_bool ⟨.str _, H, I.tok _, ⟨_, rfl⟩, by simpa only [PyData.shown] using q⟩
  | int i t => exact PySem.P.repr_of_int (by simpa [PyData.showable] using hs) ⟨.str _, H, I.tok _, ⟨_, rfl⟩, by simpa only [PyData.shown] using q⟩
  | str y t => exact PySem.P.repr_of_str ⟨.str _, H, I.tok _, ⟨_, rfl⟩, by simpa only [PyData.shown] using q⟩ (by simpa only [PyData.shown] using hz)
  | list a b c e => exact fin _ _ (.list a b c e) hs hd hdep hz q
  | tuple a b c e => exact fin _ _ (.tuple a b c e) hs hd hdep hz q
  | dict a b c e g => exact fin _ _ (.dict a b c e g) hs hd hdep hz q
end
end CK

set_option Elab.async false
set_option linter.all false
set_option maxRecDepth 100000
set_option maxHeartbeats 2000000
/-! the law's end, where no repr is under way -/
namespace CK
open PySem PySem.Spec PyProof.Rows L2
theorem DefF.oneG {K : PySem.W.Frag} {mg : Str → Option Value} {x p : Str} {st : Stmt} (D : DefF K mg x st [p]) : ∃ (f : Addr) (fd : FuncData), mg x = some (.ref f) ∧ (∀ (s : Shared) (v : Value), BindsTo s fd ⟨[v], []⟩ [(p, v)]) ∧
    ∀ {P : Program} {w : World} {base : Heap} {N : List Str} {k : Nat} {sp : Sp} (S : FnScope N [p] (C8.fnScope st)) (len : ∀ vs H Q E, sp vs H Q E → vs.length = 1)
      (body : ∀ (cdv : Value) (A : Around) (outer : List Env) (z : Shared) (H : Hp) (vs : List V) (Q : VK) (E : XK), Room k (A.deeper (envOfC x (C8.fnScope st) z.heap.objs.size f cdv)) → A.guards = some [] → sp vs H Q E →
        ∃ t, PSs (cxOf C8.CX0 P w K mg base N x (C8.fnScope st) f cdv A outer z H E).nox (C8.fnBody st) t ∧ t { nx := fun _ H' => Q .non H', rt := Q } (start N vs) H), FnG P w K mg base (k + 1) f fd [p] sp := by
  obtain ⟨f, fd, F, b⟩ := D.ex
  exact ⟨f, fd, F.mgf, fun s v => .of_eq (b [v] rfl), fun S len body => fnG_of F.fn S len body⟩
section
variable {P : Program} {w : World} {K : PySem.W.Frag} {mg mb : Str → Option Value} {k : Nat} {fa a : Addr} {fd : FuncData} {x : Str} {sp : Sp} {z : Shared} {vs : List Value} {ns : List Int}
/-- from an abstract heap H that tracks the script at most -/
theorem callG_at (inK : K.In z.heap) (gl : z.heap.Ns mainGlobals mg) (bl : z.heap.Ns builtinsNs mb) (bb : ∀ x : Str, x ≠ "__name__" → mb x = bootBuiltins x) (lim : z.heap.NoLimit) (gens : z.gens = #[])
    (scr : z.heap.get? a = some { cls := .type "list", data := .seq vs.toArray }) (room : Room k callerA)
    (F : ∀ base : Heap, K.In base → base.Ns mainGlobals mg → FnG P w K mg base k fa fd [x] sp) (bind : ∀ (s : Shared) (u : Value), BindsTo s fd ⟨[u], []⟩ [(x, u)])
    (H : Hp) (only : Only H) (want : sp [.ref a] H (fun v _ => v = .bl true) fun _ _ _ => False) (hok : HOk P w H z.heap) (alone : ∀ b, H b ≠ none → b = a) (apart : H a ≠ none → K.lookup a = none) :
    codeAny (model P w) callerA (.call (.ref fa) ⟨[.ref a], []⟩) (fun r s' => r = .ok (.ret (.bool true)) ∧ OldK z.heap s'.heap ∧ s'.os = z.os ∧ AllBare s'.gens) z := by
  have isA : ∀ {b : Addr} {u : HO}, H b = some u → b = a := fun {b u} e => alone b fun n => by rw [n] at e; cases e
  have hid : ∀ {b : Addr} {m : Str → Option Value}, z.heap.Ns b m → (hidT z.heap H).Ns b m := by
    intro b m h
    obtain ⟨o, es, ep, e, dt, rest⟩ := h
    refine ⟨o, es, ep, hidT_get e ?_, dt, rest⟩
    match q : H b with
    | none => rfl
    | some u =>
      rw [isA q, scr] at e
      cases e
      exact absurd dt (fun y => by cases y)
  have inB : K.In (hidT z.heap H) := by
    intro b o e
    refine hidT_get (inK b o e) ?_
    match q : H b with
    | none => rfl
    | some u =>
      have ba := isA q
      subst ba
      rw [apart (by rw [q]; exact fun y => by cases y)] at e
      exact absurd e (fun y => by cases y)
  obtain ⟨mc, l1, l2⟩ := lim
  have md : Mod K mg (hidT z.heap H) := ⟨inB, hid gl, ⟨mb, hid bl, bb⟩, ⟨mc, hid l1, l2⟩⟩
  have en : Env0 P w K mg (hidT z.heap H) callerA [] z H :=
    { frames := rfl, mod := md, bs := fun b o e => of_hidT e, bsz := Nat.le_of_eq (hidT_size _ _), funs := trivial, frf := fun b hb => absurd (show b ∈ ([] : List Addr) from hb) List.not_mem_nil, hok := hok, bare := .of_eq gens }
  refine codeAny_mono ((F _ inB (hid gl)).go callerA [] z H ⟨[.ref a], []⟩ [.ref a] [.ref a] _ _ room rfl en (bind z (.ref a)) (.cons rfl .nil) want) fun r s' got => ?_
  match r, got with
  | .ok (.ret u), got =>
    obtain ⟨v, H', os, bare, un, hok', rv, q⟩ := got
    have q : v = .bl true := q
    subst q
    have eu : u = Value.bool true := rv
    subst eu
    refine ⟨rfl, OldK.of_keep fun b o e => ?_, os, bare⟩
    match q : H b with
    | none => exact un.keep b o e q (fun y => absurd (show b ∈ ([] : List Addr) from y) List.not_mem_nil) List.not_mem_nil
    | some u =>
      obtain y | ⟨ob, xs, y⟩ := only b
      · exact absurd (q.symm.trans y) (fun y => by cases y)
      · have o1 := (hok b _ y).1
        have o2 := (hok' b _ (un.frzs b ob _ y)).1
        rw [e] at o1
        rw [Option.some.inj o1]
        exact o2
  | .error e, got => exact absurd got (fun y => nomatch y)
theorem callG (inK : K.In z.heap) (gl : z.heap.Ns mainGlobals mg) (bl : z.heap.Ns builtinsNs mb) (bb : ∀ x : Str, x ≠ "__name__" → mb x = bootBuiltins x) (lim : z.heap.NoLimit) (gens : z.gens = #[])
    (scr : z.heap.get? a = some { cls := .type "list", data := .seq vs.toArray }) (nums : IntsAre vs ns) (len : ns.length ≤ sizeLine) (room : Room k callerA)
    (F : ∀ base : Heap, K.In base → base.Ns mainGlobals mg → FnG P w K mg base k fa fd [x] sp) (bind : ∀ (s : Shared) (u : Value), BindsTo s fd ⟨[u], []⟩ [(x, u)])
    (want : ∀ H : Hp, Only H → SqL K H a (ns.map V.int) → sp [.ref a] H (fun v _ => v = .bl true) fun _ _ _ => False) :
    codeAny (model P w) callerA (.call (.ref fa) ⟨[.ref a], []⟩) (fun r s' => r = .ok (.ret (.bool true)) ∧ OldK z.heap s'.heap ∧ s'.os = z.os ∧ AllBare s'.gens) z := by
  have vals := vals_ints nums
  match look : K.lookup a with
  | some o =>
    have e := inK a o look
    rw [scr] at e
    obtain rfl := Option.some.inj e
    refine callG_at inK gl bl bb lim gens scr room F bind (fun _ => none) (fun _ => .inl rfl) (want _ (fun _ => .inl rfl) (.inr ?_)) (fun b u y => absurd y (fun q => by cases q)) (fun b y => absurd rfl y) (fun y => absurd rfl y)
    exact ⟨_, vs.toArray, _, look, rfl, rfl, rfl, by rw [List.size_toArray, nums.length]; exact len, by simpa using vals⟩
  | none =>
    have at_ : ∀ b, (if b = a then some (HO.frz { cls := .type "list", data := .seq vs.toArray } (.lst (ns.map V.int))) else none) ≠ none → b = a := fun b y => by
      by_cases e : b = a
      · exact e
      · rw [if_neg e] at y
        exact absurd rfl y
    have only : Only fun b => if b = a then some (HO.frz { cls := .type "list", data := .seq vs.toArray } (.lst (ns.map V.int))) else none := fun b => by
      by_cases e : b = a
      · exact .inr ⟨_, _, if_pos e⟩
      · exact .inl (if_neg e)
    refine callG_at inK gl bl bb lim gens scr room F bind _ only (want _ only (.inl (.inr ⟨_, if_pos rfl⟩))) (fun b u y => ?_) at_ fun _ => look
    have e := at_ b (fun q => by have := q.symm.trans y; cases this)
    subst e
    have y' := (if_pos rfl).symm.trans y
    obtain rfl := Option.some.inj y'
    exact ⟨scr, by rw [List.length_map]; exact len, vs, _, vals, scr⟩
end
/-- what k_head leaves, from the law's promise -/
theorem walkG {l : PySem.W.OpenLaw} {n k : Nat} {q : Program} {loose : List Str} {XP : (Str → Option Value) → Heap → Prop} {YP : World → Heap → Prop} {d : DefRec} {K : Params → PySem.W.Frag} {sp : World → Sp} {x : Str}
    (most : l.most = some n) (small : n ≤ sizeLine) (plain : d.params.defaults = []) (room : Room k callerA) (inK : ∀ (w : World) (h : Heap), YP w h → (K w.params).In h)
    (F : ∀ (w : World) (mg : Str → Option Value) (fa : Addr) (h : Heap), (K w.params).In h → h.Ns mainGlobals mg → mg d.name = some (.ref fa) → ∃ fd : FuncData,
      (∀ (s : Shared) (u : Value), BindsTo s fd ⟨[u], []⟩ [(x, u)]) ∧ ∀ base : Heap, (K w.params).In base → base.Ns mainGlobals mg → FnG l.prog w (K w.params) mg base k fa fd [x] (sp w))
    (want : ∀ (w : World) (H : Hp) (a : Addr) (ns : List Int), ns.length ≤ n → Only H → SqL (K w.params) H a (ns.map V.int) → sp w [.ref a] H (fun v _ => v = .bl true) fun _ _ _ => False) :
    PySem.W.WalkO q loose XP YP l.row.toRowW d [] (fun f vs => PySem.call f vs) := by
  refine Att.attach_call most plain fun w _ z mg mb fa _ _ _ _ a vs ns G Y _ _ _ hmg scr nums hl gens => ?_
  have h1 := inK w _ Y
  obtain ⟨fd, bind, hF⟩ := F w mg fa _ h1 G.T.g hmg
  exact callG h1 G.T.g G.T.b G.T.builtins G.T.nolimit gens scr nums (Nat.le_trans hl small) room hF bind fun H hO hS => want w H a ns hl hO hS
end CK

set_option Elab.async false
set_option linter.all false
set_option maxRecDepth 100000
set_option maxHeartbeats 2000000
/-! comprehensions with a test; equality of data made of whole numbers -/
namespace CK
open PySem PySem.Spec PyProof.Rows L2
/-- n turns, each kept if b i, giving f i, leaving all that was tracked -/
theorem lc_filtW {J : It} {n : Nat} {G : Hp → Prop} {Y : Nat → Hp → V → Hp → Prop} (w : Walk J n G Y) {g : TG} {tt : TT} {te : TE} {vs : List Nat} {σ : L2.St} {H1 : Hp} {D : Addr} {Qd : Hp → Prop} (b : Nat → Bool) (f : Nat → V) (hn : n < sizeLine)
    (hG : ∀ H, Same H1 H → G H)
    (hs : ∀ (i : Nat) (x : V) (H H' : Hp) (R : VK) (R0 : Hp → Prop), i < n → Same H1 H → Y i H x H' → (b i = true → ∀ H'', Same H H'' → R (f i) H'') → (b i = false → ∀ H'', Same H H'' → R0 H'') →
      g x (wipe σ vs) H' fun σ2 H2 => wipe σ2 vs = wipe σ vs ∧ tt σ2 H2 fun c H3 => if c = true then te σ2 H3 R else R0 H3)
    (hD : H1 D = none) (hd : ∀ H : Hp, Same H1 H → H D = some (.lst (((List.range n).filter b).map f)) → Qd H) :
    ∃ W : Nat → Nat → Hp → Prop, (∃ m, W 0 m (upd H1 D (.lst []))) ∧ ∀ i m H, W i m H →
      (J.stop i H ∧ Qd H) ∨ (J.go i H ∧ ∃ Nx : Hp → Prop, (∀ H', Nx H' → ∃ m', m' < m ∧ W (i + 1) m' H') ∧ ∀ x H', J.yld i H x H' → g x (wipe σ vs) H' fun σ2 H2 => wipe σ2 vs = wipe σ vs ∧ tt σ2 H2 fun b H3 =>
        if b = true then te σ2 H3 fun y H4 => ∃ acc, H4 D = some (.lst acc) ∧ acc.length < sizeLine ∧ Nx (upd H4 D (.lst (acc ++ [y]))) else Nx H3) := by
  refine lc_it w (fun i H => Same H1 H ∧ H D = some (.lst (((List.range i).filter b).map f)) ∧ i ≤ n) ⟨sameNew hD, upd_same, Nat.zero_le _⟩ (fun i H _ p => hG H p.1) (fun i x H H' hi p y => ?_) fun H p => hd H p.1 p.2.1
  refine hs i x H H' _ _ hi p.1 y (fun hb H'' s => ?_) fun hb H'' s => ?_
  · refine ⟨_, s D _ p.2.1, ?_, same_upd2 hD (p.1.trans s), ?_, hi⟩
    · have := List.length_filter_le b (List.range i)
      rw [List.length_range] at this
      rw [List.length_map]
      omega
    · rw [upd_same, List.range_succ, List.filter_append, List.map_append, List.filter_cons_of_pos hb]
      rfl
  · refine ⟨p.1.trans s, ?_, hi⟩
    rw [s D _ p.2.1, List.range_succ, List.filter_append, List.filter_cons_of_neg (by rw [hb]; exact Bool.false_ne_true), List.filter_nil, List.append_nil]
theorem filt_nil (b : Nat → Bool) (f : Nat → V) (n : Nat) : ((List.range n).filter b).map f = [] ↔ ∀ i, i < n → b i = false := by
  rw [List.map_eq_nil_iff, List.filter_eq_nil_iff]
  constructor
  · intro h i hi
    have := h i (List.mem_range.mpr hi)
    simpa using this
  · intro h i hi
    rw [h i (List.mem_range.mp hi)]
    exact Bool.false_ne_true
/-- over zip -/
theorem lcZ_filt {K : PySem.W.Frag} {k k' : Kd} {a c : Addr} {xs ys : List V} {i1 i2 : Nat} {tt : TT} {te : TE} {vs : List Nat} {σ : L2.St} {H1 : Hp} {D : Addr} {Qd : Hp → Prop} (b : Nat → Bool) (f : Nat → V) (hl : xs.length = ys.length) (hn : xs.length < sizeLine)
    (ha : ∀ H, Same H1 H → SqB K k H a xs ∧ SqB K k' H c ys)
    (hs : ∀ (i : Nat) (x y : V) (H : Hp) (R : VK) (R0 : Hp → Prop), xs[i]? = some x → ys[i]? = some y → Same H1 H → (b i = true → ∀ H', Same H H' → R (f i) H') → (b i = false → ∀ H', Same H H' → R0 H') →
      wipe (((wipe σ vs).set i1 (some x)).set i2 (some y)) vs = wipe σ vs ∧ tt (((wipe σ vs).set i1 (some x)).set i2 (some y)) H fun c H3 => if c = true then te (((wipe σ vs).set i1 (some x)).set i2 (some y)) H3 R else R0 H3)
    (hD : H1 D = none) (hd : ∀ H : Hp, Same H1 H → H D = some (.lst (((List.range xs.length).filter b).map f)) → Qd H) :
    ∃ W : Nat → Nat → Hp → Prop, (∃ m, W 0 m (upd H1 D (.lst []))) ∧ ∀ i m H, W i m H →
      ((ItB K k k' a c).stop i H ∧ Qd H) ∨ ((ItB K k k' a c).go i H ∧ ∃ Nx : Hp → Prop, (∀ H', Nx H' → ∃ m', m' < m ∧ W (i + 1) m' H') ∧ ∀ x H', (ItB K k k' a c).yld i H x H' → gTup K 2 (gCons (gName i1) (gCons (gName i2) gNil)) x (wipe σ vs) H' fun σ2 H2 => wipe σ2 vs = wipe σ vs ∧ tt σ2 H2 fun b H3 =>
        if b = true then te σ2 H3 fun y H4 => ∃ acc, H4 D = some (.lst acc) ∧ acc.length < sizeLine ∧ Nx (upd H4 D (.lst (acc ++ [y]))) else Nx H3) := by
  refine lc_filtW (walkB (K := K) (k := k) (k' := k') (a := a) (b := c) hl) b f hn ha (fun i v H H' R R0 hi s y q q0 => ?_) hD hd
  obtain ⟨T, x, y, rfl, hT, rfl, hx, hy⟩ := y
  have hx : xs[i]? = some x := hx
  have hy : ys[i]? = some y := hy
  have st : Same H (upd H T (.tup [x, y])) := sameNew hT
  exact ⟨T, [x, y], rfl, .inl (.inl upd_same), rfl, x, [y], rfl, y, [], rfl, rfl, hs i x y _ R R0 hx hy (s.trans st) (fun hb H'' s' => q hb H'' (st.trans s')) fun hb H'' s' => q0 hb H'' (st.trans s')⟩
/-- over a list -/
theorem lcL_filt {K : PySem.W.Frag} {a : Addr} {xs : List V} {j : Nat} {tt : TT} {te : TE} {vs : List Nat} {σ : L2.St} {H1 : Hp} {D : Addr} {Qd : Hp → Prop} (b : Nat → Bool) (f : Nat → V) (ha : ∀ H, Same H1 H → SqL K H a xs) (hn : xs.length < sizeLine)
    (hs : ∀ (i : Nat) (x : V) (H : Hp) (R : VK) (R0 : Hp → Prop), xs[i]? = some x → Same H1 H → (b i = true → ∀ H', Same H H' → R (f i) H') → (b i = false → ∀ H', Same H H' → R0 H') →
      wipe ((wipe σ vs).set j (some x)) vs = wipe σ vs ∧ tt ((wipe σ vs).set j (some x)) H fun c H3 => if c = true then te ((wipe σ vs).set j (some x)) H3 R else R0 H3)
    (hD : H1 D = none) (hd : ∀ H : Hp, Same H1 H → H D = some (.lst (((List.range xs.length).filter b).map f)) → Qd H) :
    ∃ W : Nat → Nat → Hp → Prop, (∃ m, W 0 m (upd H1 D (.lst []))) ∧ ∀ i m H, W i m H →
      ((Itl K a).stop i H ∧ Qd H) ∨ ((Itl K a).go i H ∧ ∃ Nx : Hp → Prop, (∀ H', Nx H' → ∃ m', m' < m ∧ W (i + 1) m' H') ∧ ∀ x H', (Itl K a).yld i H x H' → gName j x (wipe σ vs) H' fun σ2 H2 => wipe σ2 vs = wipe σ vs ∧ tt σ2 H2 fun b H3 =>
        if b = true then te σ2 H3 fun y H4 => ∃ acc, H4 D = some (.lst acc) ∧ acc.length < sizeLine ∧ Nx (upd H4 D (.lst (acc ++ [y]))) else Nx H3) := by
  refine lc_filtW (walk_list (K := K) (a := a) (xs := xs)) b f hn ha (fun i v H H' R R0 hi s y q q0 => ?_) hD hd
  obtain ⟨rfl, hx⟩ := y
  exact hs i v H' R R0 hx s q q0
/-- over a tuple -/
theorem lcT_filt {K : PySem.W.Frag} {a : Addr} {xs : List V} {j : Nat} {tt : TT} {te : TE} {vs : List Nat} {σ : L2.St} {H1 : Hp} {D : Addr} {Qd : Hp → Prop} (b : Nat → Bool) (f : Nat → V) (ha : ∀ H, Same H1 H → SqT K H a xs) (hn : xs.length < sizeLine)
    (hs : ∀ (i : Nat) (x : V) (H : Hp) (R : VK) (R0 : Hp → Prop), xs[i]? = some x → Same H1 H → (b i = true → ∀ H', Same H H' → R (f i) H') → (b i = false → ∀ H', Same H H' → R0 H') →
      wipe ((wipe σ vs).set j (some x)) vs = wipe σ vs ∧ tt ((wipe σ vs).set j (some x)) H fun c H3 => if c = true then te ((wipe σ vs).set j (some x)) H3 R else R0 H3)
    (hD : H1 D = none) (hd : ∀ H : Hp, Same H1 H → H D = some (.lst (((List.range xs.length).filter b).map f)) → Qd H) :
    ∃ W : Nat → Nat → Hp → Prop, (∃ m, W 0 m (upd H1 D (.lst []))) ∧ ∀ i m H, W i m H →
      ((Itt K a).stop i H ∧ Qd H) ∨ ((Itt K a).go i H ∧ ∃ Nx : Hp → Prop, (∀ H', Nx H' → ∃ m', m' < m ∧ W (i + 1) m' H') ∧ ∀ x H', (Itt K a).yld i H x H' → gName j x (wipe σ vs) H' fun σ2 H2 => wipe σ2 vs = wipe σ vs ∧ tt σ2 H2 fun b H3 =>
        if b = true then te σ2 H3 fun y H4 => ∃ acc, H4 D = some (.lst acc) ∧ acc.length < sizeLine ∧ Nx (upd H4 D (.lst (acc ++ [y]))) else Nx H3) := by
  refine lc_filtW (walk_tup (K := K) (a := a) (xs := xs)) b f hn ha (fun i v H H' R R0 hi s y q q0 => ?_) hD hd
  obtain ⟨rfl, hx⟩ := y
  exact hs i v H' R R0 hx s q q0
/-- a tuple of the module's own -/
theorem tupF {K : PySem.W.Frag} {h : Heap} {mg : Str → Option Value} {x : Str} {f : Addr} {o : Obj} {its : Array Value} {n : Nat} {xs : List V} (X : K.In h) (G : h.Ns mainGlobals mg) (a : PySem.W.nsIn K mainGlobals x = some (some (.ref f))) (l : K.lookup f = some o)
    (hc : o.cls = .type "tuple") (hd : o.data = .seq its n) (hs : its.size ≤ sizeLine) (hv : Vals xs its.toList) : ∃ a, mg x = some (.ref a) ∧ ∀ H, SqT K H a xs :=
  ⟨f, PySem.W.mg_of X G a, fun H => .inr ⟨o, its, n, l, hc, hd, hs, hv⟩⟩
abbrev TupF (K : PySem.W.Frag) (mg : Str → Option Value) (x : Str) (xs : List V) : Prop := ∃ a, mg x = some (.ref a) ∧ ∀ H, SqT K H a xs
theorem with_tup {K : PySem.W.Frag} {h : Heap} {mg : Str → Option Value} (_ : K.In h) (x : Str) (xs : List V) {R : Prop} (d : TupF K mg x xs) (r : TupF K mg x xs → R) : R := r d
/-! data of whole numbers -/
theorem eqvAll_ints : ∀ f g : List Int, PyData.eqvAll (f.map PyData.int) (g.map PyData.int) = decide (f = g)
  | [], [] => by simp [PyData.eqvAll]
  | [], _ :: _ => by simp [PyData.eqvAll]
  | _ :: _, [] => by simp [PyData.eqvAll]
  | x :: f, y :: g => by
    rw [List.map_cons, List.map_cons, PyData.eqvAll, eqvAll_ints f g]
    simp [PyData.eqv, Bool.beq_eq_decide_eq]
theorem eqv_dI (f g : List Int) : PyData.eqv (dI f) (dI g) = decide (f = g) := by
  unfold dI
  simp only [PyData.eqv, eqvAll_ints]
def dLI (ns : List Int) : PyData := .list (ns.map PyData.int)
theorem eqv_dLI (f g : List Int) : PyData.eqv (dLI f) (dLI g) = decide (f = g) := by
  unfold dLI
  simp only [PyData.eqv, eqvAll_ints]
theorem shaped_dLI (ns : List Int) : SeqAt.shaped (dLI ns) = true := by
  unfold SeqAt.shaped dLI
  rw [PyData.canLay0, lay_ints, PyData.depth, deep_ints]
  decide
theorem dp_lints {K : PySem.W.Frag} {H : Hp} {a : Addr} {ns : List Int} (h : H a = some (.lst (ns.map V.int))) : Dp K H (.ref a) (dLI ns) := .lst (.inl (.inl h)) (dpAll_ints ns)
/-! repr of whole numbers -/
theorem shown_ints : ∀ ns : List Int, (∀ n ∈ ns, n.natAbs.log2 < 1920) → PyData.showableAll (ns.map PyData.int) = true
  | [], _ => by simp [PyData.showableAll]
  | n :: ns, h => by
    rw [List.map_cons, PyData.showableAll, shown_ints ns fun z hz => h z (List.mem_cons_of_mem _ hz)]
    simp [PyData.showable, h n List.mem_cons_self]
theorem noDict_ints : ∀ ns : List Int, PyData.hasDictAll (ns.map PyData.int) = false
  | [] => by simp [PyData.hasDictAll]
  | n :: ns => by
    rw [List.map_cons, PyData.hasDictAll, noDict_ints ns]
    simp [PyData.hasDict]
theorem piled_ints : ∀ ns : List Int, (∀ n ∈ ns, n.natAbs.log2 < 1920) → piled (PyData.shownAll (ns.map PyData.int)) ≤ ns.length * 1923
  | [], _ => Nat.zero_le _
  | n :: ns, h => by
    have a1 := int_text_length_le (a := n) (k := 1920) (by omega) (h n List.mem_cons_self)
    have a2 := piled_ints ns fun z hz => h z (List.mem_cons_of_mem _ hz)
    have a3 : ((toString n : Str)).length = (toString n).length := PySem.ofString_length _
    have e : PyData.shown (.int n) = (toString n : Str) := by simp only [PyData.shown]
    rw [List.map_cons, PyData.shownAll, piled_cons, List.length_cons, e]
    omega
theorem show_dI {ns : List Int} (h : ∀ n ∈ ns, n.natAbs.log2 < 1920) (hl : ns.length ≤ 100) : (dI ns).showable = true ∧ (dI ns).hasDict = false ∧ (dI ns).depth ≤ 60 ∧ (dI ns).shown.length ≤ sizeLine := by
  refine ⟨?_, ?_, by rw [deep_dI]; decide, ?_⟩
  · unfold dI
    rw [PyData.showable]
    exact shown_ints ns h
  · unfold dI
    rw [PyData.hasDict]
    exact noDict_ints ns
  · unfold dI
    rw [PyData.shown]
    have := fmt_text (PyData.shownAll (ns.map PyData.int))
    have := piled_ints ns h
    have : ns.length * 1923 ≤ 100 * 1923 := Nat.mul_le_mul_right _ hl
    rw [sizeLine_eq]
    omega
theorem log_lt {n : Int} (h : n.natAbs < 2 ^ 1900) : n.natAbs.log2 < 1920 := by
  by_cases z : n.natAbs = 0
  · rw [z]
    decide
  · have := (Nat.log2_lt z).mpr h
    omega
end CK

set_option Elab.async false
set_option linter.all false
set_option maxRecDepth 100000
set_option maxHeartbeats 2000000
/-! statements in order, tests that may end the call -/
namespace CK
open PySem PySem.Spec PyProof.Rows L2
theorem seq_cut {t u : TS} {D : Ends} {σ : L2.St} {H : Hp} (Mid : L2.St → Hp → Prop) (h1 : ∀ K : L2.St → Hp → Prop, (∀ σ' H', Mid σ' H' → K σ' H') → t { D with nx := K } σ H) (h2 : ∀ σ' H', Mid σ' H' → u D σ' H') : tSeq t u D σ H := h1 _ h2
/-- a test whose answer is b: what is within, and what follows -/
theorem if_dec {c : TT} {t u : TS} {D : Ends} {σ : L2.St} {H : Hp} (b : Bool) (h : ∀ R : Bool → Hp → Prop, (∀ H', Same H H' → R b H') → c σ H R)
    (yes : b = true → ∀ H', Same H H' → t { D with nx := fun σ' H'' => u D σ' H'' } σ H') (no : b = false → ∀ H', Same H H' → u D σ H') : tSeq (tIfS c t tNext) u D σ H :=
  h _ fun H' s => by
    cases b with
    | true => exact iteT (yes rfl H' s)
    | false => exact iteF (no rfl H' s)
/-- the last test of a block -/
theorem if_end {c : TT} {t u : TS} {D : Ends} {σ : L2.St} {H : Hp} (b : Bool) (h : ∀ R : Bool → Hp → Prop, (∀ H', Same H H' → R b H') → c σ H R)
    (yes : b = true → ∀ H', Same H H' → t D σ H') (no : b = false → ∀ H', Same H H' → u D σ H') : tIfS c t u D σ H :=
  h _ fun H' s => by
    cases b with
    | true => exact iteT (yes rfl H' s)
    | false => exact iteF (no rfl H' s)
theorem if_not {c : TT} {t u : TS} {D : Ends} {σ : L2.St} {H : Hp} (h : ∀ R : Bool → Hp → Prop, (∀ H', Same H H' → R false H') → c σ H R) (r : ∀ H', Same H H' → u D σ H') : tSeq (tIfS c t tNext) u D σ H :=
  h _ fun H' s => iteF (r H' s)
theorem yes_if {σ : L2.St} {H : Hp} {A B : Hp → Prop} (h : A H) : tYes σ H fun b H3 => if b = true then A H3 else B H3 := by
  show (if true = true then A H else B H)
  exact if_pos rfl ▸ h
end CK

set_option Elab.async false
set_option linter.all false
set_option maxRecDepth 100000
set_option maxHeartbeats 2000000
/-! defs, methods and classes with defaults, called with keywords alone or with fewer arguments -/
namespace CK
open PySem PySem.Spec PyProof.Rows L2
/-- a def with defaults as it stands -/
structure DefD (K : PySem.W.Frag) (mg : Str → Option Value) (x : Str) (st : Stmt) (dvs : List V) (kws : List (Str × V)) : Prop where
  ex : ∃ (f : Addr) (fd : FuncData), FunD K x x (C8.fnArgs st) (C8.fnBody st) (C8.fnScope st) dvs kws f fd ∧ mg x = some (.ref f)
/-- a method with defaults -/
structure MetD (K : PySem.W.Frag) (C : Addr) (m q : Str) (st : Stmt) (dvs : List V) (kws : List (Str × V)) : Prop where
  ex : ∃ (f : Addr) (fd : FuncData), FunD K m q (C8.fnArgs st) (C8.fnBody st) (C8.fnScope st) dvs kws f fd ∧ Meth K C m f
theorem fun_of {K : PySem.W.Frag} {x q : Str} {st : Stmt} {dvs : List V} {kws : List (Str × V)} {f : Addr} {fd : FuncData} (F : FunD K x q (C8.fnArgs st) (C8.fnBody st) (C8.fnScope st) dvs kws f fd) : C8.Fun K x q st f fd := by
  obtain ⟨oc, od, dV, kV, doc, pm, an, cdv, ct, osl, rfl, lk, hcd, _, _⟩ := F.ex
  exact ⟨oc, od, dV, kV, doc, pm, an, cdv, ct, osl, rfl, lk, hcd⟩
theorem defD_mk {K : PySem.W.Frag} {h : Heap} {mg : Str → Option Value} (x : Str) (st : Stmt) (dvs : List V) (kws : List (Str × V)) {f : Addr} {od an : Option Addr} {oc dV kV dc pm cd ct : Value} {sl : Array (Option Value)}
    (X : K.In h) (G : h.Ns mainGlobals mg) (a : PySem.W.nsIn K mainGlobals x = some (some (.ref f)))
    (l : K.lookup f = some ⟨oc, od, .func (PySem.W.fnOf x x (C8.fnArgs st) (C8.fnBody st) (C8.fnScope st) dV kV dc pm an cd ct), sl⟩)
    (c : PySem.W.codeIn K cd x = true) (k : PySem.W.keepIn K (.ref f) = true) (dd : DflV K dV dvs) (kk : KwdV K kV kws) : DefD K mg x st dvs kws :=
  ⟨f, _, ⟨⟨oc, od, dV, kV, dc, pm, an, cd, ct, sl, rfl, l, c, dd, kk⟩, k⟩, PySem.W.mg_of X G a⟩
theorem metD_mk {K : PySem.W.Frag} {mg : Str → Option Value} {x : Str} {C : Addr} (_ : ClF K mg x C) (m q : Str) (st : Stmt) (dvs : List V) (kws : List (Str × V)) {f : Addr} {od an : Option Addr} {oc dV kV dc pm cd ct : Value} {sl : Array (Option Value)}
    (a : PySem.W.findIn K (.ref C) m = some (some (.ref f))) (i : PySem.W.isFn K (.ref f) = true)
    (l : K.lookup f = some ⟨oc, od, .func (PySem.W.fnOf m q (C8.fnArgs st) (C8.fnBody st) (C8.fnScope st) dV kV dc pm an cd ct), sl⟩)
    (c : PySem.W.codeIn K cd q = true) (k : PySem.W.keepIn K (.ref f) = true) (dd : DflV K dV dvs) (kk : KwdV K kV kws) : MetD K C m q st dvs kws :=
  ⟨f, _, ⟨⟨oc, od, dV, kV, dc, pm, an, cd, ct, sl, rfl, l, c, dd, kk⟩, k⟩, ⟨a, i, k⟩⟩
theorem with_defD {K : PySem.W.Frag} {h : Heap} {mg : Str → Option Value} (_ : K.In h) (x : Str) (st : Stmt) (dvs : List V) (kws : List (Str × V)) {R : Prop} (d : DefD K mg x st dvs kws) (r : DefD K mg x st dvs kws → R) : R := r d
theorem with_metD {K : PySem.W.Frag} {mg : Str → Option Value} {x : Str} {C : Addr} (_ : ClF K mg x C) (m q : Str) (st : Stmt) (dvs : List V) (kws : List (Str × V)) {R : Prop} (d : MetD K C m q st dvs kws) (r : MetD K C m q st dvs kws → R) : R := r d
/-- keyword-only defaults, one by one -/
theorem kwd_nil {K : PySem.W.Frag} {kV : Value} : KwdV K kV [] := .inl rfl
theorem kwd_cons {K : PySem.W.Frag} {D : Addr} {x : Str} {v : V} {u : Value} {kws : List (Str × V)} (h : PySem.W.nsIn K D x = some (some u)) (r : RelV v u) (t : KwdV K (.ref D) kws) : KwdV K (.ref D) ((x, v) :: kws) := by
  refine .inr ⟨D, rfl, fun q hq => ?_⟩
  rcases List.mem_cons.mp hq with rfl | hq
  · exact ⟨u, h, r⟩
  · rcases t with rfl | ⟨D', e, t⟩
    · cases hq
    · cases e
      exact t q hq
theorem dfl_nil {K : PySem.W.Frag} : DflV K .none [] := .inl ⟨rfl, rfl⟩
theorem dfl_one {K : PySem.W.Frag} {T : Addr} {o : Obj} {v : V} {u : Value} {n : Nat} (l : K.lookup T = some o) (d : o.data = .seq #[u] n) (r : RelV v u) : DflV K (.ref T) [v] := .inr ⟨List.cons_ne_nil _ _, T, o, [u], n, rfl, l, d, .cons r .nil⟩
theorem FunD.kbindsN {K : PySem.W.Frag} {x qual : Str} {params : Arguments} {body : List Stmt} {scope : Scope} {f : Addr} {fd : FuncData} {ps : List Str} (F : FunD K x qual params body scope [] [] f fd) (n : Nat) (ks : List Str) (g : {α : Type} → List α → List α → List α)
    (hrel : ∀ {vs zs : List V} {us ws : List Value}, Vals vs us → Vals zs ws → Vals (g vs zs) (g us ws))
    (h : ∀ (kV doc pm : Value) (an : Option Addr) (cdv ct : Value) (us ws : List Value), us.length = n → ws.length = ks.length → bindArgs (PySem.W.fnOf x qual params body scope .none kV doc pm an cdv ct) ⟨us, ks.zip ws⟩ = pure (ps.zip (g us ws))) :
    KBn K fd ps n ks (fun us ws => g us ws) (fun vs zs => g vs zs) := by
  obtain ⟨oc, od, dV, kV, doc, pm, an, cdv, ct, osl, rfl, lk, hcd, hD, hK⟩ := F.ex
  rcases hD with ⟨_, rfl⟩ | ⟨e, _⟩
  · exact ⟨fun s us ws X l1 l2 => .of_eq (h kV doc pm an cdv ct us ws l1 l2), fun r1 r2 => hrel r1 r2⟩
  · exact absurd rfl e
/-! ### calls -/
structure CalN (P : Program) (w : World) (K : PySem.W.Frag) (mg : Str → Option Value) (base : Heap) (k : Nat) (x : Str) (ks : List Str) (sp : Sp) (gV : List V → List V → List V) : Prop where
  ex : ∃ (f : Addr) (fd : FuncData) (ps : List Str) (g : List Value → List Value → List Value), FnOk P w K mg base C8.CX0 k f fd ps sp ∧ mg x = some (.ref f) ∧ PySem.W.keepIn K (.ref f) = true ∧ KBn K fd ps 0 ks g gV
structure MakN (P : Program) (w : World) (K : PySem.W.Frag) (mg : Str → Option Value) (base : Heap) (k : Nat) (x : Str) (C : Addr) (ks : List Str) (sp : Sp) (gV : List V → List V → List V) : Prop where
  ex : ∃ (f : Addr) (fd : FuncData) (ps : List Str) (g : List Value → List Value → List Value), Mk K C f ∧ FnOk P w K mg base C8.CX0 k f fd ps sp ∧ mg x = some (.ref C) ∧ KBn K fd ps 1 ks g gV
structure MetN (P : Program) (w : World) (K : PySem.W.Frag) (mg : Str → Option Value) (base : Heap) (k : Nat) (C : Addr) (m : Str) (ks : List Str) (sp : Sp) (gV : List V → List V → List V) : Prop where
  ex : ∃ (f : Addr) (fd : FuncData) (ps : List Str) (g : List Value → List Value → List Value), Cls K C ∧ Meth K C m f ∧ FnOk P w K mg base C8.CX0 k f fd ps sp ∧ KBn K fd ps 1 ks g gV
def tMethN (C : Addr) (m : Str) (n : Nat) (sp : Sp) (gV : List V → List V → List V) (E : XK) (ta : TE) (tk : TA) : TE := fun σ H Q => ta σ H fun x H1 => ∃ a dx fs, x = .ref a ∧ H1 a = some (.ins C dx fs) ∧ fs.lookup m = none ∧
  tk σ H1 fun zs H2 => zs.length = n ∧ sp (gV [.ref a] zs) H2 Q E
section
variable {X : Cx} {k j : Nat} {C : Addr} {x m : Str} {sp : Sp} {dvs : List V} {p pos apos : Pos} {o : Expr} {kws : List Keyword} {ks : List Str} {ta : TE} {tk : TA} {gV : List V → List V → List V}
theorem pe_cN (c : CalN X.prog X.w X.K X.mg X.base k x ks sp gV) (hr : Room j X.A) (hk : k ≤ j) (hg : Gl X x) (hkw : PK X kws tk)
    (hall : (backToKw pos (keywordEach kws X.env)).all (·.1.isSome) = true := by rfl) (hks : (backToKw pos (keywordEach kws X.env)).filterMap (·.1) = ks := by rfl) (hdb : (x == ("__debug__" : Str)) = false := by decide)
    (hpl : ((backTo pos (starEach [] X.env)).any (·.1) || (backToKw pos (keywordEach kws X.env)).any (·.1.isNone)) = false := by rfl) :
    PE X (.Call (.Name x p) [] kws pos) (tCallN 0 ks.length sp gV C8.E0 tNil tk) := by
  obtain ⟨f, fd, ps, g, F, hm, kp, hb⟩ := c.ex
  refine ⟨fun pins s σ H Q I h => ?_⟩
  refine wpAny_Call_Name_kw (ld_glob I hg hm ?_ hdb)
  refine PySem.W.callWith_KW0 (h₀ := X.base) I.ok.mod.kin kp hall ?_ hpl
  refine thn (hkw.run pos pins s σ H _ I h) fun ws s2 ⟨zs, H2, I2, rz, l1, l2, q2⟩ => ⟨I2.kIn, ?_⟩
  rw [hks]
  exact run_fnN (us := []) (vs := []) F (hr.mono hk) hb C8.pass0 I2 .nil rz rfl l2 q2
theorem pe_mkN (c : MakN X.prog X.w X.K X.mg X.base k x C ks sp gV) (hr : Room j X.A) (hk : k + 1 ≤ j) (hg : Gl X x) (hkw : PK X kws tk)
    (hall : (backToKw pos (keywordEach kws X.env)).all (·.1.isSome) = true := by rfl) (hks : (backToKw pos (keywordEach kws X.env)).filterMap (·.1) = ks := by rfl) (hdb : (x == ("__debug__" : Str)) = false := by decide)
    (hpl : ((backTo pos (starEach [] X.env)).any (·.1) || (backToKw pos (keywordEach kws X.env)).any (·.1.isNone)) = false := by rfl) :
    PE X (.Call (.Name x p) [] kws pos) (tMakeK C 0 ks.length sp gV C8.E0 tNil tk) := by
  obtain ⟨f, fd, ps, g, M, F, hm, hb⟩ := c.ex
  exact pe_makeK0 M F (hr.mono hk) hg hm hb C8.pass0 hkw hall hks hdb hpl
theorem pe_mk0 (c : C8.Mak X.prog X.w X.K X.mg X.base k x C sp dvs) (hr : Room j X.A) (hk : k + 1 ≤ j) (hg : Gl X x)
    (hdb : (x == ("__debug__" : Str)) = false := by decide) : PE X (.Call (.Name x p) [] [] pos) (tMake C sp dvs C8.E0 tNil) := by
  obtain ⟨f, fd, ps, ds, M, F, hm, b, d⟩ := c.ex
  exact pe_make0 M F (hr.mono hk) hg hm b d C8.pass0 hdb
theorem pe_mtN {pl : Sem Bool} (c : MetN X.prog X.w X.K X.mg X.base k C m ks sp gV) (hr : Room j X.A) (hk : k ≤ j) (he : PE X o ta) (hkw : PK X kws tk)
    (hall : (backToKw pos (keywordEach kws X.env)).all (·.1.isSome) = true := by rfl) (hks : (backToKw pos (keywordEach kws X.env)).filterMap (·.1) = ks := by rfl)
    (hpl : ((backTo pos (starEach [] X.env)).any (·.1) || (backToKw pos (keywordEach kws X.env)).any (·.1.isNone)) = false := by rfl)
    (ht : eval (.Call (.Attribute o m apos) [] kws pos) X.env = (do
      let ov ← eval o X.env
      standAt apos.atName
      let (f, first) ← holding [ov] (getMethod ov m pl)
      callWith pos f first (backTo pos (starEach [] X.env)) (backToKw pos (keywordEach kws X.env))) := by rfl) :
    PE X (.Call (.Attribute o m apos) [] kws pos) (tMethN C m ks.length sp gV C8.E0 ta tk) := by
  obtain ⟨f, fd, ps, g, hc, hm, F, hb⟩ := c.ex
  refine ⟨fun pins s σ H Q I h => ?_⟩
  refine PySem.W.methodCall_KW (pl := pl) (thn (he.run pins s σ H _ I h) fun u s1 ⟨x, H1, I1, rx, a, dx, fs, ex, ea, l, q⟩ => ?_) ht
  subst ex
  obtain rfl : u = Value.ref a := rx
  refine getmeth_ok I1 ea hc hm l ?_
  refine PySem.W.callWith_KW0 (first := [.ref a]) (h₀ := X.base) I.ok.mod.kin hm.kp hall ?_ hpl
  refine thn (hkw.run pos pins s1 σ H1 _ I1 q) fun ws s2 ⟨zs, H2, I2, rz, l2, q2⟩ => ⟨I2.kIn, ?_⟩
  rw [hks]
  exact run_fnN (us := [.ref a]) (vs := [.ref a]) F (hr.mono hk) hb C8.pass0 I2 (.cons rfl .nil) rz rfl l2 q2
end
end CK

set_option Elab.async false
set_option linter.all false
set_option maxRecDepth 100000
set_option maxHeartbeats 4000000
/-! exceptions: kept behind the suite that catches them; defs that raise; errors with one field -/
namespace CK
open PySem PySem.Spec PyProof.Rows L2
/-- a caught exception that is still held -/
def ExV (a : Addr) (cls : Value) (d : Option Addr) : HO := .ext fun g => ∃ ob fv, g.get? a = some ob ∧ Zc cls d ob ∧ ob.data = .fields fv
section
variable {X : Cx} {pins : List (Addr × Obj)} {σ : L2.St} {H : Hp} {g : Heap} {a : Addr} {cls : Value} {d : Option Addr} {ob : Obj} {fv : Array Value} {B : Heap} {y z : Shared}
theorem exV_ok {P : Program} {w : World} (h1 : g.get? a = some ob) (h2 : Zc cls d ob) (h3 : ob.data = .fields fv) : ObjOk P w H g a (ExV a cls d) :=
  ⟨⟨ob, fv, h1, h2, h3⟩, ⟨ob, h1⟩, fun _ _ ⟨o', v', y1, y2⟩ k => ⟨o', v', k _ y1, y2⟩⟩
theorem exV_at {P : Program} {w : World} (hok : HOk P w H g) (h : H a = some (ExV a cls d)) : ∃ ob fv, g.get? a = some ob ∧ Zc cls d ob ∧ ob.data = .fields fv := by
  have := hok a _ h
  exact this.1
/-- the exception's object is tracked from now on -/
theorem held_now (I : Inv X pins σ H y) (gr : ∀ b o, y.heap.get? b = some o → b ∉ frs X.stack → B.get? b = some o) (up : y.heap.UpToSlots z.heap) (st : B.StaysIn z.heap) (nB : B.get? a = none) (na : H a = none) (nf : a ∉ frs X.stack)
    (h1 : z.heap.get? a = some ob) (h2 : Zc cls d ob) (h3 : ob.data = .fields fv) (os : z.os = y.os) (ag : AllBare z.gens) : Inv X pins σ (upd H a (ExV a cls d)) z := by
  have old : ∀ {b o}, y.heap.get? b = some o → b ≠ a := fun {b o} e q => by
    subst q
    rw [gr b o e nf] at nB
    cases nB
  have fr : ∀ b ∈ frs X.stack, ∀ o, y.heap.get? b = some o → ∃ sl, z.heap.get? b = some { o with slots := sl } := fun b hb o e => by
    obtain ⟨_, o2, e2, hnf⟩ := I.stack.mem hb
    obtain rfl : o2 = o := Option.some.inj (e2.symm.trans e)
    exact up b o2 e2 hnf
  refine I.call' (ch := []) os ⟨?_, ?_, ?_, ?_, ?_, ?_, ?_⟩ ?_ ag (fun _ q => nomatch q)
  · exact fun b o e _ hb _ => st b o (gr b o e hb)
  · exact fun b o e _ hb _ => fr b hb o e
  · exact fun b o e n _ => (upd_ne (old e)).trans n
  · intro b o e _
    by_cases hb : b ∈ frs X.stack
    · exact ⟨_, (fr b hb o e).choose_spec⟩
    · exact ⟨o, st b o (gr b o e hb)⟩
  · exact fun b xs e => (upd_ne (ne_of_none e na)).trans e
  · exact fun b o u e => (upd_ne (ne_of_none e na)).trans e
  · exact fun b ps e => ⟨#[], by rw [upd_ne (ne_of_none e na), e, Array.append_empty]⟩
  · intro b o e
    by_cases hb : b = a
    · subst hb
      obtain rfl : ExV b cls d = o := Option.some.inj (upd_same.symm.trans e)
      exact exV_ok h1 h2 h3
    · have e' : H b = some o := (upd_ne hb).symm.trans e
      exact (I.inGround gr b o e').stay (fun c v _ q => st c v q) (fun c q => (upd_ne (ne_of_none q na)).trans q) (fun c xs q => (upd_ne (ne_of_none q na)).trans q)
/-- into the suite, and back -/
theorem to_suite {a : Addr} (I : Inv X pins σ H z) : Inv (X.suite a (X.pn ++ pins)) [] σ H z :=
  ⟨I.ok.suite a _, I.os, I.bare, I.base, I.loc, I.cell, I.free, I.freeC, fun p hp => I.pin p (by simpa using hp), I.hok, I.len⟩
theorem of_suite {a : Addr} {more : List (Addr × Obj)} (I : Inv (X.suite a (X.pn ++ pins)) more σ H z) (ok : X.Ok) : Inv X pins σ H z :=
  ⟨ok, I.os, I.bare, I.base, I.loc, I.cell, I.free, I.freeC, fun p hp => I.pin p (List.mem_append.mpr (.inl hp)), I.hok, I.len⟩
end
/-- what 'except x as n: suite' wishes where x is met: n in slot i; the exception is held from there on -/
def wKeep (K : PySem.W.Frag) (c : Value) (i : Nat) (ts : Addr → TS) (D : Ends) : WX := fun cls d σ H =>
  PySem.W.exmOne K cls c = some true ∧ ∀ a, H a = none → ts a { nx := fun σ' H' => D.nx (σ'.set i none) H', rt := D.rt, bk := fun σ' H' => D.bk (σ'.set i none) H', ct := fun σ' H' => D.ct (σ'.set i none) H' } (σ.set i (some (.ref a))) (upd H a (ExV a cls d))
section
variable {X : Cx} {x n : Str} {c : Value} {i : Nat} {body suite : List Stmt} {b₀ : Stmt} {np pos pos' : Pos} {tb : WX → TS} {ts : Addr → TS}
theorem ps_try_keep (hs : X.stack = X.env :: X.outer) (hf : X.env.frame = some X.env.locals) (hN : X.N.Nodup) (hi : X.N[i]? = some n) (hln : X.env.kindOf n = some .local) (hg : Gl X x) (hdb : (x == ("__debug__" : Str)) = false) (hm : X.mg x = some c)
    (hb : ∀ (W : WX) (pn : List (Addr × Obj)) (xe : Value → Shared → Prop), Takes (X.tr pn xe) W → PSs (X.tr pn xe) body (tb W)) (hsu : ∀ (a : Addr) (pn : List (Addr × Obj)), PSs (X.suite a pn) (b₀ :: suite) (ts a)) :
    PS X (.Try body [.ExceptHandler (some (.Name x np)) (some n) (b₀ :: suite) pos'] [] [] pos) (fun D σ H => tb (wKeep X.K c i ts D) D σ H) := by
  constructor
  intro pins z σ H D I h
  have hfr : X.A.frames = some (X.env :: X.outer) := I.ok.frames.trans (congrArg some hs)
  refine wpAny_Try_except (wpAny_mono ((hb (wKeep X.K c i ts D) (X.pn ++ pins) _ ?_).run [] z σ H D (I.toTry _) h) ?_ (fun _ _ q => q))
  · rintro _ z1 ⟨a, B, y, pins', σ1, H1, cls, d, rfl, J', gr, up, sky, na, os, ag, hx, hyes⟩
    have J : Inv X pins σ1 H1 y := J'.ofTry I.ok
    have sky1 : Sky B (X.env :: X.outer) a (Zc cls d) X.env.locals z1.heap := hs ▸ sky
    refine Sky.land Zc.steady hfr hf sky1 fun g3 fl3 up3 => ?_
    have nf : ∀ {g : Heap}, HandSPX.FlyingZ B (X.env :: X.outer) a (Zc cls d) g → a ∉ frs X.stack := fun {g} fl hm => by
      obtain ⟨ob, fv, h1, _, h3⟩ := fl.there
      rw [hs] at hm
      obtain ⟨_, o2, e2, hn⟩ := fl.2.2.1.mem hm
      obtain rfl : ob = o2 := Option.some.inj (h1.symm.trans e2)
      exact hn fv h3
    obtain ⟨ob3, fv3, a1, a2, a3⟩ := fl3.there
    have V3 := to_suite (a := a) (held_now (z := { z1 with heap := g3 }) J gr (up.trans up3) fl3.1 fl3.2.1 na (nf fl3) a1 a2 a3 os ag)
    refine wpAny_handleBy_cons (codeAny_handlers_test (ld_glob V3 hg hm ?_ hdb)) (fun q => nomatch q)
    have isc : PySem.W.Looks (model X.prog X.w) g3 (typeOf (.ref a)) cls := fun _ _ _ _ k q => wpAny_typeOf_ref (k _ _ a1) (a2.1.symm ▸ q)
    refine (PySem.W.exm_one V3.kIn isc hx).here (codeAny_handlers_suite_as (HandSPX.lands_againZ fl3 fun g4 fl4 up4 => ?_))
    obtain ⟨ob4, fv4, b1, b2, b3⟩ := fl4.there
    have V4 := to_suite (a := a) (held_now (z := { z1 with heap := g4 }) J gr ((up.trans up3).trans up4) fl4.1 fl4.2.1 na (nf fl4) b1 b2 b3 os ag)
    refine store_ok (X := X.suite a (X.pn ++ pins)) V4 hN hi (.inl hln) (v := .ref a) rfl (fun z5 V5 => ?_) (.inr hln)
    refine wpAny_mono ((hsu a (X.pn ++ pins)).run [] z5 _ _ _ V5 (hyes a na)) ?_ (fun _ _ q => q.elim)
    rintro f z6 got
    cases f with
    | next => exact gone_ok (of_suite got.choose_spec.choose_spec.1 I.ok) hN hi hln fun z7 V7 => ⟨_, _, V7, got.choose_spec.choose_spec.2⟩
    | brk => exact gone_ok (of_suite got.choose_spec.choose_spec.1 I.ok) hN hi hln fun z7 V7 => ⟨_, _, V7, got.choose_spec.choose_spec.2⟩
    | cont => exact gone_ok (of_suite got.choose_spec.choose_spec.1 I.ok) hN hi hln fun z7 V7 => ⟨_, _, V7, got.choose_spec.choose_spec.2⟩
    | ret u =>
      obtain ⟨v, σ6, H6, V6, r6, q6⟩ := got
      exact gone_ok (of_suite V6 I.ok) hN hi hln fun z7 V7 => ⟨v, _, _, V7, r6, q6⟩
  · rintro f z1 got
    cases f with
    | next => exact wpAny_execs_nil ⟨_, _, got.choose_spec.choose_spec.1.ofTry I.ok, got.choose_spec.choose_spec.2⟩
    | brk => exact ⟨_, _, got.choose_spec.choose_spec.1.ofTry I.ok, got.choose_spec.choose_spec.2⟩
    | cont => exact ⟨_, _, got.choose_spec.choose_spec.1.ofTry I.ok, got.choose_spec.choose_spec.2⟩
    | ret u =>
      obtain ⟨v, σ6, H6, V6, r6, q6⟩ := got
      exact ⟨v, _, _, V6.ofTry I.ok, r6, q6⟩
end
/-! ### defs that may raise -/
section
variable {P : Program} {w : World} {K : PySem.W.Frag} {mg : Str → Option Value} {base : Heap} {k : Nat} {x : Str} {st : Stmt} {sp : Sp}
/-- where nothing is let out, a def that may raise is one that doesn't -/
theorem calm_of {f : Addr} {fd : FuncData} {ps : List Str} (F : FnOk P w K mg base (L2.CX P w) k f fd ps sp) : FnOk P w K mg base C8.CX0 k f fd ps (fun vs H Q _ => sp vs H Q E0) := by
  refine ⟨fun vs H Q _ h => F.len vs H Q E0 h, fun A outer z H args us vs Q E hr e0 hb r h => codeAny_mono (F.run A outer z H args us vs Q E0 hr e0 hb r h) fun res z' got => ?_⟩
  cases res with
  | ok f => cases f <;> exact got
  | error e =>
    obtain ⟨_, _, _, _, _, _, _, _, _, _, _, _, q⟩ := got
    exact q.elim
/-- a def that may raise, by its name -/
structure CalX (P : Program) (w : World) (K : PySem.W.Frag) (mg : Str → Option Value) (base : Heap) (k : Nat) (x : Str) (sp : Sp) : Prop where
  ex : ∃ (f : Addr) (fd : FuncData) (ps : List Str), FnOk P w K mg base (L2.CX P w) k f fd ps sp ∧ mg x = some (.ref f) ∧ PySem.W.keepIn K (.ref f) = true ∧ Binds K fd ps []
theorem CalX.cal (c : CalX P w K mg base k x sp) : C8.Cal P w K mg base k x (fun vs H Q _ => sp vs H Q E0) [] := by
  obtain ⟨f, fd, ps, F, m, kp, b⟩ := c.ex
  exact ⟨f, fd, ps, [], calm_of F, m, kp, b, .nil⟩
theorem fnX_of {q : Str} {f : Addr} {fd : FuncData} {N ps : List Str} (F : C8.Fun K x q st f fd) (S : FnScope N ps (C8.fnScope st)) (len : ∀ vs H Q E, sp vs H Q E → vs.length = ps.length)
    (body : ∀ (cdv : Value) (A : Around) (outer : List Env) (z : Shared) (H : Hp) (vs : List V) (Q : VK) (E : XK), Room k (A.deeper (envOfC q (C8.fnScope st) z.heap.objs.size f cdv)) → sp vs H Q E →
      ∃ t, PSs (cxOf (L2.CX P w) P w K mg base N q (C8.fnScope st) f cdv A outer z H E) (C8.fnBody st) t ∧ t { nx := fun _ H' => Q .non H', rt := Q } (start N vs) H) : FnOk P w K mg base (L2.CX P w) (k + 1) f fd ps sp := by
  obtain ⟨_, _, _, _, _, _, _, cdv, _, _, rfl, lk, hc⟩ := F.ex
  exact fn_of lk hc S len fun A outer z H vs Q E hr h => body cdv A outer z H vs Q E hr h
theorem calX {N ps : List Str} (D : DefF K mg x st ps) (S : FnScope N ps (C8.fnScope st)) (len : ∀ vs H Q E, sp vs H Q E → vs.length = ps.length)
    (body : ∀ (f : Addr) (cdv : Value) (A : Around) (outer : List Env) (z : Shared) (H : Hp) (vs : List V) (Q : VK) (E : XK), Room k (A.deeper (envOfC x (C8.fnScope st) z.heap.objs.size f cdv)) → sp vs H Q E →
      ∃ t, PSs (cxOf (L2.CX P w) P w K mg base N x (C8.fnScope st) f cdv A outer z H E) (C8.fnBody st) t ∧ t { nx := fun _ H' => Q .non H', rt := Q } (start N vs) H) : CalX P w K mg base (k + 1) x sp := by
  obtain ⟨f, fd, F, b⟩ := D.ex
  exact ⟨f, fd, ps, fnX_of F.fn S len (body f), F.mgf, F.kp, .all b⟩
end
section
variable {X : Cx} {k j : Nat} {x : Str} {sp : Sp} {p pos : Pos} {e : Expr} {es : List Expr} {t : TA} {W : WX}
theorem pe_x (c : CalX X.prog X.w X.K X.mg X.base k x sp) (tk : Takes X W) (hr : Room j X.A) (hk : k ≤ j) (hg : Gl X x) (ha : PA X (e :: es) t)
    (hdb : (x == ("__debug__" : Str)) = false := by decide) (he : starEach (e :: es) X.env = (false, eval e X.env) :: starEach es X.env := by rfl) (hpl : (backTo pos (starEach es X.env)).any (·.1) = false := by rfl) :
    PE X (.Call (.Name x p) (e :: es) [] pos) (tCallS sp (WE W) t) := by
  obtain ⟨f, fd, ps, F, m, kp, b⟩ := c.ex
  exact pe_callS F (hr.mono hk) hg m kp b (fun σ => passAt tk σ) ha hdb he hpl
end
/-! ### an error with one field -/
/-- __init__(self, value=..): self.value = value -/
structure ErrF (K : PySem.W.Frag) (mg : Str → Option Value) (x fl : Str) (C : Addr) : Prop where
  gC : mg x = some (.ref C)
  ox : OexC K C
  xf : XfC K C
  xc : ExcC K C
  no : PySem.W.findIn K (.ref C) fl = some none
  cl : (PySem.W.clsIn K C).isSome = true
  rf : PySem.W.subIn K (.ref C) (.ref C) = some true
  fn : ∃ (st : Stmt) (q : Str) (f : Addr) (fd : FuncData), C8.Fun K "__init__" q st f fd ∧ PySem.W.findIn K (.ref C) "__init__" = some (some (.ref f)) ∧ PySem.W.typeIn K (.ref f) = some (.type "function") ∧ Binds K fd ["self", fl] [] ∧
    FnScope ["self", fl] ["self", fl] (C8.fnScope st) ∧ (C8.fnScope st).names.lookup ("self" : Str) = some .local ∧ (C8.fnScope st).names.lookup fl = some .local ∧ (fl == ("__debug__" : Str)) = false ∧ (fl == ("__classdict__" : Str)) = false ∧
    ∃ q1 q2 q3 q4, C8.fnBody st = [.Assign [.Attribute (.Name "self" q1) fl q2] (.Name fl q3) q4]
def sp_err (C : Addr) (fl : Str) : Sp := fun vs H Q _ => ∃ a v, vs = [.ref a, v] ∧ H a = some (exo a C none) ∧ ∀ dx, H dx = none → dx ≠ a → Q .non (upd (upd H dx (exd dx [(fl, v)])) a (exo a C (some dx)))
section
variable {P : Program} {w : World} {K : PySem.W.Frag} {mg : Str → Option Value} {base : Heap} {x fl : Str} {C : Addr}
theorem ErrF.init (T : ErrF K mg x fl C) : ∃ (f : Addr) (fd : FuncData), FnOk P w K mg base (L2.CX P w) 1 f fd ["self", fl] (sp_err C fl) ∧ PySem.W.findIn K (.ref C) "__init__" = some (some (.ref f)) ∧ PySem.W.typeIn K (.ref f) = some (.type "function") ∧ Binds K fd ["self", fl] [] := by
  obtain ⟨st, qn, f, fd, F, iC, tI, bd, S, l1, l2, n1, n2, q1, q2, q3, q4, eb⟩ := T.fn
  refine ⟨f, fd, fnX_of F S (fun vs H Q E h => ?_) (fun cdv A outer z H vs Q E hr h => ?_), iC, tI, bd⟩
  · obtain ⟨a, v, rfl, _⟩ := h
    rfl
  · obtain ⟨a, v, rfl, ea, q⟩ := h
    have k1 : (envOfC qn (C8.fnScope st) z.heap.objs.size f cdv).kindOf "self" = some .local := l1
    have k2 : (envOfC qn (C8.fnScope st) z.heap.objs.size f cdv).kindOf fl = some .local := l2
    refine ⟨_, by rw [eb]; exact pss_one (ps_ost (pe_var (i := 0) rfl (.inl k1) (by decide) (by decide)) (pe_var (i := 1) rfl (.inl k2) n1 n2)), ?_⟩
    exact ⟨_, rfl, _, rfl, a, C, rfl, T.ox, T.no, .inl ⟨ea, fun dx n ne => q dx n ne⟩⟩
end
section
variable {X : Cx} {x fl : Str} {C : Addr} {j : Nat} {W : WX} {e : Expr} {te : TE} {p pos pos' : Pos}
theorem pe_mono {X : Cx} {e : Expr} {te : TE} (he : PE X e te) : PE X e (fun σ H Q' => ∃ Q : VK, te σ H Q ∧ ∀ v H1, Q v H1 → Q' v H1) :=
  ⟨fun pins z σ H Q' I ⟨Q, h, m⟩ => thn (he.run pins z σ H Q I h) fun u z1 ⟨v, H1, I1, r, q⟩ => ⟨v, H1, I1, r, m v H1 q⟩⟩
/-- raise x(e) -/
theorem ps_raiseE (T : ErrF X.K X.mg x fl C) (hc : X.calm = true) (tk : Takes X W) (hr : Room j X.A) (h2 : 2 ≤ j) (hg : Gl X x) (he : PE X e te) (hdb : (x == ("__debug__" : Str)) = false := by decide)
    (hse : starEach [e] X.env = (false, eval e X.env) :: starEach [] X.env := by rfl) (hpl : (backTo pos (starEach [] X.env)).any (·.1) = false := by rfl) :
    PS X (.Raise (some (.Call (.Name x p) [e] [] pos)) none pos') (fun _ σ H => te σ H fun v H1 => ∀ d, H1 d = none → W (.ref C) (some d) σ (upd H1 d (.xd [(fl, v)]))) := by
  obtain ⟨f, fd, F, iC, tI, bd⟩ := T.init (P := X.prog) (w := X.w) (base := X.base)
  refine ps_raise hc tk (t := fun σ H Q => te σ H fun v H1 => ∀ d, H1 d = none → Q (.ref C) (some d) (upd H1 d (.xd [(fl, v)]))) (fun pins z σ H Q I h => ?_)
  refine pmk_oex (dvs := []) T.ox iC tI F (hr.mono h2) bd .nil passL hg T.gC (pa_cons (hs := hse) (pe_mono he) pa_nil) hdb hse hpl pins z σ H Q I ⟨_, h, fun v H1 q => ⟨(by show 1 ≤ 1000; decide), fun a na => ⟨a, v, rfl, upd_same, fun dx n ne => ?_⟩⟩⟩
  have nd : H1 dx = none := (upd_ne ne).symm.trans n
  refine ⟨rfl, dx, _, upd_same, (upd_ne ne).trans upd_same, nd, ?_⟩
  have e : upd (del (upd (upd (upd H1 a (exo a C none)) dx (exd dx [(fl, v)])) a (exo a C (some dx))) a) dx (.xd [(fl, v)]) = upd H1 dx (.xd [(fl, v)]) := by
    funext b
    by_cases h1 : b = dx
    · rw [h1, upd_same, upd_same]
    · rw [upd_ne h1, upd_ne h1]
      by_cases h2 : b = a
      · rw [h2, del_same, na]
      · rw [del_ne h2, upd_ne h2, upd_ne h1, upd_ne h2]
  rw [e]
  exact q dx nd
end
/-! ### what is caught, looked at -/
section
variable {X : Cx}
inductive TyE (K : PySem.W.Frag) (H : Hp) : V → Value → Prop where
  | dat {x : V} {t : Value} (h : TyX K H x t) : TyE K H x t
  | exc {a C d : Addr} {fs : List (Str × V)} (T : ExcC K C) (cl : (PySem.W.clsIn K C).isSome = true) (ea : H a = some (ExV a (.ref C) (some d))) (ed : H d = some (.xd fs)) : TyE K H (.ref a) (.ref C)
theorem inst_of {P : Program} {w : World} {H : Hp} {g : Heap} {a C d : Addr} {fs : List (Str × V)} (hok : HOk P w H g) (ea : H a = some (ExV a (.ref C) (some d))) (ed : H d = some (.xd fs)) :
    ∃ (ob od : Obj) (mA : Str → Option Value), PySem.W.InstAt g a ob C (some od) ∧ (∀ f, PySem.W.lookIn f od = some (mA f)) ∧ ∀ f, RelO (fs.lookup f) (mA f) := by
  obtain ⟨ob, fv, h1, h2, h3⟩ := exV_at hok ea
  have hx : ObjOk P w H g d (.xd fs) := hok d _ ed
  obtain ⟨mA, hns, hr⟩ := hx
  obtain ⟨od, ho, hl⟩ := lookIn_ns hns
  exact ⟨ob, od, mA, ⟨h1, h2.1, by unfold PySem.W.notCls; rw [h3] <;> rfl, by rw [h2.2]; exact ho⟩, hl, hr⟩
theorem kit_ofE {pins : List (Addr × Obj)} {σ : L2.St} {H : Hp} {z : Shared} {x : V} {u t : Value} (I : Inv X pins σ H z) (rx : RelV x u) (ty : TyE X.K H x t) : ∃ P : Heap → Prop, PySem.W.KitX X.K u t P ∧ P z.heap ∧ u ≠ .builtin "__main__.__loader__#opaque" := by
  cases ty with
  | dat h => exact kit_of I rx h
  | @exc a C d fs T cl ea ed =>
    obtain rfl : u = Value.ref a := rx
    obtain ⟨ob, od, _, J, _⟩ := inst_of I.hok ea ed
    exact ⟨_, PySem.W.kitx_exc cl T.hg T.hk T.hs T.ha T.hn T.ht T.hm, J, fun q => nomatch q⟩
/-- isinstance(x, C), x data or held -/
theorem call_isE : CallR X (.builtin "isinstance") (fun xs H Q => ∃ (x c : V) (t u : Value) (b : Bool), xs = [x, c] ∧ ClsV c u ∧ TyE X.K H x t ∧ PySem.W.kitOne X.K t u = some b ∧ Q (.bl b) H) := by
  intro pins z σ H xs us Q I r h
  obtain ⟨x, c, t, u, b, rfl, k, ty, e, q⟩ := h
  obtain ⟨u1, u2, rfl, r1, r2⟩ := vals2 r
  obtain rfl := k.eq r2
  obtain ⟨_, Z, pz, hx⟩ := kit_ofE I r1 ty
  exact PySem.W.kia_one Z I.kIn pz e hx (fun tk => ⟨.bl b, H, I.tok tk, rfl, q⟩)
/-- .. of a tuple of classes -/
theorem call_isEt : CallR X (.builtin "isinstance") (fun xs H Q => ∃ (x : V) (tp : Addr) (cs : List V) (t : Value) (us : List Value) (b : Bool), xs = [x, .ref tp] ∧ H tp = some (.tup cs) ∧ Paired ClsV cs us ∧ TyE X.K H x t ∧ PySem.W.kitAny X.K t us = some b ∧ Q (.bl b) H) := by
  intro pins z σ H xs us Q I r h
  obtain ⟨x, tp, cs, t, ws, b, rfl, ht, k, ty, e, q⟩ := h
  obtain ⟨u1, u2, rfl, r1, r2⟩ := vals2 r
  obtain rfl : u2 = Value.ref tp := r2
  obtain ⟨_, Z, pz, hx⟩ := kit_ofE I r1 ty
  have hk : ObjOk X.prog X.w H z.heap tp (.tup cs) := I.hok tp _ ht
  obtain ⟨_, its, rv, ⟨oc, od, dt, sl⟩, g1, g2, n, g3⟩ := hk
  obtain rfl := ClsV.all k rv
  dsimp only at g2 g3
  subst g2 g3
  exact PySem.W.kia_tup Z I.kIn pz g1 e hx (fun tk => ⟨.bl b, H, I.tok tk, rfl, q⟩)
/-- e.f of what is held -/
theorem pe_fldE {e : Expr} {te : TE} {n : Str} {pos : Pos} (he : PE X e te) (hb : attributeBase e n X.env (eval e X.env) = eval e X.env := by rfl) :
    PE X (.Attribute e n pos) (fun σ H Q => te σ H fun x H1 => ∃ (a C d : Addr) (fs : List (Str × V)) (v : V), x = .ref a ∧ XfC X.K C ∧ PySem.W.findIn X.K (.ref C) n = some none ∧ H1 a = some (ExV a (.ref C) (some d)) ∧ H1 d = some (.xd fs) ∧ fs.lookup n = some v ∧ Q v H1) := by
  refine ⟨fun pins z σ H Q I h => attr_of hb (thn (he.run pins z σ H _ I h) fun u z1 got => ?_)⟩
  obtain ⟨x, H1, I1, rx, a, C, d, fs, v, rfl, T, hno, ea, ed, l, q⟩ := got
  obtain rfl : u = Value.ref a := rx
  obtain ⟨ob, od, mA, J, hl, hr⟩ := inst_of I1.hok ea ed
  obtain ⟨u', hu, ru⟩ := RelO.some_of (v := v) (o := mA n) (by rw [← l]; exact hr n)
  exact HandSPX.exc_get I1.kIn J T.ga T.gg T.exC (PySem.W.findObj_own T.hdC hno rfl (by rw [hl, hu])) (handed_of ru) ⟨v, H1, I1.tok _, ru, q⟩
theorem kit_err {K : PySem.W.Frag} {mg : Str → Option Value} {x fl : Str} {C D : Addr} {b : Bool} (T : ErrF K mg x fl D) (s : PySem.W.subIn K (.ref C) (.ref D) = some b) : PySem.W.kitOne K (.ref C) (.ref D) = some b := by
  unfold PySem.W.kitOne
  by_cases e : C = D
  · subst e
    rw [if_pos (beq_self_eq_true _)]
    exact T.rf.symm.trans s
  · rw [if_neg (by simpa using e)]
    unfold PySem.W.kitCls
    simp only [T.cl, T.ox.tyC, beq_self_eq_true, Bool.and_self, if_true]
    exact s
end
/-! ### the classes as they stand behind the top -/
structure BaseE (K : PySem.W.Frag) (mg : Str → Option Value) (x : Str) (C : Addr) : Prop where
  gC : mg x = some (.ref C)
  sb : PySem.W.subIn K (.ref C) (.type "BaseException") = some true
  hd : PySem.W.hasDictIn K C = true
  ty : PySem.W.typeIn K (.ref C) = some (.type "type")
section
variable {K : PySem.W.Frag} {h : Heap} {mg : Str → Option Value} {x y fl : Str} {C D : Addr}
theorem baseE_mk (X : K.In h) (G : h.Ns mainGlobals mg) (a : PySem.W.nsIn K mainGlobals x = some (some (.ref C))) (b : PySem.W.subIn K (.ref C) (.type "BaseException") = some true)
    (c : PySem.W.hasDictIn K C = true) (d : PySem.W.typeIn K (.ref C) = some (.type "type")) : BaseE K mg x C := ⟨PySem.W.mg_of X G a, b, c, d⟩
theorem with_base (_ : K.In h) (x : Str) {R : Prop} (d : BaseE K mg x C) (r : BaseE K mg x C → R) : R := r d
theorem exm_err (T : BaseE K mg x D) (s : PySem.W.subIn K (.ref C) (.ref D) = some true) : PySem.W.exmOne K (.ref C) (.ref D) = some true := PySem.W.exm_ref T.sb T.hd T.ty s
theorem sub_is (_ : mg x = some (.ref C)) (_ : mg y = some (.ref D)) (b : Bool) (s : PySem.W.subIn K (.ref C) (.ref D) = some b) : PySem.W.subIn K (.ref C) (.ref D) = some b := s
theorem with_sub {R : Prop} (_ : ErrF K mg x fl C) (_ : mg y = some (.ref D)) (b : Bool) (s : PySem.W.subIn K (.ref C) (.ref D) = some b) (r : PySem.W.subIn K (.ref C) (.ref D) = some b → R) : R := r s
theorem with_err (_ : K.In h) (x fl : Str) (st : Stmt) {R : Prop} (d : ErrF K mg x fl C) (r : ErrF K mg x fl C → R) : R := r d
theorem errF_mk (X : K.In h) (G : h.Ns mainGlobals mg) (qn : Str) (st : Stmt) {f T : Addr} {od an : Option Addr} {oc kV dc pm cd ct u : Value} {sl : Array (Option Value)} {o : Obj} {nn : Nat}
    {nm q : Str} {N : Addr} {bs bm : List Value} {sn : List Str} {sub : List Value} {ab : Bool} {col : Option Bool} {dd : Option Addr} {k0 k1 k2 k3 k5 : Option Value}
    (a : PySem.W.nsIn K mainGlobals x = some (some (.ref C)))
    (lk : K.lookup C = some (excClassObj nm q C N bs bm true sn sub ab col dd k0 k1 k2 k3 k5 "ValueError.__new__")) (hbm : PySem.HandSPX.refsVE bm = true)
    (sa : PySem.W.findIn K (.ref C) "__setattr__" = some (some (.builtin "object.__setattr__"))) (eC : PySem.W.subIn K (.ref C) (.type "BaseException") = some true)
    (tC : PySem.W.typeIn K (.ref C) = some (.type "type")) (kp : PySem.W.keepIn K (.ref C) = true)
    (ga : PySem.W.findIn K (.ref C) "__getattribute__" = some (some (.builtin "BaseException.__getattribute__"))) (gg : PySem.W.findIn K (.ref C) "__getattr__" = some none) (hd : PySem.W.hasDictIn K C = true)
    (hc : PySem.W.findIn K (.ref C) "__class__" = some (some (.builtin "object.__class__"))) (hn : PySem.W.specialIn K (.builtin "object.__class__") "__get__" = some (some (.builtin "getset_descriptor.__get__")))
    (ht : PySem.W.takesIn K (.builtin "object.__class__") = some true) (hm : PySem.W.mroIn K C (.type "object") = some true) (no : PySem.W.findIn K (.ref C) fl = some none)
    (rf : PySem.W.subIn K (.ref C) (.ref C) = some true) (ii : PySem.W.findIn K (.ref C) "__init__" = some (some (.ref f))) (it : PySem.W.typeIn K (.ref f) = some (.type "function"))
    (il : K.lookup f = some ⟨oc, od, .func (PySem.W.fnOf "__init__" qn (C8.fnArgs st) (C8.fnBody st) (C8.fnScope st) (.ref T) kV dc pm an cd ct), sl⟩) (ic : PySem.W.codeIn K cd qn = true) (ik : PySem.W.keepIn K (.ref f) = true)
    (dl : K.lookup T = some o) (dm : o.data = .seq #[u] nn) (dr : RelV .non u)
    (bd : ∀ (T : Addr) (kV doc pm : Value) (an : Option Addr) (cdv ct : Value) (us its : List Value), us.length = 2 → its.length = 1 →
      ∃ k, bindArgs (PySem.W.fnOf "__init__" qn (C8.fnArgs st) (C8.fnBody st) (C8.fnScope st) (.ref T) kV doc pm an cdv ct) ⟨us, []⟩ = seqItems? (.ref T) >>= k ∧ k (some its.toArray) = pure ([("self" : Str), fl].zip (us ++ its.drop 1)))
    (sc : FnScope ["self", fl] ["self", fl] (C8.fnScope st)) (l1 : (C8.fnScope st).names.lookup ("self" : Str) = some .local) (l2 : (C8.fnScope st).names.lookup fl = some .local) (n1 : (fl == ("__debug__" : Str)) = false) (n2 : (fl == ("__classdict__" : Str)) = false)
    (by_ : ∃ q1 q2 q3 q4, C8.fnBody st = [.Assign [.Attribute (.Name "self" q1) fl q2] (.Name fl q3) q4]) : ErrF K mg x fl C := by
  have F : FunD K "__init__" qn (C8.fnArgs st) (C8.fnBody st) (C8.fnScope st) [.non] [] f (PySem.W.fnOf "__init__" qn (C8.fnArgs st) (C8.fnBody st) (C8.fnScope st) (.ref T) kV dc pm an cd ct) :=
    ⟨⟨oc, od, .ref T, kV, dc, pm, an, cd, ct, sl, rfl, il, ic, dfl_one dl dm dr, kwd_nil⟩, ik⟩
  obtain ⟨ds, rd, hb⟩ := F.binds1 (ps := ["self", fl]) 2 1 (by simp) rfl bd
  cases rd
  have cl : (PySem.W.clsIn K C).isSome = true := by
    unfold PySem.W.clsIn
    rw [lk] <;> rfl
  exact ⟨PySem.W.mg_of X G a, ⟨⟨nm, q, N, bs, bm, sn, sub, ab, col, dd, k0, k1, k2, k3, k5, lk, hbm⟩, sa, eC, tC, kp⟩, ⟨ga, gg, eC, hd⟩, ⟨ga, gg, eC, hd, hc, hn, ht, hm⟩, no, cl, rf,
    st, qn, f, _, fun_of F, ii, it, hb, sc, l1, l2, n1, n2, by_⟩
end
end CK

set_option Elab.async false
set_option linter.all false
set_option maxRecDepth 100000
set_option maxHeartbeats 2000000
/-! sum of a tuple of numbers -/
namespace CK
open PySem PySem.Spec PyProof.Rows L2 SX
section
variable {prog : Program} {w : World} {A : Around} {E : Value → Shared → Prop} {s : Shared} {l : Addr} {xs : Array (Int × Tok)}
theorem sum_tupG {Q : Value → Shared → Prop} (hh : A.handled = none) (hl : s.heap.IsTuple l (intItems xs))
    (h : ∀ h' tk t', (∀ b o, s.heap.get? b = some o → h'.get? b = some o) → Q (.int (preSum (numAt xs) xs.size) t') { s with heap := h', toks := tk }) :
    wpAny (model prog w) A (call (.builtin "sum") [.ref l]) Q E s := by
  have hlt : l < s.heap.objs.size := by obtain ⟨_, e, _⟩ := hl; exact Heap.lt_size e
  refine call_sum_walkG (wpAny_pyIter_tuple hl ?_)
  refine ⟨_, _, _, _, _, _, numAt xs, rfl, Walks.tuple (A := A.in1) hh _ l (Nat.ne_of_lt hlt) (intItems xs), ⟨⟨_, Heap.get?_push_size _ rfl, rfl, rfl⟩, hl.push _⟩, fun b hb => ?_, (fun _ _ => intItems_at), fun h' tk t' hk => ?_⟩
  · show b < (s.heap.push _).objs.size
    rw [Heap.size_push]
    rcases List.mem_cons.mp hb with rfl | hb
    · exact Nat.lt_succ_self _
    · rcases List.mem_cons.mp hb with rfl | hb
      · exact Nat.lt_succ_of_lt hlt
      · cases hb
  · have := h h' tk t' fun b o e => by
      refine hk b o (fun hm => ?_) (Heap.get?_push_of_some _ e)
      have := List.mem_singleton.mp hm
      have hb := Heap.lt_size e
      rw [this] at hb
      exact absurd hb (Nat.lt_irrefl _)
    simpa [intItems] using this
end
section
variable {X : Cx}
theorem cr_sumT (hc : X.calm = true) : CallR X (.builtin "sum") (fun vs H Q => ∃ (a : Addr) (ns : List Int), vs = [V.ref a] ∧ H a = some (.tup (ns.map V.int)) ∧ Q (.int ns.sum) H) := by
  intro pins s σ H vs us Q I r h
  obtain ⟨a, ns, rfl, ha, q⟩ := h
  obtain ⟨its, rv, hl, _⟩ := I.tuple (.inl (.inl ha))
  rw [Vals.ref1 r]
  have hi := rv.ints
  obtain ⟨xs, e⟩ := hi.allInts.items
  have hn : numsOf (intItems xs).toList = ns := by rw [← e]; exact hi.numsOf
  rw [nums_intItems] at hn
  have hl' : s.heap.IsTuple a (intItems xs) := by rw [← e]; exact hl
  refine sum_tupG (I.ok.hd hc) hl' fun h' tk t' hk => ?_
  have es : preSum (numAt xs) xs.size = ns.sum := by rw [preSum_eq, List.take_of_length_le (by simp), hn]
  rw [es]
  exact ⟨.int _, H, I.kept (t' := tk) hk, ⟨_, rfl⟩, q⟩
end
end CK

set_option Elab.async false
set_option linter.all false
set_option maxRecDepth 100000
set_option maxHeartbeats 2000000
/-! a tuple of one item, k times, k of at least -1 -/
namespace CK
open PySem PySem.Spec PyProof.Rows L2 SX
theorem mulM1 (l : Addr) (v : Value) (n : Nat) (dd : Option Addr) (sl : Array (Option Value)) (u : Tok) :
    Meets (Builtin.«tuple.__mul__» ⟨[.ref l, .int (-1) u], []⟩) (fun _ R s =>
      s.heap.get? l = some { cls := .type "tuple", dict := dd, data := .seq #[v] n, slots := sl } ∧
      R (.ok (.ret (Value.ref s.heap.objs.size))) { s with heap := s.heap.push { cls := Value.type "tuple", data := Data.seq #[] } }) := by
  refine Meets.of_wp fun prog w A R s h => ?_
  obtain ⟨hq, g, d, tk, o2⟩ := s
  obtain ⟨hl, h⟩ := h
  have f1 := AutoSeq1.idx_int
  wp_walk using wpAny_loadPart' hl
  exact ⟨_, rfl, h⟩
section
variable {X : Cx}
theorem op_repOneZ : OpR X (binaryOp .Mult) (fun x y H Q => ∃ (l : Addr) (k : Int) (v : V), x = .ref l ∧ y = .int k ∧ H l = some (.tup [v]) ∧ -1 ≤ k ∧ k ≤ 1000 ∧
    ∀ p H', Same H H' → H' p = some (.tup (List.replicate k.toNat v)) → Q (.ref p) H') := by
  intro pins s σ H x y xv yv Q I rx ry h
  obtain ⟨l, k, v, rfl, rfl, hl, h0, h1, q⟩ := h
  by_cases hk : k = -1
  · subst hk
    cases rx
    obtain ⟨t, rfl⟩ := ry
    obtain ⟨zs, r, ⟨⟨cl, dd, da, sl⟩, ho, hc, n, hd⟩, hs⟩ := I.tuple (.inl (.inl hl) : SqT X.K H l [v])
    simp only at hc hd
    subst hc hd
    cases r with
    | cons r1 r2 =>
    cases r2
    rename_i u
    refine wpAny_binaryOp_repeat_ref (T := "tuple") (U := "int") (by decide) ⟨_, ho, rfl⟩ (fun s' => typeIs_int s' (-1) t) mulFill F.fills_int_mul F.slot_int_rmul mulSeq F.slot_int_index.lookup
      (call_meets F.slot_int_rmul (typeIs_int s (-1) t) F.entry_int_rmul (F.args_int_rmul_2 _ _) (rmulNo (-1) t l _ n dd sl)
        ⟨ho, rfl, ⟨_, ho, rfl⟩, call_meets F.slot_tuple_mul ⟨_, ho, rfl⟩ F.entry_tuple_mul (F.args_tuple_mul_2 _ _) (mulM1 l _ n dd sl t) ⟨ho, ?_⟩⟩)
    have hn : H s.heap.objs.size = none := I.hok.fresh (Nat.le_refl _)
    refine ⟨.ref s.heap.objs.size, _, I.laid (t' := s.toks) (o := .tup []) (fun b ob q => Heap.get?_push_of_some _ q) (Nat.le_refl _) ?_, rfl, q _ _ (sameNew hn) upd_same⟩
    exact ⟨Nat.zero_le _, [], .nil, IsTup.new _ _⟩
  · exact op_repOne pins s σ H _ _ xv yv Q I rx ry ⟨l, k, v, rfl, rfl, hl, by omega, h1, q⟩
end
end CK

set_option Elab.async false
set_option linter.all false
set_option maxRecDepth 100000
set_option maxHeartbeats 2000000
/-! == of two objects of an own class, by its __eq__, which may say yes or no -/
namespace CK
open PySem PySem.Spec PyProof.Rows L2 SX
section
variable {X : Cx} {k j : Nat} {C : Addr} {sp : Sp}
def rEqO (C : Addr) (sp : Sp) : R2 := fun x y H Q => ∃ a b dx fs dy gs, x = .ref a ∧ y = .ref b ∧ H a = some (.ins C dx fs) ∧ H b = some (.ins C dy gs) ∧ sp [.ref a, .ref b] H (fun v H' => (∃ r, v = .bl r) ∧ Q v H') C8.E0
theorem op_eqO (c : C8.Met X.prog X.w X.K X.mg X.base k C "__eq__" sp []) (hr : Room j X.A) (hk : k ≤ j) : OpR X (compareOp .Eq) (rEqO C sp) := by
  intro pins s σ H x y v u Q I rx ry h
  obtain ⟨a, b, dx, fs, dy, gs, rfl, rfl, ha, hb', hsp⟩ := h
  obtain ⟨f, fd, ps, ds, hc, hm, F, bnd, d⟩ := c.ex
  cases d
  cases rx
  cases ry
  obtain ⟨mA, J, _⟩ := ins_get I.hok ha
  obtain ⟨mB, J', _⟩ := ins_get I.hok hb'
  obtain ⟨od, J, _⟩ := J.look
  obtain ⟨od', J', _⟩ := J'.look
  obtain ⟨m, hF⟩ := I.fr
  have hr' := hr.mono hk
  show wpAny (model X.prog X.w) X.A (richCompare .Eq (.ref a) (.ref b)) (EP X pins σ Q) X.xe s
  refine PySem.W.cmp_K (op := .Eq) (tb := .ref C) hr.units0 hF I.ok.mod.kin J J'.type (by simp [PySem.W.notFirst]) hm.at_ hm.fn ?_
  have hl := F.len _ _ _ _ hsp
  have r2 : Vals [V.ref a, V.ref b] [Value.ref a, Value.ref b] := .cons rfl (.cons rfl .nil)
  refine wpAny_call (codeAny_mono (F.run X.A X.stack s H ⟨[.ref a, .ref b], []⟩ [.ref a, .ref b] [.ref a, .ref b] _ C8.E0 hr' I.env0 (by
    have := bnd s [.ref a, .ref b] I.kIn (by simpa using hl)
    simpa using this) r2 hsp) fun r s' hq => ?_)
  cases r with
  | error e => exact C8.pass0 (E := C8.E0) pins σ H s e s' I hq
  | ok fl =>
    cases fl with
    | ret w =>
      obtain ⟨z, H', I', rz, ⟨r, ez⟩, q⟩ := I.after hq
      subst ez
      cases rz
      exact ⟨.bl r, H', I', rfl, q⟩
    | next => exact False.elim hq
    | brk => exact False.elim hq
    | cont => exact False.elim hq
end
end CK

set_option Elab.async false
set_option linter.all false
set_option maxRecDepth 100000
set_option maxHeartbeats 2000000
/-! == of an object of an own class and a list, by the object's __eq__ -/
namespace CK
open PySem PySem.Spec PyProof.Rows L2 SX
section
variable {X : Cx} {k j : Nat} {C : Addr} {sp : Sp}
def rEqOL (C : Addr) (sp : Sp) : R2 := fun x y H Q => ∃ a b dx fs xs, x = .ref a ∧ y = .ref b ∧ H a = some (.ins C dx fs) ∧ H b = some (.lst xs) ∧ sp [.ref a, .ref b] H (fun v H' => (∃ r, v = .bl r) ∧ Q v H') C8.E0
theorem notFirst_list (K : PySem.W.Frag) (C : Addr) : PySem.W.notFirst K C (.type "list") = true := by
  have : PySem.W.subIn K (.type "list") (.ref C) = some false := by rfl
  unfold PySem.W.notFirst
  rw [this]
  simp
theorem op_eqOL (c : C8.Met X.prog X.w X.K X.mg X.base k C "__eq__" sp []) (hr : Room j X.A) (hk : k ≤ j) : OpR X (compareOp .Eq) (rEqOL C sp) := by
  intro pins s σ H x y v u Q I rx ry h
  obtain ⟨a, b, dx, fs, xs, rfl, rfl, ha, hb', hsp⟩ := h
  obtain ⟨f, fd, ps, ds, hc, hm, F, bnd, d⟩ := c.ex
  cases d
  cases rx
  cases ry
  obtain ⟨mA, J, _⟩ := ins_get I.hok ha
  obtain ⟨od, J, _⟩ := J.look
  obtain ⟨its, rv, hT, _⟩ := I.list (.inl (.inl hb'))
  obtain ⟨m, hF⟩ := I.fr
  have hr' := hr.mono hk
  obtain ⟨ob, nb, eb, cb, _, _⟩ := hT
  have hty : PySem.W.Looks (model X.prog X.w) s.heap (typeOf (.ref b)) (.type "list") := (PySem.W.Looks.ld eb).andThen (by rw [cb]; exact .now)
  show wpAny (model X.prog X.w) X.A (richCompare .Eq (.ref a) (.ref b)) (EP X pins σ Q) X.xe s
  refine PySem.W.cmp_K (op := .Eq) (tb := .type "list") hr.units0 hF I.ok.mod.kin J hty (notFirst_list _ _) hm.at_ hm.fn ?_
  have hl := F.len _ _ _ _ hsp
  have r2 : Vals [V.ref a, V.ref b] [Value.ref a, Value.ref b] := .cons rfl (.cons rfl .nil)
  refine wpAny_call (codeAny_mono (F.run X.A X.stack s H ⟨[.ref a, .ref b], []⟩ [.ref a, .ref b] [.ref a, .ref b] _ C8.E0 hr' I.env0 (by
    have := bnd s [.ref a, .ref b] I.kIn (by simpa using hl)
    simpa using this) r2 hsp) fun r s' hq => ?_)
  cases r with
  | error e => exact C8.pass0 (E := C8.E0) pins σ H s e s' I hq
  | ok fl =>
    cases fl with
    | ret w =>
      obtain ⟨z, H', I', rz, ⟨r, ez⟩, q⟩ := I.after hq
      subst ez
      cases rz
      exact ⟨.bl r, H', I', rfl, q⟩
    | next => exact False.elim hq
    | brk => exact False.elim hq
    | cont => exact False.elim hq
/-- the class object is of the type type -/
def TyC (K : PySem.W.Frag) (C : Addr) : Prop := ∃ od cd sl, K.lookup C = some ⟨.type "type", od, .cls cd, sl⟩
theorem tyc_mk {K : PySem.W.Frag} {mg : Str → Option Value} {x : Str} {C : Addr} (_ : ClF K mg x C) {oc : Value} {od : Option Addr} {cd : ClassData} {sl : Array (Option Value)} (l : K.lookup C = some ⟨oc, od, .cls cd, sl⟩) (e : oc = .type "type") : TyC K C := by
  subst e
  exact ⟨_, _, _, l⟩
theorem with_tyc {K : PySem.W.Frag} {mg : Str → Option Value} {x : Str} {C : Addr} (_ : ClF K mg x C) {R : Prop} (d : TyC K C) (r : TyC K C → R) : R := r d
theorem kit_listC {K : PySem.W.Frag} {C : Addr} (t : TyC K C) : PySem.W.kitOne K (.type "list") (.ref C) = some false := by
  obtain ⟨od, cd, sl, l⟩ := t
  have s : PySem.W.subIn K (.type "list") (.ref C) = some false := by rfl
  have h1 : PySem.W.clsIn K C = some cd := by unfold PySem.W.clsIn; rw [l]
  have h2 : PySem.W.typeIn K (.ref C) = some (.type "type") := by
    show (K.lookup C).map _ = _
    rw [l]
    rfl
  have h3 : PySem.W.kitCls K (.type "list") (.ref C) = some false := by
    unfold PySem.W.kitCls
    dsimp only
    rw [h1, h2, s]
    rfl
  unfold PySem.W.kitOne
  rw [h3]
  rfl
/-- isinstance of an object of an own class, or of a list -/
theorem call_isCL (c : C8.InsC X.K C) (t : TyC X.K C) : CallR X (.builtin "isinstance") (fun xs H Q => (∃ a dx fs, xs = [.ref a, .ref C] ∧ H a = some (.ins C dx fs) ∧ Q (.bl true) H) ∨ ∃ a ys, xs = [.ref a, .ref C] ∧ H a = some (.lst ys) ∧ Q (.bl false) H) := by
  intro pins s σ H xs us Q I r h
  rcases h with h | ⟨a, ys, rfl, ha, q⟩
  · exact C8.call_isC c pins s σ H xs us Q I r h
  · exact call_isi pins s σ H _ us Q I r ⟨.ref a, .ref C, .type "list", .ref C, false, rfl, .own C, .base (.lst ha), kit_listC t, q⟩
end
end CK

set_option Elab.async false
set_option linter.all false
set_option maxRecDepth 100000
/-! (instance, number) == (instance, number): tuples whose instances are equal by their own == -/
namespace CK
open PySem PySem.Spec PyProof.Rows L2
section
variable {X : Cx} {k j : Nat} {C : Addr} {sp : Sp} {R : Addr → Addr → Hp → Prop}
/-- two of the class that R tells equal, or two equal flat values -/
abbrev DPart (C : Addr) (R : Addr → Addr → Hp → Prop) : Eqv := fun x y H => DIns C R x y H ∨ DFlat x y H
theorem op_eqTO (c : C8.Met X.prog X.w X.K X.mg X.base k C "__eq__" sp []) (hR : ∀ a b H H', Ext H H' → R a b H → R a b H') (hs : ∀ vs H Q E, spEq R vs H Q E → sp vs H Q E) (hr : Room j X.A) (hk : k + 1 ≤ j) : OpR X (compareOp .Eq) (rEqG (DTup X.K (DPart C R))) := by
  obtain ⟨f, fd, ps, ds, hc, hm, F, bnd, d⟩ := c.ex
  cases d
  have e1 : EqG X k (DIns C R) := eqG_ins (F.imp hs) hm.at_ hm.fn bnd (C8.pass0 (E := C8.E0))
  exact op_eqG (rcG_tup (Mon.or (mon_ins hR) mon_flat) (e1.or (eqG_flat.mono (Nat.zero_le _)))) (hr.mono hk)
end
end CK

set_option Elab.async false
set_option linter.all false
set_option maxRecDepth 100000
/-! lists of instances: == by their own ==; != of two lists of the same objects -/
namespace CK
open PySem PySem.Spec PyProof.Rows L2
section
variable {X : Cx} {k j : Nat} {C : Addr} {sp : Sp} {R : Addr → Addr → Hp → Prop}
theorem op_eqLO (c : C8.Met X.prog X.w X.K X.mg X.base k C "__eq__" sp []) (hR : ∀ a b H H', Ext H H' → R a b H → R a b H') (hs : ∀ vs H Q E, spEq R vs H Q E → sp vs H Q E) (hr : Room j X.A) (hk : k + 1 ≤ j) : OpR X (compareOp .Eq) (rEqG (DList (DIns C R))) := by
  obtain ⟨f, fd, ps, ds, hc, hm, F, bnd, d⟩ := c.ex
  cases d
  have e1 : EqG X k (DIns C R) := eqG_ins (F.imp hs) hm.at_ hm.fn bnd (C8.pass0 (E := C8.E0))
  exact op_eqG (rcG_list (mon_ins hR) e1) (hr.mono hk)
theorem refs_its : ∀ {as : List Addr} {us : List Value}, Vals (as.map V.ref) us → us = as.map Value.ref
  | [], _, r => by cases r; rfl
  | a :: as, _, r => by
    cases r with
    | cons h t =>
      rw [refs_its t]
      have h : _ = Value.ref a := h
      rw [h]
      rfl
theorem op_neRefs (hu : X.A.units < cLine) : OpR X (compareOp .NotEq) (fun x y H Q => ∃ (a b : Addr) (as : List Addr), x = .ref a ∧ y = .ref b ∧ H a = some (.lst (as.map V.ref)) ∧ H b = some (.lst (as.map V.ref)) ∧ Q (.bl false) H) := by
  intro pins s σ H x y v u Q I rx ry h
  obtain ⟨a, b, as, rfl, rfl, ha, hb, q⟩ := h
  cases rx
  cases ry
  obtain ⟨its, r1, l1, _⟩ := I.list (.inl (.inl ha))
  obtain ⟨its2, r2, l2, _⟩ := I.list (.inl (.inl hb))
  rw [refs_its r1] at l1
  rw [refs_its r2] at l2
  show wpAny (model X.prog X.w) X.A (richCompare .NotEq (.ref a) (.ref b)) (EP X pins σ Q) X.xe s
  refine SeqAt.RcNeAt.lists (e := fun _ => true) l1.isList l2.isList rfl hu (fun j h1 h2 => SeqAt.EqAt.same _) X.prog X.w _ _ ?_
  have e : (!(List.range (as.map Value.ref).toArray.size).all fun _ => true) = false := by simp
  rw [e]
  exact ⟨.bl false, H, I, rfl, q⟩
/-- xs == [], whatever the items are -/
theorem op_eqNil (hu : X.A.units < cLine) : OpR X (compareOp .Eq) (fun x y H Q => ∃ (a b : Addr) (xs : List V), x = .ref a ∧ y = .ref b ∧ H a = some (.lst xs) ∧ H b = some (.lst []) ∧ Q (.bl (decide (xs = []))) H) := by
  intro pins s σ H x y v u Q I rx ry h
  obtain ⟨a, b, xs, rfl, rfl, ha, hb, q⟩ := h
  cases rx
  cases ry
  obtain ⟨its, r1, l1, _⟩ := I.list (.inl (.inl ha))
  obtain ⟨its2, r2, l2, _⟩ := I.list (.inl (.inl hb))
  have n2 : its2 = [] := List.length_eq_zero_iff.mp (by rw [← r2.length]; rfl)
  subst n2
  show wpAny (model X.prog X.w) X.A (richCompare .Eq (.ref a) (.ref b)) (EP X pins σ Q) X.xe s
  cases xs with
  | nil =>
    have n1 : its = [] := List.length_eq_zero_iff.mp (by rw [← r1.length]; rfl)
    subst n1
    refine SeqAt.RcAt.lists (e := fun _ => true) l1.isList l2.isList rfl hu (fun j h1 h2 => absurd h1 (by simp)) X.prog X.w _ _ ?_
    exact ⟨.bl true, H, I, rfl, q⟩
  | cons x xs =>
    have n1 : its.length = xs.length + 1 := by rw [← r1.length]; rfl
    refine SeqAt.RcAt.lists_lengths l1.isList l2.isList (by simp [n1]) hu X.prog X.w _ _ ?_
    exact ⟨.bl false, H, I, rfl, q⟩
end
end CK

set_option linter.all false
namespace CK
open PySem PySem.Spec PyProof.Rows L2
/-- != of data within a comprehension -/
theorem op_neDK {X : Cx} {K : PySem.W.Frag} (hK : X.K = K) (hu : X.A.units + 64 < cLine) : OpR X (compareOp .NotEq) (rNeD K) := by
  subst hK
  exact op_neD hu
end CK

set_option Elab.async false
set_option linter.all false
set_option maxRecDepth 100000
set_option maxHeartbeats 2000000
/-! values of any kind, by their data -/
namespace CK
open PySem PySem.Spec PyProof.Rows L2
section
variable {K : PySem.W.Frag} {H H' : Hp}
theorem sqL_same {a : Addr} {xs : List V} (s : Same H H') : SqL K H a xs → SqL K H' a xs
  | .inl (.inl e) => .inl (.inl (s _ _ e))
  | .inl (.inr ⟨o, e⟩) => .inl (.inr ⟨o, s _ _ e⟩)
  | .inr h => .inr h
theorem sqT_same {a : Addr} {xs : List V} (s : Same H H') : SqT K H a xs → SqT K H' a xs
  | .inl (.inl e) => .inl (.inl (s _ _ e))
  | .inl (.inr ⟨o, e⟩) => .inl (.inr ⟨o, s _ _ e⟩)
  | .inr h => .inr h
mutual
theorem dp_same (s : Same H H') : ∀ (d : PyData) (v : V), Dp K H v d → Dp K H' v d
  | .none, _, h => by cases h; exact .non
  | .bool b, _, h => by cases h; exact .bl b
  | .int i, _, h => by cases h; exact .int i
  | .str x, _, h => by cases h; exact .str x
  | .list ds, _, h => by cases h with | lst a b => exact .lst (sqL_same s a) (dpAll_same s ds _ b)
  | .tuple ds, _, h => by cases h with | tup a b => exact .tup (sqT_same s a) (dpAll_same s ds _ b)
  | .dict es, _, h => by cases h
theorem dpAll_same (s : Same H H') : ∀ (ds : List PyData) (vs : List V), DpAll K H vs ds → DpAll K H' vs ds
  | [], _, h => by cases h; exact .nil
  | d :: ds, _, h => by cases h with | cons a b => exact .cons (dp_same s d _ a) (dpAll_same s ds _ b)
end
theorem dpAll_len : ∀ {vs : List V} {ds : List PyData}, DpAll K H vs ds → vs.length = ds.length
  | _, _, .nil => rfl
  | _, _, .cons _ t => congrArg (· + 1) (dpAll_len t)
theorem dpAll_get : ∀ {vs : List V} {ds : List PyData} {i : Nat} {v : V}, DpAll K H vs ds → vs[i]? = some v → ∃ d, ds[i]? = some d ∧ Dp K H v d
  | _, _, 0, _, .cons a _, e => ⟨_, rfl, by cases e; exact a⟩
  | _, _, i + 1, _, .cons _ t, e => dpAll_get (i := i) t (by simpa using e)
end
/-- the built-in type of a value -/
def kindD : PyData → String
  | .none => "NoneType"
  | .bool _ => "bool"
  | .int _ => "int"
  | .str _ => "str"
  | .list _ => "list"
  | .tuple _ => "tuple"
  | .dict _ => "dict"
theorem tyX_dp {K : PySem.W.Frag} {H : Hp} {v : V} {d : PyData} (h : Dp K H v d) : TyX K H v (.type (kindD d)) := by
  cases h with
  | non => exact .base .non
  | bl b => exact .base (.bl b)
  | int i => exact .base (.int i)
  | str x => exact .base (.str x)
  | lst a _ =>
    rcases a with (e | ⟨o, e⟩) | ⟨o, its, n, e, c, _⟩
    · exact .base (.lst e)
    · exact .base (.frz e)
    · exact .kList e c
  | tup a _ =>
    rcases a with (e | ⟨o, e⟩) | ⟨o, its, n, e, c, _⟩
    · exact .base (.tup e)
    · exact .fTuple e
    · exact .kTuple e c
section
variable {X : Cx}
/-- isinstance of data -/
theorem call_isD : CallR X (.builtin "isinstance") (fun xs H Q => ∃ (v : V) (d : PyData) (T : String) (b : Bool), xs = [v, .ty T] ∧ Dp X.K H v d ∧ kitB (kindD d) T = some b ∧ Q (.bl b) H) := by
  intro pins s σ H xs us Q I r h
  obtain ⟨v, d, T, b, rfl, k, e, q⟩ := h
  exact call_isi pins s σ H _ us Q I r ⟨v, .ty T, _, _, b, rfl, .ty T, tyX_dp k, kit_ty e, q⟩
end
def isInt : PyData → Bool
  | .int _ => true
  | _ => false
def isBool : PyData → Bool
  | .bool _ => true
  | _ => false
def isLd : PyData → Bool
  | .list _ => true
  | _ => false
def isTd : PyData → Bool
  | .tuple _ => true
  | _ => false
def isSd : PyData → Bool
  | .str _ => true
  | _ => false
theorem kitd_int : ∀ d : PyData, kitB (kindD d) "int" = some (isInt d || isBool d)
  | .none => (by decide +kernel : kitB "NoneType" "int" = some false)
  | .bool _ => (by decide +kernel : kitB "bool" "int" = some true)
  | .int _ => (by decide +kernel : kitB "int" "int" = some true)
  | .str _ => (by decide +kernel : kitB "str" "int" = some false)
  | .list _ => (by decide +kernel : kitB "list" "int" = some false)
  | .tuple _ => (by decide +kernel : kitB "tuple" "int" = some false)
  | .dict _ => (by decide +kernel : kitB "dict" "int" = some false)
theorem kitd_bool : ∀ d : PyData, kitB (kindD d) "bool" = some (isBool d)
  | .none => (by decide +kernel : kitB "NoneType" "bool" = some false)
  | .bool _ => (by decide +kernel : kitB "bool" "bool" = some true)
  | .int _ => (by decide +kernel : kitB "int" "bool" = some false)
  | .str _ => (by decide +kernel : kitB "str" "bool" = some false)
  | .list _ => (by decide +kernel : kitB "list" "bool" = some false)
  | .tuple _ => (by decide +kernel : kitB "tuple" "bool" = some false)
  | .dict _ => (by decide +kernel : kitB "dict" "bool" = some false)
theorem kitd_list : ∀ d : PyData, kitB (kindD d) "list" = some (isLd d)
  | .none => (by decide +kernel : kitB "NoneType" "list" = some false)
  | .bool _ => (by decide +kernel : kitB "bool" "list" = some false)
  | .int _ => (by decide +kernel : kitB "int" "list" = some false)
  | .str _ => (by decide +kernel : kitB "str" "list" = some false)
  | .list _ => (by decide +kernel : kitB "list" "list" = some true)
  | .tuple _ => (by decide +kernel : kitB "tuple" "list" = some false)
  | .dict _ => (by decide +kernel : kitB "dict" "list" = some false)
theorem kitd_tuple : ∀ d : PyData, kitB (kindD d) "tuple" = some (isTd d)
  | .none => (by decide +kernel : kitB "NoneType" "tuple" = some false)
  | .bool _ => (by decide +kernel : kitB "bool" "tuple" = some false)
  | .int _ => (by decide +kernel : kitB "int" "tuple" = some false)
  | .str _ => (by decide +kernel : kitB "str" "tuple" = some false)
  | .list _ => (by decide +kernel : kitB "list" "tuple" = some false)
  | .tuple _ => (by decide +kernel : kitB "tuple" "tuple" = some true)
  | .dict _ => (by decide +kernel : kitB "dict" "tuple" = some false)
theorem kitd_str : ∀ d : PyData, kitB (kindD d) "str" = some (isSd d)
  | .none => (by decide +kernel : kitB "NoneType" "str" = some false)
  | .bool _ => (by decide +kernel : kitB "bool" "str" = some false)
  | .int _ => (by decide +kernel : kitB "int" "str" = some false)
  | .str _ => (by decide +kernel : kitB "str" "str" = some true)
  | .list _ => (by decide +kernel : kitB "list" "str" = some false)
  | .tuple _ => (by decide +kernel : kitB "tuple" "str" = some false)
  | .dict _ => (by decide +kernel : kitB "dict" "str" = some false)
theorem isInt_of {d : PyData} (h : isInt d = true) : ∃ i, d = .int i := by
  cases d with
  | int i => exact ⟨i, rfl⟩
  | _ => exact absurd h Bool.false_ne_true
/-- a comprehension that maps the items of a list -/
theorem lcS_map {K : PySem.W.Frag} {a : Addr} {xs : List V} {j : Nat} {te : TE} {vs : List Nat} {σ : L2.St} {H1 : Hp} {D : Addr} {Qd : Hp → Prop} (f : Nat → V) (ha : SqL K H1 a xs) (hn : xs.length < sizeLine)
    (hs : ∀ (i : Nat) (x : V) (H : Hp) (R : VK), xs[i]? = some x → Same H1 H → (∀ H', Same H H' → R (f i) H') → wipe ((wipe σ vs).set j (some x)) vs = wipe σ vs ∧ te ((wipe σ vs).set j (some x)) H R)
    (hD : H1 D = none) (hd : ∀ H : Hp, Same H1 H → H D = some (.lst ((List.range xs.length).map f)) → Qd H) :
    ∃ W : Nat → Nat → Hp → Prop, (∃ m, W 0 m (upd H1 D (.lst []))) ∧ ∀ i m H, W i m H →
      ((Itl K a).stop i H ∧ Qd H) ∨ ((Itl K a).go i H ∧ ∃ Nx : Hp → Prop, (∀ H', Nx H' → ∃ m', m' < m ∧ W (i + 1) m' H') ∧ ∀ x H', (Itl K a).yld i H x H' → gName j x (wipe σ vs) H' fun σ2 H2 => wipe σ2 vs = wipe σ vs ∧ tYes σ2 H2 fun b H3 =>
        if b = true then te σ2 H3 fun y H4 => ∃ acc, H4 D = some (.lst acc) ∧ acc.length < sizeLine ∧ Nx (upd H4 D (.lst (acc ++ [y]))) else Nx H3) := by
  refine lc_mapW (walk_list (K := K) (a := a) (xs := xs)) f hn (fun H s => sqL_same s ha) (fun i x H H' R hi s y q => ?_) hD hd
  obtain ⟨rfl, hx⟩ := y
  exact hs i x H' R hx s q
/-! what repr asks of data -/
mutual
def okD : PyData → Bool
  | .none | .bool _ => true
  | .int i => decide (i.natAbs < 2 ^ 1900)
  | .str x => x.cps.toList.all fun c => decide (c < 16 ^ 8)
  | .list xs | .tuple xs => okDs xs
  | .dict _ => false
def okDs : List PyData → Bool
  | [] => true
  | x :: xs => okD x && okDs xs
end
mutual
def bndD : PyData → Nat
  | .none | .bool _ => 8
  | .int _ => 1923
  | .str x => 10 * x.length + 2
  | .list xs | .tuple xs => bndDs xs + 3
  | .dict _ => 0
def bndDs : List PyData → Nat
  | [] => 0
  | x :: xs => bndD x + 2 + bndDs xs
end
theorem shownAll_len : ∀ xs : List PyData, (PyData.shownAll xs).length = xs.length
  | [] => by simp [PyData.shownAll]
  | x :: xs => by rw [PyData.shownAll, List.length_cons, List.length_cons, shownAll_len xs]
mutual
theorem fine0 : ∀ d : PyData, okD d = true → d.showable = true ∧ d.hasDict = false ∧ d.shown.length ≤ bndD d
  | .none, _ => by decide +kernel
  | .bool true, _ => by decide +kernel
  | .bool false, _ => by decide +kernel
  | .int i, h => by
    have hl := log_lt (of_decide_eq_true h)
    have a1 := int_text_length_le (a := i) (k := 1920) (by omega) hl
    have a3 : ((toString i : Str)).length = (toString i).length := PySem.ofString_length _
    have e : PyData.shown (.int i) = (toString i : Str) := by simp only [PyData.shown]
    refine ⟨by simp [PyData.showable, hl], by simp [PyData.hasDict], ?_⟩
    rw [e, bndD]
    omega
  | .str x, h => by
    refine ⟨by simp [PyData.showable], by simp [PyData.hasDict], ?_⟩
    rw [PyData.shown, bndD]
    refine StrLaws.reprText_len _ fun c hc => ?_
    have := List.all_eq_true.mp h c (by simpa using hc)
    simpa using this
  | .list xs, h => by
    obtain ⟨a1, a2, a3⟩ := fine1 xs h
    refine ⟨by rw [PyData.showable, a1], by rw [PyData.hasDict, a2], ?_⟩
    rw [PyData.shown, bndD]
    have := listText_len_le (PyData.shownAll xs)
    rw [shownAll_len] at this
    omega
  | .tuple xs, h => by
    obtain ⟨a1, a2, a3⟩ := fine1 xs h
    refine ⟨by rw [PyData.showable, a1], by rw [PyData.hasDict, a2], ?_⟩
    rw [PyData.shown, bndD]
    have := tupleText_len_le (PyData.shownAll xs)
    rw [shownAll_len] at this
    omega
  | .dict kvs, h => absurd h Bool.false_ne_true
theorem fine1 : ∀ xs : List PyData, okDs xs = true → PyData.showableAll xs = true ∧ PyData.hasDictAll xs = false ∧ ((PyData.shownAll xs).map (·.length)).sum + 2 * xs.length ≤ bndDs xs
  | [], _ => by decide +kernel
  | x :: xs, h => by
    have h' : (okD x && okDs xs) = true := h
    obtain ⟨h1, h2⟩ := Bool.and_eq_true_iff.mp h'
    obtain ⟨a1, a2, a3⟩ := fine0 x h1
    obtain ⟨b1, b2, b3⟩ := fine1 xs h2
    refine ⟨by rw [PyData.showableAll, a1, b1]; rfl, by rw [PyData.hasDictAll, a2, b2]; rfl, ?_⟩
    rw [PyData.shownAll, List.map_cons, List.sum_cons, List.length_cons, bndDs]
    omega
end
/-- data that repr takes -/
def Fine (d : PyData) : Prop := d.showable = true ∧ d.hasDict = false ∧ d.depth ≤ 60 ∧ d.shown.length ≤ sizeLine
theorem fine_of {d : PyData} (h : okD d = true) (hd : d.depth ≤ 60) (hb : bndD d ≤ 16000000) : Fine d := by
  obtain ⟨a, b, c⟩ := fine0 d h
  exact ⟨a, b, hd, by rw [sizeLine_eq]; omega⟩
section
variable {X : Cx} {j : Nat}
/-- repr of fine data -/
theorem call_reprF (hr : Room j X.A) (gd : X.A.guards = some []) : CallR X (.builtin "repr") (fun xs H Q => ∃ (v : V) (d : PyData), xs = [v] ∧ Dp X.K H v d ∧ Fine d ∧ Q (.str d.shown) H) := by
  intro pins s σ H xs us Q I r h
  obtain ⟨v, d, rfl, dp, ⟨a, b, c, e⟩, q⟩ := h
  exact call_repr hr gd pins s σ H _ us Q I r ⟨v, d, rfl, dp, a, b, c, e, q⟩
end
end CK

set_option Elab.async false
set_option linter.all false
set_option maxRecDepth 100000
set_option maxHeartbeats 4000000
namespace K47
open PySem PySem.Spec PyProof.Rows L2 CK
def topS (i : Nat) : Stmt := PySem.Challenge.pw_countscribe_k47_sums_and_lessers.main.body.getD i (.Pass ⟨0, 0, 0, 0⟩)
theorem sc_is_whole : FnScope ["value"] ["value"] (C8.fnScope (topS 5)) := C8.fnScope_by (by decide +kernel)
theorem sc_is_run_value : FnScope ["value"] ["value"] (C8.fnScope (topS 8)) := C8.fnScope_by (by decide +kernel)
theorem sc_is_run_list : FnScope ["value", "item"] ["value"] (C8.fnScope (topS 9)) := C8.fnScope_by (by decide +kernel)
theorem sc_is_slope : FnScope ["start", "value"] ["start", "value"] (C8.fnScope (topS 10)) := C8.fnScope_by (by decide +kernel)
theorem sc_is_run : FnScope ["value", "first", "start", "slope"] ["value"] (C8.fnScope (topS 11)) := C8.fnScope_by (by decide +kernel)
theorem sc_one_before : FnScope ["start", "slope"] ["start", "slope"] (C8.fnScope (topS 12)) := C8.fnScope_by (by decide +kernel)
theorem sc_shortened : FnScope ["first", "start", "slope", "size"] ["first", "start", "slope"] (C8.fnScope (topS 13)) := C8.fnScope_by (by decide +kernel)
theorem sc_need_run : FnScope ["value"] ["value"] (C8.fnScope (topS 14)) := C8.fnScope_by (by decide +kernel)
theorem sc_at_count : FnScope ["run", "count", "first", "start", "slope"] ["run", "count"] (C8.fnScope (topS 15)) := C8.fnScope_by (by decide +kernel)
theorem sc_longer_list : FnScope ["one", "other"] ["one", "other"] (C8.fnScope (topS 16)) := C8.fnScope_by (by decide +kernel)
theorem sc_run_sum : FnScope ["one", "other", "size", "sums", "count"] ["one", "other"] (C8.fnScope (topS 17)) := C8.fnScope_by (by decide +kernel)
theorem sc_value_sum : FnScope ["left", "right"] ["left", "right"] (C8.fnScope (topS 18)) := C8.fnScope_by (by decide +kernel)
theorem sc_run_lesser : FnScope ["one", "other", "size", "low", "high", "since", "values", "count", "run"] ["one", "other"] (C8.fnScope (topS 19)) := C8.fnScope_by (by decide +kernel)
theorem sc_lesser_value : FnScope ["left", "right"] ["left", "right"] (C8.fnScope (topS 20)) := C8.fnScope_by (by decide +kernel)
theorem sc_is_lesser_far_on : FnScope ["one", "other", "size", "left", "right"] ["one", "other", "size"] (C8.fnScope (topS 21)) := C8.fnScope_by (by decide +kernel)
theorem sc_lesser_since : FnScope ["low", "high", "size", "left", "right", "closing"] ["low", "high", "size"] (C8.fnScope (topS 22)) := C8.fnScope_by (by decide +kernel)
theorem sc_law_hash : FnScope ["_law_seed", "_law_index", "_law_mixed"] ["_law_seed", "_law_index"] (C8.fnScope (topS 24)) := C8.fnScope_by (by decide +kernel)
theorem sc_law_generator : FnScope ["_law_script", "_law_index", "_law_seed"] ["_law_script", "_law_index"] (C8.fnScope (topS 25)) := C8.fnScope_by (by decide +kernel)
theorem sc_law_random : FnScope ["_law_generator_here", "_law_bound", "_law_drawn", "_law_turn"] ["_law_generator_here", "_law_bound"] (C8.fnScope (topS 26)) := C8.fnScope_by (by decide +kernel)
theorem sc_law_back : FnScope ["_law_start", "_law_slope_here"] ["_law_start", "_law_slope_here"] (C8.fnScope (topS 27)) := C8.fnScope_by (by decide +kernel)
theorem sc_law_value : FnScope ["_law_run", "_law_number"] ["_law_run", "_law_number"] (C8.fnScope (topS 28)) := C8.fnScope_by (by decide +kernel)
theorem sc_law_worth : FnScope ["_law_generator_here", "_law_kind"] ["_law_generator_here"] (C8.fnScope (topS 29)) := C8.fnScope_by (by decide +kernel)
theorem sc_law_raw_run : FnScope ["_law_generator_here", "_law_most", "_law_start", "_law_slope_here", "_law_first", "_law_line", "_law_turn"] ["_law_generator_here", "_law_most"] (C8.fnScope (topS 30)) := C8.fnScope_by (by decide +kernel)
theorem sc_law_whole : FnScope ["_law_value_here"] ["_law_value_here"] (C8.fnScope (topS 31)) := C8.fnScope_by (by decide +kernel)
theorem sc_law_is_least : FnScope ["_law_run", "_law_item"] ["_law_run"] (C8.fnScope (topS 32)) := C8.fnScope_by (by decide +kernel)
theorem sc_law_made_least : FnScope ["_law_raw", "_law_first", "_law_start", "_law_turn"] ["_law_raw"] (C8.fnScope (topS 33)) := C8.fnScope_by (by decide +kernel)
theorem sc_law_sum : FnScope ["_law_one", "_law_other"] ["_law_one", "_law_other"] (C8.fnScope (topS 34)) := C8.fnScope_by (by decide +kernel)
theorem sc_law_lesser : FnScope ["_law_one", "_law_other"] ["_law_one", "_law_other"] (C8.fnScope (topS 35)) := C8.fnScope_by (by decide +kernel)
theorem sc_law_lesser_at : FnScope ["_law_one", "_law_other", "_law_number"] ["_law_one", "_law_other", "_law_number"] (C8.fnScope (topS 36)) := C8.fnScope_by (by decide +kernel)
theorem sc_law_slope : FnScope ["_law_one", "_law_other"] ["_law_one", "_law_other"] (C8.fnScope (topS 37)) := C8.fnScope_by (by decide +kernel)
theorem sc_law_ending_good : FnScope ["_law_one", "_law_other", "_law_end", "_law_great", "_law_slope_here", "_law_low", "_law_more", "_law_due"] ["_law_one", "_law_other", "_law_end", "_law_great"] (C8.fnScope (topS 38)) := C8.fnScope_by (by decide +kernel)
theorem sc_law_lesser_good : FnScope ["_law_one", "_law_other", "_law_great", "_law_given", "_law_many", "_law_found", "e", "_law_counts", "_law_number"] ["_law_one", "_law_other", "_law_great"] (C8.fnScope (topS 39)) := C8.fnScope_by (by decide +kernel)
theorem sc_law_sum_good : FnScope ["_law_one", "_law_other", "_law_great", "_law_given", "_law_found", "_law_end", "_law_number", "_law_due"] ["_law_one", "_law_other", "_law_great"] (C8.fnScope (topS 40)) := C8.fnScope_by (by decide +kernel)
theorem sc_law_crossing : FnScope ["_law_generator_here", "_law_flat", "_law_steep", "_law_far", "_law_one", "_law_turn", "_law_other"] ["_law_generator_here"] (C8.fnScope (topS 41)) := C8.fnScope_by (by decide +kernel)
theorem sc_law_caught : FnScope ["_law_which", "_law_given", "_law_error", "e"] ["_law_which", "_law_given"] (C8.fnScope (topS 42)) := C8.fnScope_by (by decide +kernel)
theorem sc_law : FnScope ["_law_script", "_law_index", "_law_generator_here", "_law_pair", "_law_one", "_law_other", "_law_great", "_law_bad", "_law_which", "_law_told"] ["_law_script"] (C8.fnScope (topS 43)) := C8.fnScope_by (by decide +kernel)
structure Txt (K : PySem.W.Frag) (mg : Str → Option Value) (E_InvalidRun E_TooMany E_CountError : Addr) : Prop where
  x_InvalidRun : ErrF K mg "InvalidRun" "value" E_InvalidRun
  x_TooMany : ErrF K mg "TooMany" "value" E_TooMany
  x_CountError : BaseE K mg "CountError" E_CountError
  s_InvalidRun_InvalidRun : PySem.W.subIn K (.ref E_InvalidRun) (.ref E_InvalidRun) = some true
  s_InvalidRun_TooMany : PySem.W.subIn K (.ref E_InvalidRun) (.ref E_TooMany) = some false
  s_InvalidRun_CountError : PySem.W.subIn K (.ref E_InvalidRun) (.ref E_CountError) = some true
  s_TooMany_InvalidRun : PySem.W.subIn K (.ref E_TooMany) (.ref E_InvalidRun) = some false
  s_TooMany_TooMany : PySem.W.subIn K (.ref E_TooMany) (.ref E_TooMany) = some true
  s_TooMany_CountError : PySem.W.subIn K (.ref E_TooMany) (.ref E_CountError) = some true
  d_is_whole : DefF K mg "is_whole" (topS 5) ["value"]
  d_is_run_value : DefF K mg "is_run_value" (topS 8) ["value"]
  d_is_run_list : DefF K mg "is_run_list" (topS 9) ["value"]
  d_is_slope : DefF K mg "is_slope" (topS 10) ["start", "value"]
  d_is_run : DefF K mg "is_run" (topS 11) ["value"]
  d_one_before : DefF K mg "one_before" (topS 12) ["start", "slope"]
  d_shortened : DefF K mg "shortened" (topS 13) ["first", "start", "slope"]
  d_need_run : DefF K mg "need_run" (topS 14) ["value"]
  d_at_count : DefF K mg "at_count" (topS 15) ["run", "count"]
  d_longer_list : DefF K mg "longer_list" (topS 16) ["one", "other"]
  d_run_sum : DefD K mg "run_sum" (topS 17) [] []
  d_value_sum : DefF K mg "value_sum" (topS 18) ["left", "right"]
  d_run_lesser : DefD K mg "run_lesser" (topS 19) [] []
  d_lesser_value : DefF K mg "lesser_value" (topS 20) ["left", "right"]
  d_is_lesser_far_on : DefF K mg "is_lesser_far_on" (topS 21) ["one", "other", "size"]
  d_lesser_since : DefF K mg "lesser_since" (topS 22) ["low", "high", "size"]
  d_law_hash : DefF K mg "_law_hash" (topS 24) ["_law_seed", "_law_index"]
  d_law_generator : DefF K mg "_law_generator" (topS 25) ["_law_script", "_law_index"]
  d_law_random : DefF K mg "_law_random" (topS 26) ["_law_generator_here", "_law_bound"]
  d_law_back : DefF K mg "_law_back" (topS 27) ["_law_start", "_law_slope_here"]
  d_law_value : DefF K mg "_law_value" (topS 28) ["_law_run", "_law_number"]
  d_law_worth : DefF K mg "_law_worth" (topS 29) ["_law_generator_here"]
  d_law_raw_run : DefF K mg "_law_raw_run" (topS 30) ["_law_generator_here", "_law_most"]
  d_law_whole : DefF K mg "_law_whole" (topS 31) ["_law_value_here"]
  d_law_is_least : DefF K mg "_law_is_least" (topS 32) ["_law_run"]
  d_law_made_least : DefF K mg "_law_made_least" (topS 33) ["_law_raw"]
  d_law_sum : DefF K mg "_law_sum" (topS 34) ["_law_one", "_law_other"]
  d_law_lesser : DefF K mg "_law_lesser" (topS 35) ["_law_one", "_law_other"]
  d_law_lesser_at : DefF K mg "_law_lesser_at" (topS 36) ["_law_one", "_law_other", "_law_number"]
  d_law_slope : DefF K mg "_law_slope" (topS 37) ["_law_one", "_law_other"]
  d_law_ending_good : DefF K mg "_law_ending_good" (topS 38) ["_law_one", "_law_other", "_law_end", "_law_great"]
  d_law_lesser_good : DefF K mg "_law_lesser_good" (topS 39) ["_law_one", "_law_other", "_law_great"]
  d_law_sum_good : DefF K mg "_law_sum_good" (topS 40) ["_law_one", "_law_other", "_law_great"]
  d_law_crossing : DefF K mg "_law_crossing" (topS 41) ["_law_generator_here"]
  d_law_caught : DefF K mg "_law_caught" (topS 42) ["_law_which", "_law_given"]
  d_law : DefF K mg "law" (topS 43) ["_law_script"]
  m_all : mg "all" = none
  m_bool : mg "bool" = none
  m_int : mg "int" = none
  m_isinstance : mg "isinstance" = none
  m_len : mg "len" = none
  m_list : mg "list" = none
  m_max : mg "max" = none
  m_min : mg "min" = none
  m_range : mg "range" = none
  m_repr : mg "repr" = none
  m_sum : mg "sum" = none
  m_tuple : mg "tuple" = none
  k_MOST_ITEMS : ∃ u, mg "MOST_ITEMS" = some u ∧ RelV (.int 600) u
end K47

set_option Elab.async false
set_option linter.all false
set_option maxRecDepth 100000
set_option maxHeartbeats 4000000
namespace K47
open PySem PySem.Spec PyProof.Rows L2 CK
section
variable {P : Program} {w : World} {K : PySem.W.Frag} {mg : Str → Option Value} {base : Heap} {E_InvalidRun E_TooMany E_CountError : Addr}
/-! ### the law's own defs -/
theorem fm0 {i j : Int} (h : 0 < j) : 0 ≤ i.fmod j := Int.fmod_nonneg_of_pos i h
theorem fm1 {i j : Int} (h : 0 < j) : i.fmod j < j := Int.fmod_lt_of_pos i h
theorem ab {i : Int} {k : Nat} (h0 : 0 ≤ i) (h : i < 2 ^ k) : i.natAbs < 2 ^ k := by
  have e : ((2 ^ k : Nat) : Int) = 2 ^ k := by simp
  omega
def sp_hash : Sp := fun vs H Q _ => ∃ s i : Int, vs = [.int s, .int i] ∧ 0 ≤ s ∧ s < 2 ^ 31 ∧ 0 ≤ i ∧ i < 2 ^ 41 ∧ ∀ r : Int, 0 ≤ r → r < 2 ^ 31 → Q (.int r) H
theorem c_law_hash (T : Txt K mg E_InvalidRun E_TooMany E_CountError) : C8.Cal P w K mg base 1 "_law_hash" sp_hash [] := by
  refine calF T.d_law_hash sc_law_hash (fun vs H Q E h => ?_) (fun f cdv A outer s H vs Q E hr h => ?_)
  · obtain ⟨_, _, rfl, _⟩ := h; rfl
  · obtain ⟨z, i, rfl, h0, h1, h2, h3, q⟩ := h
    refine ⟨_, (pss_cons (ps_set (i := 2) sc_law_hash.nd rfl (Or.inl rfl) (pe_op op_modN (pe_callTy call_int1 (by rfl) T.m_int (by decide +kernel) (pa_cons (pe_op op_add (pe_op op_add (pe_op op_add (pe_op op_mulW (pv 0) pe_int) (pe_op op_mulW (pe_op op_mulW pe_int (pv 1)) (pv 1))) (pe_op op_mulW pe_int (pv 1))) pe_int) pa_nil)) pe_int))
    (pss_cons (ps_set (i := 2) sc_law_hash.nd rfl (Or.inl rfl) (pe_op op_modN (pe_callTy call_int1 (by rfl) T.m_int (by decide +kernel) (pa_cons (pe_op op_add (pe_op op_add (pe_op op_mulW (pv 2) (pv 2)) (pe_op op_mulW pe_int (pv 1))) pe_int) pa_nil)) pe_int))
    (pss_one (ps_ret (pe_op op_modN (pe_callTy call_int1 (by rfl) T.m_int (by decide +kernel) (pa_cons (pe_op op_mulW (pv 2) pe_int) pa_nil)) pe_int))))), ?_⟩
    have a1 : z.natAbs < 2 ^ 100 := ab h0 (by omega)
    have a2 : i.natAbs < 2 ^ 100 := ab h2 (by omega)
    have a3 : ((104729 : Int)).natAbs < 2 ^ 100 := by decide
    have a4 := wide_lt a3 a2
    refine ⟨_, rfl, z, _, rfl, rfl, wide_mul a1 (show ((1299709 : Int)).natAbs < 2 ^ 100 by decide) (by decide) (by decide) (by decide), ?_⟩
    refine ⟨_, rfl, _, i, rfl, rfl, wide_mul a3 a2 (by decide) (by decide) (by decide), _, rfl, _, i, rfl, rfl, wide_mul a4 a2 (by decide) (by decide) (by decide), _, _, rfl, rfl, ?_⟩
    refine ⟨_, rfl, _, i, rfl, rfl, wide_mul (show ((31 : Int)).natAbs < 2 ^ 100 by decide) a2 (by decide) (by decide) (by decide), _, _, rfl, rfl, _, _, rfl, rfl, .inl ⟨_, rfl, _, _, rfl, rfl, (by decide : (2147483629 : Int) ≠ 0), ?_⟩⟩
    obtain ⟨m, hm⟩ : ∃ m, (z * 1299709 + 104729 * i * i + 31 * i + 7).fmod 2147483629 = m := ⟨_, rfl⟩
    have m0 : 0 ≤ m := by rw [← hm]; exact fm0 (by decide)
    have m1 : m < 2147483629 := by rw [← hm]; exact fm1 (by decide)
    have a5 : m.natAbs < 2 ^ 100 := ab m0 (by omega)
    refine ⟨_, rfl, _, rfl, m, m, congrArg V.int hm, congrArg V.int hm, wide_mul a5 a5 (by decide) (by decide) (by decide), ?_⟩
    refine ⟨_, rfl, _, i, rfl, rfl, wide_mul (show ((48271 : Int)).natAbs < 2 ^ 100 by decide) a2 (by decide) (by decide) (by decide), _, _, rfl, rfl, _, _, rfl, rfl, .inl ⟨_, rfl, _, _, rfl, rfl, (by decide : (2147483587 : Int) ≠ 0), ?_⟩⟩
    obtain ⟨k, hk⟩ : ∃ k, (m * m + 48271 * i + 15485863).fmod 2147483587 = k := ⟨_, rfl⟩
    have k0 : 0 ≤ k := by rw [← hk]; exact fm0 (by decide)
    have k1 : k < 2147483587 := by rw [← hk]; exact fm1 (by decide)
    have a6 : k.natAbs < 2 ^ 100 := ab k0 (by omega)
    refine ⟨_, rfl, k, _, congrArg V.int hk, rfl, wide_mul a6 (show ((69621 : Int)).natAbs < 2 ^ 100 by decide) (by decide) (by decide) (by decide), .inl ⟨_, rfl, _, _, rfl, rfl, (by decide : (2147483647 : Int) ≠ 0), ?_⟩⟩
    exact q _ (fm0 (by decide)) (Int.lt_trans (fm1 (by decide)) (by decide))
def sp_random : Sp := fun vs H Q _ => ∃ (g : Addr) (b : Int) (n : Nat), vs = [.ref g, .int b] ∧ Gn (n + 1) H g ∧ 1 ≤ b ∧ b < 2 ^ 200 ∧ ∀ (r : Int) H', SameX g H H' → Gn n H' g → 0 ≤ r → r < b → Q (.int r) H'
theorem pow32 (i : Nat) : (2 : Int) ^ (32 * (i + 1)) = 2 ^ (32 * i) * 4294967296 := by
  rw [Nat.mul_add, Int.pow_add]
  rfl
theorem pow_ge1 (i : Nat) : (1 : Int) ≤ 2 ^ i := by
  have := Int.pow_pos (n := 2) (m := i) (by decide)
  omega
theorem c_law_random (T : Txt K mg E_InvalidRun E_TooMany E_CountError) : C8.Cal P w K mg base 2 "_law_random" sp_random [] := by
  refine calF T.d_law_random sc_law_random (fun vs H Q E h => ?_) (fun f cdv A outer s H vs Q E hr h => ?_)
  · obtain ⟨_, _, _, rfl, _⟩ := h; rfl
  · obtain ⟨g, b, n, rfl, G, hb, hb2, q⟩ := h
    refine ⟨_, (pss_cons (ps_if (pt_cmpR op_gt (pe_ix ix_list (pv 0) pe_int (fun _ _ => rfl)) pe_int (nomark _))
    (pss_cons (ps_set (i := 2) sc_law_random.nd rfl (Or.inl rfl) (pe_op op_modN (pe_callTy call_int1 (by rfl) T.m_int (by decide +kernel) (pa_cons (pe_ix ix_list (pv 0) pe_int (fun _ _ => rfl)) pa_nil)) (pv 1)))
    (pss_cons (ps_asg (pe_op op_fdivW (pe_ix ix_list (pv 0) pe_int (fun _ _ => rfl)) (pv 1)) (pg_sub (pv 0) pe_int set_list))
    (pss_one (ps_ret (pv 2)))))
    pss_nil)
    (pss_cons (ps_set (i := 2) sc_law_random.nd rfl (Or.inl rfl) pe_int)
    (pss_cons (ps_for PassesOwn.never rfl (pi_range1 (by rfl) T.m_range (pa_cons (pe_op op_add pe_int (pe_op op_fdivW (pe_bits (pv 1)) pe_int)) pa_nil)) (pg_name (i := 3) sc_law_random.nd rfl (Or.inl rfl))
    (pss_cons (ps_asg (pe_op op_add (pe_ix ix_list (pv 0) pe_int (fun _ _ => rfl)) pe_int) (pg_sub (pv 0) pe_int set_list))
    (pss_one (ps_set (i := 2) sc_law_random.nd rfl (Or.inl rfl) (pe_op op_add (pe_op op_mulW (pv 2) pe_int) (C8.pe_c (c_law_hash T) hr (by decide) (by rfl) (pa_cons (pe_ix ix_list (pv 0) pe_int (fun _ _ => rfl)) (pa_cons (pe_ix ix_list (pv 0) pe_int (fun _ _ => rfl)) pa_nil))))))))
    (pss_one (ps_ret (pe_op op_modN (pe_callTy call_int1 (by rfl) T.m_int (by decide +kernel) (pa_cons (pv 2) pa_nil)) (pv 1))))))), ?_⟩
    obtain ⟨x, y, c, hg, x0, y0, y1, c0, c1⟩ := G
    refine ⟨_, rfl, g, _, 0, .int x, rfl, rfl, .inl (.inl hg), atI_nat (j := 0) rfl, x, 0, rfl, rfl, _, rfl, ite2 (fun e => ?_) (fun e => ?_)⟩
    · -- a digit
      refine ⟨_, rfl, g, _, 0, .int x, rfl, rfl, .inl (.inl hg), atI_nat (j := 0) rfl, .inl ⟨x, rfl, _, rfl, x, b, rfl, rfl, by omega, ?_⟩⟩
      refine ⟨_, rfl, g, _, 0, .int x, rfl, rfl, .inl (.inl hg), atI_nat (j := 0) rfl, _, rfl, x, b, rfl, rfl, wide_div (b := 200) (by omega) (ab (by omega) hb2) (by decide) (by decide), _, rfl, g, _, 0, 0, rfl, rfl, hg, rfl, ?_⟩
      exact ⟨_, rfl, q _ _ sameX_upd ⟨x / b, y, c, upd_same, Int.ediv_nonneg x0 (by omega), y0, y1, c0, by omega⟩ (fm0 (by omega)) (fm1 (by omega))⟩
    · -- by the hash
      have ib : Builtin.Int.intBits b ≤ 200 := intBits_le (ab (by omega) hb2)
      have tn : (1 + ((Builtin.Int.intBits b : Nat) : Int) / 30).toNat ≤ 7 := by omega
      refine ⟨_, rfl, b, rfl, _, _, rfl, rfl, wide_div (b := 200) (by decide) (by decide) (by decide) (by decide), _, _, rfl, rfl, _, rfl, by omega, by omega, ?_⟩
      refine for_it walk_range (fun i σ H3 => ∃ (d : Int) (y3 : Option V) (c3 : Int), σ = [some (.ref g), some (.int b), some (.int d), y3] ∧ SameX g H H3 ∧ H3 g = some (.lst [.int x, .int y, .int c3]) ∧ c3 = c + i ∧ 0 ≤ d ∧ d < 2 ^ (32 * i) ∧ i ≤ 7)
        ⟨0, none, c, rfl, .refl _ _, hg, by simp, Int.le_refl _, by decide, by decide⟩ (fun _ _ _ _ _ => True.intro) (fun i v σ H3 H4 hi p yy => ?_) fun σ H3 p => ?_
      · obtain ⟨d, y3, c3, rfl, s3, g3, ec, d0, d1, i7⟩ := p
        obtain ⟨rfl, rfl⟩ := yy
        have i6 : i ≤ 6 := by omega
        have u1 : (upd H4 g (.lst [.int x, .int y, .int (c3 + 1)])) g = some (.lst [.int x, .int y, .int (c3 + 1)]) := upd_same
        refine ⟨_, rfl, g, _, 2, .int c3, rfl, rfl, .inl (.inl g3), atI_nat (j := 2) rfl, _, _, rfl, rfl, _, rfl, g, _, 2, 2, rfl, rfl, g3, rfl, ?_⟩
        have ad : d.natAbs < 2 ^ (32 * i + 1) := ab d0 (Int.lt_of_lt_of_le d1 (by rw [Int.pow_succ]; have := pow_ge1 (32 * i); omega))
        refine ⟨_, rfl, d, _, rfl, rfl, wide_mul ad (show ((2147483587 : Int)).natAbs < 2 ^ 100 by decide) (by omega) (by decide) (by omega), ?_⟩
        refine ⟨_, rfl, g, _, 1, .int y, rfl, rfl, .inl (.inl u1), atI_nat (j := 1) rfl, _, rfl, g, _, 2, .int (c3 + 1), rfl, rfl, .inl (.inl u1), atI_nat (j := 2) rfl, y, c3 + 1, rfl, y0, y1, by omega, by omega, fun r r0 r1 => ⟨_, _, rfl, rfl, ?_⟩⟩
        refine ⟨_, _, c3 + 1, rfl, fun z o nz e => by rw [upd_ne nz]; exact s3 z o nz e, u1, by omega, by have : 0 ≤ d * 2147483587 := Int.mul_nonneg d0 (by decide); omega, ?_, by omega⟩
        rw [pow32]
        have := pow_ge1 (32 * i)
        omega
      · obtain ⟨d, y3, c3, rfl, s3, g3, ec, d0, d1, i7⟩ := p
        refine ⟨_, rfl, .inl ⟨d, rfl, _, rfl, d, b, rfl, rfl, by omega, ?_⟩⟩
        exact q _ _ s3 ⟨x, y, c3, g3, x0, y0, y1, by omega, by omega⟩ (fm0 (by omega)) (fm1 (by omega))
def sp_generator (K : PySem.W.Frag) : Sp := fun vs H Q _ => ∃ (a : Addr) (ns : List Int) (i : Nat), vs = [.ref a, .int i] ∧ SqL K H a (ns.map V.int) ∧ i ≤ 10 ∧ ∀ g H1 H', Same H H1 → H1 g = none → Same H1 H' → Gn 100000 H' g → Q (.ref g) H'
theorem c_law_generator (T : Txt K mg E_InvalidRun E_TooMany E_CountError) : C8.Cal P w K mg base 2 "_law_generator" (sp_generator K) [] := by
  refine calF T.d_law_generator sc_law_generator (fun vs H Q E h => ?_) (fun f cdv A outer s H vs Q E hr h => ?_)
  · obtain ⟨_, _, _, rfl, _⟩ := h; rfl
  · obtain ⟨a, ns, i, rfl, ha, hi, q⟩ := h
    refine ⟨_, (pss_cons (ps_set (i := 2) sc_law_generator.nd rfl (Or.inl rfl) (pe_ifExp (pt_cmpR op_lt (pv 1) (pe_callB call_len_seq (by rfl) T.m_len (by decide +kernel) (pa_cons (pv 0) pa_nil)) (nomark _)) (pe_ix ix_list (pv 0) (pv 1) (fun _ _ => rfl)) (pe_op op_modN (pe_callB (cr_sum rfl) (by rfl) T.m_sum (by decide +kernel) (pa_cons (pe_slice sl_list (pv 0) po_none (po_some pe_int)) pa_nil)) pe_int)))
    (pss_one (ps_ret (pe_lst (pa_cons (pe_op op_modN (pe_callTy call_int1 (by rfl) T.m_int (by decide +kernel) (pa_cons (pe_callB (call_max2 rfl) (by rfl) T.m_max (by decide +kernel) (pa_cons (pe_op op_sub (pv 2) (pe_op op_powB pe_int pe_int)) (pa_cons pe_int pa_nil))) pa_nil)) (pe_op op_powB (pe_op op_powB pe_int pe_int) pe_int)) (pa_cons (pe_op op_modN (pe_callTy call_int1 (by rfl) T.m_int (by decide +kernel) (pa_cons (pv 2) pa_nil)) pe_int) (pa_cons (pe_op op_mulW pe_int (pv 1)) pa_nil))))))), ?_⟩
    refine ⟨_, rfl, _, rfl, a, _, rfl, .inl ha, _, _, rfl, rfl, _, rfl, ite2 (fun e => ?_) (fun e => ?_)⟩
    · have e' := of_decide_eq_true e
      rw [List.length_map] at e'
      have hi' : i < ns.length := by omega
      obtain ⟨H1, s1, eH⟩ : ∃ H1, Same H H1 ∧ H1 = H := ⟨H, Same.refl _, rfl⟩
      refine ⟨_, rfl, _, rfl, a, _, i, .int ns[i], rfl, rfl, ha, atI_nat (by rw [List.getElem?_map, List.getElem?_eq_getElem hi']; rfl), ?_⟩
      rw [← eH]
      refine ⟨_, rfl, _, _, rfl, rfl, ⟨by decide, by decide⟩, _, _, rfl, rfl, _, _, rfl, .inl ⟨_, rfl, _, _, rfl, rfl, ⟨by decide, by decide⟩, _, _, rfl, rfl, ⟨by decide, by decide⟩, _, _, rfl, rfl, (by decide : ((10 : Int) ^ Int.toNat 60) ^ Int.toNat 10 ≠ 0), ?_⟩⟩
      refine ⟨_, rfl, .inl ⟨_, rfl, _, _, rfl, rfl, (by decide : (2147483647 : Int) ≠ 0), ?_⟩⟩
      refine ⟨_, rfl, _, _, rfl, rfl, wide_mul (show ((1000 : Int)).natAbs < 2 ^ 100 by decide) (show ((i : Int)).natAbs < 2 ^ 100 by omega) (by decide) (by decide) (by decide), by show 3 ≤ sizeLine; decide, fun g hg => ?_⟩
      refine q g H1 _ s1 hg (sameNew hg) ⟨_, _, _, upd_same, fm0 (by decide), fm0 (by decide), Int.lt_trans (fm1 (by decide)) (by decide), by omega, by omega⟩
    · refine ⟨_, rfl, 1, rfl, a, _, rfl, ha, fun p hp => ?_⟩
      refine ⟨p, ns.take 1, rfl, .inl (.inl (by rw [upd_same, show ((1 : Int)) = ((1 : Nat) : Int) from rfl, cutV_take, List.map_take])), _, _, rfl, rfl, (by decide : (1000003 : Int) ≠ 0), ?_⟩
      generalize eH : upd H p _ = H1
      have s1 : Same H H1 := by rw [← eH]; exact sameNew hp
      refine ⟨_, rfl, _, _, rfl, rfl, ⟨by decide, by decide⟩, _, _, rfl, rfl, _, _, rfl, .inl ⟨_, rfl, _, _, rfl, rfl, ⟨by decide, by decide⟩, _, _, rfl, rfl, ⟨by decide, by decide⟩, _, _, rfl, rfl, (by decide : ((10 : Int) ^ Int.toNat 60) ^ Int.toNat 10 ≠ 0), ?_⟩⟩
      refine ⟨_, rfl, .inl ⟨_, rfl, _, _, rfl, rfl, (by decide : (2147483647 : Int) ≠ 0), ?_⟩⟩
      refine ⟨_, rfl, _, _, rfl, rfl, wide_mul (show ((1000 : Int)).natAbs < 2 ^ 100 by decide) (show ((i : Int)).natAbs < 2 ^ 100 by omega) (by decide) (by decide) (by decide), by show 3 ≤ sizeLine; decide, fun g hg => ?_⟩
      refine q g H1 _ s1 hg (sameNew hg) ⟨_, _, _, upd_same, fm0 (by decide), fm0 (by decide), Int.lt_trans (fm1 (by decide)) (by decide), by omega, by omega⟩
end
end K47

set_option Elab.async false
set_option linter.all false
set_option maxRecDepth 100000
set_option maxHeartbeats 4000000
namespace K47
open PySem PySem.Spec PyProof.Rows L2 CK
def isVal : PyData → Bool
  | .int _ => true
  | .none => true
  | _ => false
def isRL : PyData → Bool
  | .list ds => ds.all isVal
  | _ => false
def isSl (s d : PyData) : Bool := match d with
  | .int z => match s with
    | .none => decide (z = 0)
    | _ => true
  | _ => false
section
variable {P : Program} {w : World} {K : PySem.W.Frag} {mg : Str → Option Value} {base : Heap} {E_InvalidRun E_TooMany E_CountError : Addr}
def sp_whole (K : PySem.W.Frag) : Sp := fun vs H Q _ => ∃ v d, vs = [v] ∧ Dp K H v d ∧ Q (.bl (isInt d)) H
theorem c_is_whole (T : Txt K mg E_InvalidRun E_TooMany E_CountError) : C8.Cal P w K mg base 1 "is_whole" (sp_whole K) [] := by
  refine calF T.d_is_whole sc_is_whole (fun vs H Q E h => ?_) (fun f cdv A outer s H vs Q E hr h => ?_)
  · obtain ⟨_, _, rfl, _⟩ := h; rfl
  · obtain ⟨v, d, rfl, dv, q⟩ := h
    refine ⟨_, (pss_one (ps_ret (pe_and (pe_callB call_isD (by rfl) T.m_isinstance (by decide +kernel) (pa_cons (pv 0) (pa_cons (pe_bltn (v := .ty "int") (by rfl) T.m_int (by decide +kernel) rfl) pa_nil))) (pe_one (pe_not (pe_callB call_isD (by rfl) T.m_isinstance (by decide +kernel) (pa_cons (pv 0) (pa_cons (pe_bltn (v := .ty "bool") (by rfl) T.m_bool (by decide +kernel) rfl) pa_nil)))))))), ?_⟩
    refine ⟨_, rfl, v, d, _, _, rfl, dv, kitd_int d, _, rfl, ?_⟩
    by_cases e : (isInt d || isBool d) = true
    · rw [if_pos e]
      refine ⟨_, rfl, v, d, _, _, rfl, dv, kitd_bool d, _, rfl, ?_⟩
      cases d <;> first | exact q | exact absurd e Bool.false_ne_true
    · rw [if_neg e]
      cases d <;> first | exact q | exact absurd rfl e
def sp_run_value (K : PySem.W.Frag) : Sp := fun vs H Q _ => ∃ v d, vs = [v] ∧ Dp K H v d ∧ Q (.bl (isVal d)) H
theorem c_is_run_value (T : Txt K mg E_InvalidRun E_TooMany E_CountError) : C8.Cal P w K mg base 2 "is_run_value" (sp_run_value K) [] := by
  refine calF T.d_is_run_value sc_is_run_value (fun vs H Q E h => ?_) (fun f cdv A outer s H vs Q E hr h => ?_)
  · obtain ⟨_, _, rfl, _⟩ := h; rfl
  · obtain ⟨v, d, rfl, dv, q⟩ := h
    refine ⟨_, (pss_one (ps_ret (pe_or (pe_cmpR op_isN (pv 0) pe_non (nomark _)) (pe_one (C8.pe_c (c_is_whole T) hr (by decide) (by rfl) (pa_cons (pv 0) pa_nil)))))), ?_⟩
    refine ⟨_, rfl, rfl, _, rfl, ?_⟩
    by_cases e : v = .non
    · subst e
      cases dv
      exact q
    · rw [if_neg (by simpa using e)]
      refine ⟨_, rfl, v, d, rfl, dv, ?_⟩
      cases d <;> first | exact q | (cases dv; exact absurd rfl e)
def sp_run_list (K : PySem.W.Frag) : Sp := fun vs H Q _ => ∃ v d, vs = [v] ∧ Dp K H v d ∧ (∀ ds, d = .list ds → ds.length ≤ 1000) ∧ ∀ H', Same H H' → Q (.bl (isRL d)) H'
theorem c_is_run_list (T : Txt K mg E_InvalidRun E_TooMany E_CountError) : C8.Cal P w K mg base 3 "is_run_list" (sp_run_list K) [] := by
  refine calF T.d_is_run_list sc_is_run_list (fun vs H Q E h => ?_) (fun f cdv A outer s H vs Q E hr h => ?_)
  · obtain ⟨_, _, rfl, _⟩ := h; rfl
  · obtain ⟨v, d, rfl, dv, hn, q⟩ := h
    refine ⟨_, (pss_one (ps_ret (pe_and (pe_callB call_isD (by rfl) T.m_isinstance (by decide +kernel) (pa_cons (pv 0) (pa_cons (pe_bltn (v := .ty "list") (by rfl) T.m_list (by decide +kernel) rfl) pa_nil))) (pe_one (pe_callB (cr_all rfl) (by rfl) T.m_all (by decide +kernel) (pa_cons (pe_lc (own := [("item", 1)]) (by rfl) sc_is_run_list.nd (pi_list (pv 0)) (blkOk_by (N := ["value", "item"]) (sc := C8.fnScope (topS 9)) (own := [("item", 1)]) (by decide +kernel)) (fun _ _ _ _ _ => (pg_name (i := 1) sc_is_run_list.nd rfl (Or.inl rfl))) (fun _ _ _ _ _ => pts_nil) (fun _ _ _ _ _ => (C8.pe_c (c_is_run_value T) hr (by decide) (by rfl) (pa_cons (pv 1) pa_nil)))) pa_nil)))))), ?_⟩
    refine ⟨_, rfl, v, d, _, _, rfl, dv, kitd_list d, _, rfl, ?_⟩
    cases dv with
    | lst sq da =>
      rename_i a xs ds
      have hl := dpAll_len da
      have h1 := hn ds rfl
      refine ⟨_, rfl, a, rfl, ⟨xs, sq⟩, fun D hD => lcS_map (fun i => V.bl (isVal (ds.getD i .none))) sq (by rw [sizeLine_eq]; omega) (fun i x H1 R hx s1 k => ⟨rfl, x, rfl, ?_⟩) hD fun H1 s1 hr => ?_⟩
      · obtain ⟨d, hd, dx⟩ := dpAll_get da hx
        refine ⟨x, d, rfl, dp_same s1 _ _ dx, ?_⟩
        have := k H1 (Same.refl _)
        rw [List.getD_eq_getElem?_getD, hd] at this
        exact this
      · refine ⟨D, (List.range xs.length).map (fun i => isVal (ds.getD i .none)), rfl, .inl (.inl (by rw [hr, List.map_map]; rfl)), ?_⟩
        have e : (List.range xs.length).map (fun i => isVal (ds.getD i .none)) = ds.map isVal := by
          rw [hl]
          exact range_map_get ds isVal _ fun i x h => by rw [List.getD_eq_getElem?_getD, h]; rfl
        rw [e, List.all_map]
        exact q H1 s1
    | _ => exact q _ (Same.refl _)
def sp_slope (K : PySem.W.Frag) : Sp := fun vs H Q _ => ∃ v z d e, vs = [v, z] ∧ Dp K H v d ∧ Dp K H z e ∧ Q (.bl (isSl d e)) H
theorem c_is_slope (T : Txt K mg E_InvalidRun E_TooMany E_CountError) : C8.Cal P w K mg base 2 "is_slope" (sp_slope K) [] := by
  refine calF T.d_is_slope sc_is_slope (fun vs H Q E h => ?_) (fun f cdv A outer s H vs Q E hr h => ?_)
  · obtain ⟨_, _, _, _, rfl, _⟩ := h; rfl
  · obtain ⟨v, z, d, e, rfl, dv, dz, q⟩ := h
    refine ⟨_, (pss_one (ps_ret (pe_and (C8.pe_c (c_is_whole T) hr (by decide) (by rfl) (pa_cons (pv 1) pa_nil)) (pe_one (pe_or (pe_cmpR op_notN (pv 0) pe_non (nomark _)) (pe_one (pe_cmpR op_eq (pv 1) pe_int (nomark _)))))))), ?_⟩
    refine ⟨_, rfl, _, _, rfl, dz, _, rfl, ?_⟩
    by_cases e1 : isInt e = true
    · rw [if_pos e1]
      refine ⟨_, rfl, rfl, _, rfl, ?_⟩
      obtain ⟨i, rfl⟩ := isInt_of e1
      cases dz
      by_cases e2 : v = .non
      · subst e2
        cases dv
        rw [decide_eq_true rfl]
        refine iteF ⟨_, rfl, rfl, ?_⟩
        have e : decide (V.int i = V.int 0) = decide (i = 0) := by
          by_cases h : i = 0
          · rw [h, decide_eq_true rfl, decide_eq_true rfl]
          · rw [decide_eq_false h, decide_eq_false (fun z => h (V.int.inj z))]
        rw [e]
        exact q
      · rw [decide_eq_false e2]
        cases dv <;> first | exact q | exact absurd rfl e2
    · rw [if_neg e1]
      cases e <;> first | exact q | exact absurd rfl e1
def isCnt : PyData → Bool
  | .int i => decide (0 ≤ i)
  | _ => false
def ov : Option Int → V
  | none => .non
  | some i => .int i
def before (s : Option Int) (m : Int) : Option Int := s.map (· - m)
theorem ov_inj {a b : Option Int} (h : ov a = ov b) : a = b := by
  cases a <;> cases b <;> simp_all [ov]
theorem ov_dec (a b : Option Int) : decide (ov a = ov b) = decide (a = b) := by
  by_cases h : a = b
  · rw [h, decide_eq_true rfl, decide_eq_true rfl]
  · rw [decide_eq_false h, decide_eq_false (fun z => h (ov_inj z))]
def sp_before : Sp := fun vs H Q _ => ∃ s m, vs = [ov s, .int m] ∧ Q (ov (before s m)) H
theorem c_one_before (T : Txt K mg E_InvalidRun E_TooMany E_CountError) : C8.Cal P w K mg base 1 "one_before" sp_before [] := by
  refine calF T.d_one_before sc_one_before (fun vs H Q E h => ?_) (fun f cdv A outer s H vs Q E hr h => ?_)
  · obtain ⟨_, _, rfl, _⟩ := h; rfl
  · obtain ⟨s, m, rfl, q⟩ := h
    refine ⟨_, (pss_one (ps_ret (pe_ifExp (pt_cmpR op_isN (pv 0) pe_non (nomark _)) pe_non (pe_op op_sub (pv 0) (pv 1))))), ?_⟩
    cases s with
    | none => exact ⟨_, rfl, rfl, true, rfl, q⟩
    | some i => exact ⟨_, rfl, rfl, false, rfl, _, rfl, _, rfl, i, m, rfl, rfl, q⟩
end
end K47

set_option Elab.async false
set_option linter.all false
set_option maxRecDepth 100000
set_option maxHeartbeats 4000000
namespace K47
open PySem PySem.Spec PyProof.Rows L2 CK
theorem tAnd_mono {t u : TT} (mt : ∀ σ H (Q Q' : Bool → Hp → Prop), (∀ b H1, Q b H1 → Q' b H1) → t σ H Q → t σ H Q') (mu : ∀ σ H (Q Q' : Bool → Hp → Prop), (∀ b H1, Q b H1 → Q' b H1) → u σ H Q → u σ H Q') : ∀ σ H (Q Q' : Bool → Hp → Prop), (∀ b H1, Q b H1 → Q' b H1) → tAnd t u σ H Q → tAnd t u σ H Q' := fun σ H Q Q' hq h => by
  refine mt _ _ _ _ (fun b H1 h1 => ?_) h
  cases b with
  | true => exact mu _ _ _ _ hq h1
  | false => exact hq _ _ h1
theorem scal_ov (a b : Option Int) : scal (ov a) (ov b) = true := by cases a <;> cases b <;> rfl
/-- what is none in a heap with one object more was none -/
theorem none_upd {H : Hp} {a b : Addr} {o : HO} (h : upd H a o b = none) : b ≠ a ∧ H b = none := by
  have : b ≠ a := fun z => by rw [z, upd_same] at h; cases h
  exact ⟨this, (upd_ne this).symm.trans h⟩
section
variable {P : Program} {w : World} {K : PySem.W.Frag} {mg : Str → Option Value} {base : Heap} {E_InvalidRun E_TooMany E_CountError : Addr}
/-- the values of a run, shortened: how many are left, and the start -/
def shrN (m : Int) (xs : List (Option Int)) : Nat → Option Int → Nat × Option Int
  | 0, s => (0, s)
  | n + 1, s => if xs.getD n none = before s m then shrN m xs n (xs.getD n none) else (n + 1, s)
def sp_short : Sp := fun vs H Q _ => ∃ (l : Addr) (xs : List (Option Int)) (s : Option Int) (m : Int), vs = [.ref l, ov s, .int m] ∧ H l = some (.lst (xs.map ov)) ∧ xs.length ≤ 1000 ∧
  ∀ l' r H', Same H H' → H l' = none → H' l' = some (.lst ((xs.take (shrN m xs xs.length s).1).map ov)) → H r = none → H' r = some (.tup [.ref l', ov (shrN m xs xs.length s).2, .int m]) → Q (.ref r) H'
theorem c_shortened (T : Txt K mg E_InvalidRun E_TooMany E_CountError) : C8.Cal P w K mg base 2 "shortened" sp_short [] := by
  refine calF T.d_shortened sc_shortened (fun vs H Q E h => ?_) (fun f cdv A outer s H vs Q E hr h => ?_)
  · obtain ⟨_, _, _, _, rfl, _⟩ := h; rfl
  · obtain ⟨l, xs, s, m, rfl, hl, hn, q⟩ := h
    refine ⟨_, (pss_cons (ps_set (i := 3) sc_shortened.nd rfl (Or.inl rfl) (pe_callB call_len_seq (by rfl) T.m_len (by decide +kernel) (pa_cons (pv 0) pa_nil)))
    (pss_cons (ps_while PassesOwn.never (PW.pt (pw_and (pt_truth (pv 3) (by intro _; rfl)) (pw_and1 (pt_cmpR op_eq (pe_ix ix_list (pv 0) (pe_op op_sub (pv 3) pe_int) (fun _ _ => rfl)) (C8.pe_c (c_one_before T) hr (by decide) (by rfl) (pa_cons (pv 1) (pa_cons (pv 2) pa_nil))) (nomark _)))))
    (pss_cons (ps_aug (i := 3) sc_shortened.nd rfl (.inl rfl) pe_int ip_sub)
    (pss_one (ps_set (i := 1) sc_shortened.nd rfl (Or.inl rfl) (pe_ix ix_list (pv 0) (pv 3) (fun _ _ => rfl))))))
    (pss_one (ps_ret (pe_tup (pa_cons (pe_slice sl_list (pv 0) po_none (po_some (pv 3))) (pa_cons (pv 1) (pa_cons (pv 2) pa_nil)))))))), ?_⟩
    refine ⟨_, rfl, l, _, rfl, .inl (.inl (.inl hl)), ?_⟩
    have fin : ∀ (n : Nat) (s1 : Option Int), (n, s1) = shrN m xs xs.length s → tRet (tTup (tCons (tSl (rSlL K) (tVar 0) tNoPart (tPart (tVar 3))) (tCons (tVar 1) (tCons (tVar 2) tNil)))) { nx := fun _ H' => Q .non H', rt := Q } [some (.ref l), some (ov s1), some (.int m), some (.int (n : Nat))] H := fun n s1 e => by
      rw [← e] at q
      refine ⟨_, rfl, _, rfl, n, rfl, l, _, rfl, .inl (.inl hl), fun l' hl' => ⟨_, rfl, _, rfl, by show 3 ≤ sizeLine; decide, fun r hr1 => ?_⟩⟩
      obtain ⟨n1, n2⟩ := none_upd hr1
      refine q l' r _ (same_upd2 n2 (sameNew hl')) hl' ?_ n2 upd_same
      rw [upd_ne (Ne.symm n1), upd_same, cutV_take, List.map_take]
    refine while_by (fun σ H' => H' = H ∧ ∃ (n : Nat) (s1 : Option Int), σ = [some (.ref l), some (ov s1), some (.int m), some (.int (n : Nat))] ∧ n ≤ xs.length ∧ shrN m xs n s1 = shrN m xs xs.length s)
      (fun σ _ => match σ with | [_, _, _, some (.int i)] => i.toNat | _ => 0) ⟨rfl, xs.length, s, by rw [List.length_map]; rfl, Nat.le_refl _, rfl⟩ (fun σ H' p => ?_) ?_
    · obtain ⟨rfl, n, s1, rfl, hn1, es⟩ := p
      refine ⟨_, rfl, _, rfl, ?_⟩
      cases n with
      | zero =>
        refine iteF (iteF (fin 0 s1 es))
      | succ n =>
        refine iteT ?_
        have hn2 : n < xs.length := by omega
        have hx : xs[n]? = some (xs.getD n none) := by rw [List.getD_eq_getElem?_getD, List.getElem?_eq_getElem hn2]; rfl
        have hi2 : (n : Int) + 1 - 1 = (n : Nat) := by omega
        have hi : ((n + 1 : Nat) : Int) - 1 = (n : Nat) := by omega
        refine ⟨_, rfl, _, rfl, _, 1, rfl, rfl, l, _, _, ov (xs.getD n none), rfl, rfl, .inl (.inl hl), by rw [hi]; exact atI_nat (by rw [List.getElem?_map, hx]; rfl), _, rfl, _, rfl, s1, m, rfl, scal_ov _ _, _, rfl, ?_⟩
        rw [ov_dec]
        by_cases e : xs.getD n none = before s1 m
        · rw [decide_eq_true e]
          refine iteT ⟨_, rfl, n + 1, 1, rfl, rfl, _, rfl, _, rfl, l, _, _, ov (xs.getD n none), rfl, rfl, .inl (.inl hl), by show atI _ ((n : Int) + 1 - 1) = _; rw [hi2]; exact atI_nat (by rw [List.getElem?_map, hx]; rfl), ?_⟩
          refine ⟨⟨rfl, n, _, by show [some (V.ref l), some (ov (xs.getD n none)), some (V.int m), some (V.int ((n : Int) + 1 - 1))] = _; rw [hi2], by omega, ?_⟩, ?_⟩
          · rw [← es, shrN, if_pos e]
          · show ((n : Int) + 1 - 1).toNat < ((n + 1 : Nat) : Int).toNat
            omega
        · rw [decide_eq_false e]
          refine iteF (fin (n + 1) s1 ?_)
          rw [← es, shrN, if_neg e]
    · refine tAnd_mono (fun σ H' Q1 Q2 hq h => ?_) (fun σ H' Q1 Q2 hq h => ?_)
      · obtain ⟨a, ha, k, hk, h⟩ := h
        exact ⟨a, ha, k, hk, hq _ _ h⟩
      · obtain ⟨v1, h1, v2, h2, i, j, e1, e2, p, ys, i', v, e3, e4, sq, at_, v4, h4, v5, h5, s5, m5, e5, e6, k, e7, h⟩ := h
        exact ⟨v1, h1, v2, h2, i, j, e1, e2, p, ys, i', v, e3, e4, sq, at_, v4, h4, v5, h5, s5, m5, e5, e6, k, e7, hq _ _ h⟩
end
end K47

set_option Elab.async false
set_option linter.all false
set_option maxRecDepth 100000
set_option maxHeartbeats 4000000
namespace K47
open PySem PySem.Spec PyProof.Rows L2 CK
def toO : PyData → Option Int
  | .int i => some i
  | _ => none
def toI : PyData → Int
  | .int i => i
  | _ => 0
def lastOk : PyData → PyData → PyData → Bool
  | .list ds, b, c => ds.isEmpty || !decide (toO (ds.getLastD .none) = before (toO b) (toI c))
  | _, _, _ => false
def isRunD : PyData → Bool
  | .tuple [a, b, c] => isRL a && (isVal b && (isSl b c && lastOk a b c))
  | _ => false
def SmD (d : PyData) : Prop := ∀ ds b c, d = .tuple [.list ds, b, c] → ds.length ≤ 1000
theorem len3 {α : Type} {l : List α} (h : l.length = 3) : ∃ a b c, l = [a, b, c] := by
  match l, h with
  | [a, b, c], _ => exact ⟨a, b, c, rfl⟩
theorem dpAll3 {K : PySem.W.Frag} {H : Hp} {vs : List V} {a b c : PyData} (h : DpAll K H vs [a, b, c]) : ∃ x y z, vs = [x, y, z] ∧ Dp K H x a ∧ Dp K H y b ∧ Dp K H z c := by
  cases h with
  | cons h1 t => cases t with
    | cons h2 t => cases t with
      | cons h3 t => cases t; exact ⟨_, _, _, rfl, h1, h2, h3⟩
theorem run_len3 {ds : List PyData} (h : ¬ ds.length = 3) : isRunD (.tuple ds) = false := by
  match ds, h with
  | [], _ => rfl
  | [_], _ => rfl
  | [_, _], _ => rfl
  | [_, _, _], h => exact absurd rfl h
  | _ :: _ :: _ :: _ :: _, _ => rfl
theorem isRL_of {d : PyData} (h : isRL d = true) : ∃ ds, d = .list ds := by
  cases d with
  | list ds => exact ⟨ds, rfl⟩
  | _ => exact absurd h Bool.false_ne_true
theorem isSl_of {d e : PyData} (h : isSl d e = true) : ∃ i, e = .int i := by
  cases e with
  | int i => exact ⟨i, rfl⟩
  | _ => exact absurd h Bool.false_ne_true
theorem val_ov {K : PySem.W.Frag} {H : Hp} {v : V} {d : PyData} (h : isVal d = true) (p : Dp K H v d) : v = ov (toO d) := by
  cases p <;> first | rfl | exact absurd h Bool.false_ne_true
theorem dpAll_last {K : PySem.W.Frag} {H : Hp} {v : V} : ∀ {vs : List V} {ds : List PyData}, DpAll K H (vs ++ [v]) ds → ∃ ds' d, ds = ds' ++ [d] ∧ Dp K H v d
  | [], _, h => by
    cases h with
    | cons a t => cases t; exact ⟨[], _, rfl, a⟩
  | _ :: vs, _, h => by
    cases h with
    | cons a t =>
      obtain ⟨ds', d, rfl, p⟩ := dpAll_last (vs := vs) t
      exact ⟨_ :: ds', d, rfl, p⟩
section
variable {P : Program} {w : World} {K : PySem.W.Frag} {mg : Str → Option Value} {base : Heap} {E_InvalidRun E_TooMany E_CountError : Addr}
def sp_is_run (K : PySem.W.Frag) : Sp := fun vs H Q _ => ∃ v d, vs = [v] ∧ Dp K H v d ∧ SmD d ∧ ∀ H', Same H H' → Q (.bl (isRunD d)) H'
theorem c_is_run (T : Txt K mg E_InvalidRun E_TooMany E_CountError) : C8.Cal P w K mg base 4 "is_run" (sp_is_run K) [] := by
  refine calF T.d_is_run sc_is_run (fun vs H Q E h => ?_) (fun f cdv A outer s H vs Q E hr h => ?_)
  · obtain ⟨_, _, rfl, _⟩ := h; rfl
  · obtain ⟨v, d, rfl, dv, sm, q⟩ := h
    refine ⟨_, (pss_cons (ps_if (PW.pt (pw_or (pt_not (pt_val (pe_callB call_isD (by rfl) T.m_isinstance (by decide +kernel) (pa_cons (pv 0) (pa_cons (pe_bltn (v := .ty "tuple") (by rfl) T.m_tuple (by decide +kernel) rfl) pa_nil))))) (pw_or1 (pt_cmpR op_ne (pe_callB call_len_seq (by rfl) T.m_len (by decide +kernel) (pa_cons (pv 0) pa_nil)) pe_int (nomark _)))))
    (pss_one (ps_ret pe_bl))
    pss_nil)
    (pss_cons (ps_asg (pv 0) (pg_tup rfl (pgs_cons (pg_name (i := 1) sc_is_run.nd rfl (Or.inl rfl)) (pgs_cons (pg_name (i := 2) sc_is_run.nd rfl (Or.inl rfl)) (pgs_cons (pg_name (i := 3) sc_is_run.nd rfl (Or.inl rfl)) pgs_nil)))))
    (pss_cons (ps_if (PW.pt (pw_or (pt_not (pt_val (C8.pe_c (c_is_run_list T) hr (by decide) (by rfl) (pa_cons (pv 1) pa_nil)))) (pw_or (pt_not (pt_val (C8.pe_c (c_is_run_value T) hr (by decide) (by rfl) (pa_cons (pv 2) pa_nil)))) (pw_or1 (pt_not (pt_val (C8.pe_c (c_is_slope T) hr (by decide) (by rfl) (pa_cons (pv 2) (pa_cons (pv 3) pa_nil)))))))))
    (pss_one (ps_ret pe_bl))
    pss_nil)
    (pss_one (ps_ret (pe_or (pe_notT (pv 1)) (pe_one (pe_cmpR op_ne (pe_ix ix_list (pv 1) (pe_un un_neg pe_int) (fun _ _ => rfl)) (C8.pe_c (c_one_before T) hr (by decide) (by rfl) (pa_cons (pv 2) (pa_cons (pv 3) pa_nil))) (nomark _))))))))), ?_⟩
    refine ⟨_, rfl, v, d, _, _, rfl, dv, kitd_tuple d, _, rfl, ?_⟩
    cases dv with
    | tup sq da =>
      rename_i a xs ds
      have hl := dpAll_len da
      refine iteF ⟨_, rfl, a, xs, rfl, .inr sq, rfl, _, rfl, ?_⟩
      rw [hl]
      by_cases h3 : ds.length = 3
      · obtain ⟨d1, d2, d3, rfl⟩ : ∃ d1 d2 d3, ds = [d1, d2, d3] := len3 h3
        obtain ⟨v1, v2, v3, rfl, p1, p2, p3⟩ := dpAll3 da
        refine iteF ⟨_, rfl, a, _, rfl, sq, rfl, v1, [v2, v3], rfl, v2, [v3], rfl, v3, [], rfl, rfl, ?_⟩
        refine ⟨_, rfl, v1, d1, rfl, p1, fun ds e => sm ds d2 d3 (by rw [e]), fun H1 s1 => ⟨_, rfl, ?_⟩⟩
        have eq0 : isRunD (.tuple [d1, d2, d3]) = (isRL d1 && (isVal d2 && (isSl d2 d3 && lastOk d1 d2 d3))) := rfl
        rw [eq0] at q
        by_cases e1 : isRL d1 = true
        · rw [e1] at q ⊢
          refine iteF ⟨_, rfl, v2, d2, rfl, dp_same s1 _ _ p2, _, rfl, ?_⟩
          by_cases e2 : isVal d2 = true
          · rw [e2] at q ⊢
            refine iteF ⟨_, rfl, _, rfl, v2, v3, d2, d3, rfl, dp_same s1 _ _ p2, dp_same s1 _ _ p3, _, rfl, ?_⟩
            by_cases e3 : isSl d2 d3 = true
            · rw [e3] at q ⊢
              refine iteF ?_
              obtain ⟨es, rfl⟩ := isRL_of e1
              obtain ⟨i, rfl⟩ := isSl_of e3
              cases p3
              obtain rfl := val_ov e2 p2
              cases p1 with
              | lst sq1 da1 =>
                rename_i b ys
                refine ⟨_, rfl, _, .inl ⟨ys, sqL_same s1 sq1, rfl⟩, _, rfl, ?_⟩
                have ly := dpAll_len da1
                rcases List.eq_nil_or_concat ys with e | ⟨ys', y, e⟩
                · subst e
                  have : es = [] := List.length_eq_zero_iff.mp ly.symm
                  subst this
                  exact iteT (q _ s1)
                · rw [List.concat_eq_append] at e
                  subst e
                  obtain ⟨es', e', rfl, py⟩ := dpAll_last da1
                  have hv : isVal e' = true := List.all_eq_true.mp e1 e' (by simp)
                  obtain rfl := val_ov hv py
                  rw [show (!!(ys' ++ [ov (toO e')]).isEmpty) = false by simp]
                  refine iteF ⟨_, rfl, 1, rfl, b, _, _, ov (toO e'), rfl, rfl, sqL_same s1 sq1, atI_last ys' _, _, rfl, _, rfl, toO d2, i, rfl, scal_ov _ _, ?_⟩
                  rw [ov_dec]
                  have : lastOk (.list (es' ++ [e'])) d2 (.int i) = !decide (toO e' = before (toO d2) i) := by
                    show ((es' ++ [e']).isEmpty || !decide (toO ((es' ++ [e']).getLastD .none) = before (toO d2) i)) = _
                    rw [List.getLastD_concat]
                    simp
                  rw [this] at q
                  exact q _ s1
            · rw [Bool.eq_false_iff.mpr e3] at q ⊢
              exact iteT (q _ s1)
          · rw [Bool.eq_false_iff.mpr e2] at q ⊢
            exact iteT (iteT (q _ s1))
        · rw [Bool.eq_false_iff.mpr e1] at q ⊢
          exact iteT (iteT (q _ s1))
      · rw [decide_eq_false (fun z => h3 (by have := V.int.inj z; omega))]
        refine iteT ?_
        rw [run_len3 h3] at q
        exact q _ (Same.refl _)
    | _ => exact iteT (iteT (q _ (Same.refl _)))
end
end K47

set_option Elab.async false
set_option linter.all false
set_option maxRecDepth 100000
set_option maxHeartbeats 4000000
namespace K47
open PySem PySem.Spec PyProof.Rows L2 CK
/-- the value of a run at a count -/
def valR (xs : List (Option Int)) (s : Option Int) (m : Int) (n : Nat) : Option Int := if n < xs.length then xs.getD n none else s.map fun i => i + m * ((n : Int) - (xs.length : Nat))
/-- a run in the heap -/
def RunH (H : Hp) (r : Addr) (xs : List (Option Int)) (s : Option Int) (m : Int) : Prop := ∃ l, H r = some (.tup [.ref l, ov s, .int m]) ∧ H l = some (.lst (xs.map ov))
def Wd (xs : List (Option Int)) (s : Option Int) (m : Int) : Prop := xs.length ≤ 1000 ∧ (∀ x ∈ xs, ∀ i, x = some i → i.natAbs < 2 ^ 100) ∧ (∀ i, s = some i → i.natAbs < 2 ^ 100) ∧ m.natAbs < 2 ^ 100
theorem none_back {H H1 : Hp} {b : Addr} (s : Same H H1) (h : H1 b = none) : H b = none := by
  cases e : H b with
  | none => rfl
  | some o => rw [s b o e] at h; cases h
theorem RunH.same {H H' : Hp} {r : Addr} {xs : List (Option Int)} {s : Option Int} {m : Int} (h : RunH H r xs s m) (k : Same H H') : RunH H' r xs s m := by
  obtain ⟨l, h1, h2⟩ := h
  exact ⟨l, k _ _ h1, k _ _ h2⟩
section
variable {P : Program} {w : World} {K : PySem.W.Frag} {mg : Str → Option Value} {base : Heap} {E_InvalidRun E_TooMany E_CountError : Addr}
def sp_at : Sp := fun vs H Q _ => ∃ (r : Addr) (xs : List (Option Int)) (s : Option Int) (m : Int) (n : Nat), vs = [.ref r, .int n] ∧ RunH H r xs s m ∧ n < 2 ^ 200 ∧ m.natAbs < 2 ^ 100 ∧ xs.length ≤ 1000 ∧ Q (ov (valR xs s m n)) H
theorem c_at_count (T : Txt K mg E_InvalidRun E_TooMany E_CountError) : C8.Cal P w K mg base 1 "at_count" sp_at [] := by
  refine calF T.d_at_count sc_at_count (fun vs H Q E h => ?_) (fun f cdv A outer s H vs Q E hr h => ?_)
  · obtain ⟨_, _, _, _, _, rfl, _⟩ := h; rfl
  · obtain ⟨r, xs, s, m, n, rfl, ⟨l, hr1, hl⟩, hn, hm, hx, q⟩ := h
    refine ⟨_, (pss_cons (ps_asg (pv 0) (pg_tup rfl (pgs_cons (pg_name (i := 2) sc_at_count.nd rfl (Or.inl rfl)) (pgs_cons (pg_name (i := 3) sc_at_count.nd rfl (Or.inl rfl)) (pgs_cons (pg_name (i := 4) sc_at_count.nd rfl (Or.inl rfl)) pgs_nil)))))
    (pss_cons (ps_if (pt_cmpR op_lt (pv 1) (pe_callB call_len_seq (by rfl) T.m_len (by decide +kernel) (pa_cons (pv 2) pa_nil)) (nomark _))
    (pss_one (ps_ret (pe_ix ix_list (pv 2) (pv 1) (fun _ _ => rfl))))
    pss_nil)
    (pss_one (ps_ret (pe_ifExp (pt_cmpR op_isN (pv 3) pe_non (nomark _)) pe_non (pe_op op_add (pv 3) (pe_op op_mulW (pv 4) (pe_op op_sub (pv 1) (pe_callB call_len_seq (by rfl) T.m_len (by decide +kernel) (pa_cons (pv 2) pa_nil)))))))))), ?_⟩
    refine ⟨_, rfl, r, _, rfl, .inl (.inl hr1), rfl, .ref l, [ov s, .int m], rfl, ov s, [.int m], rfl, .int m, [], rfl, rfl, ?_⟩
    refine ⟨_, rfl, _, rfl, l, _, rfl, .inl (.inl (.inl hl)), n, _, rfl, rfl, _, rfl, ?_⟩
    rw [List.length_map]
    by_cases e : n < xs.length
    · rw [decide_eq_true (by omega)]
      have hv : valR xs s m n = xs.getD n none := if_pos e
      rw [hv] at q
      refine iteT ⟨_, rfl, _, rfl, l, _, _, ov (xs.getD n none), rfl, rfl, .inl (.inl hl), atI_nat (by rw [List.getElem?_map, List.getD_eq_getElem?_getD, List.getElem?_eq_getElem e]; rfl), q⟩
    · rw [decide_eq_false (by omega)]
      have hv : valR xs s m n = s.map fun i => i + m * ((n : Int) - (xs.length : Nat)) := if_neg e
      rw [hv] at q
      refine iteF ?_
      cases s with
      | none => exact ⟨_, rfl, rfl, true, rfl, q⟩
      | some i =>
        refine ⟨_, rfl, rfl, false, rfl, _, rfl, _, rfl, _, rfl, _, rfl, l, _, rfl, .inl (.inl (.inl hl)), n, _, rfl, rfl, ?_⟩
        rw [List.length_map]
        have hb : ((n : Int) - (xs.length : Nat)).natAbs < 2 ^ 201 := by omega
        refine ⟨m, _, rfl, rfl, wide_mul hm hb (by decide) (by decide) (by decide), i, _, rfl, rfl, q⟩
def sp_need_run (K : PySem.W.Frag) (E3 : Addr) : Sp := fun vs H Q E => ∃ v d, vs = [v] ∧ Dp K H v d ∧ SmD d ∧ ∀ H', Same H H' → if isRunD d = true then Q .non H' else ∀ e, H' e = none → E (.ref E3) (some e) (upd H' e (.xd [("value", v)]))
theorem x_need_run (T : Txt K mg E_InvalidRun E_TooMany E_CountError) : CalX P w K mg base 5 "need_run" (sp_need_run K E_InvalidRun) := by
  refine calX T.d_need_run sc_need_run (fun vs H Q E h => ?_) (fun f cdv A outer s H vs Q E hr h => ?_)
  · obtain ⟨_, _, rfl, _⟩ := h; rfl
  · obtain ⟨v, d, rfl, dv, sm, q⟩ := h
    refine ⟨_, (pss_one (ps_if (pt_not (pt_val (C8.pe_c (c_is_run T) hr (by decide) (by rfl) (pa_cons (pv 0) pa_nil))))
    (pss_one (ps_raiseE T.x_InvalidRun rfl (takes_of rfl rfl rfl rfl) hr (by decide) (by rfl) (pv 0)))
    pss_nil)), ?_⟩
    refine ⟨_, rfl, v, d, rfl, dv, sm, fun H1 s1 => ⟨_, rfl, ?_⟩⟩
    have q := q H1 s1
    by_cases e : isRunD d = true
    · rw [e] at q ⊢
      exact iteF q
    · rw [Bool.eq_false_iff.mpr e] at q ⊢
      exact iteT ⟨_, rfl, fun e he => q e he⟩
end
end K47

set_option Elab.async false
set_option linter.all false
set_option maxRecDepth 100000
set_option maxHeartbeats 4000000
namespace K47
open PySem PySem.Spec PyProof.Rows L2 CK
/-- no number is wide -/
def Nw (s : Option Int) (n : Nat) : Prop := ∀ i, s = some i → i.natAbs < 2 ^ n
section
variable {P : Program} {w : World} {K : PySem.W.Frag} {mg : Str → Option Value} {base : Heap} {E_InvalidRun E_TooMany E_CountError : Addr}
def sp_back : Sp := fun vs H Q _ => ∃ s m, vs = [ov s, .int m] ∧ Q (ov (before s m)) H
theorem c_law_back (T : Txt K mg E_InvalidRun E_TooMany E_CountError) : C8.Cal P w K mg base 1 "_law_back" sp_back [] := by
  refine calF T.d_law_back sc_law_back (fun vs H Q E h => ?_) (fun f cdv A outer s H vs Q E hr h => ?_)
  · obtain ⟨_, _, rfl, _⟩ := h; rfl
  · obtain ⟨s, m, rfl, q⟩ := h
    refine ⟨_, (pss_one (ps_ret (pe_ifExp (pt_cmpR op_isN (pv 0) pe_non (nomark _)) pe_non (pe_op op_sub (pv 0) (pv 1))))), ?_⟩
    cases s with
    | none => exact ⟨_, rfl, rfl, true, rfl, q⟩
    | some i => exact ⟨_, rfl, rfl, false, rfl, _, rfl, _, rfl, i, m, rfl, rfl, q⟩
theorem c_law_value (T : Txt K mg E_InvalidRun E_TooMany E_CountError) : C8.Cal P w K mg base 1 "_law_value" sp_at [] := by
  refine calF T.d_law_value sc_law_value (fun vs H Q E h => ?_) (fun f cdv A outer s H vs Q E hr h => ?_)
  · obtain ⟨_, _, _, _, _, rfl, _⟩ := h; rfl
  · obtain ⟨r, xs, s, m, n, rfl, ⟨l, hr1, hl⟩, hn, hm, hx, q⟩ := h
    refine ⟨_, (pss_cons (ps_if (pt_cmpR op_lt (pv 1) (pe_callB call_len_seq (by rfl) T.m_len (by decide +kernel) (pa_cons (pe_ix ix_tup (pv 0) pe_int (fun _ _ => rfl)) pa_nil)) (nomark _))
    (pss_one (ps_ret (pe_ix ix_list (pe_ix ix_tup (pv 0) pe_int (fun _ _ => rfl)) (pv 1) (fun _ _ => rfl))))
    pss_nil)
    (pss_one (ps_ret (pe_ifExp (pt_cmpR op_isN (pe_ix ix_tup (pv 0) pe_int (fun _ _ => rfl)) pe_non (nomark _)) pe_non (pe_op op_add (pe_ix ix_tup (pv 0) pe_int (fun _ _ => rfl)) (pe_op op_mulW (pe_ix ix_tup (pv 0) pe_int (fun _ _ => rfl)) (pe_op op_sub (pv 1) (pe_callB call_len_seq (by rfl) T.m_len (by decide +kernel) (pa_cons (pe_ix ix_tup (pv 0) pe_int (fun _ _ => rfl)) pa_nil))))))))), ?_⟩
    refine ⟨_, rfl, _, rfl, r, _, 0, .ref l, rfl, rfl, .inl (.inl hr1), rfl, l, _, rfl, .inl (.inl (.inl hl)), n, _, rfl, rfl, _, rfl, ?_⟩
    rw [List.length_map]
    by_cases e : n < xs.length
    · rw [decide_eq_true (by omega)]
      have hv : valR xs s m n = xs.getD n none := if_pos e
      rw [hv] at q
      refine iteT ⟨_, rfl, r, _, 0, .ref l, rfl, rfl, .inl (.inl hr1), rfl, _, rfl, l, _, _, ov (xs.getD n none), rfl, rfl, .inl (.inl hl), atI_nat (by rw [List.getElem?_map, List.getD_eq_getElem?_getD, List.getElem?_eq_getElem e]; rfl), q⟩
    · rw [decide_eq_false (by omega)]
      have hv : valR xs s m n = s.map fun i => i + m * ((n : Int) - (xs.length : Nat)) := if_neg e
      rw [hv] at q
      refine iteF ⟨_, rfl, r, _, 1, ov s, rfl, rfl, .inl (.inl hr1), rfl, ?_⟩
      cases s with
      | none => exact ⟨rfl, true, rfl, q⟩
      | some i =>
        refine ⟨rfl, false, rfl, _, rfl, r, _, 1, ov (some i), rfl, rfl, .inl (.inl hr1), rfl, _, rfl, r, _, 2, .int m, rfl, rfl, .inl (.inl hr1), rfl, _, rfl, _, rfl, r, _, 0, .ref l, rfl, rfl, .inl (.inl hr1), rfl, l, _, rfl, .inl (.inl (.inl hl)), n, _, rfl, rfl, ?_⟩
        rw [List.length_map]
        have hb : ((n : Int) - (xs.length : Nat)).natAbs < 2 ^ 201 := by omega
        exact ⟨m, _, rfl, rfl, wide_mul hm hb (by decide) (by decide) (by decide), i, _, rfl, rfl, q⟩
def sp_worth : Sp := fun vs H Q _ => ∃ (g : Addr) (n : Nat), vs = [.ref g] ∧ Gn (n + 2) H g ∧ ∀ s H', SameX g H H' → Gn n H' g → Nw s 98 → Q (ov s) H'
theorem c_law_worth (T : Txt K mg E_InvalidRun E_TooMany E_CountError) : C8.Cal P w K mg base 3 "_law_worth" sp_worth [] := by
  refine calF T.d_law_worth sc_law_worth (fun vs H Q E h => ?_) (fun f cdv A outer s H vs Q E hr h => ?_)
  · obtain ⟨_, _, rfl, _⟩ := h; rfl
  · obtain ⟨g, n, rfl, G, q⟩ := h
    refine ⟨_, (pss_cons (ps_set (i := 1) sc_law_worth.nd rfl (Or.inl rfl) (C8.pe_c (c_law_random T) hr (by decide) (by rfl) (pa_cons (pv 0) (pa_cons pe_int pa_nil))))
    (pss_cons (ps_if (pt_cmpR op_eq (pv 1) pe_int (nomark _))
    (pss_one (ps_ret pe_non))
    pss_nil)
    (pss_one (ps_ret (pe_ifExp (pt_cmpR op_lt (pv 1) pe_int (nomark _)) (pe_op op_sub (C8.pe_c (c_law_random T) hr (by decide) (by rfl) (pa_cons (pv 0) (pa_cons pe_int pa_nil))) pe_int) (pe_op op_sub (C8.pe_c (c_law_random T) hr (by decide) (by rfl) (pa_cons (pv 0) (pa_cons (pe_op op_mulW pe_int (pe_op op_powB pe_int pe_int)) pa_nil))) (pe_op op_powB pe_int pe_int))))))), ?_⟩
    refine ⟨_, rfl, g, 6, n + 1, rfl, G, by decide, by decide, fun way H1 s1 G1 w0 w1 => ?_⟩
    refine ⟨_, rfl, rfl, _, rfl, ite2 (fun e => ?_) (fun e => ?_)⟩
    · exact q none H1 s1 (G1.le (by omega)) (fun i h => nomatch h)
    · refine ⟨_, rfl, way, 5, rfl, rfl, _, rfl, ite2 (fun e => ?_) (fun e => ?_)⟩
      · refine ⟨_, rfl, g, 7, n, rfl, G1.le (by omega), by decide, by decide, fun x H2 s2 G2 x0 x1 => ⟨x, 3, rfl, rfl, ?_⟩⟩
        exact q (some (x - 3)) H2 (s1.trans s2) G2 (fun i h => by cases h; omega)
      · refine ⟨_, rfl, 10, 29, rfl, rfl, ⟨by decide, by decide⟩, 2, _, rfl, rfl, wide_mul (show ((2 : Int)).natAbs < 2 ^ 100 by decide) (show (((10 : Int) ^ Int.toNat 29)).natAbs < 2 ^ 100 by decide) (by decide) (by decide) (by decide), g, _, n, rfl, G1.le (by omega), by decide, by decide, fun x H2 s2 G2 x0 x1 => ⟨10, 29, rfl, rfl, ⟨by decide, by decide⟩, x, _, rfl, rfl, ?_⟩⟩
        refine q (some (x - (10 : Int) ^ Int.toNat 29)) H2 (s1.trans s2) G2 (fun i h => ?_)
        cases h
        have x1' : x < 2 * 100000000000000000000000000000 := x1
        show (x - 100000000000000000000000000000).natAbs < _
        omega
end
end K47

set_option Elab.async false
set_option linter.all false
set_option maxRecDepth 100000
set_option maxHeartbeats 4000000
namespace K47
open PySem PySem.Spec PyProof.Rows L2 CK
theorem join1 {a u : TS} {D : Ends} {σ : L2.St} {H : Hp} (Pre : L2.St → Hp → Prop) (rest : ∀ σ' H', Pre σ' H' → u D σ' H') (m : ∀ U : TS, (∀ σ' H', Pre σ' H' → U D σ' H') → tSeq a U D σ H) : tSeq a u D σ H := m u rest
theorem backX {g b : Addr} {H H' : Hp} (s : SameX g H H') (n : H' b = none) (hb : b ≠ g) : H b = none := by
  cases e : H b with
  | none => rfl
  | some o => rw [s b o hb e] at n; cases n
theorem Gn.ne {n : Nat} {g b : Addr} {H : Hp} (G : Gn n H g) (h : H b = none) : b ≠ g := fun z => by
  obtain ⟨_, _, _, e, _⟩ := G
  rw [z, e] at h; cases h
theorem cut_init (xs : List V) (v : V) : cutV (xs ++ [v]) none (some (-1)) = xs := by
  unfold cutV
  have e : HT.sIx (xs ++ [v]).length (xs ++ [v]).length (some (-1)) = xs.length := by
    unfold HT.sIx
    simp
    omega
  have e0 : HT.sIx (xs ++ [v]).length 0 none = 0 := rfl
  rw [e, e0, List.drop_zero, Nat.sub_zero, List.take_left]
section
variable {P : Program} {w : World} {K : PySem.W.Frag} {mg : Str → Option Value} {base : Heap} {E_InvalidRun E_TooMany E_CountError : Addr}
def sp_raw : Sp := fun vs H Q _ => ∃ (g : Addr) (n : Nat), vs = [.ref g, .int 5] ∧ Gn (n + 100) H g ∧
  ∀ (r l : Addr) (xs : List (Option Int)) (s : Option Int) (m : Int) (H' : Hp), SameX g H H' → Gn n H' g → H r = none → H l = none → H' r = some (.tup [.ref l, ov s, .int m]) → H' l = some (.lst (xs.map ov)) → xs.length ≤ 8 → (∀ x ∈ xs, Nw x 99) → Nw s 98 → m.natAbs < 2 ^ 70 → (s = none → m = 0) → Q (.ref r) H'
theorem c_law_raw_run (T : Txt K mg E_InvalidRun E_TooMany E_CountError) : C8.Cal P w K mg base 4 "_law_raw_run" sp_raw [] := by
  refine calF T.d_law_raw_run sc_law_raw_run (fun vs H Q E h => ?_) (fun f cdv A outer s H vs Q E hr h => ?_)
  · obtain ⟨_, _, rfl, _⟩ := h; rfl
  · obtain ⟨g, n, rfl, G, q⟩ := h
    refine ⟨_, (pss_cons (ps_par (i := 2) (j := 3) (by rfl) sc_law_raw_run.nd rfl rfl (by decide) rfl rfl (pa_cons (C8.pe_c (c_law_worth T) hr (by decide) (by rfl) (pa_cons (pv 0) pa_nil)) (pa_cons (pe_op op_sub (C8.pe_c (c_law_random T) hr (by decide) (by rfl) (pa_cons (pv 0) (pa_cons pe_int pa_nil))) pe_int) pa_nil)) (by rfl))
    (pss_cons (ps_if (pt_cmpR op_eq (C8.pe_c (c_law_random T) hr (by decide) (by rfl) (pa_cons (pv 0) (pa_cons pe_int pa_nil))) pe_int (nomark _))
    (pss_one (ps_set (i := 3) sc_law_raw_run.nd rfl (Or.inl rfl) (pe_op op_mulW (pv 3) (pe_op op_add (C8.pe_c (c_law_random T) hr (by decide) (by rfl) (pa_cons (pv 0) (pa_cons (pe_op op_powB pe_int pe_int) pa_nil))) pe_int))))
    pss_nil)
    (pss_cons (ps_if (pt_cmpR op_isN (pv 2) pe_non (nomark _))
    (pss_one (ps_set (i := 3) sc_law_raw_run.nd rfl (Or.inl rfl) pe_int))
    pss_nil)
    (pss_cons (ps_par (i := 4) (j := 5) (by rfl) sc_law_raw_run.nd rfl rfl (by decide) rfl rfl (pa_cons (pe_lst pa_nil) (pa_cons (pe_lst (pa_cons (pv 2) pa_nil)) pa_nil)) (by rfl))
    (pss_cons (ps_for PassesOwn.never rfl (pi_range1 (by rfl) T.m_range (pa_cons (C8.pe_c (c_law_random T) hr (by decide) (by rfl) (pa_cons (pv 0) (pa_cons pe_int pa_nil))) pa_nil)) (pg_name (i := 6) sc_law_raw_run.nd rfl (Or.inl rfl))
    (pss_one (ps_set (i := 5) sc_law_raw_run.nd rfl (Or.inl rfl) (pe_op op_cat (pe_lst (pa_cons (C8.pe_c (c_law_back T) hr (by decide) (by rfl) (pa_cons (pe_ix ix_list (pv 5) pe_int (fun _ _ => rfl)) (pa_cons (pv 3) pa_nil))) pa_nil)) (pv 5)))))
    (pss_cons (ps_for PassesOwn.never rfl (pi_range1 (by rfl) T.m_range (pa_cons (C8.pe_c (c_law_random T) hr (by decide) (by rfl) (pa_cons (pv 0) (pa_cons (pv 1) pa_nil))) pa_nil)) (pg_name (i := 6) sc_law_raw_run.nd rfl (Or.inl rfl))
    (pss_one (ps_expr (pe_bm PySem.F.plainAttrs_list PySem.F.slot_list_append PySem.F.type_list_append mt_append (pv 4) (pa_cons (C8.pe_c (c_law_worth T) hr (by decide) (by rfl) (pa_cons (pv 0) pa_nil)) pa_nil)))))
    (pss_one (ps_ret (pe_tup (pa_cons (pe_op op_cat (pv 4) (pe_slice sl_list (pv 5) po_none (po_some (pe_un un_neg pe_int)))) (pa_cons (pv 2) (pa_cons (pv 3) pa_nil)))))))))))), ?_⟩
    refine ⟨_, rfl, g, n + 98, rfl, G, fun s H1 s1 G1 ws => ⟨_, rfl, g, 7, n + 97, rfl, G1, by decide, by decide, fun x H2 s2 G2 x0 x1 => ⟨x, 3, rfl, rfl, ?_⟩⟩⟩
    have x7 : (x - 3).natAbs < 2 ^ 69 := by omega
    refine ⟨_, _, rfl, ?_⟩
    dsimp only
    refine join1 (a := tIfS _ _ _) (fun σ' H' => ∃ m : Int, σ' = [some (.ref g), some (.int 5), some (ov s), some (.int m), none, none, none] ∧ SameX g H2 H' ∧ Gn (n + 95) H' g ∧ m.natAbs < 2 ^ 70) (fun σ' H' p => ?_) fun U hU => ?_
    · obtain ⟨m, rfl, s3, G3, hm⟩ := p
      refine join1 (a := tIfS _ _ _) (fun σ' H' => ∃ m : Int, σ' = [some (.ref g), some (.int 5), some (ov s), some (.int m), none, none, none] ∧ SameX g H2 H' ∧ Gn (n + 95) H' g ∧ m.natAbs < 2 ^ 70 ∧ (s = none → m = 0)) (fun σ' H' p => ?_) fun U hU => ?_
      · clear hm s3 G3
        obtain ⟨m, rfl, s3, G3, hm, h0⟩ := p
        have s03 : SameX g H H' := (s1.trans s2).trans s3
        refine ⟨by show 0 ≤ sizeLine; decide, fun f hf => ⟨_, rfl, by show 1 ≤ sizeLine; decide, fun q0 hq0 => ⟨_, _, rfl, ?_⟩⟩⟩
        obtain ⟨nqf, nq⟩ := none_upd hq0
        have hfH : H f = none := backX s03 hf (Gn.ne G3 hf)
        generalize eH4 : upd (upd H' f (.lst [])) q0 (.lst [ov s]) = H4
        have x4 : SameX g H H4 := by rw [← eH4]; exact s03.trans (.of (same_upd2 nq (sameNew hf)))
        have G4 : Gn (n + 95) H4 g := by rw [← eH4]; exact G3.same (same_upd2 nq (sameNew hf))
        have f4 : H4 f = some (.lst []) := by rw [← eH4, upd_ne (Ne.symm nqf), upd_same]
        have q4 : H4 q0 = some (.lst [ov s]) := by rw [← eH4, upd_same]
        refine ⟨_, rfl, g, 4, n + 94, rfl, G4, by decide, by decide, fun k H5 s5 G5 k0 k1 => ⟨k, rfl, by omega, by omega, ?_⟩⟩
        have fg : f ≠ g := Gn.ne G3 hf
        have qg : q0 ≠ g := Gn.ne G3 nq
        refine for_it walk_range (fun i σ H6 => ∃ (q : Addr) (zs : List (Option Int)) (y6 : Option V), σ = [some (.ref g), some (.int 5), some (ov s), some (.int m), some (.ref f), some (.ref q), y6] ∧ SameX g H H6 ∧ Gn (n + 94) H6 g ∧ H6 f = some (.lst []) ∧ H6 q = some (.lst ((zs ++ [s]).map ov)) ∧ q ≠ f ∧ q ≠ g ∧ zs.length = i ∧ i ≤ 3 ∧ ∀ x ∈ zs ++ [s], ∀ j, x = some j → j.natAbs < 2 ^ 98 + i * 2 ^ 70)
          ⟨q0, [], none, rfl, x4.trans s5, G5, s5 f _ fg f4, s5 q0 _ qg q4, nqf, qg, rfl, by decide, fun x hx j e => ?_⟩ (fun _ _ _ _ _ => True.intro) (fun i v σ H6 H7 hi p yy => ?_) fun σ H6 p => ?_
        · obtain rfl := List.mem_singleton.mp hx
          have := ws j e
          omega
        · obtain ⟨q1, zs, y6, rfl, x6, G6, f6, q6, qf1, qg1, lz, i3, bz⟩ := p
          obtain ⟨rfl, rfl⟩ := yy
          obtain ⟨z, zr, hzs⟩ : ∃ z zr, zs ++ [s] = z :: zr := by cases zs <;> exact ⟨_, _, rfl⟩
          have at0 : atI ((zs ++ [s]).map ov) 0 = some (ov z) := by rw [hzs]; exact atI_nat (j := 0) rfl
          refine ⟨_, rfl, q1, _, 0, ov z, rfl, rfl, .inl (.inl q6), at0, _, rfl, z, m, rfl, by show 1 ≤ sizeLine; decide, fun t ht => ⟨_, rfl, ?_⟩⟩
          have qt : q1 ≠ t := ne_of_none q6 ht
          have lq : ((zs ++ [s]).map ov).length = i + 1 := by rw [List.length_map, List.length_append, lz]; rfl
          refine ⟨t, q1, [ov (before z m)], _, rfl, rfl, upd_same, (upd_ne qt).trans q6, by rw [lq, sizeLine_eq]; show 1 + (i + 1) ≤ _; omega, fun p hp => ?_⟩
          obtain ⟨pt, np⟩ := none_upd hp
          have sm : Same H7 (upd (upd H7 t (.lst [ov (before z m)])) p (.lst ([ov (before z m)] ++ (zs ++ [s]).map ov))) := same_upd2 np (sameNew ht)
          refine ⟨p, before z m :: zs, _, rfl, x6.trans (.of sm), G6.same sm, sm _ _ f6, upd_same, ?_, Gn.ne G6 np, by rw [List.length_cons, lz], by omega, fun x hx j e => ?_⟩
          · exact fun e => by rw [e, f6] at np; cases np
          · have ea : 2 ^ 98 + (i + 1) * 2 ^ 70 = (2 ^ 98 + i * 2 ^ 70) + 2 ^ 70 := by rw [Nat.add_mul, Nat.one_mul, Nat.add_assoc]
            rw [ea]
            generalize 2 ^ 98 + i * 2 ^ 70 = A0 at bz ⊢
            generalize 2 ^ 70 = C0 at hm ⊢
            have bz0 := bz z (by rw [hzs]; exact List.mem_cons_self)
            rcases List.mem_cons.mp hx with rfl | hx
            · cases z with
              | none => cases e
              | some z =>
                have := bz0 z rfl
                obtain rfl : z - m = j := Option.some.inj e
                omega
            · have := bz x hx j e
              omega
        · obtain ⟨q1, zs, y6, rfl, x6, G6, f6, q6, qf1, qg1, lz, i3, bz⟩ := p
          refine ⟨_, rfl, _, rfl, g, 5, n + 93, rfl, G6, by decide, by decide, fun k2 H7 s7 G7 j0 j1 => ⟨k2, rfl, by omega, by omega, ?_⟩⟩
          refine for_it walk_range (fun i σ H8 => ∃ (fs : List (Option Int)) (y6 : Option V), σ = [some (.ref g), some (.int 5), some (ov s), some (.int m), some (.ref f), some (.ref q1), y6] ∧ SameX g H H8 ∧ Gn (n + 93 - 2 * i) H8 g ∧ H8 f = some (.lst (fs.map ov)) ∧ H8 q1 = some (.lst ((zs ++ [s]).map ov)) ∧ fs.length = i ∧ i ≤ 5 ∧ ∀ x ∈ fs, Nw x 98)
            ⟨[], y6, rfl, x6.trans s7, G7, s7 f _ fg f6, s7 q1 _ qg1 q6, rfl, by decide, fun x hx => nomatch hx⟩ (fun _ _ _ _ _ => True.intro) (fun i v σ H8 H9 hi p yy => ?_) fun σ H8 p => ?_
          · obtain ⟨fs, y6, rfl, x8, G8, f8, q8, lf, i5, bf⟩ := p
            obtain ⟨rfl, rfl⟩ := yy
            refine ⟨_, rfl, .inl ⟨rfl, _, .inl (.inl f8)⟩, _, rfl, g, n + 93 - 2 * (i + 1), rfl, G8.le (by omega), fun y H10 s10 G10 by10 => ⟨f, _, ov y, rfl, rfl, s10 f _ fg f8, by rw [List.length_map, sizeLine_eq]; omega, ?_⟩⟩
            have nf8 : SameX g H (upd H10 f (.lst (fs.map ov ++ [ov y]))) := fun b o nb e => by
              rw [upd_ne (ne_of_none e hfH)]
              exact (x8.trans s10) b o nb e
            refine ⟨fs ++ [y], _, rfl, nf8, ?_, by rw [upd_same, List.map_append]; rfl, ?_, by rw [List.length_append, lf]; rfl, by omega, fun x hx => ?_⟩
            · obtain ⟨a1, a2, a3, ha, hrest⟩ := G10
              exact ⟨a1, a2, a3, (upd_ne (Ne.symm fg)).trans ha, hrest⟩
            · exact (upd_ne qf1).trans (s10 q1 _ qg1 q8)
            · rcases List.mem_append.mp hx with hx | hx
              · exact bf x hx
              · obtain rfl := List.mem_singleton.mp hx
                exact by10
          · obtain ⟨fs, y6, rfl, x8, G8, f8, q8, lf, i5, bf⟩ := p
            refine ⟨_, rfl, _, rfl, 1, rfl, _, rfl, q1, _, rfl, .inl (.inl q8), fun c hc => ⟨f, c, _, _, rfl, rfl, (upd_ne (ne_of_none f8 hc)).trans f8, upd_same, ?_, fun l hl => ?_⟩⟩
            · rw [show (zs ++ [s]).map ov = zs.map ov ++ [ov s] by rw [List.map_append]; rfl, cut_init, List.length_map, List.length_map, sizeLine_eq]
              omega
            · refine ⟨_, rfl, _, rfl, by show 3 ≤ sizeLine; decide, fun r hr => ?_⟩
              rw [show (zs ++ [s]).map ov = zs.map ov ++ [ov s] by rw [List.map_append]; rfl, cut_init] at hl hr ⊢
              obtain ⟨lc, nl⟩ := none_upd hl
              obtain ⟨rl, nr⟩ := none_upd hr
              obtain ⟨rc, nr⟩ := none_upd nr
              have sm : Same H8 (upd (upd (upd H8 c (.lst (zs.map ov))) l (.lst (fs.map ov ++ zs.map ov))) r (.tup [.ref l, ov s, .int m])) := same_upd2 nr (same_upd2 nl (sameNew hc))
              refine q r l (fs ++ zs) s m _ (x8.trans (.of sm)) ((G8.same sm).le (by omega)) (backX x8 nr (Gn.ne G8 nr)) (backX x8 nl (Gn.ne G8 nl)) upd_same ?_ ?_ (fun x hx => ?_) ws hm h0
              · rw [upd_ne (Ne.symm rl), upd_same, List.map_append]
              · rw [List.length_append]
                omega
              · rcases List.mem_append.mp hx with hx | hx
                · exact fun j e => Nat.lt_of_lt_of_le (bf x hx j e) (by decide)
                · intro j e
                  have := bz x (List.mem_append.mpr (.inl hx)) j e
                  have e1 : zs.length * 2 ^ 70 ≤ 3 * 2 ^ 70 := Nat.mul_le_mul_right _ (by omega)
                  have e2 : 2 ^ 98 + 3 * 2 ^ 70 < 2 ^ 99 := by decide
                  exact Nat.lt_of_lt_of_le this (by rw [← lz]; exact Nat.le_of_lt (Nat.lt_of_le_of_lt (Nat.add_le_add_left e1 _) e2))
      · refine ⟨_, rfl, rfl, _, rfl, ite2 (fun e => ?_) (fun e => ?_)⟩
        · exact hU _ _ ⟨0, rfl, s3, G3, by decide, fun _ => rfl⟩
        · exact hU _ _ ⟨m, rfl, s3, G3, hm, fun z => absurd (decide_eq_true (by rw [z]; rfl)) e⟩
    · refine ⟨_, rfl, g, 5, n + 96, rfl, G2.le (by omega), by decide, by decide, fun y H3 s3 G3 y0 y1 => ⟨rfl, _, rfl, ite2 (fun e => ?_) (fun e => ?_)⟩⟩
      · refine ⟨_, rfl, _, rfl, 10, 20, rfl, rfl, ⟨by decide, by decide⟩, g, _, n + 95, rfl, G3, by decide, by decide, fun z H4 s4 G4 z0 z1 => ⟨z, 1, rfl, rfl, x - 3, _, rfl, rfl, ?_⟩⟩
        have z1' : z < 100000000000000000000 := z1
        have hz : (z + 1).natAbs < 2 ^ 67 := by omega
        refine ⟨wide_mul x7 hz (by decide) (by decide) (by decide), ?_⟩
        refine hU _ _ ⟨(x - 3) * (z + 1), rfl, s3.trans s4, G4, ?_⟩
        rw [Int.natAbs_mul]
        have h4 : (x - 3).natAbs ≤ 4 := by omega
        have := Nat.mul_le_mul h4 (Nat.le_of_lt hz)
        have e70 : 4 * 2 ^ 67 < 2 ^ 70 := by decide
        omega
      · exact hU _ _ ⟨_, rfl, s3, G3.le (by omega), by omega⟩
end
end K47

set_option Elab.async false
set_option linter.all false
set_option maxRecDepth 100000
set_option maxHeartbeats 4000000
namespace K47
open PySem PySem.Spec PyProof.Rows L2 CK
def dO : Option Int → PyData
  | none => .none
  | some i => .int i
theorem dp_ov {K : PySem.W.Frag} {H : Hp} (s : Option Int) : Dp K H (ov s) (dO s) := by cases s <;> constructor
theorem dpAll_ov {K : PySem.W.Frag} {H : Hp} : ∀ xs : List (Option Int), DpAll K H (xs.map ov) (xs.map dO)
  | [] => .nil
  | x :: xs => .cons (dp_ov x) (dpAll_ov xs)
def dRun (xs : List (Option Int)) (s : Option Int) (m : Int) : PyData := .tuple [.list (xs.map dO), dO s, .int m]
theorem RunH.dp {K : PySem.W.Frag} {H : Hp} {r : Addr} {xs : List (Option Int)} {s : Option Int} {m : Int} (h : RunH H r xs s m) : Dp K H (.ref r) (dRun xs s m) := by
  obtain ⟨l, h1, h2⟩ := h
  exact .tup (.inl (.inl h1)) (.cons (.lst (.inl (.inl h2)) (dpAll_ov xs)) (.cons (dp_ov s) (.cons (.int m) .nil)))
theorem eqv_dO (a b : Option Int) : PyData.eqv (dO a) (dO b) = decide (a = b) := by
  cases a <;> cases b <;> simp [dO, PyData.eqv, Bool.beq_eq_decide_eq]
theorem eqvAll_dO : ∀ f g : List (Option Int), PyData.eqvAll (f.map dO) (g.map dO) = decide (f = g)
  | [], [] => by simp [PyData.eqvAll]
  | [], _ :: _ => by simp [PyData.eqvAll]
  | _ :: _, [] => by simp [PyData.eqvAll]
  | x :: f, y :: g => by
    rw [List.map_cons, List.map_cons, PyData.eqvAll, eqvAll_dO f g, eqv_dO]
    simp
theorem eqv_dOl (f g : List (Option Int)) : PyData.eqv (.list (f.map dO)) (.list (g.map dO)) = decide (f = g) := by
  simp only [PyData.eqv, eqvAll_dO]
theorem lay_dO : ∀ xs : List (Option Int), PyData.canLayAll0 (xs.map dO) = true
  | [] => by simp [PyData.canLayAll0]
  | x :: xs => by
    rw [List.map_cons, PyData.canLayAll0, lay_dO xs]
    cases x <;> simp [dO, PyData.canLay0]
theorem deep_dO : ∀ xs : List (Option Int), PyData.depthAll (xs.map dO) = 0
  | [] => by simp [PyData.depthAll]
  | x :: xs => by
    rw [List.map_cons, PyData.depthAll, deep_dO xs]
    cases x <;> simp [dO, PyData.depth]
theorem shaped_dOl (xs : List (Option Int)) : SeqAt.shaped (.list (xs.map dO)) = true := by
  unfold SeqAt.shaped
  rw [PyData.canLay0, lay_dO, PyData.depth, deep_dO]
  rfl
theorem cut_last (xs : List V) : cutV xs (some (-1)) none = xs.drop (xs.length - 1) := by
  unfold cutV
  have e : HT.sIx xs.length 0 (some (-1)) = xs.length - 1 := by
    unfold HT.sIx
    simp
    omega
  rw [e, HT.sIx_none, List.take_of_length_le (by rw [List.length_drop]; exact Nat.le_refl _)]
def isLeast (xs : List (Option Int)) (s : Option Int) (m : Int) : Bool := match s with
  | none => decide (m = 0) && !decide (xs.drop (xs.length - 1) = [none])
  | some i => !decide (xs.drop (xs.length - 1) = [some (i - m)])
section
variable {P : Program} {w : World} {K : PySem.W.Frag} {mg : Str → Option Value} {base : Heap} {E_InvalidRun E_TooMany E_CountError : Addr}
theorem c_law_whole (T : Txt K mg E_InvalidRun E_TooMany E_CountError) : C8.Cal P w K mg base 1 "_law_whole" (sp_whole K) [] := by
  refine calF T.d_law_whole sc_law_whole (fun vs H Q E h => ?_) (fun f cdv A outer s H vs Q E hr h => ?_)
  · obtain ⟨_, _, rfl, _⟩ := h; rfl
  · obtain ⟨v, d, rfl, dv, q⟩ := h
    refine ⟨_, (pss_one (ps_ret (pe_and (pe_callB call_isD (by rfl) T.m_isinstance (by decide +kernel) (pa_cons (pv 0) (pa_cons (pe_bltn (v := .ty "int") (by rfl) T.m_int (by decide +kernel) rfl) pa_nil))) (pe_one (pe_not (pe_callB call_isD (by rfl) T.m_isinstance (by decide +kernel) (pa_cons (pv 0) (pa_cons (pe_bltn (v := .ty "bool") (by rfl) T.m_bool (by decide +kernel) rfl) pa_nil)))))))), ?_⟩
    refine ⟨_, rfl, v, d, _, _, rfl, dv, kitd_int d, _, rfl, ?_⟩
    by_cases e : (isInt d || isBool d) = true
    · rw [if_pos e]
      refine ⟨_, rfl, v, d, _, _, rfl, dv, kitd_bool d, _, rfl, ?_⟩
      cases d <;> first | exact q | exact absurd e Bool.false_ne_true
    · rw [if_neg e]
      cases d <;> first | exact q | exact absurd rfl e
def sp_is_least : Sp := fun vs H Q _ => ∃ (r : Addr) (xs : List (Option Int)) (s : Option Int) (m : Int), vs = [.ref r] ∧ RunH H r xs s m ∧ xs.length ≤ 1000 ∧ ∀ H', Same H H' → Q (.bl (isLeast xs s m)) H'
theorem c_law_is_least (T : Txt K mg E_InvalidRun E_TooMany E_CountError) : C8.Cal P w K mg base 2 "_law_is_least" sp_is_least [] := by
  refine calF T.d_law_is_least sc_law_is_least (fun vs H Q E h => ?_) (fun f cdv A outer s H vs Q E hr h => ?_)
  · obtain ⟨_, _, _, _, rfl, _⟩ := h; rfl
  · obtain ⟨r, xs, s, m, rfl, rh, hx, q⟩ := h
    obtain ⟨l, hr1, hl⟩ := id rh
    have dl : Dp K H (.ref l) (.list (xs.map dO)) := .lst (.inl (.inl hl)) (dpAll_ov xs)
    refine ⟨_, (pss_cons (ps_if (PW.pt (pw_or (pt_not (pt_val (pe_callB call_isD (by rfl) T.m_isinstance (by decide +kernel) (pa_cons (pv 0) (pa_cons (pe_bltn (v := .ty "tuple") (by rfl) T.m_tuple (by decide +kernel) rfl) pa_nil))))) (pw_or (pt_cmpR op_ne (pe_callB call_len_seq (by rfl) T.m_len (by decide +kernel) (pa_cons (pv 0) pa_nil)) pe_int (nomark _)) (pw_or1 (pt_not (pt_val (pe_callB call_isD (by rfl) T.m_isinstance (by decide +kernel) (pa_cons (pe_ix ix_tup (pv 0) pe_int (fun _ _ => rfl)) (pa_cons (pe_bltn (v := .ty "list") (by rfl) T.m_list (by decide +kernel) rfl) pa_nil)))))))))
    (pss_one (ps_ret pe_bl))
    pss_nil)
    (pss_cons (ps_if (PW.pt (pw_or (pt_cmpR (op_neSame hr.units) (pe_lc (own := [("_law_item", 1)]) (by rfl) sc_law_is_least.nd (pi_list (pe_ix ix_tup (pv 0) pe_int (fun _ _ => rfl))) (blkOk_by (N := ["_law_run", "_law_item"]) (sc := C8.fnScope (topS 32)) (own := [("_law_item", 1)]) (by decide +kernel)) (fun _ _ _ _ _ => (pg_name (i := 1) sc_law_is_least.nd rfl (Or.inl rfl))) (fun _ _ _ _ _ => (pts_one (PW.pt (pw_and (pt_cmpR op_notN (pv 1) pe_non (nomark _)) (pw_and1 (pt_not (pt_val (C8.pe_c (c_law_whole T) hr (by decide) (by rfl) (pa_cons (pv 1) pa_nil))))))))) (fun _ _ _ _ _ => (pv 1))) (pe_lst pa_nil) (nomark _)) (pw_or1 (pt_not (pt_val (C8.pe_c (c_law_whole T) hr (by decide) (by rfl) (pa_cons (pe_ix ix_tup (pv 0) pe_int (fun _ _ => rfl)) pa_nil)))))))
    (pss_one (ps_ret pe_bl))
    pss_nil)
    (pss_cons (ps_if (pt_cmpR op_isN (pe_ix ix_tup (pv 0) pe_int (fun _ _ => rfl)) pe_non (nomark _))
    (pss_one (ps_ret (pe_and (pe_cmpR op_eq (pe_ix ix_tup (pv 0) pe_int (fun _ _ => rfl)) pe_int (nomark _)) (pe_one (pe_cmpR (op_neD hr.units) (pe_slice sl_list (pe_ix ix_tup (pv 0) pe_int (fun _ _ => rfl)) (po_some (pe_un un_neg pe_int)) po_none) (pe_lst (pa_cons pe_non pa_nil)) (nomark _))))))
    pss_nil)
    (pss_one (ps_ret (pe_and (C8.pe_c (c_law_whole T) hr (by decide) (by rfl) (pa_cons (pe_ix ix_tup (pv 0) pe_int (fun _ _ => rfl)) pa_nil)) (pe_one (pe_cmpR (op_neD hr.units) (pe_slice sl_list (pe_ix ix_tup (pv 0) pe_int (fun _ _ => rfl)) (po_some (pe_un un_neg pe_int)) po_none) (pe_lst (pa_cons (pe_op op_sub (pe_ix ix_tup (pv 0) pe_int (fun _ _ => rfl)) (pe_ix ix_tup (pv 0) pe_int (fun _ _ => rfl))) pa_nil)) (nomark _))))))))), ?_⟩
    refine ⟨_, rfl, _, _, _, _, rfl, rh.dp, kitd_tuple _, _, rfl, iteF ⟨_, rfl, r, _, rfl, .inr (.inl (.inl hr1)), rfl, _, rfl, iteF ⟨_, rfl, r, _, 0, .ref l, rfl, rfl, .inl (.inl hr1), rfl, _, _, _, _, rfl, dl, kitd_list _, _, rfl, iteF ?_⟩⟩⟩
    refine ⟨_, rfl, r, _, 0, .ref l, rfl, rfl, .inl (.inl hr1), rfl, l, rfl, ⟨_, .inl (.inl hl)⟩, fun D hD => lcL_filt (fun _ => false) (fun _ => V.non) (fun H1 s1 => .inl (.inl (s1 _ _ hl))) (by rw [List.length_map, sizeLine_eq]; omega) (fun i x H1 R R0 hx1 s1 hy hno => ⟨rfl, ?_⟩) hD fun H1 s1 hr2 => ?_⟩
    · rw [List.getElem?_map] at hx1
      obtain ⟨a, ha, rfl⟩ := Option.map_eq_some_iff.mp hx1
      cases a with
      | none => exact ⟨_, rfl, rfl, _, rfl, iteF (hno rfl _ (Same.refl _))⟩
      | some i => exact ⟨_, rfl, rfl, _, rfl, iteT ⟨_, rfl, _, _, rfl, .int i, _, rfl, hno rfl _ (Same.refl _)⟩⟩
    · rw [(filt_nil _ _ _).mpr (fun _ _ => rfl)] at hr2
      refine ⟨by show 0 ≤ sizeLine; decide, fun e he => ⟨.list [], .lst (.inl (.inl ((upd_ne (ne_of_none hr2 he)).trans hr2))) .nil, .lst (.inl (.inl upd_same)) .nil, by decide, _, rfl, iteF ?_⟩⟩
      have s2 : Same H (upd H1 e (.lst [])) := s1.trans (sameNew he)
      generalize upd H1 e (.lst []) = H2 at s2
      refine ⟨_, rfl, r, _, 2, .int m, rfl, rfl, .inl (.inl (s2 _ _ hr1)), rfl, _, _, rfl, .int m, _, rfl, iteF ?_⟩
      have last : ∀ (w : Option Int) (H3 : Hp) (R : VK), Same H2 H3 → (∀ H', Same H2 H' → R (.bl (!decide (xs.drop (xs.length - 1) = [w]))) H') → ∀ p c, H2 p = none → H3 = upd (upd H2 p (.lst (cutV (xs.map ov) (some (-1)) none))) c (.lst [ov w]) → upd H2 p (.lst (cutV (xs.map ov) (some (-1)) none)) c = none → rNeD K (.ref p) (.ref c) H3 R := fun w H3 R s3 k p c np e3 nc => by
        subst e3
        have e1 : cutV (xs.map ov) (some (-1)) none = (xs.drop (xs.length - 1)).map ov := by rw [cut_last, List.length_map, List.map_drop]
        refine ⟨.list ((xs.drop (xs.length - 1)).map dO), .list ([w].map dO), .lst (.inl (.inl ?_)) (dpAll_ov _), .lst (.inl (.inl upd_same)) (dpAll_ov [w]), shaped_dOl _, shaped_dOl _, ?_⟩
        · rw [upd_ne (Ne.symm (none_upd nc).1), upd_same, e1]
        · rw [eqv_dOl]
          exact k _ s3
      refine ⟨_, rfl, r, _, 1, ov s, rfl, rfl, .inl (.inl (s2 _ _ hr1)), rfl, rfl, _, rfl, ?_⟩
      cases s with
      | none =>
        refine iteT ⟨_, rfl, r, _, 2, .int m, rfl, rfl, .inl (.inl (s2 _ _ hr1)), rfl, rfl, _, rfl, ?_⟩
        have q : ∀ H', Same H H' → Q (.bl (decide (m = 0) && !decide (xs.drop (xs.length - 1) = [none]))) H' := q
        by_cases e0 : m = 0
        · rw [decide_eq_true e0, Bool.true_and] at q
          rw [decide_eq_true (congrArg V.int e0)]
          exact iteT ⟨_, rfl, r, _, 0, .ref l, rfl, rfl, .inl (.inl (s2 _ _ hr1)), rfl, 1, rfl, _, rfl, l, _, rfl, .inl (.inl (s2 _ _ hl)), fun p np => ⟨by show 1 ≤ sizeLine; decide, fun c nc => last none _ _ (same_upd2 (none_upd nc).2 (sameNew np)) (fun H' s' => q H' (s2.trans s')) p c np rfl nc⟩⟩
        · rw [decide_eq_false e0, Bool.false_and] at q
          rw [decide_eq_false (fun z => e0 (V.int.inj z))]
          exact iteF (q _ s2)
      | some i =>
        refine iteF ⟨_, rfl, r, _, 1, _, rfl, rfl, .inl (.inl (s2 _ _ hr1)), rfl, _, _, rfl, .int i, _, rfl, iteT ?_⟩
        refine ⟨_, rfl, r, _, 0, .ref l, rfl, rfl, .inl (.inl (s2 _ _ hr1)), rfl, 1, rfl, _, rfl, l, _, rfl, .inl (.inl (s2 _ _ hl)), fun p np => ?_⟩
        have r3 := sameNew (o := .lst (cutV (xs.map ov) (some (-1)) none)) np _ _ (s2 _ _ hr1)
        exact ⟨_, rfl, r, _, 1, .int i, rfl, rfl, .inl (.inl r3), rfl, _, rfl, r, _, 2, .int m, rfl, rfl, .inl (.inl r3), rfl, i, m, rfl, rfl, by show 1 ≤ sizeLine; decide, fun c nc => last (some (i - m)) _ _ (same_upd2 (none_upd nc).2 (sameNew np)) (fun H' s' => q H' (s2.trans s')) p c np rfl nc⟩
end
end K47

set_option Elab.async false
set_option linter.all false
set_option maxRecDepth 100000
set_option maxHeartbeats 4000000
namespace K47
open PySem PySem.Spec PyProof.Rows L2 CK
/-! ### runs, shortened -/
def lineV (s : Option Int) (m : Int) (d : Nat) : Option Int := s.map fun i => i + m * (d : Int)
theorem lineV_zero (s : Option Int) (m : Int) : lineV s m 0 = s := by
  cases s with
  | none => rfl
  | some i => show some (i + m * 0) = some i; rw [Int.mul_zero, Int.add_zero]
theorem lineV_succ (s : Option Int) (m : Int) (d : Nat) : before (lineV s m (d + 1)) m = lineV s m d := by
  cases s with
  | none => rfl
  | some i =>
    show some (i + m * ((d + 1 : Nat) : Int) - m) = some (i + m * (d : Int))
    congr 1
    rw [Int.natCast_add, Int.mul_add]
    omega
theorem before_inj {a b : Option Int} {m : Int} (h : before a m = before b m) : a = b := by
  cases a with
  | none =>
    cases b with
    | none => rfl
    | some j => cases h
  | some i =>
    cases b with
    | none => cases h
    | some j =>
      have : i - m = j - m := Option.some.inj h
      congr 1
      omega
theorem lineV_add (s : Option Int) (m : Int) (a b : Nat) : lineV (lineV s m a) m b = lineV s m (a + b) := by
  cases s with
  | none => rfl
  | some i =>
    show some (i + m * (a : Int) + m * (b : Int)) = some (i + m * ((a + b : Nat) : Int))
    rw [Int.natCast_add, Int.mul_add, Int.add_assoc]
theorem shr_spec (m : Int) (xs : List (Option Int)) : ∀ (n : Nat) (s : Option Int), (shrN m xs n s).1 ≤ n ∧ lineV (shrN m xs n s).2 m (n - (shrN m xs n s).1) = s ∧
    (∀ i, (shrN m xs n s).1 ≤ i → i < n → xs.getD i none = lineV (shrN m xs n s).2 m (i - (shrN m xs n s).1)) ∧ ((shrN m xs n s).1 = 0 ∨ xs.getD ((shrN m xs n s).1 - 1) none ≠ before (shrN m xs n s).2 m)
  | 0, s => ⟨Nat.le_refl _, lineV_zero s m, fun i h1 h2 => absurd h2 (Nat.not_lt_zero _), .inl rfl⟩
  | n + 1, s => by
    rw [shrN]
    by_cases e : xs.getD n none = before s m
    · rw [if_pos e]
      obtain ⟨h1, h2, h3, h4⟩ := shr_spec m xs n (xs.getD n none)
      generalize shrN m xs n (xs.getD n none) = r at *
      refine ⟨by omega, before_inj (m := m) ?_, fun i i1 i2 => ?_, h4⟩
      · rw [show n + 1 - r.1 = (n - r.1) + 1 by omega, lineV_succ, h2, e]
      · by_cases hi : i = n
        · rw [hi, h2]
        · exact h3 i i1 (by omega)
    · rw [if_neg e]
      exact ⟨Nat.le_refl _, by rw [Nat.sub_self]; exact lineV_zero s m, fun i h1 h2 => by show _ = _; have : n + 1 ≤ i := h1; omega, .inr e⟩
theorem getD_take {xs : List (Option Int)} {k i : Nat} (h : i < k) : (xs.take k).getD i none = xs.getD i none := by
  rw [List.getD_eq_getElem?_getD, List.getD_eq_getElem?_getD, List.getElem?_take_of_lt h]
theorem valR_line (xs : List (Option Int)) (s : Option Int) (m : Int) (n : Nat) (h : xs.length ≤ n) : valR xs s m n = lineV s m (n - xs.length) := by
  unfold valR lineV
  rw [if_neg (by omega)]
  congr 1
  funext i
  rw [show ((n - xs.length : Nat) : Int) = (n : Int) - (xs.length : Nat) by omega]
/-- the shortened run has the same values -/
theorem shr_val (m : Int) (xs : List (Option Int)) (s : Option Int) (n : Nat) : valR (xs.take (shrN m xs xs.length s).1) (shrN m xs xs.length s).2 m n = valR xs s m n := by
  obtain ⟨h1, h2, h3, h4⟩ := shr_spec m xs xs.length s
  generalize shrN m xs xs.length s = r at *
  have lt : (xs.take r.1).length = r.1 := by rw [List.length_take, Nat.min_eq_left h1]
  by_cases a : n < r.1
  · unfold valR
    rw [if_pos (by omega), if_pos (by omega), getD_take a]
  · rw [valR_line _ _ _ _ (by omega), lt]
    by_cases b : n < xs.length
    · rw [← h3 n (by omega) b]
      unfold valR
      rw [if_pos b]
    · rw [valR_line _ _ _ _ (by omega), ← h2, lineV_add]
      congr 1
      omega
theorem isLeast_eq (xs : List (Option Int)) (s : Option Int) (m : Int) (h0 : s = none → m = 0) : isLeast xs s m = !decide (xs.drop (xs.length - 1) = [before s m]) := by
  cases s with
  | none => show (decide (m = 0) && _) = _; rw [h0 rfl]; rfl
  | some i => rfl
theorem drop_last (xs : List (Option Int)) (w : Option Int) : xs.drop (xs.length - 1) = [w] ↔ xs ≠ [] ∧ xs.getLastD none = w := by
  rcases List.eq_nil_or_concat xs with e | ⟨ys, y, e⟩
  · subst e
    simp
  · rw [List.concat_eq_append] at e
    subst e
    simp
/-- .. is a least one -/
theorem shr_least (m : Int) (xs : List (Option Int)) (s : Option Int) (h0 : s = none → m = 0) : isLeast (xs.take (shrN m xs xs.length s).1) (shrN m xs xs.length s).2 m = true := by
  obtain ⟨h1, h2, h3, h4⟩ := shr_spec m xs xs.length s
  generalize shrN m xs xs.length s = r at *
  have lt : (xs.take r.1).length = r.1 := by rw [List.length_take, Nat.min_eq_left h1]
  rw [isLeast_eq _ _ _ (fun e => h0 (by rw [← h2, e]; rfl))]
  have : ¬ (xs.take r.1).drop ((xs.take r.1).length - 1) = [before r.2 m] := by
    rw [lt]
    intro e
    rcases h4 with h4 | h4
    · rw [h4] at e
      simp at e
    · by_cases k0 : r.1 = 0
      · rw [k0] at e
        simp at e
      · have := congrArg (fun l => l.getD 0 none) e
        have e2 : ((xs.take r.1).drop (r.1 - 1)).getD 0 none = xs.getD (r.1 - 1) none := by
          rw [List.getD_eq_getElem?_getD, List.getElem?_drop, Nat.add_zero, ← List.getD_eq_getElem?_getD, getD_take (by omega)]
        have e3 : ([before r.2 m] : List (Option Int)).getD 0 none = before r.2 m := rfl
        exact h4 (e2.symm.trans (this.trans e3))
  rw [decide_eq_false this]
  rfl
theorem shr_none (m : Int) (xs : List (Option Int)) (s : Option Int) : (shrN m xs xs.length s).2 = none → s = none := fun e => by
  obtain ⟨h1, h2, h3, h4⟩ := shr_spec m xs xs.length s
  rw [← h2, e]
  rfl
theorem shr_congr (m : Int) (xs ys : List (Option Int)) : ∀ (n : Nat) (s : Option Int), (∀ i, i < n → xs.getD i none = ys.getD i none) → shrN m xs n s = shrN m ys n s
  | 0, _, _ => rfl
  | n + 1, s, h => by
    rw [shrN, shrN, h n (Nat.lt_succ_self _), shr_congr m xs ys n _ fun i hi => h i (Nat.lt_succ_of_lt hi)]
theorem more_get (xs : List (Option Int)) (s : Option Int) (m : Int) (t i : Nat) (h : i < t) : ((List.range t).map (valR xs s m)).getD i none = valR xs s m i := by
  rw [List.getD_eq_getElem?_getD, List.getElem?_map, List.getElem?_range h]
  rfl
/-- more of a run's values written out: shortened it is the same -/
theorem shr_more (m : Int) (xs : List (Option Int)) (s : Option Int) : ∀ j : Nat, shrN m ((List.range (xs.length + j)).map (valR xs s m)) (xs.length + j) (valR xs s m (xs.length + j)) = shrN m xs xs.length s := fun j => by
  have down : ∀ d, d ≤ j → shrN m ((List.range (xs.length + j)).map (valR xs s m)) (xs.length + d) (valR xs s m (xs.length + d)) = shrN m xs xs.length s := by
    intro d
    induction d with
    | zero =>
      intro _
      rw [Nat.add_zero, valR_line _ _ _ _ (Nat.le_refl _), Nat.sub_self, lineV_zero]
      refine shr_congr _ _ _ _ _ fun i hi => ?_
      rw [more_get _ _ _ _ _ (by omega)]
      unfold valR
      rw [if_pos hi]
    | succ d ih =>
      intro hd
      have e1 : valR xs s m (xs.length + d) = before (valR xs s m (xs.length + (d + 1))) m := by
        rw [valR_line _ _ _ _ (by omega), valR_line _ _ _ _ (by omega), show xs.length + (d + 1) - xs.length = d + 1 by omega, lineV_succ, show xs.length + d - xs.length = d by omega]
      rw [show xs.length + (d + 1) = (xs.length + d) + 1 by omega, shrN, more_get _ _ _ _ _ (by omega), if_pos (show valR xs s m (xs.length + d) = before (valR xs s m (xs.length + d + 1)) m from e1)]
      exact ih (by omega)
  exact down j (Nat.le_refl _)
theorem more_take (m : Int) (xs : List (Option Int)) (s : Option Int) (j k : Nat) (h : k ≤ xs.length) : ((List.range (xs.length + j)).map (valR xs s m)).take k = xs.take k := by
  refine List.ext_getElem? fun i => ?_
  by_cases hi : i < k
  · rw [List.getElem?_take_of_lt hi, List.getElem?_take_of_lt hi, List.getElem?_map, List.getElem?_range (by omega), List.getElem?_eq_getElem (by omega)]
    show some (valR xs s m i) = _
    unfold valR
    rw [if_pos (by omega), List.getD_eq_getElem?_getD, List.getElem?_eq_getElem (by omega)]
    rfl
  · rw [List.getElem?_eq_none (by simp; omega), List.getElem?_eq_none (by simp; omega)]
/-- is_run and the law's own look say the same -/
theorem isRun_least (xs : List (Option Int)) (s : Option Int) (m : Int) (h0 : s = none → m = 0) : isRunD (dRun xs s m) = isLeast xs s m := by
  rw [isLeast_eq _ _ _ h0]
  have a1 : isRL (.list (xs.map dO)) = true := by
    show (xs.map dO).all isVal = true
    rw [List.all_map, List.all_eq_true]
    intro x _
    cases x <;> rfl
  have a2 : isVal (dO s) = true := by cases s <;> rfl
  have a3 : isSl (dO s) (.int m) = true := by
    cases s with
    | none => exact decide_eq_true (h0 rfl)
    | some i => rfl
  have a4 : lastOk (.list (xs.map dO)) (dO s) (.int m) = !decide (xs.drop (xs.length - 1) = [before s m]) := by
    have tO : toO (dO s) = s := by cases s <;> rfl
    show ((xs.map dO).isEmpty || !decide (toO ((xs.map dO).getLastD .none) = before (toO (dO s)) m)) = _
    rw [tO]
    rcases List.eq_nil_or_concat xs with e | ⟨ys, y, e⟩
    · subst e
      simp
    · rw [List.concat_eq_append] at e
      subst e
      have tY : toO (dO y) = y := by cases y <;> rfl
      rw [List.map_append, List.map_cons, List.map_nil, List.getLastD_concat, tY]
      simp
  show (isRL (.list (xs.map dO)) && (isVal (dO s) && (isSl (dO s) (.int m) && lastOk (.list (xs.map dO)) (dO s) (.int m)))) = _
  rw [a1, a2, a3, a4]
  rfl
end K47

set_option Elab.async false
set_option linter.all false
set_option maxRecDepth 100000
set_option maxHeartbeats 4000000
set_option exponentiation.threshold 3000
namespace K47
open PySem PySem.Spec PyProof.Rows L2 CK
theorem okDs_dO : ∀ xs : List (Option Int), (∀ x ∈ xs, Nw x 200) → okDs (xs.map dO) = true ∧ bndDs (xs.map dO) ≤ xs.length * 1925
  | [], _ => ⟨rfl, Nat.le_refl _⟩
  | x :: xs, h => by
    obtain ⟨a, b⟩ := okDs_dO xs fun y hy => h y (List.mem_cons_of_mem _ hy)
    have hx := h x List.mem_cons_self
    cases x with
    | none => exact ⟨a, by show 8 + 2 + bndDs (xs.map dO) ≤ _; rw [List.length_cons]; omega⟩
    | some i =>
      have : okD (.int i) = true := decide_eq_true (Nat.lt_of_lt_of_le (hx i rfl) (Nat.pow_le_pow_right (by decide) (by decide)))
      refine ⟨?_, by show 1923 + 2 + bndDs (xs.map dO) ≤ _; rw [List.length_cons]; omega⟩
      show (okD (.int i) && okDs (xs.map dO)) = true
      rw [this, a]
      rfl
theorem ok_dO {s : Option Int} (h : Nw s 200) : okD (dO s) = true ∧ bndD (dO s) ≤ 1923 := by
  obtain ⟨a, b⟩ := okDs_dO [s] (fun x hx => by rw [List.mem_singleton.mp hx]; exact h)
  have a' : (okD (dO s) && true) = true := a
  refine ⟨by rw [Bool.and_true] at a'; exact a', ?_⟩
  cases s with
  | none => decide
  | some i => exact Nat.le_refl _
theorem fine_dO {s : Option Int} (h : Nw s 200) : Fine (dO s) := by
  obtain ⟨a, b⟩ := ok_dO h
  exact fine_of a (by cases s <;> simp [dO, PyData.depth]) (by omega)
theorem fine_l {xs : List (Option Int)} (h : ∀ x ∈ xs, Nw x 200) (hl : xs.length ≤ 1000) : Fine (.list (xs.map dO)) := by
  obtain ⟨a, b⟩ := okDs_dO xs h
  refine fine_of a (by rw [PyData.depth, deep_dO]; decide) ?_
  show bndDs (xs.map dO) + 3 ≤ _
  omega
theorem fine_run {xs : List (Option Int)} {s : Option Int} {m : Int} (h : ∀ x ∈ xs, Nw x 200) (hl : xs.length ≤ 1000) (hs : Nw s 200) (hm : m.natAbs < 2 ^ 200) : Fine (dRun xs s m) := by
  obtain ⟨a, b⟩ := okDs_dO xs h
  obtain ⟨c, d⟩ := ok_dO hs
  have e : okD (.int m) = true := decide_eq_true (Nat.lt_of_lt_of_le hm (Nat.pow_le_pow_right (by decide) (by decide)))
  refine fine_of ?_ ?_ ?_
  · show (okDs (xs.map dO) && (okD (dO s) && (okD (.int m) && true))) = true
    rw [a, c, e]
    rfl
  · have : (dO s).depth = 0 := by cases s <;> simp [dO, PyData.depth]
    unfold dRun
    rw [PyData.depth, PyData.depthAll, PyData.depthAll, PyData.depthAll, PyData.depthAll, PyData.depth, deep_dO, this]
    simp [PyData.depth]
  · show bndDs (xs.map dO) + 3 + 2 + (bndD (dO s) + 2 + (1923 + 2 + 0)) + 3 ≤ _
    omega
theorem fine_b (b : Bool) : Fine (.bool b) := fine_of rfl (by simp [PyData.depth]) (by show 8 ≤ 16000000; decide)
end K47

set_option Elab.async false
set_option linter.all false
set_option maxRecDepth 100000
set_option maxHeartbeats 4000000
set_option exponentiation.threshold 3000
namespace K47
open PySem PySem.Spec PyProof.Rows L2 CK
def sumO : Option Int → Option Int → Option Int
  | some x, some y => some (x + y)
  | _, _ => none
def sumL (xs : List (Option Int)) (s : Option Int) (m : Int) (ys : List (Option Int)) (t : Option Int) (k : Int) (n : Nat) : List (Option Int) := (List.range n).map fun i => sumO (valR xs s m i) (valR ys t k i)
def slO (s0 : Option Int) (m : Int) : Int := match s0 with | none => 0 | some _ => m
/-- the shortened run of values, a start and a slope -/
def shrR (zs : List (Option Int)) (s0 : Option Int) (m0 : Int) : List (Option Int) × Option Int × Int := (zs.take (shrN m0 zs zs.length s0).1, (shrN m0 zs zs.length s0).2, m0)
def sumR (xs : List (Option Int)) (s : Option Int) (m : Int) (ys : List (Option Int)) (t : Option Int) (k : Int) : List (Option Int) × Option Int × Int :=
  shrR (sumL xs s m ys t k (max xs.length ys.length)) (sumO (valR xs s m (max xs.length ys.length)) (valR ys t k (max xs.length ys.length))) (slO (sumO (valR xs s m (max xs.length ys.length)) (valR ys t k (max xs.length ys.length))) (m + k))
/-- // of great numbers, by any divisor but 0 -/
theorem op_fdivX {X : Cx} : OpR X (binaryOp .FloorDiv) (rI (fun _ j => j ≠ 0 ∧ j.natAbs.log2 < 9000) fun i j => .int (i.fdiv j)) := opI fun i j _ _ _ _ _ hc q => floordiv_int hc.1 q (.inl (PyProof.noPylong_of_log2 hc.2))
theorem ps_noxE {X : Cx} {st : Stmt} {t : TS} (h : PS X.nox st t) : PS X st t := ⟨fun ps z σ H D I q => wpAny_mono (h.run ps z σ H D (I.wish _) q) (fun _ _ y => y.unwish) (fun _ _ y => y.elim)⟩
theorem log9 {j : Int} (h : j.natAbs < 2 ^ 1000) : j.natAbs.log2 < 9000 := Nat.lt_of_lt_of_le (PySem.Flt.log2_lt_of (by decide) h) (by decide)
/-- what bounds a run -/
structure Bd (xs : List (Option Int)) (s : Option Int) (m : Int) : Prop where
  len : xs.length ≤ 100
  it : ∀ x ∈ xs, Nw x 150
  st : Nw s 150
  sl : m.natAbs < 2 ^ 100
  h0 : s = none → m = 0
section
variable {P : Program} {w : World} {K : PySem.W.Frag} {mg : Str → Option Value} {base : Heap} {E_InvalidRun E_TooMany E_CountError : Addr}
def sp_longer : Sp := fun vs H Q _ => ∃ (o o2 : Addr) (xs ys : List (Option Int)) (s t : Option Int) (m k : Int), vs = [.ref o, .ref o2] ∧ RunH H o xs s m ∧ RunH H o2 ys t k ∧ Q (.int (max xs.length ys.length : Nat)) H
theorem c_longer_list (T : Txt K mg E_InvalidRun E_TooMany E_CountError) : C8.Cal P w K mg base 1 "longer_list" sp_longer [] := by
  refine calF T.d_longer_list sc_longer_list (fun vs H Q E h => ?_) (fun f cdv A outer s H vs Q E hr h => ?_)
  · obtain ⟨_, _, _, _, _, _, _, _, rfl, _⟩ := h; rfl
  · obtain ⟨o, o2, xs, ys, s, t, m, k, rfl, ⟨l, h1, h2⟩, ⟨l2, h3, h4⟩, q⟩ := h
    refine ⟨_, (pss_one (ps_ret (pe_callB (call_max2 rfl) (by rfl) T.m_max (by decide +kernel) (pa_cons (pe_callB call_len_seq (by rfl) T.m_len (by decide +kernel) (pa_cons (pe_ix ix_tup (pv 0) pe_int (fun _ _ => rfl)) pa_nil)) (pa_cons (pe_callB call_len_seq (by rfl) T.m_len (by decide +kernel) (pa_cons (pe_ix ix_tup (pv 1) pe_int (fun _ _ => rfl)) pa_nil)) pa_nil))))), ?_⟩
    refine ⟨_, rfl, o, _, 0, .ref l, rfl, rfl, .inl (.inl h1), rfl, l, _, rfl, .inl (.inl (.inl h2)), _, rfl, o2, _, 0, .ref l2, rfl, rfl, .inl (.inl h3), rfl, l2, _, rfl, .inl (.inl (.inl h4)), _, _, rfl, ?_⟩
    rw [List.length_map, List.length_map]
    have e : (if ((ys.length : Nat) : Int) > ((xs.length : Nat) : Int) then ((ys.length : Nat) : Int) else ((xs.length : Nat) : Int)) = ((max xs.length ys.length : Nat) : Int) := by
      split <;> omega
    rw [e]
    exact q
def sp_value_sum : Sp := fun vs H Q _ => ∃ a b, vs = [ov a, ov b] ∧ Q (ov (sumO a b)) H
theorem c_value_sum (T : Txt K mg E_InvalidRun E_TooMany E_CountError) : C8.Cal P w K mg base 1 "value_sum" sp_value_sum [] := by
  refine calF T.d_value_sum sc_value_sum (fun vs H Q E h => ?_) (fun f cdv A outer s H vs Q E hr h => ?_)
  · obtain ⟨_, _, rfl, _⟩ := h; rfl
  · obtain ⟨a, b, rfl, q⟩ := h
    refine ⟨_, (pss_one (ps_ret (pe_ifExp (PW.pt (pw_or (pt_cmpR op_isN (pv 0) pe_non (nomark _)) (pw_or1 (pt_cmpR op_isN (pv 1) pe_non (nomark _))))) pe_non (pe_op op_add (pv 0) (pv 1))))), ?_⟩
    cases a with
    | none => exact ⟨_, rfl, rfl, _, rfl, iteT (iteT q)⟩
    | some x =>
      refine ⟨_, rfl, rfl, _, rfl, iteF ?_⟩
      cases b with
      | none => exact ⟨_, rfl, rfl, _, rfl, iteT q⟩
      | some y => exact ⟨_, rfl, rfl, _, rfl, iteF ⟨_, rfl, _, rfl, x, y, rfl, rfl, q⟩⟩
def sp_sum (K : PySem.W.Frag) (E1 : Addr) : Sp := fun vs H Q E => ∃ v z d e, vs = [v, z] ∧ Dp K H v d ∧ SmD d ∧ Dp K H z e ∧ SmD e ∧
  ((isRunD d = false ∧ ∀ H' x, Same H H' → H' x = some (.xd [("value", v)]) → E (.ref E1) (some x) H') ∨
   (isRunD d = true ∧ isRunD e = false ∧ ∀ H' x, Same H H' → H' x = some (.xd [("value", z)]) → E (.ref E1) (some x) H') ∨
   (isRunD d = true ∧ isRunD e = true ∧ ∃ (o o2 : Addr) (xs ys : List (Option Int)) (s t : Option Int) (m k : Int), v = .ref o ∧ z = .ref o2 ∧ RunH H o xs s m ∧ RunH H o2 ys t k ∧ Bd xs s m ∧ Bd ys t k ∧
     ∀ r l H' us u j, Same H H' → H r = none → H l = none → sumR xs s m ys t k = (us, u, j) → H' r = some (.tup [.ref l, ov u, .int j]) → H' l = some (.lst (us.map ov)) → Q (.ref r) H'))
abbrev FS (K : PySem.W.Frag) (f : Addr) (fd : FuncData) := FunD K "run_sum" "run_sum" (C8.fnArgs (topS 17)) (C8.fnBody (topS 17)) (C8.fnScope (topS 17)) [] [] f fd
theorem xk_run_sum (T : Txt K mg E_InvalidRun E_TooMany E_CountError) {f : Addr} {fd : FuncData} (F : FS K f fd) : FnOk P w K mg base (L2.CX P w) 6 f fd ["one", "other"] (sp_sum K E_InvalidRun) := by
  refine fnX_of (fun_of F) sc_run_sum (fun vs H Q E h => ?_) (fun cdv A outer s0 H vs Q E hr h => ?_)
  · obtain ⟨_, _, _, _, rfl, _⟩ := h; rfl
  · obtain ⟨v, z, d, e, rfl, dv, sm, dz, sm2, q⟩ := h
    refine ⟨_, (pss_cons (ps_expr (pe_x (x_need_run T) (takes_of rfl rfl rfl rfl) hr (by decide) (by rfl) (pa_cons (pv 0) pa_nil)))
    (pss_cons (ps_expr (pe_x (x_need_run T) (takes_of rfl rfl rfl rfl) hr (by decide) (by rfl) (pa_cons (pv 1) pa_nil)))
    (pss_cons (ps_set (i := 2) sc_run_sum.nd rfl (Or.inl rfl) (C8.pe_c (c_longer_list T) hr (by decide) (by rfl) (pa_cons (pv 0) (pa_cons (pv 1) pa_nil))))
    (pss_cons (ps_setLc (i := 3) (own := [("count", 4)]) rfl sc_run_sum.nd rfl rfl (sw_true rfl rfl rfl (by decide +kernel)) (pi_range1 (by rfl) T.m_range (pa_cons (pe_op op_add (pv 2) pe_int) pa_nil)) (blkOk_by (N := ["one", "other", "size", "sums", "count"]) (sc := C8.fnScope (topS 17)) (own := [("count", 4)]) (by decide +kernel)) (fun _ _ _ _ _ => (pg_name (i := 4) sc_run_sum.nd rfl (Or.inl rfl))) (fun _ _ _ _ _ => pts_nil) (fun _ _ _ _ _ => (C8.pe_c (c_value_sum T) hr (by decide) (by rfl) (pa_cons (C8.pe_c (c_at_count T) hr (by decide) (by rfl) (pa_cons (pv 0) (pa_cons (pv 4) pa_nil))) (pa_cons (C8.pe_c (c_at_count T) hr (by decide) (by rfl) (pa_cons (pv 1) (pa_cons (pv 4) pa_nil))) pa_nil)))))
    (pss_one (ps_ret (C8.pe_c (c_shortened T) hr (by decide) (by rfl) (pa_cons (pe_slice sl_list (pv 3) po_none (po_some (pv 2))) (pa_cons (pe_ix ix_list (pv 3) (pv 2) (fun _ _ => rfl)) (pa_cons (pe_ifExp (pt_cmpR op_isN (pe_ix ix_list (pv 3) (pv 2) (fun _ _ => rfl)) pe_non (nomark _)) pe_int (pe_op op_add (pe_ix ix_tup (pv 0) pe_int (fun _ _ => rfl)) (pe_ix ix_tup (pv 1) pe_int (fun _ _ => rfl)))) pa_nil)))))))))), ?_⟩
    refine ⟨_, rfl, v, d, rfl, dv, sm, fun H1 s1 => ?_⟩
    rcases q with ⟨e1, q⟩ | ⟨e1, e2, q⟩ | ⟨e1, e2, o, o2, xs, ys, s, t, m, k, rfl, rfl, r1, r2, b1, b2, q⟩
    · rw [e1]
      exact iteF fun x hx => q _ x (s1.trans (sameNew hx)) upd_same
    · rw [e1]
      refine iteT ⟨_, rfl, z, e, rfl, dp_same s1 _ _ dz, sm2, fun H2 s2 => ?_⟩
      rw [e2]
      exact iteF fun x hx => q _ x ((s1.trans s2).trans (sameNew hx)) upd_same
    · rw [e1]
      refine iteT ⟨_, rfl, _, e, rfl, dp_same s1 _ _ dz, sm2, fun H2 s2 => ?_⟩
      rw [e2]
      refine iteT ?_
      have s12 := s1.trans s2
      obtain ⟨n, hn⟩ : ∃ n, n = max xs.length ys.length := ⟨_, rfl⟩
      have n100 : n ≤ 100 := by have := b1.len; have := b2.len; omega
      have lx : xs.length ≤ 1000 := by have := b1.len; omega
      have ly : ys.length ≤ 1000 := by have := b2.len; omega
      unfold sumR at q
      rw [← hn] at q
      refine ⟨_, rfl, _, rfl, o, o2, xs, ys, s, t, m, k, rfl, r1.same s12, r2.same s12, ?_⟩
      rw [← hn]
      refine ⟨_, rfl, n, 1, rfl, rfl, _, rfl, by omega, by omega, fun D hD => lcR_map (lo := 0) (n := n + 1) (fun i => ov (sumO (valR xs s m i) (valR ys t k i))) (small1000 (by omega)) (fun i H3 R hi s3 q' => ?_) hD fun H3 s3 hL => ?_⟩
      · have s13 := s12.trans s3
        refine ⟨rfl, _, rfl, _, rfl, o, xs, s, m, i, by rw [Int.zero_add]; rfl, r1.same s13, by omega, b1.sl, lx, _, rfl, _, rfl, o2, ys, t, k, i, by rw [Int.zero_add]; rfl, r2.same s13, by omega, b2.sl, ly, _, _, rfl, ?_⟩
        exact q' H3 (Same.refl _)
      · have s13 := s12.trans s3
        obtain ⟨l1, h1, _⟩ := r1.same s13
        obtain ⟨l2, h2, _⟩ := r2.same s13
        have eL : (List.range (n + 1)).map (fun i => ov (sumO (valR xs s m i) (valR ys t k i))) = (sumL xs s m ys t k n).map ov ++ [ov (sumO (valR xs s m n) (valR ys t k n))] := by
          unfold sumL
          rw [List.range_succ, List.map_append, List.map_map]
          rfl
        rw [eL] at hL
        have lz : (sumL xs s m ys t k n).length = n := by unfold sumL; rw [List.length_map, List.length_range]
        refine ⟨_, rfl, _, rfl, n, rfl, D, _, rfl, .inl (.inl hL), fun p np => ?_⟩
        obtain ⟨zs, hzs⟩ : ∃ zs, zs = sumL xs s m ys t k n := ⟨_, rfl⟩
        obtain ⟨w0, hw0⟩ : ∃ w0, w0 = sumO (valR xs s m n) (valR ys t k n) := ⟨_, rfl⟩
        rw [← hzs] at hL lz
        rw [← hw0] at hL
        rw [← hzs, ← hw0] at q ⊢
        have e0 : cutV (zs.map ov ++ [ov w0]) none (some (n : Int)) = zs.map ov := by
          rw [cutV_take, show n = (zs.map ov).length by rw [List.length_map, lz], List.take_left]
        rw [e0]
        have z1 := sameNew (o := .lst (zs.map ov)) np
        have hp : upd H3 p (.lst (zs.map ov)) p = some (.lst (zs.map ov)) := upd_same
        generalize upd H3 p (.lst (zs.map ov)) = H4 at z1 hp ⊢
        have hL4 := z1 _ _ hL
        have gL : atI (zs.map ov ++ [ov w0]) (n : Int) = some (ov w0) := atI_nat (by rw [List.getElem?_append_right (by rw [List.length_map]; omega), List.length_map, lz, Nat.sub_self]; rfl)
        have s14 := s13.trans z1
        refine ⟨_, rfl, _, rfl, D, _, _, ov w0, rfl, rfl, .inl (.inl hL4), gL, ?_⟩
        refine ⟨_, rfl, _, rfl, D, _, _, ov w0, rfl, rfl, .inl (.inl hL4), gL, rfl, _, rfl, ?_⟩
        have fin : ∀ m0, m0 = slO w0 (m + k) → sp_short ([.ref p, ov w0, .int m0] ++ []) H4 Q C8.E0 := fun m0 em => by
          refine ⟨p, zs, w0, m0, rfl, hp, by omega, fun l' r' H5 s5 n1 g1 n2 g2 => ?_⟩
          exact q r' l' H5 _ _ _ (s14.trans s5) (none_back s14 n2) (none_back s14 n1) (by unfold shrR; rw [← em]) g2 g1
        cases w0 with
        | none => exact iteT (fin 0 rfl)
        | some i => exact iteF ⟨_, rfl, o, _, 2, .int m, rfl, rfl, .inl (.inl (z1 _ _ h1)), rfl, _, rfl, o2, _, 2, .int k, rfl, rfl, .inl (.inl (z1 _ _ h2)), rfl, m, k, rfl, rfl, fin (m + k) rfl⟩
theorem x_run_sum (T : Txt K mg E_InvalidRun E_TooMany E_CountError) : CalX P w K mg base 6 "run_sum" (sp_sum K E_InvalidRun) := by
  obtain ⟨f, fd, F, hm⟩ := T.d_run_sum.ex
  refine ⟨f, fd, _, xk_run_sum T F, hm, F.kp, F.bindsN fun kV doc pm an cdv ct us hl => ?_⟩
  match us, hl with
  | [u, v], _ => rfl
theorem c_run_sum (T : Txt K mg E_InvalidRun E_TooMany E_CountError) : C8.Cal P w K mg base 6 "run_sum" (fun vs H Q _ => sp_sum K E_InvalidRun vs H Q E0) [] := (x_run_sum T).cal
theorem c_run_sum_K_other_one (T : Txt K mg E_InvalidRun E_TooMany E_CountError) : CalN P w K mg base 6 "run_sum" ["other", "one"] (fun vs H Q _ => sp_sum K E_InvalidRun vs H Q E0) (fun vs zs => vs ++ ((zs.drop 1).take 1 ++ zs.take 1)) := by
  obtain ⟨f, fd, F, hm⟩ := T.d_run_sum.ex
  refine ⟨f, fd, ["one", "other"], _, calm_of (xk_run_sum T F), hm, F.kp, FunD.kbindsN F 0 ["other", "one"] (fun us ws => us ++ ((ws.drop 1).take 1 ++ ws.take 1)) (fun r1 r2 => r1.append (((r2.drop 1).take 1).append (r2.take 1))) fun kV doc pm an cdv ct us ws l1 l2 => ?_⟩
  match us, l1, ws, l2 with
  | [], _, [u, v], _ => rfl
end
end K47

set_option Elab.async false
set_option linter.all false
set_option maxRecDepth 100000
set_option maxHeartbeats 2000000
/-! texts of whole numbers are all different -/
namespace CK
open PySem PySem.Spec PyProof.Rows L2
theorem cps_nat (n : Nat) : (Str.ofString (toString ((n : Nat) : Int))).cps.toList = TL.numL n := TL.tl_num n
theorem cps_neg (n : Nat) : (Str.ofString (toString (Int.negSucc n))).cps.toList = 45 :: TL.numL (n + 1) := by
  rw [← cps_nat]
  rw [PySem.Str.ofString_eq_toList, PySem.Str.ofString_eq_toList]
  show List.map Char.toNat ("-" ++ toString (n + 1)).toList = 45 :: List.map Char.toNat (toString (n + 1)).toList
  rw [String.toList_append, List.map_append]
  rfl
theorem int_text_inj {i j : Int} (h : (Str.ofString (toString i)) = Str.ofString (toString j)) : i = j := by
  have e := congrArg (fun s : Str => s.cps.toList) h
  have free : ∀ n, 45 ∉ TL.numL n := fun n => TL.numL_free (.inl (by decide))
  cases i with
  | ofNat n =>
    cases j with
    | ofNat m =>
      have e1 : TL.numL n = TL.numL m := (cps_nat n).symm.trans (e.trans (cps_nat m))
      rw [TL.numL_inj e1]
    | negSucc m =>
      have e1 : TL.numL n = 45 :: TL.numL (m + 1) := (cps_nat n).symm.trans (e.trans (cps_neg m))
      exact absurd (e1 ▸ List.mem_cons_self) (free n)
  | negSucc n =>
    cases j with
    | ofNat m =>
      have e1 : 45 :: TL.numL (n + 1) = TL.numL m := (cps_neg n).symm.trans (e.trans (cps_nat m))
      exact absurd (e1 ▸ List.mem_cons_self) (free m)
    | negSucc m =>
      have e1 : 45 :: TL.numL (n + 1) = 45 :: TL.numL (m + 1) := (cps_neg n).symm.trans (e.trans (cps_neg m))
      have := TL.numL_inj (List.cons.inj e1).2
      congr 1
      omega
theorem int_not_none (i : Int) : Str.ofString (toString i) ≠ Str.ofString "None" := fun h => by
  have e := congrArg (fun s : Str => s.cps.toList) h
  have e0 : (Str.ofString "None").cps.toList = [78, 111, 110, 101] := by decide +kernel
  have free : ∀ n, 78 ∉ TL.numL n := fun n => TL.numL_free (.inr (by decide))
  cases i with
  | ofNat n =>
    have e1 : TL.numL n = [78, 111, 110, 101] := (cps_nat n).symm.trans (e.trans e0)
    exact absurd (e1 ▸ List.mem_cons_self) (free n)
  | negSucc n =>
    have e1 : 45 :: TL.numL (n + 1) = [78, 111, 110, 101] := (cps_neg n).symm.trans (e.trans e0)
    exact absurd (List.cons.inj e1).1 (by decide)
end CK

set_option Elab.async false
set_option linter.all false
set_option maxRecDepth 100000
set_option maxHeartbeats 4000000
set_option exponentiation.threshold 3000
namespace K47
open PySem PySem.Spec PyProof.Rows L2 CK
theorem shown_inj {a b : Option Int} (h : (dO a).shown = (dO b).shown) : a = b := by
  cases a with
  | none =>
    cases b with
    | none => rfl
    | some j =>
      have e1 : PyData.shown .none = Str.ofString "None" := by decide +kernel
      have e2 : PyData.shown (.int j) = Str.ofString (toString j) := by simp only [PyData.shown]
      exact absurd (e2.symm.trans (h.symm.trans e1)) (int_not_none j)
  | some i =>
    have e2 : PyData.shown (.int i) = Str.ofString (toString i) := by simp only [PyData.shown]
    cases b with
    | none =>
      have e1 : PyData.shown .none = Str.ofString "None" := by decide +kernel
      exact absurd (e2.symm.trans (h.trans e1)) (int_not_none i)
    | some j =>
      have e3 : PyData.shown (.int j) = Str.ofString (toString j) := by simp only [PyData.shown]
      rw [int_text_inj (e2.symm.trans (h.trans e3))]
theorem shown_dec (a b : Option Int) : decide (V.str (dO a).shown = V.str (dO b).shown) = decide (a = b) := by
  by_cases h : a = b
  · rw [h, decide_eq_true rfl, decide_eq_true rfl]
  · rw [decide_eq_false h, decide_eq_false (fun z => h (shown_inj (V.str.inj z)))]
theorem ne_no (a : V) : (!decide (a = a)) = false := by rw [decide_eq_true rfl]; rfl
section
variable {P : Program} {w : World} {K : PySem.W.Frag} {mg : Str → Option Value} {base : Heap} {E_InvalidRun E_TooMany E_CountError : Addr}
/-- a run as it is drawn -/
structure Dr (xs : List (Option Int)) (s : Option Int) (m : Int) : Prop where
  len : xs.length ≤ 20
  it : ∀ x ∈ xs, Nw x 120
  st : Nw s 120
  sl : m.natAbs < 2 ^ 71
  h0 : s = none → m = 0
def sp_made : Sp := fun vs H Q _ => ∃ (r : Addr) (xs : List (Option Int)) (s : Option Int) (m : Int), vs = [.ref r] ∧ RunH H r xs s m ∧ Dr xs s m ∧
  ∀ r' l' H', Same H H' → H r' = none → H l' = none → H' r' = some (.tup [.ref l', ov (shrN m xs xs.length s).2, .int m]) → H' l' = some (.lst ((xs.take (shrN m xs xs.length s).1).map ov)) → Q (.ref r') H'
theorem c_law_made_least (T : Txt K mg E_InvalidRun E_TooMany E_CountError) : CalG P w K mg base 2 "_law_made_least" sp_made := by
  refine calG T.d_law_made_least sc_law_made_least (fun vs H Q E h => ?_) (fun f cdv A outer z H vs Q E hr gd h => ?_)
  · obtain ⟨_, _, _, _, rfl, _⟩ := h; rfl
  · obtain ⟨r, xs, s, m, rfl, ⟨l, h1, h2⟩, b, q⟩ := h
    refine ⟨_, (pss_cons (ps_par (i := 1) (j := 2) (by rfl) sc_law_made_least.nd rfl rfl (by decide) rfl rfl (pa_cons (pe_callTy call_list_of (by rfl) T.m_list (by decide +kernel) (pa_cons (pe_ix ix_tup (pv 0) pe_int (fun _ _ => rfl)) pa_nil)) (pa_cons (pe_ix ix_tup (pv 0) pe_int (fun _ _ => rfl)) pa_nil)) (by rfl))
    (pss_cons (ps_for PassesOwn.never rfl (pi_range1 (by rfl) T.m_range (pa_cons (pe_callB call_len_seq (by rfl) T.m_len (by decide +kernel) (pa_cons (pe_ix ix_tup (pv 0) pe_int (fun _ _ => rfl)) pa_nil)) pa_nil)) (pg_name (i := 3) sc_law_made_least.nd rfl (Or.inl rfl))
    (pss_one (ps_if (PW.pt (pw_and (pt_cmpR (op_neD hr.units) (pv 1) (pe_lst pa_nil) (nomark _)) (pw_and1 (pt_cmpR op_eq (pe_callB (call_reprF hr gd) (by rfl) T.m_repr (by decide +kernel) (pa_cons (pe_ix ix_list (pv 1) (pe_un un_neg pe_int) (fun _ _ => rfl)) pa_nil)) (pe_callB (call_reprF hr gd) (by rfl) T.m_repr (by decide +kernel) (pa_cons (C8.pe_c (c_law_back T) hr (by decide) (by rfl) (pa_cons (pv 2) (pa_cons (pe_ix ix_tup (pv 0) pe_int (fun _ _ => rfl)) pa_nil))) pa_nil)) (nomark _)))))
    (pss_one (ps_set (i := 2) sc_law_made_least.nd rfl (Or.inl rfl) (pe_bm0 PySem.F.plainAttrs_list PySem.F.slot_list_pop PySem.F.type_list_pop mt_pop (pv 1))))
    pss_nil)))
    (pss_one (ps_ret (pe_tup (pa_cons (pv 1) (pa_cons (pv 2) (pa_cons (pe_ix ix_tup (pv 0) pe_int (fun _ _ => rfl)) pa_nil)))))))), ?_⟩
    refine ⟨_, rfl, r, _, 0, .ref l, rfl, rfl, .inl (.inl h1), rfl, l, _, rfl, .inl (.inl (.inl h2)), fun f0 nf => ?_⟩
    have s1 := sameNew (o := .lst (xs.map ov)) nf
    have hf1 : upd H f0 (.lst (xs.map ov)) f0 = some (.lst (xs.map ov)) := upd_same
    generalize upd H f0 (.lst (xs.map ov)) = H1 at s1 hf1
    refine ⟨_, rfl, r, _, 1, ov s, rfl, rfl, .inl (.inl (s1 _ _ h1)), rfl, _, _, rfl, ?_⟩
    have le1 : (shrN m xs xs.length s).1 ≤ xs.length := (shr_spec m xs xs.length s).1
    refine ⟨_, rfl, r, _, 0, .ref l, rfl, rfl, .inl (.inl (s1 _ _ h1)), rfl, l, _, rfl, .inl (.inl (.inl (s1 _ _ h2))), _, rfl, by rw [List.length_map]; omega, by rw [List.length_map]; have := b.len; omega, ?_⟩
    refine for_it walk_range (fun i σ H2 => ∃ (n : Nat) (s1 : Option Int) (y3 : Option V), σ = [some (.ref r), some (.ref f0), some (ov s1), y3] ∧ Nw s1 120 ∧ Same H H2 ∧ H2 f0 = some (.lst ((xs.take n).map ov)) ∧ n ≤ xs.length ∧ shrN m xs n s1 = shrN m xs xs.length s ∧ (n ≤ xs.length - i ∨ n = 0 ∨ xs.getD (n - 1) none ≠ before s1 m))
      ⟨xs.length, s, none, rfl, b.st, s1, by rw [List.take_length]; exact hf1, Nat.le_refl _, rfl, .inl (Nat.le_refl _)⟩ (fun _ _ _ _ _ => True.intro) (fun i v σ H2 H3 hi p yy => ?_) fun σ H2 p => ?_
    · obtain ⟨n, st, y3, rfl, wst, s2, hf2, hn, es, hst⟩ := p
      obtain ⟨rfl, rfl⟩ := yy
      have hi' : i < xs.length := by have h : i < (((xs.map ov).length : Nat) : Int).toNat := hi; rw [List.length_map] at h; omega
      refine ⟨_, rfl, by show 0 ≤ sizeLine; decide, fun e ne => ?_⟩
      have hf4 := (upd_ne (o := .lst []) (ne_of_none hf2 ne)).trans hf2
      have s4 : Same H (upd H3 e (.lst [])) := s2.trans (sameNew ne)
      refine ⟨.list ((xs.take n).map dO), .list ([].map dO), .lst (.inl (.inl hf4)) (dpAll_ov _), .lst (.inl (.inl upd_same)) .nil, shaped_dOl _, shaped_dOl _, _, rfl, ?_⟩
      rw [eqv_dOl]
      generalize upd H3 e (.lst []) = H4 at hf4 s4
      cases n with
      | zero => exact iteF (iteF ⟨0, st, _, rfl, wst, s4, hf4, hn, es, .inr (.inl rfl)⟩)
      | succ n =>
        have hx : xs[n]? = some (xs.getD n none) := by rw [List.getD_eq_getElem?_getD, List.getElem?_eq_getElem (by omega)]; rfl
        have ex : xs.take (n + 1) = xs.take n ++ [xs.getD n none] := by rw [List.take_succ, hx]; rfl
        obtain ⟨x, hxx⟩ : ∃ x, x = xs.getD n none := ⟨_, rfl⟩
        rw [← hxx] at ex hx
        have wx : Nw x 120 := b.it x (List.mem_of_getElem? hx)
        have hne : ¬ xs.take (n + 1) = [] := by rw [ex]; simp
        rw [decide_eq_false hne]
        rw [ex, List.map_append] at hf4
        have wb : Nw (before st m) 200 := fun i e => by
          cases st with
          | none => cases e
          | some j =>
            have := wst j rfl
            have := b.sl
            obtain rfl : j - m = i := Option.some.inj e
            omega
        refine iteT ⟨_, rfl, 1, rfl, f0, _, _, ov x, rfl, rfl, .inl (.inl hf4), atI_last _ _, _, _, rfl, dp_ov _, fine_dO (fun i e => Nat.lt_of_lt_of_le (wx i e) (by decide)), _, rfl, _, rfl, r, _, 2, .int m, rfl, rfl, .inl (.inl (s4 _ _ h1)), rfl, st, m, rfl, _, _, rfl, dp_ov _, fine_dO wb, rfl, _, rfl, ?_⟩
        rw [shown_dec]
        by_cases e2 : x = before st m
        · rw [decide_eq_true e2]
          refine iteT ⟨_, rfl, .inl ⟨rfl, _, .inl (.inl hf4)⟩, f0, _, ov x, rfl, rfl, hf4, ?_, ?_⟩
          · simp
          · refine ⟨n, x, _, rfl, wx, fun b' o' eo => by rw [upd_ne (ne_of_none eo nf)]; exact s4 b' o' eo, by rw [upd_same, List.map_cons, List.map_nil, List.dropLast_concat], by omega, ?_, ?_⟩
            · rw [← es, shrN, if_pos (by rw [← hxx]; exact e2), ← hxx]
            · rcases hst with h | h | h
              · exact .inl (by omega)
              · cases h
              · exact absurd e2 (by rw [show n + 1 - 1 = n by omega, ← hxx] at h; exact h)
        · rw [decide_eq_false e2]
          exact iteF ⟨n + 1, st, _, rfl, wst, s4, by rw [ex, List.map_append]; exact hf4, hn, es, .inr (.inr (by rw [show n + 1 - 1 = n by omega, ← hxx]; exact e2))⟩
    · obtain ⟨n, st, y3, rfl, wst, s2, hf2, hn, es, hst⟩ := p
      have e3 : shrN m xs n st = (n, st) := by
        have hst : n = 0 ∨ xs.getD (n - 1) none ≠ before st m := by
          rcases hst with h | h | h
          · left
            have h' : n ≤ xs.length - (((xs.map ov).length : Nat) : Int).toNat := h
            rw [List.length_map] at h'
            omega
          · exact .inl h
          · exact .inr h
        cases n with
        | zero => rfl
        | succ n =>
          rcases hst with h | h
          · cases h
          · rw [shrN, if_neg (by rw [show n + 1 - 1 = n by omega] at h; exact h)]
      rw [← es, e3] at q
      refine ⟨_, rfl, _, rfl, _, rfl, r, _, 2, .int m, rfl, rfl, .inl (.inl (s2 _ _ h1)), rfl, by show 3 ≤ sizeLine; decide, fun r' nr' => ?_⟩
      exact q r' f0 _ (s2.trans (sameNew nr')) (none_back s2 nr') nf upd_same ((upd_ne (ne_of_none hf2 nr')).trans hf2)
end
end K47

set_option Elab.async false
set_option linter.all false
set_option maxRecDepth 100000
set_option maxHeartbeats 4000000
set_option exponentiation.threshold 3000
namespace K47
open PySem PySem.Spec PyProof.Rows L2 CK
def lesO : Option Int → Option Int → Option Int
  | none, b => b
  | some x, none => some x
  | some x, some y => some (min x y)
def farB (a : Option Int) (m : Int) (b : Option Int) (k : Int) : Bool := match a, b with
  | some x, some y => HT.lexLt [m, x] [k, y]
  | some _, none => true
  | none, _ => false
section
variable {P : Program} {w : World} {K : PySem.W.Frag} {mg : Str → Option Value} {base : Heap} {E_InvalidRun E_TooMany E_CountError : Addr}
def sp_lesser_value : Sp := fun vs H Q _ => ∃ a b, vs = [ov a, ov b] ∧ Q (ov (lesO a b)) H
theorem c_lesser_value (T : Txt K mg E_InvalidRun E_TooMany E_CountError) : C8.Cal P w K mg base 1 "lesser_value" sp_lesser_value [] := by
  refine calF T.d_lesser_value sc_lesser_value (fun vs H Q E h => ?_) (fun f cdv A outer s H vs Q E hr h => ?_)
  · obtain ⟨_, _, rfl, _⟩ := h; rfl
  · obtain ⟨a, b, rfl, q⟩ := h
    refine ⟨_, (pss_cons (ps_if (PW.pt (pw_or (pt_cmpR op_isN (pv 0) pe_non (nomark _)) (pw_or1 (pt_cmpR op_isN (pv 1) pe_non (nomark _)))))
    (pss_one (ps_ret (pe_ifExp (pt_cmpR op_isN (pv 0) pe_non (nomark _)) (pv 1) (pv 0))))
    pss_nil)
    (pss_one (ps_ret (pe_callB (call_min2 rfl) (by rfl) T.m_min (by decide +kernel) (pa_cons (pv 0) (pa_cons (pv 1) pa_nil)))))), ?_⟩
    cases a with
    | none => exact ⟨_, rfl, rfl, _, rfl, iteT (iteT ⟨_, rfl, rfl, _, rfl, iteT ⟨_, rfl, q⟩⟩)⟩
    | some x =>
      refine ⟨_, rfl, rfl, _, rfl, iteF ?_⟩
      cases b with
      | none => exact ⟨_, rfl, rfl, _, rfl, iteT ⟨_, rfl, rfl, _, rfl, iteF ⟨_, rfl, q⟩⟩⟩
      | some y =>
        refine ⟨_, rfl, rfl, _, rfl, iteF ⟨_, rfl, _, rfl, x, y, rfl, ?_⟩⟩
        show Q (V.int (if y < x then y else x)) H
        rw [show (if y < x then y else x) = min x y by rw [Int.min_def]; split <;> split <;> omega]
        exact q
def sp_far : Sp := fun vs H Q _ => ∃ (o o2 : Addr) (xs ys : List (Option Int)) (s t : Option Int) (m k : Int) (n : Nat), vs = [.ref o, .ref o2, .int n] ∧ RunH H o xs s m ∧ RunH H o2 ys t k ∧ Bd xs s m ∧ Bd ys t k ∧ n ≤ 100 ∧ ∀ H', Same H H' → Q (.bl (farB (valR xs s m n) m (valR ys t k n) k)) H'
theorem c_is_lesser_far_on (T : Txt K mg E_InvalidRun E_TooMany E_CountError) : C8.Cal P w K mg base 2 "is_lesser_far_on" sp_far [] := by
  refine calF T.d_is_lesser_far_on sc_is_lesser_far_on (fun vs H Q E h => ?_) (fun f cdv A outer s0 H vs Q E hr h => ?_)
  · obtain ⟨_, _, _, _, _, _, _, _, _, rfl, _⟩ := h; rfl
  · obtain ⟨o, o2, xs, ys, s, t, m, k, n, rfl, r1, r2, b1, b2, hn, q⟩ := h
    refine ⟨_, (pss_cons (ps_par (i := 3) (j := 4) (by rfl) sc_is_lesser_far_on.nd rfl rfl (by decide) rfl rfl (pa_cons (C8.pe_c (c_at_count T) hr (by decide) (by rfl) (pa_cons (pv 0) (pa_cons (pv 2) pa_nil))) (pa_cons (C8.pe_c (c_at_count T) hr (by decide) (by rfl) (pa_cons (pv 1) (pa_cons (pv 2) pa_nil))) pa_nil)) (by rfl))
    (pss_cons (ps_if (PW.pt (pw_or (pt_cmpR op_isN (pv 3) pe_non (nomark _)) (pw_or1 (pt_cmpR op_isN (pv 4) pe_non (nomark _)))))
    (pss_one (ps_ret (pe_cmpR op_notN (pv 3) pe_non (nomark _))))
    pss_nil)
    (pss_one (ps_ret (pe_cmpR (op_ltT (Nat.lt_of_le_of_lt (Nat.le_add_right _ 64) hr.units)) (pe_tup (pa_cons (pe_ix ix_tup (pv 0) pe_int (fun _ _ => rfl)) (pa_cons (pv 3) pa_nil))) (pe_tup (pa_cons (pe_ix ix_tup (pv 1) pe_int (fun _ _ => rfl)) (pa_cons (pv 4) pa_nil))) (nomark _)))))), ?_⟩
    refine ⟨_, rfl, _, rfl, o, xs, s, m, n, rfl, r1, by omega, b1.sl, by have := b1.len; omega, _, rfl, _, rfl, o2, ys, t, k, n, rfl, r2, by omega, b2.sl, by have := b2.len; omega, _, _, rfl, ?_⟩
    obtain ⟨l1, h1, _⟩ := r1
    obtain ⟨l2, h2, _⟩ := r2
    generalize valR xs s m n = a at q
    generalize valR ys t k n = b at q
    cases a with
    | none => exact ⟨_, rfl, rfl, _, rfl, iteT (iteT ⟨_, rfl, rfl, q _ (Same.refl _)⟩)⟩
    | some x =>
      refine ⟨_, rfl, rfl, _, rfl, iteF ?_⟩
      cases b with
      | none => exact ⟨_, rfl, rfl, _, rfl, iteT ⟨_, rfl, rfl, q _ (Same.refl _)⟩⟩
      | some y =>
        refine ⟨_, rfl, rfl, _, rfl, iteF ?_⟩
        refine ⟨_, rfl, o, _, 2, .int m, rfl, rfl, .inl (.inl h1), rfl, _, rfl, by show 2 ≤ sizeLine; decide, fun p np => ?_⟩
        have z1 := sameNew (o := .tup [.int m, ov (some x)]) np
        have hp : upd H p (.tup [.int m, ov (some x)]) p = some (.tup [.int m, ov (some x)]) := upd_same
        generalize upd H p (.tup [.int m, ov (some x)]) = H1 at z1 hp ⊢
        refine ⟨_, rfl, o2, _, 2, .int k, rfl, rfl, .inl (.inl (z1 _ _ h2)), rfl, _, rfl, by show 2 ≤ sizeLine; decide, fun p2 np2 => ?_⟩
        exact ⟨p, p2, [m, x], [k, y], rfl, rfl, .inl (.inl ((upd_ne (ne_of_none hp np2)).trans hp)), .inl (.inl upd_same), q _ (z1.trans (sameNew np2))⟩
def sinA (a : Option Int) (m : Int) (b : Option Int) (k : Int) (n : Nat) : Int := match a, b with
  | some x, some y => if x ≤ y then n else n + (x - y + (k - m) - 1).fdiv (k - m)
  | _, _ => n
def sp_lesser_since : Sp := fun vs H Q _ => ∃ (o o2 : Addr) (xs ys : List (Option Int)) (s t : Option Int) (m k : Int) (n : Nat), vs = [.ref o, .ref o2, .int n] ∧ RunH H o xs s m ∧ RunH H o2 ys t k ∧ Bd xs s m ∧ Bd ys t k ∧ n ≤ 100 ∧
  (valR ys t k n = none ∨ ∃ x y, valR xs s m n = some x ∧ valR ys t k n = some y ∧ (x ≤ y ∨ m ≠ k)) ∧ Q (.int (sinA (valR xs s m n) m (valR ys t k n) k n)) H
theorem c_lesser_since (T : Txt K mg E_InvalidRun E_TooMany E_CountError) : C8.Cal P w K mg base 2 "lesser_since" sp_lesser_since [] := by
  refine calF T.d_lesser_since sc_lesser_since (fun vs H Q E h => ?_) (fun f cdv A outer s0 H vs Q E hr h => ?_)
  · obtain ⟨_, _, _, _, _, _, _, _, _, rfl, _⟩ := h; rfl
  · obtain ⟨o, o2, xs, ys, s, t, m, k, n, rfl, r1, r2, b1, b2, hn, c, q⟩ := h
    refine ⟨_, (pss_cons (ps_par (i := 3) (j := 4) (by rfl) sc_lesser_since.nd rfl rfl (by decide) rfl rfl (pa_cons (C8.pe_c (c_at_count T) hr (by decide) (by rfl) (pa_cons (pv 0) (pa_cons (pv 2) pa_nil))) (pa_cons (C8.pe_c (c_at_count T) hr (by decide) (by rfl) (pa_cons (pv 1) (pa_cons (pv 2) pa_nil))) pa_nil)) (by rfl))
    (pss_cons (ps_if (PW.pt (pw_or (pt_cmpR op_isN (pv 4) pe_non (nomark _)) (pw_or1 (pt_cmpR op_le (pv 3) (pv 4) (nomark _)))))
    (pss_one (ps_ret (pv 2)))
    pss_nil)
    (pss_cons (ps_set (i := 5) sc_lesser_since.nd rfl (Or.inl rfl) (pe_op op_sub (pe_ix ix_tup (pv 1) pe_int (fun _ _ => rfl)) (pe_ix ix_tup (pv 0) pe_int (fun _ _ => rfl))))
    (pss_one (ps_ret (pe_op op_add (pv 2) (pe_op op_fdivX (pe_op op_sub (pe_op op_add (pe_op op_sub (pv 3) (pv 4)) (pv 5)) pe_int) (pv 5)))))))), ?_⟩
    refine ⟨_, rfl, _, rfl, o, xs, s, m, n, rfl, r1, by omega, b1.sl, by have := b1.len; omega, _, rfl, _, rfl, o2, ys, t, k, n, rfl, r2, by omega, b2.sl, by have := b2.len; omega, _, _, rfl, ?_⟩
    obtain ⟨l1, h1, _⟩ := r1
    obtain ⟨l2, h2, _⟩ := r2
    generalize valR xs s m n = a at q c
    generalize valR ys t k n = b at q c
    cases b with
    | none =>
      have e : sinA a m none k n = n := by cases a <;> rfl
      rw [e] at q
      exact ⟨_, rfl, rfl, _, rfl, iteT (iteT ⟨_, rfl, q⟩)⟩
    | some y =>
      obtain ⟨x, rfl, cc⟩ : ∃ x, a = some x ∧ (x ≤ y ∨ m ≠ k) := by
        rcases c with c | ⟨x, y', e1, e2, c⟩
        · cases c
        · cases e2; exact ⟨x, e1, c⟩
      refine ⟨_, rfl, rfl, _, rfl, iteF ⟨_, rfl, _, rfl, x, y, rfl, rfl, _, rfl, ?_⟩⟩
      have e : sinA (some x) m (some y) k n = if x ≤ y then (n : Int) else n + (x - y + (k - m) - 1).fdiv (k - m) := rfl
      rw [e] at q
      by_cases h : x ≤ y
      · rw [if_pos h] at q
        rw [decide_eq_true h]
        exact iteT ⟨_, rfl, q⟩
      · rw [if_neg h] at q
        rw [decide_eq_false h]
        have hne : m ≠ k := cc.resolve_left h
        have h9 : (k - m).natAbs.log2 < 9000 := log9 (by have := b1.sl; have := b2.sl; omega)
        refine iteF ⟨_, rfl, o2, _, 2, .int k, rfl, rfl, .inl (.inl h2), rfl, _, rfl, o, _, 2, .int m, rfl, rfl, .inl (.inl h1), rfl, k, m, rfl, rfl, ?_⟩
        exact ⟨_, rfl, _, rfl, _, rfl, x, y, rfl, rfl, _, rfl, x - y, k - m, rfl, rfl, x - y + (k - m), 1, rfl, rfl, _, rfl, x - y + (k - m) - 1, k - m, rfl, rfl, ⟨by omega, h9⟩, (n : Int), _, rfl, rfl, q⟩
end
end K47

set_option Elab.async false
set_option linter.all false
set_option maxRecDepth 100000
set_option maxHeartbeats 4000000
set_option exponentiation.threshold 3000
namespace K47
open PySem PySem.Spec PyProof.Rows L2 CK
/-! ### the lesser of two runs far on -/
theorem valR_far (xs : List (Option Int)) (s : Option Int) (m : Int) (n i : Nat) (h : xs.length ≤ n) (hi : n ≤ i) : valR xs s m i = lineV (valR xs s m n) m (i - n) := by
  rw [valR_line _ _ _ _ (by omega), valR_line _ _ _ _ h, lineV_add]
  congr 1
  omega
theorem lesO_comm (a b : Option Int) : lesO a b = lesO b a := by
  cases a <;> cases b <;> first | rfl | (show some _ = some _; rw [Int.min_comm])
/-- a is the lesser one far on -/
def Low (a : Option Int) (m : Int) (b : Option Int) (k : Int) : Prop := b = none ∨ ∃ x y, a = some x ∧ b = some y ∧ (m < k ∨ (m = k ∧ x ≤ y))
def sinL (a : Option Int) (m : Int) (b : Option Int) (k : Int) (n : Nat) : Int := match a, b with
  | some x, some y => if m < k then sinA (some x) m (some y) k n else if k < m then sinA (some y) k (some x) m n else n
  | _, _ => n
def slL (a : Option Int) (m : Int) (b : Option Int) (k : Int) : Int := match a, b with
  | some _, some _ => min m k
  | some _, none => m
  | none, some _ => k
  | none, none => 0
theorem sinL_comm (a : Option Int) (m : Int) (b : Option Int) (k : Int) (n : Nat) : sinL b k a m n = sinL a m b k n := by
  cases a with
  | none => cases b <;> rfl
  | some x => cases b with
    | none => rfl
    | some y =>
      show (if k < m then sinA (some y) k (some x) m n else if m < k then sinA (some x) m (some y) k n else n) = (if m < k then sinA (some x) m (some y) k n else if k < m then sinA (some y) k (some x) m n else n)
      by_cases h : m < k
      · rw [if_pos h, if_neg (by omega), if_pos h]
      · rw [if_neg h, if_neg h]
theorem slL_comm (a : Option Int) (m : Int) (b : Option Int) (k : Int) : slL b k a m = slL a m b k := by
  cases a <;> cases b <;> first | rfl | exact Int.min_comm _ _
theorem low_not {a b : Option Int} {m k : Int} (h : farB b k a m = false) : Low a m b k := by
  cases b with
  | none => exact .inl rfl
  | some y => cases a with
    | none => cases h
    | some x =>
      refine .inr ⟨x, y, rfl, rfl, ?_⟩
      have h : (if k = m then (if y = x then false else decide (y < x)) else decide (k < m)) = false := h
      by_cases e : k = m
      · rw [if_pos e] at h
        right
        refine ⟨e.symm, ?_⟩
        by_cases e2 : y = x
        · omega
        · rw [if_neg e2] at h
          have := of_decide_eq_false h
          omega
      · rw [if_neg e] at h
        have := of_decide_eq_false h
        left
        omega
theorem low_yes {a b : Option Int} {m k : Int} (h : farB b k a m = true) : Low b k a m := by
  cases b with
  | none => cases h
  | some y => cases a with
    | none => exact .inl rfl
    | some x =>
      refine .inr ⟨y, x, rfl, rfl, ?_⟩
      have h : (if k = m then (if y = x then false else decide (y < x)) else decide (k < m)) = true := h
      by_cases e : k = m
      · rw [if_pos e] at h
        by_cases e2 : y = x
        · rw [if_pos e2] at h; cases h
        · rw [if_neg e2] at h
          have := of_decide_eq_true h
          exact .inr ⟨e, by omega⟩
      · rw [if_neg e] at h
        exact .inl (of_decide_eq_true h)
theorem Low.since {a b : Option Int} {m k : Int} {n : Nat} (L : Low a m b k) : sinA a m b k n = sinL a m b k n := by
  rcases L with rfl | ⟨x, y, rfl, rfl, h⟩
  · cases a <;> rfl
  · show _ = (if m < k then sinA (some x) m (some y) k n else if k < m then sinA (some y) k (some x) m n else n)
    rcases h with h | ⟨h1, h2⟩
    · rw [if_pos h]
    · rw [if_neg (by omega), if_neg (by omega)]
      show (if x ≤ y then (n : Int) else _) = _
      rw [if_pos h2]
theorem Low.prem {a b : Option Int} {m k : Int} (L : Low a m b k) : b = none ∨ ∃ x y, a = some x ∧ b = some y ∧ (x ≤ y ∨ m ≠ k) := by
  rcases L with rfl | ⟨x, y, rfl, rfl, h⟩
  · exact .inl rfl
  · refine .inr ⟨x, y, rfl, rfl, ?_⟩
    rcases h with h | ⟨h1, h2⟩
    · exact .inr (by omega)
    · exact .inl h2
theorem Low.slope {a b : Option Int} {m k : Int} (L : Low a m b k) (ha : a = none → m = 0) : slL a m b k = m := by
  rcases L with rfl | ⟨x, y, rfl, rfl, h⟩
  · cases a with
    | none => exact (ha rfl).symm
    | some x => rfl
  · show min m k = m
    rw [Int.min_def]
    split <;> omega
/-- ceil -/
theorem ceil_spec {c z : Int} (hc : 0 < c) : z ≤ c * (z + c - 1).fdiv c ∧ c * ((z + c - 1).fdiv c - 1) < z := by
  have e := Int.mul_fdiv_add_fmod (z + c - 1) c
  have r0 := Int.fmod_nonneg_of_pos (z + c - 1) hc
  have r1 := Int.fmod_lt_of_pos (z + c - 1) hc
  rw [Int.mul_sub, Int.mul_one]
  generalize c * (z + c - 1).fdiv c = q at e ⊢
  omega
theorem sin_ge (a : Option Int) (m : Int) (b : Option Int) (k : Int) (n : Nat) : (n : Int) ≤ sinL a m b k n := by
  have one : ∀ (x y c d : Int), c < d → (n : Int) ≤ sinA (some x) c (some y) d n := fun x y c d h => by
    show (n : Int) ≤ if x ≤ y then (n : Int) else n + (x - y + (d - c) - 1).fdiv (d - c)
    split
    · exact Int.le_refl _
    · have := (ceil_spec (c := d - c) (z := x - y) (by omega)).1
      have : 0 ≤ (x - y + (d - c) - 1).fdiv (d - c) := Int.fdiv_nonneg (by omega) (by omega)
      omega
  cases a with
  | none => cases b <;> exact Int.le_refl _
  | some x => cases b with
    | none => exact Int.le_refl _
    | some y =>
      show (n : Int) ≤ (if m < k then sinA (some x) m (some y) k n else if k < m then sinA (some y) k (some x) m n else n)
      split
      · exact one _ _ _ _ (by assumption)
      · split
        · exact one _ _ _ _ (by assumption)
        · exact Int.le_refl _
/-- behind since the lesser one is the lesser -/
theorem Low.line {a b : Option Int} {m k : Int} {n d : Nat} (L : Low a m b k) (hd : sinL a m b k n ≤ (n + d : Nat)) : lesO (lineV a m d) (lineV b k d) = lineV a m d := by
  rw [← L.since] at hd
  rcases L with rfl | ⟨x, y, rfl, rfl, h⟩
  · show lesO _ none = _
    cases a <;> rfl
  · show some (min (x + m * (d : Int)) (y + k * (d : Int))) = some (x + m * (d : Int))
    have hle : x + m * (d : Int) ≤ y + k * (d : Int) := by
      have hd : (if x ≤ y then (n : Int) else n + (x - y + (k - m) - 1).fdiv (k - m)) ≤ (n + d : Nat) := hd
      have e : (k - m) * (d : Int) = k * (d : Int) - m * (d : Int) := Int.sub_mul _ _ _
      rcases h with h | ⟨h1, h2⟩
      · by_cases c : x ≤ y
        · have : 0 ≤ (k - m) * (d : Int) := Int.mul_nonneg (by omega) (by omega)
          omega
        · rw [if_neg c] at hd
          have c1 := (ceil_spec (c := k - m) (z := x - y) (by omega)).1
          have c2 : (k - m) * (x - y + (k - m) - 1).fdiv (k - m) ≤ (k - m) * (d : Int) := Int.mul_le_mul_of_nonneg_left (by omega) (by omega)
          omega
      · rw [h1]
        omega
    rw [Int.min_def, if_pos hle]
/-- ahead of since it isn't -/
theorem Low.ahead {a b : Option Int} {m k : Int} {n d : Nat} (L : Low a m b k) (hd : sinL a m b k n = (n + d : Nat)) (h0 : 0 < d) : lesO (lineV a m (d - 1)) (lineV b k (d - 1)) ≠ before (lineV a m d) m := by
  rw [← L.since] at hd
  rcases L with rfl | ⟨x, y, rfl, rfl, h⟩
  · have e : sinA a m none k n = n := by cases a <;> rfl
    rw [e] at hd
    omega
  · show some (min (x + m * ((d - 1 : Nat) : Int)) (y + k * ((d - 1 : Nat) : Int))) ≠ some (x + m * (d : Int) - m)
    have hd : (if x ≤ y then (n : Int) else n + (x - y + (k - m) - 1).fdiv (k - m)) = (n + d : Nat) := hd
    split at hd
    · omega
    · rename_i c
      have hlt : m < k := by
        rcases h with h | ⟨h1, h2⟩
        · exact h
        · exact absurd h2 c
      have c1 := (ceil_spec (c := k - m) (z := x - y) (by omega)).2
      rw [show (x - y + (k - m) - 1).fdiv (k - m) - 1 = ((d - 1 : Nat) : Int) by omega] at c1
      have e : (k - m) * ((d - 1 : Nat) : Int) = k * ((d - 1 : Nat) : Int) - m * ((d - 1 : Nat) : Int) := Int.sub_mul _ _ _
      have e2 : m * (d : Int) - m = m * ((d - 1 : Nat) : Int) := by
        rw [show (d : Int) = ((d - 1 : Nat) : Int) + 1 by omega, Int.mul_add, Int.mul_one]
        omega
      intro z
      have z := Option.some.inj z
      rw [Int.min_def] at z
      split at z <;> omega
end K47

set_option Elab.async false
set_option linter.all false
set_option maxRecDepth 100000
set_option maxHeartbeats 4000000
set_option exponentiation.threshold 3000
namespace K47
open PySem PySem.Spec PyProof.Rows L2 CK
theorem joinS {a u : TS} {D : Ends} {σ : L2.St} {H : Hp} (Pre : L2.St → Hp → Prop) (rest : ∀ σ' H', Pre σ' H' → u D σ' H') (m : ∀ U : TS, (∀ σ' H', Pre σ' H' → U D σ' H') → tSeq a U D σ H) : tSeq a u D σ H := m u rest
def lesL (xs : List (Option Int)) (s : Option Int) (m : Int) (ys : List (Option Int)) (t : Option Int) (k : Int) (S : Nat) : List (Option Int) := (List.range S).map fun i => lesO (valR xs s m i) (valR ys t k i)
def sinR (xs : List (Option Int)) (s : Option Int) (m : Int) (ys : List (Option Int)) (t : Option Int) (k : Int) : Nat :=
  (sinL (valR xs s m (max xs.length ys.length)) m (valR ys t k (max xs.length ys.length)) k (max xs.length ys.length)).toNat
def lesR (xs : List (Option Int)) (s : Option Int) (m : Int) (ys : List (Option Int)) (t : Option Int) (k : Int) : List (Option Int) × Option Int × Int :=
  shrR (lesL xs s m ys t k (sinR xs s m ys t k)) (lesO (valR xs s m (sinR xs s m ys t k)) (valR ys t k (sinR xs s m ys t k))) (slL (valR xs s m (max xs.length ys.length)) m (valR ys t k (max xs.length ys.length)) k)
section
variable {P : Program} {w : World} {K : PySem.W.Frag} {mg : Str → Option Value} {base : Heap} {E_InvalidRun E_TooMany E_CountError : Addr}
def sp_lesser (K : PySem.W.Frag) (E1 E2 : Addr) : Sp := fun vs H Q E => ∃ v z d e, vs = [v, z] ∧ Dp K H v d ∧ SmD d ∧ Dp K H z e ∧ SmD e ∧
  ((isRunD d = false ∧ ∀ H' x, Same H H' → H' x = some (.xd [("value", v)]) → E (.ref E1) (some x) H') ∨
   (isRunD d = true ∧ isRunD e = false ∧ ∀ H' x, Same H H' → H' x = some (.xd [("value", z)]) → E (.ref E1) (some x) H') ∨
   (isRunD d = true ∧ isRunD e = true ∧ ∃ (o o2 : Addr) (xs ys : List (Option Int)) (s t : Option Int) (m k : Int) (S : Nat), v = .ref o ∧ z = .ref o2 ∧ RunH H o xs s m ∧ RunH H o2 ys t k ∧ Bd xs s m ∧ Bd ys t k ∧ sinR xs s m ys t k = S ∧
     (600 < S → ∀ H' x, Same H H' → H' x = some (.xd [("value", .int (S : Nat))]) → E (.ref E2) (some x) H') ∧
     (S ≤ 600 → 600 < (lesR xs s m ys t k).1.length → ∀ H' x, Same H H' → H' x = some (.xd [("value", .int ((lesR xs s m ys t k).1.length : Nat))]) → E (.ref E2) (some x) H') ∧
     (S ≤ 600 → (lesR xs s m ys t k).1.length ≤ 600 → ∀ r l H' us u j, Same H H' → H r = none → H l = none → lesR xs s m ys t k = (us, u, j) → H' r = some (.tup [.ref l, ov u, .int j]) → H' l = some (.lst (us.map ov)) → Q (.ref r) H')))
abbrev FL (K : PySem.W.Frag) (f : Addr) (fd : FuncData) := FunD K "run_lesser" "run_lesser" (C8.fnArgs (topS 19)) (C8.fnBody (topS 19)) (C8.fnScope (topS 19)) [] [] f fd
theorem xk_run_lesser (T : Txt K mg E_InvalidRun E_TooMany E_CountError) {f : Addr} {fd : FuncData} (F : FL K f fd) : FnOk P w K mg base (L2.CX P w) 6 f fd ["one", "other"] (sp_lesser K E_InvalidRun E_TooMany) := by
  refine fnX_of (fun_of F) sc_run_lesser (fun vs H Q E h => ?_) (fun cdv A outer s0 H vs Q E hr h => ?_)
  · obtain ⟨_, _, _, _, rfl, _⟩ := h; rfl
  · obtain ⟨v, z, d, e, rfl, dv, sm, dz, sm2, q⟩ := h
    refine ⟨_, (pss_cons (ps_expr (pe_x (x_need_run T) (takes_of rfl rfl rfl rfl) hr (by decide) (by rfl) (pa_cons (pv 0) pa_nil)))
    (pss_cons (ps_expr (pe_x (x_need_run T) (takes_of rfl rfl rfl rfl) hr (by decide) (by rfl) (pa_cons (pv 1) pa_nil)))
    (pss_cons (ps_set (i := 2) sc_run_lesser.nd rfl (Or.inl rfl) (C8.pe_c (c_longer_list T) hr (by decide) (by rfl) (pa_cons (pv 0) (pa_cons (pv 1) pa_nil))))
    (pss_cons (ps_par (i := 3) (j := 4) (by rfl) sc_run_lesser.nd rfl rfl (by decide) rfl rfl (pa_cons (pv 0) (pa_cons (pv 1) pa_nil)) (by rfl))
    (pss_cons (ps_if (pt_val (C8.pe_c (c_is_lesser_far_on T) hr (by decide) (by rfl) (pa_cons (pv 1) (pa_cons (pv 0) (pa_cons (pv 2) pa_nil)))))
    (pss_one (ps_par (i := 3) (j := 4) (by rfl) sc_run_lesser.nd rfl rfl (by decide) rfl rfl (pa_cons (pv 1) (pa_cons (pv 0) pa_nil)) (by rfl)))
    pss_nil)
    (pss_cons (ps_set (i := 5) sc_run_lesser.nd rfl (Or.inl rfl) (C8.pe_c (c_lesser_since T) hr (by decide) (by rfl) (pa_cons (pv 3) (pa_cons (pv 4) (pa_cons (pv 2) pa_nil)))))
    (pss_cons (ps_if (pt_cmpR op_gt (pv 5) (pe_callB (call_max2 rfl) (by rfl) T.m_max (by decide +kernel) (pa_cons (pv 2) (pa_cons (C8.pe_gc (by rfl) T.k_MOST_ITEMS) pa_nil))) (nomark _))
    (pss_one (ps_raiseE T.x_TooMany rfl (takes_of rfl rfl rfl rfl) hr (by decide) (by rfl) (pv 5)))
    pss_nil)
    (pss_cons (ps_setLc (i := 6) (own := [("count", 7)]) rfl sc_run_lesser.nd rfl rfl (sw_true rfl rfl rfl (by decide +kernel)) (pi_range1 (by rfl) T.m_range (pa_cons (pv 5) pa_nil)) (blkOk_by (N := ["one", "other", "size", "low", "high", "since", "values", "count", "run"]) (sc := C8.fnScope (topS 19)) (own := [("count", 7)]) (by decide +kernel)) (fun _ _ _ _ _ => (pg_name (i := 7) sc_run_lesser.nd rfl (Or.inl rfl))) (fun _ _ _ _ _ => pts_nil) (fun _ _ _ _ _ => (C8.pe_c (c_lesser_value T) hr (by decide) (by rfl) (pa_cons (C8.pe_c (c_at_count T) hr (by decide) (by rfl) (pa_cons (pv 0) (pa_cons (pv 7) pa_nil))) (pa_cons (C8.pe_c (c_at_count T) hr (by decide) (by rfl) (pa_cons (pv 1) (pa_cons (pv 7) pa_nil))) pa_nil)))))
    (pss_cons (ps_set (i := 8) sc_run_lesser.nd rfl (Or.inl rfl) (C8.pe_c (c_shortened T) hr (by decide) (by rfl) (pa_cons (pv 6) (pa_cons (C8.pe_c (c_at_count T) hr (by decide) (by rfl) (pa_cons (pv 3) (pa_cons (pv 5) pa_nil))) (pa_cons (pe_ix ix_tup (pv 3) pe_int (fun _ _ => rfl)) pa_nil)))))
    (pss_cons (ps_if (pt_cmpR op_gt (pe_callB call_len_seq (by rfl) T.m_len (by decide +kernel) (pa_cons (pe_ix ix_tup (pv 8) pe_int (fun _ _ => rfl)) pa_nil)) (C8.pe_gc (by rfl) T.k_MOST_ITEMS) (nomark _))
    (pss_one (ps_raiseE T.x_TooMany rfl (takes_of rfl rfl rfl rfl) hr (by decide) (by rfl) (pe_callB call_len_seq (by rfl) T.m_len (by decide +kernel) (pa_cons (pe_ix ix_tup (pv 8) pe_int (fun _ _ => rfl)) pa_nil))))
    pss_nil)
    (pss_one (ps_ret (pv 8))))))))))))), ?_⟩
    refine ⟨_, rfl, v, d, rfl, dv, sm, fun H1 s1 => ?_⟩
    rcases q with ⟨e1, q⟩ | ⟨e1, e2, q⟩ | ⟨e1, e2, o, o2, xs, ys, s, t, m, k, S, rfl, rfl, r1, r2, b1, b2, hS, qA, qB, q⟩
    · rw [e1]
      exact iteF fun x hx => q _ x (s1.trans (sameNew hx)) upd_same
    · rw [e1]
      refine iteT ⟨_, rfl, z, e, rfl, dp_same s1 _ _ dz, sm2, fun H2 s2 => ?_⟩
      rw [e2]
      exact iteF fun x hx => q _ x ((s1.trans s2).trans (sameNew hx)) upd_same
    · rw [e1]
      refine iteT ⟨_, rfl, _, e, rfl, dp_same s1 _ _ dz, sm2, fun H2 s2 => ?_⟩
      rw [e2]
      refine iteT ?_
      have s12 := s1.trans s2
      obtain ⟨n, hn⟩ : ∃ n, n = max xs.length ys.length := ⟨_, rfl⟩
      have n100 : n ≤ 100 := by have := b1.len; have := b2.len; omega
      have lx : xs.length ≤ 1000 := by have := b1.len; omega
      have ly : ys.length ≤ 1000 := by have := b2.len; omega
      have ha : valR xs s m n = none → m = 0 := fun e => b1.h0 (by rw [valR_line _ _ _ _ (by omega)] at e; cases s with | none => rfl | some i => cases e)
      have hb : valR ys t k n = none → k = 0 := fun e => b2.h0 (by rw [valR_line _ _ _ _ (by omega)] at e; cases t with | none => rfl | some i => cases e)
      have hS' : sinL (valR xs s m n) m (valR ys t k n) k n = (S : Nat) := by
        unfold sinR at hS
        rw [← hn] at hS
        have := sin_ge (valR xs s m n) m (valR ys t k n) k n
        omega
      have nS : n ≤ S := by have := sin_ge (valR xs s m n) m (valR ys t k n) k n; omega
      have eR : lesR xs s m ys t k = shrR (lesL xs s m ys t k S) (lesO (valR xs s m S) (valR ys t k S)) (slL (valR xs s m n) m (valR ys t k n) k) := by unfold lesR; rw [hS, ← hn]
      refine ⟨_, rfl, _, rfl, o, o2, xs, ys, s, t, m, k, rfl, r1.same s12, r2.same s12, ?_⟩
      rw [← hn]
      refine ⟨_, rfl, _, rfl, _, _, rfl, ?_⟩
      dsimp only
      refine joinS (a := tIfS _ _ _) (fun σ' H' => ∃ lo hi : Addr, σ' = [some (.ref o), some (.ref o2), some (.int n), some (.ref lo), some (.ref hi), none, none, none, none] ∧ Same H H' ∧
        ∃ us ws u w' j l, RunH H' lo us u j ∧ RunH H' hi ws w' l ∧ Bd us u j ∧ Bd ws w' l ∧ (valR ws w' l n = none ∨ ∃ x y, valR us u j n = some x ∧ valR ws w' l n = some y ∧ (x ≤ y ∨ j ≠ l)) ∧ sinA (valR us u j n) j (valR ws w' l n) l n = (S : Nat) ∧
          valR us u j S = lesO (valR xs s m S) (valR ys t k S) ∧ j = slL (valR xs s m n) m (valR ys t k n) k) (fun σ' H' p => ?_) fun U hU => ?_
      rotate_left
      · refine ⟨_, rfl, _, rfl, _, rfl, o2, o, ys, xs, t, s, k, m, n, rfl, r2.same s12, r1.same s12, b2, b1, n100, fun H3 s3 => ⟨_, rfl, ?_⟩⟩
        have s13 := s12.trans s3
        obtain ⟨dd, hdd⟩ : ∃ dd, S = n + dd := ⟨S - n, by omega⟩
        have fx : valR xs s m S = lineV (valR xs s m n) m dd := by rw [valR_far xs s m n S (by omega) nS, hdd, Nat.add_sub_cancel_left]
        have fy : valR ys t k S = lineV (valR ys t k n) k dd := by rw [valR_far ys t k n S (by omega) nS, hdd, Nat.add_sub_cancel_left]
        rw [hdd] at hS'
        cases hf : farB (valR ys t k n) k (valR xs s m n) m with
        | true =>
          have L := low_yes hf
          refine iteT ⟨_, rfl, _, rfl, _, _, rfl, hU _ _ ⟨o2, o, rfl, s13, ys, xs, t, s, k, m, r2.same s13, r1.same s13, b2, b1, L.prem, ?_, ?_, ?_⟩⟩
          · rw [L.since, sinL_comm, hS', hdd]
          · rw [lesO_comm, fx, fy]
            exact (L.line (by rw [sinL_comm, hS']; exact Int.le_refl _)).symm
          · rw [← slL_comm]
            exact (L.slope hb).symm
        | false =>
          have L := low_not hf
          refine iteF (hU _ _ ⟨o, o2, rfl, s13, xs, ys, s, t, m, k, r1.same s13, r2.same s13, b1, b2, L.prem, ?_, ?_, ?_⟩)
          · rw [L.since, hS', hdd]
          · rw [fx, fy]
            exact (L.line (by rw [hS']; exact Int.le_refl _)).symm
          · exact (L.slope ha).symm
      · obtain ⟨lo, hi, rfl, sH, us, ws, u, w', j, l, rl, rh, bl, bh, pr, eA, eS, eJ⟩ := p
        refine ⟨_, rfl, _, rfl, _, rfl, lo, hi, us, ws, u, w', j, l, n, rfl, rl, rh, bl, bh, n100, pr, ?_⟩
        rw [eA]
        refine ⟨_, rfl, _, rfl, (n : Int), 600, rfl, (S : Int), _, rfl, rfl, _, rfl, ?_⟩
        rw [show (if (600 : Int) > (n : Int) then (600 : Int) else (n : Int)) = 600 by rw [if_pos (by omega)]]
        by_cases h6 : 600 < S
        · rw [decide_eq_true (by omega)]
          exact iteT ⟨_, rfl, fun x hx => qA h6 _ x (sH.trans (sameNew hx)) upd_same⟩
        · rw [decide_eq_false (by omega)]
          refine iteF ⟨_, rfl, _, rfl, by omega, by omega, fun D hD => lcR_map (lo := 0) (n := S) (fun i => ov (lesO (valR xs s m i) (valR ys t k i))) (small1000 (by omega)) (fun i H3 R hi s3 q' => ?_) hD fun H3 s3 hL => ?_⟩
          · have s13 := sH.trans s3
            refine ⟨rfl, _, rfl, _, rfl, o, xs, s, m, i, by rw [Int.zero_add]; rfl, r1.same s13, by omega, b1.sl, lx, _, rfl, _, rfl, o2, ys, t, k, i, by rw [Int.zero_add]; rfl, r2.same s13, by omega, b2.sl, ly, _, _, rfl, ?_⟩
            exact q' H3 (Same.refl _)
          · obtain ⟨zs, hzs⟩ : ∃ zs, zs = lesL xs s m ys t k S := ⟨_, rfl⟩
            have lz : zs.length = S := by rw [hzs]; unfold lesL; rw [List.length_map, List.length_range]
            have hL : H3 D = some (.lst (zs.map ov)) := by rw [hL, hzs]; unfold lesL; rw [List.map_map]; rfl
            rw [← hzs] at eR
            have s13 := sH.trans s3
            have rl3 := rl.same s3
            obtain ⟨z1, k1, k2⟩ := id rl3
            refine ⟨_, rfl, _, rfl, _, rfl, lo, us, u, j, S, rfl, rl3, by omega, bl.sl, by have := bl.len; omega, _, rfl, lo, _, 2, .int j, rfl, rfl, .inl (.inl k1), rfl, ?_⟩
            rw [eS, eJ]
            generalize lesO (valR xs s m S) (valR ys t k S) = w0 at eR
            generalize slL (valR xs s m n) m (valR ys t k n) k = j0 at eR
            rw [eR] at qB q
            refine ⟨D, zs, w0, j0, rfl, hL, by omega, fun l' r' H5 s5 n1 g1 n2 g2 => ?_⟩
            have s15 := s13.trans s5
            obtain ⟨us', hus⟩ : ∃ us', us' = zs.take (shrN j0 zs zs.length w0).1 := ⟨_, rfl⟩
            have eS1 : (shrR zs w0 j0).1 = us' := hus.symm
            rw [← hus] at g1
            rw [eS1] at qB q
            refine ⟨_, rfl, r', _, 0, .ref l', rfl, rfl, .inl (.inl g2), rfl, l', _, rfl, .inl (.inl (.inl g1)), _, 600, rfl, rfl, _, rfl, ?_⟩
            rw [List.length_map]
            by_cases h7 : 600 < us'.length
            · rw [decide_eq_true (by omega)]
              refine iteT ⟨_, rfl, r', _, 0, .ref l', rfl, rfl, .inl (.inl g2), rfl, l', _, rfl, .inl (.inl (.inl g1)), fun x hx => ?_⟩
              rw [List.length_map]
              exact qB (by omega) h7 _ x (s15.trans (sameNew hx)) upd_same
            · rw [decide_eq_false (by omega)]
              exact iteF ⟨_, rfl, q (by omega) (by omega) r' l' H5 us' _ _ s15 (none_back s13 n2) (none_back s13 n1) (by rw [← eS1]; rfl) g2 g1⟩
theorem x_run_lesser (T : Txt K mg E_InvalidRun E_TooMany E_CountError) : CalX P w K mg base 6 "run_lesser" (sp_lesser K E_InvalidRun E_TooMany) := by
  obtain ⟨f, fd, F, hm⟩ := T.d_run_lesser.ex
  refine ⟨f, fd, _, xk_run_lesser T F, hm, F.kp, F.bindsN fun kV doc pm an cdv ct us hl => ?_⟩
  match us, hl with
  | [u, v], _ => rfl
theorem c_run_lesser (T : Txt K mg E_InvalidRun E_TooMany E_CountError) : C8.Cal P w K mg base 6 "run_lesser" (fun vs H Q _ => sp_lesser K E_InvalidRun E_TooMany vs H Q E0) [] := (x_run_lesser T).cal
theorem c_run_lesser_K_other_one (T : Txt K mg E_InvalidRun E_TooMany E_CountError) : CalN P w K mg base 6 "run_lesser" ["other", "one"] (fun vs H Q _ => sp_lesser K E_InvalidRun E_TooMany vs H Q E0) (fun vs zs => vs ++ ((zs.drop 1).take 1 ++ zs.take 1)) := by
  obtain ⟨f, fd, F, hm⟩ := T.d_run_lesser.ex
  refine ⟨f, fd, ["one", "other"], _, calm_of (xk_run_lesser T F), hm, F.kp, FunD.kbindsN F 0 ["other", "one"] (fun us ws => us ++ ((ws.drop 1).take 1 ++ ws.take 1)) (fun r1 r2 => r1.append (((r2.drop 1).take 1).append (r2.take 1))) fun kV doc pm an cdv ct us ws l1 l2 => ?_⟩
  match us, l1, ws, l2 with
  | [], _, [u, v], _ => rfl
end
end K47

set_option Elab.async false
set_option linter.all false
set_option maxRecDepth 100000
set_option maxHeartbeats 2000000
/-! what is shown of data has only characters that are -/
namespace CK
open PySem PySem.Spec PyProof.Rows L2
theorem ok_append {a b : Str} (h1 : PyData.strOk a = true) (h2 : PyData.strOk b = true) : PyData.strOk (a ++ b) = true := by
  unfold PyData.strOk at *
  have e : (a ++ b).cps = a.cps ++ b.cps := rfl
  rw [e, Array.all_append, h1, h2]
  rfl
theorem ok_of (s : String) : PyData.strOk (Str.ofString s) = true := by
  unfold PyData.strOk
  rw [PySem.Str.ofString_eq_toList]
  rw [List.all_toArray, List.all_map, List.all_eq_true]
  intro c _
  show decide (c.toNat < 0x110000) = true
  have := c.valid
  refine decide_eq_true ?_
  have h : c.val.toNat.isValidChar := this
  show c.val.toNat < _
  rcases h with h | h
  · omega
  · exact h.2
theorem ok_from : ∀ (ts : List Str) (k : Nat) (a : Str), PyData.strOk a = true → (∀ t ∈ ts, PyData.strOk t = true) → PyData.strOk (textFrom k a ts) = true
  | [], k, a, h, _ => h
  | t :: r, k, a, h, hs => by
    refine ok_from r (k + 1) _ (ok_append (ok_append h ?_) (hs t List.mem_cons_self)) fun x hx => hs x (List.mem_cons_of_mem _ hx)
    split <;> exact ok_of _
theorem ok_listText {ts : List Str} (h : ∀ t ∈ ts, PyData.strOk t = true) : PyData.strOk (listText ts) = true := ok_append (ok_from ts 0 _ (ok_of _) h) (ok_of _)
theorem ok_join {s : Str} (hs : PyData.strOk s = true) : ∀ ts : List Str, (∀ t ∈ ts, PyData.strOk t = true) → PyData.strOk (Str.join s ts) = true
  | [], _ => by
    show PyData.strOk Str.empty = true
    decide +kernel
  | [x], h => h x List.mem_cons_self
  | x :: y :: r, h => by
    show PyData.strOk (x ++ s ++ Str.join s (y :: r)) = true
    exact ok_append (ok_append (h x List.mem_cons_self) hs) (ok_join hs (y :: r) fun t ht => h t (List.mem_cons_of_mem _ ht))
theorem ok_tupleText {ts : List Str} (h : ∀ t ∈ ts, PyData.strOk t = true) : PyData.strOk (tupleText ts) = true := by
  unfold tupleText
  refine ok_append (ok_append (ok_of _) (ok_join (ok_of _) ts h)) ?_
  split <;> exact ok_of _
mutual
/-- no text, no dict within -/
def bareD : PyData → Bool
  | .none => true
  | .bool _ => true
  | .int _ => true
  | .str _ => false
  | .list xs => bareDs xs
  | .tuple xs => bareDs xs
  | .dict _ => false
def bareDs : List PyData → Bool
  | [] => true
  | x :: xs => bareD x && bareDs xs
end
mutual
theorem ok_shown : ∀ d : PyData, bareD d = true → PyData.strOk d.shown = true
  | .none, _ => by
    have e : PyData.shown .none = Str.ofString "None" := by simp only [PyData.shown]
    rw [e]; exact ok_of _
  | .bool b, _ => by
    have e : PyData.shown (.bool b) = (if b = true then Str.ofString "True" else Str.ofString "False") := by simp only [PyData.shown]
    rw [e]
    split <;> exact ok_of _
  | .int i, _ => by
    have e : PyData.shown (.int i) = (toString i : Str) := by simp only [PyData.shown]
    rw [e]; exact ok_of _
  | .str _, h => by simp [bareD] at h
  | .list xs, h => by
    rw [PyData.shown]
    rw [bareD] at h
    exact ok_listText (ok_shownAll xs h)
  | .tuple xs, h => by
    rw [PyData.shown]
    rw [bareD] at h
    exact ok_tupleText (ok_shownAll xs h)
  | .dict _, h => by simp [bareD] at h
theorem ok_shownAll : ∀ xs : List PyData, bareDs xs = true → ∀ t ∈ PyData.shownAll xs, PyData.strOk t = true
  | [], _ => fun t h => by rw [PyData.shownAll] at h; exact nomatch h
  | x :: xs, h => fun t ht => by
    rw [bareDs, Bool.and_eq_true] at h
    rw [PyData.shownAll] at ht
    rcases List.mem_cons.mp ht with rfl | ht
    · exact ok_shown x h.1
    · exact ok_shownAll xs h.2 t ht
end
theorem shaped_texts {a b : Str} (h1 : PyData.strOk a = true) (h2 : PyData.strOk b = true) : SeqAt.shaped (.list [.str a, .str b]) = true := by
  simp [SeqAt.shaped, PyData.depth, PyData.depthAll, PyData.canLay0, PyData.canLayAll0, h1, h2]
end CK

set_option Elab.async false
set_option linter.all false
set_option maxRecDepth 100000
set_option maxHeartbeats 4000000
set_option exponentiation.threshold 3000
namespace K47
open PySem PySem.Spec PyProof.Rows L2 CK
theorem fine_big {s : Option Int} (h : Nw s 1000) : Fine (dO s) := by
  have ok : okD (dO s) = true ∧ bndD (dO s) ≤ 1923 := by
    cases s with
    | none => exact ⟨rfl, by decide⟩
    | some i => exact ⟨decide_eq_true (Nat.lt_of_lt_of_le (h i rfl) (Nat.pow_le_pow_right (by decide) (by decide))), Nat.le_refl _⟩
  exact fine_of ok.1 (by cases s <;> simp [dO, PyData.depth]) (by have := ok.2; omega)
theorem val_near {xs : List (Option Int)} {s : Option Int} {m : Int} {k : Nat} (b : Dr xs s m) (hk : k ≤ 1000) : Nw (valR xs s m k) 130 := fun i e => by
  unfold valR at e
  split at e
  · rename_i h
    have : xs.getD k none ∈ xs := by rw [List.getD_eq_getElem?_getD, List.getElem?_eq_getElem h]; exact List.getElem_mem h
    exact Nat.lt_of_lt_of_le (b.it _ this i e) (Nat.pow_le_pow_right (by decide) (by decide))
  · rename_i h
    obtain ⟨j, hj, rfl⟩ := Option.map_eq_some_iff.mp e
    have a := b.st j hj
    have c0 : ((k : Int) - (xs.length : Nat)).natAbs ≤ 1000 := by omega
    have c := Nat.mul_le_mul (Nat.le_of_lt b.sl) c0
    rw [← Int.natAbs_mul] at c
    have d : 2 ^ 71 * 1000 + 2 ^ 120 < 2 ^ 130 := by decide +kernel
    have e := Int.natAbs_add_le j (m * ((k : Int) - (xs.length : Nat)))
    generalize 2 ^ 71 * 1000 = A0 at c d
    generalize 2 ^ 120 = B0 at a d
    generalize 2 ^ 130 = C0 at d ⊢
    omega
theorem val_big {xs : List (Option Int)} {s : Option Int} {m : Int} {k : Nat} (b : Dr xs s m) (hk : k < 2 ^ 190) : Nw (valR xs s m k) 1000 := fun i e => by
  unfold valR at e
  split at e
  · rename_i h
    have : xs.getD k none ∈ xs := by rw [List.getD_eq_getElem?_getD, List.getElem?_eq_getElem h]; exact List.getElem_mem h
    exact Nat.lt_of_lt_of_le (b.it _ this i e) (Nat.pow_le_pow_right (by decide) (by decide))
  · rename_i h
    obtain ⟨j, hj, rfl⟩ := Option.map_eq_some_iff.mp e
    have a := b.st j hj
    have c0 : ((k : Int) - (xs.length : Nat)).natAbs ≤ 2 ^ 190 := by omega
    have c := Nat.mul_le_mul (Nat.le_of_lt b.sl) c0
    rw [← Int.natAbs_mul] at c
    have d : 2 ^ 71 * 2 ^ 190 + 2 ^ 120 < 2 ^ 1000 := by decide +kernel
    have e := Int.natAbs_add_le j (m * ((k : Int) - (xs.length : Nat)))
    generalize 2 ^ 71 * 2 ^ 190 = A0 at c d
    generalize 2 ^ 120 = B0 at a d
    generalize 2 ^ 1000 = C0 at d ⊢
    omega
theorem Nw.mono {s : Option Int} {a b : Nat} (h : Nw s a) (l : a ≤ b) : Nw s b := fun i e => Nat.lt_of_lt_of_le (h i e) (Nat.pow_le_pow_right (by decide) l)
theorem Dr.bd {xs : List (Option Int)} {s : Option Int} {m : Int} (b : Dr xs s m) : Bd xs s m := ⟨by have := b.len; omega, fun x h => (b.it x h).mono (by decide), b.st.mono (by decide), Nat.lt_of_lt_of_le b.sl (by decide), b.h0⟩
theorem Dr.fine {xs : List (Option Int)} {s : Option Int} {m : Int} (b : Dr xs s m) : Fine (dRun xs s m) := fine_run (fun x h => (b.it x h).mono (by decide)) (by have := b.len; omega) (b.st.mono (by decide)) (Nat.lt_of_lt_of_le b.sl (by decide))
theorem smd_run (xs : List (Option Int)) (s : Option Int) (m : Int) (h : xs.length ≤ 1000) : SmD (dRun xs s m) := fun ds b c e => by
  have : xs.map dO = ds := by
    have := PyData.tuple.inj e
    exact PyData.list.inj (List.cons.inj this).1
  rw [← this, List.length_map]
  exact h
theorem bare_dO : ∀ xs : List (Option Int), bareDs (xs.map dO) = true
  | [] => by simp [bareDs]
  | x :: xs => by
    rw [List.map_cons, bareDs, bare_dO xs]
    cases x <;> simp [dO, bareD]
theorem ok_run (xs : List (Option Int)) (s : Option Int) (m : Int) : PyData.strOk (dRun xs s m).shown = true := by
  refine ok_shown _ ?_
  unfold dRun
  rw [bareD, bareDs, bareD, bare_dO, bareDs, bareDs, bareD, bareDs]
  cases s <;> simp [dO, bareD]
def RunG (H : Hp) (g o : Addr) (xs : List (Option Int)) (s : Option Int) (m : Int) : Prop := ∃ l, H o = some (.tup [.ref l, ov s, .int m]) ∧ H l = some (.lst (xs.map ov)) ∧ l ≠ g
theorem RunG.run {H : Hp} {g o : Addr} {xs : List (Option Int)} {s : Option Int} {m : Int} (h : RunG H g o xs s m) : RunH H o xs s m := by
  obtain ⟨l, a, b, _⟩ := h
  exact ⟨l, a, b⟩
theorem RunG.x {H H' : Hp} {g o : Addr} {xs : List (Option Int)} {s : Option Int} {m : Int} {n : Nat} (h : RunG H g o xs s m) (G : Gn n H g) (s' : SameX g H H') : RunG H' g o xs s m := by
  obtain ⟨l, a, b, c⟩ := h
  have og : o ≠ g := fun z => by obtain ⟨_, _, _, e, _⟩ := G; rw [z, e] at a; cases a
  exact ⟨l, s' _ _ og a, s' _ _ c b, c⟩
theorem gname_eq (j : Nat) (x : V) (σ : L2.St) (H : Hp) (F : L2.St → Hp → Prop) : gName j x σ H F = F (σ.set j (some x)) H := rfl
theorem lcC_draw {lo : Int} {g : Addr} {n cnt j : Nat} (c : Nat) (Pz : V → Prop) {te : TE} {vs : List Nat} {σ : L2.St} {H1 : Hp} {D : Addr} {Qd : Hp → Prop} (hc : cnt < sizeLine) (hD : H1 D = none) (hg : Gn (n + c * cnt) H1 g)
    (hs : ∀ (i : Nat) (H : Hp) (R : VK), i < cnt → SameX g H1 H → Gn (n + c * (cnt - (i + 1)) + c) H g → (∀ (r : V) H', SameX g H H' → Gn (n + c * (cnt - (i + 1))) H' g → Pz r → R r H') →
      wipe ((wipe σ vs).set j (some (.int (lo + i)))) vs = wipe σ vs ∧ te ((wipe σ vs).set j (some (.int (lo + i)))) H R)
    (hd : ∀ (H : Hp) (ns : List V), SameX g H1 H → Gn n H g → H D = some (.lst ns) → ns.length = cnt → (∀ x ∈ ns, Pz x) → Qd H) :
    ∃ W : Nat → Nat → Hp → Prop, (∃ m, W 0 m (L2.upd H1 D (.lst []))) ∧ ∀ i m H, W i m H →
      ((Itr lo cnt).stop i H ∧ Qd H) ∨ ((Itr lo cnt).go i H ∧ ∃ Nx : Hp → Prop, (∀ H', Nx H' → ∃ m', m' < m ∧ W (i + 1) m' H') ∧ ∀ x H', (Itr lo cnt).yld i H x H' → gName j x (wipe σ vs) H' fun σ2 H2 => wipe σ2 vs = wipe σ vs ∧ tYes σ2 H2 fun b H3 =>
        if b = true then te σ2 H3 fun y H4 => ∃ acc, H4 D = some (.lst acc) ∧ acc.length < sizeLine ∧ Nx (L2.upd H4 D (.lst (acc ++ [y]))) else Nx H3) := by
  have hDg := hg.ne hD
  refine lc_range (fun i H => SameX g H1 H ∧ Gn (n + c * (cnt - i)) H g ∧ i ≤ cnt ∧ ∃ ns : List V, H D = some (.lst ns) ∧ ns.length = i ∧ ∀ x ∈ ns, Pz x)
    ⟨sameX_new hD, hg.upd hDg, Nat.zero_le _, [], upd_same, rfl, fun x h => absurd h List.not_mem_nil⟩ (fun i H hi p => ?_) fun H p => ?_
  · obtain ⟨s, G, _, ns, hL, hl, hb⟩ := p
    have G1 : Gn (n + c * (cnt - (i + 1)) + c) H g := by
      have e : n + c * (cnt - (i + 1)) + c = n + c * (cnt - i) := by
        have hi' : i < cnt := hi
        rw [show cnt - i = (cnt - (i + 1)) + 1 by omega, Nat.mul_succ]
        omega
      rw [e]
      exact G
    refine hs i H _ hi s G1 fun r H' s' G' h0 => ⟨_, s' D _ hDg hL, by omega, (s.trans s').upd2 hD, G'.upd hDg, hi, ns ++ [r], upd_same, ?_, fun x hx => ?_⟩
    · rw [List.length_append, hl]
      rfl
    · rcases List.mem_append.mp hx with z | z
      · exact hb x z
      · rw [List.mem_singleton.mp z]
        exact h0
  · obtain ⟨s, G, _, ns, hL, hl, hb⟩ := p
    rw [Nat.sub_self, Nat.mul_zero] at G
    exact hd H ns s G hL hl hb
theorem seq_asg {te : TE} {g : TG} {u : TS} {D : Ends} {σ : L2.St} {H : Hp} (h : te σ H fun x H1 => g x σ H1 (u D)) : tSeq (tAsg te g) u D σ H := h
theorem tnext_eq (D : Ends) (σ : L2.St) (H : Hp) : tNext D σ H = D.nx σ H := rfl
theorem ovs_of {b : Nat} : ∀ {vs : List V}, (∀ v ∈ vs, ∃ w, v = ov w ∧ Nw w b) → ∃ fs : List (Option Int), vs = fs.map ov ∧ ∀ x ∈ fs, Nw x b
  | [], _ => ⟨[], rfl, fun x h => nomatch h⟩
  | v :: vs, h => by
    obtain ⟨w, rfl, hw⟩ := h v List.mem_cons_self
    obtain ⟨fs, rfl, hfs⟩ := ovs_of fun x hx => h x (List.mem_cons_of_mem _ hx)
    refine ⟨w :: fs, rfl, fun x hx => ?_⟩
    rcases List.mem_cons.mp hx with rfl | hx
    · exact hw
    · exact hfs x hx
theorem shr_nw {b : Nat} (m : Int) (xs : List (Option Int)) (h : ∀ x ∈ xs, Nw x b) : ∀ (n : Nat) (s : Option Int), Nw s b → Nw (shrN m xs n s).2 b
  | 0, s, hs => hs
  | n + 1, s, hs => by
    rw [shrN]
    split
    · refine shr_nw m xs h n _ ?_
      rw [List.getD_eq_getElem?_getD]
      cases e : xs[n]? with
      | none => exact fun i e => nomatch e
      | some x => exact h x (List.mem_of_getElem? e)
    · exact hs
theorem Dr.shr {xs : List (Option Int)} {s : Option Int} {m : Int} (b : Dr xs s m) : Dr (xs.take (shrN m xs xs.length s).1) (shrN m xs xs.length s).2 m := by
  refine ⟨?_, fun x hx => b.it x (List.mem_of_mem_take hx), shr_nw m xs b.it _ _ b.st, b.sl, fun e => b.h0 (shr_none m xs s e)⟩
  have := b.len
  rw [List.length_take]
  omega
/-! ### what sums and lessers are -/
theorem shrR_val (zs : List (Option Int)) (s0 : Option Int) (m0 : Int) (i : Nat) : valR (shrR zs s0 m0).1 (shrR zs s0 m0).2.1 (shrR zs s0 m0).2.2 i = valR zs s0 m0 i := shr_val m0 zs s0 i
theorem shrR_least (zs : List (Option Int)) (s0 : Option Int) (m0 : Int) (h : s0 = none → m0 = 0) : isLeast (shrR zs s0 m0).1 (shrR zs s0 m0).2.1 (shrR zs s0 m0).2.2 = true := shr_least m0 zs s0 h
theorem sum_line (a b : Option Int) (m k : Int) (d : Nat) : sumO (lineV a m d) (lineV b k d) = lineV (sumO a b) (slO (sumO a b) (m + k)) d := by
  cases a with
  | none => rfl
  | some x => cases b with
    | none => rfl
    | some y =>
      show some (x + m * (d : Int) + (y + k * (d : Int))) = some (x + y + (m + k) * (d : Int))
      rw [Int.add_mul]
      congr 1
      omega
theorem map_getD (g : Nat → Option Int) {n i : Nat} (h : i < n) : ((List.range n).map g).getD i none = g i := by
  rw [List.getD_eq_getElem?_getD, List.getElem?_map, List.getElem?_range h]
  rfl
theorem map_len (g : Nat → Option Int) (n : Nat) : ((List.range n).map g).length = n := by rw [List.length_map, List.length_range]
theorem val_map (g : Nat → Option Int) (n : Nat) (s0 : Option Int) (m0 : Int) (h : ∀ d, g (n + d) = lineV s0 m0 d) (i : Nat) : valR ((List.range n).map g) s0 m0 i = g i := by
  by_cases c : i < n
  · unfold valR
    rw [map_len, if_pos c, map_getD g c]
  · rw [valR_line _ _ _ _ (by rw [map_len]; omega), map_len, ← h, show n + (i - n) = i by omega]
theorem sumR_val (xs : List (Option Int)) (s : Option Int) (m : Int) (ys : List (Option Int)) (t : Option Int) (k : Int) (i : Nat) : valR (sumR xs s m ys t k).1 (sumR xs s m ys t k).2.1 (sumR xs s m ys t k).2.2 i = sumO (valR xs s m i) (valR ys t k i) := by
  unfold sumR
  rw [shrR_val]
  refine val_map (fun i => sumO (valR xs s m i) (valR ys t k i)) _ _ _ (fun d => ?_) i
  rw [valR_far xs s m (max xs.length ys.length) _ (by omega) (by omega), valR_far ys t k (max xs.length ys.length) (_ + d) (by omega) (by omega), Nat.add_sub_cancel_left, sum_line]
theorem sumO_comm (a b : Option Int) : sumO a b = sumO b a := by
  cases a <;> cases b <;> first | rfl | (show some _ = some _; rw [Int.add_comm])
theorem sumR_comm (xs : List (Option Int)) (s : Option Int) (m : Int) (ys : List (Option Int)) (t : Option Int) (k : Int) : sumR ys t k xs s m = sumR xs s m ys t k := by
  unfold sumR sumL
  rw [Nat.max_comm, Int.add_comm, sumO_comm]
  congr 1
  exact List.map_congr_left fun i _ => sumO_comm _ _
theorem sinR_comm (xs : List (Option Int)) (s : Option Int) (m : Int) (ys : List (Option Int)) (t : Option Int) (k : Int) : sinR ys t k xs s m = sinR xs s m ys t k := by
  unfold sinR
  rw [Nat.max_comm, sinL_comm]
theorem lesR_comm (xs : List (Option Int)) (s : Option Int) (m : Int) (ys : List (Option Int)) (t : Option Int) (k : Int) : lesR ys t k xs s m = lesR xs s m ys t k := by
  unfold lesR lesL
  rw [sinR_comm, Nat.max_comm, slL_comm, lesO_comm]
  congr 1
  exact List.map_congr_left fun i _ => lesO_comm _ _
/-- a line from e on, and no earlier -/
def EndG (f : Nat → Option Int) (sl : Int) (e : Nat) : Prop := (∀ d, f (e + d) = lineV (f e) sl d) ∧ (e = 0 ∨ f (e - 1) ≠ before (f e) sl)
theorem les_line {xs ys : List (Option Int)} {s t : Option Int} {m k : Int} (hs : s = none → m = 0) (ht : t = none → k = 0) (S : Nat) (hS : sinR xs s m ys t k = S) :
    (∀ d, lesO (valR xs s m (S + d)) (valR ys t k (S + d)) = lineV (lesO (valR xs s m S) (valR ys t k S)) (slL (valR xs s m (max xs.length ys.length)) m (valR ys t k (max xs.length ys.length)) k) d) ∧
    (max xs.length ys.length < S → lesO (valR xs s m (S - 1)) (valR ys t k (S - 1)) ≠ before (lesO (valR xs s m S) (valR ys t k S)) (slL (valR xs s m (max xs.length ys.length)) m (valR ys t k (max xs.length ys.length)) k)) := by
  unfold sinR at hS
  obtain ⟨n, hn⟩ : ∃ n, n = max xs.length ys.length := ⟨_, rfl⟩
  rw [← hn] at hS ⊢
  have ge := sin_ge (valR xs s m n) m (valR ys t k n) k n
  have hS' : sinL (valR xs s m n) m (valR ys t k n) k n = (S : Nat) := by omega
  have ha : valR xs s m n = none → m = 0 := fun e => hs (by rw [valR_line _ _ _ _ (by omega)] at e; cases s with | none => rfl | some i => cases e)
  have hb : valR ys t k n = none → k = 0 := fun e => ht (by rw [valR_line _ _ _ _ (by omega)] at e; cases t with | none => rfl | some i => cases e)
  have fx : ∀ i, n ≤ i → valR xs s m i = lineV (valR xs s m n) m (i - n) := fun i hi => valR_far xs s m n i (by omega) hi
  have fy : ∀ i, n ≤ i → valR ys t k i = lineV (valR ys t k n) k (i - n) := fun i hi => valR_far ys t k n i (by omega) hi
  obtain ⟨dd, hdd⟩ : ∃ dd, S = n + dd := ⟨S - n, by omega⟩
  -- one way round
  have one : ∀ (a b : Option Int) (m k : Int) (fa fb : Nat → Option Int), (a = none → m = 0) → (∀ i, n ≤ i → fa i = lineV a m (i - n)) → (∀ i, n ≤ i → fb i = lineV b k (i - n)) → Low a m b k → sinL a m b k n = (S : Nat) →
      (∀ d, lesO (fa (S + d)) (fb (S + d)) = lineV (lesO (fa S) (fb S)) (slL a m b k) d) ∧ (n < S → lesO (fa (S - 1)) (fb (S - 1)) ≠ before (lesO (fa S) (fb S)) (slL a m b k)) := fun a b m k fa fb ha fx fy L hS => by
    have ln : ∀ d, lesO (fa (S + d)) (fb (S + d)) = lineV a m (dd + d) := fun d => by
      rw [fx _ (by omega), fy _ (by omega), show S + d - n = dd + d by omega]
      exact L.line (by rw [hS]; omega)
    have l0 : lesO (fa S) (fb S) = lineV a m dd := ln 0
    rw [L.slope ha, l0]
    refine ⟨fun d => by rw [ln, lineV_add], fun h => ?_⟩
    rw [fx _ (by omega), fy _ (by omega), show S - 1 - n = dd - 1 by omega]
    exact L.ahead (by rw [hS, hdd]) (by omega)
  cases hf : farB (valR ys t k n) k (valR xs s m n) m with
  | true =>
    have := one _ _ k m (valR ys t k) (valR xs s m) hb fy fx (low_yes hf) (by rw [sinL_comm]; exact hS')
    rw [slL_comm] at this
    refine ⟨fun d => ?_, fun h => ?_⟩
    · rw [lesO_comm, lesO_comm (valR xs s m S)]; exact this.1 d
    · rw [lesO_comm, lesO_comm (valR xs s m S)]; exact this.2 h
  | false => exact one _ _ m k (valR xs s m) (valR ys t k) ha fx fy (low_not hf) hS'
theorem lesR_val {xs ys : List (Option Int)} {s t : Option Int} {m k : Int} (hs : s = none → m = 0) (ht : t = none → k = 0) (i : Nat) : valR (lesR xs s m ys t k).1 (lesR xs s m ys t k).2.1 (lesR xs s m ys t k).2.2 i = lesO (valR xs s m i) (valR ys t k i) := by
  unfold lesR
  rw [shrR_val]
  exact val_map (fun i => lesO (valR xs s m i) (valR ys t k i)) _ _ _ (les_line hs ht _ rfl).1 i
/-- the slope that the law tells -/
def slS (s : Option Int) (m : Int) (t : Option Int) (k : Int) : Int := match s, t with
  | some _, some _ => min m k
  | none, _ => k
  | some _, none => m
theorem slS_L {xs ys : List (Option Int)} {s t : Option Int} {m k : Int} {n : Nat} (h1 : xs.length ≤ n) (h2 : ys.length ≤ n) (ht : t = none → k = 0) : slL (valR xs s m n) m (valR ys t k n) k = slS s m t k := by
  rw [valR_line _ _ _ _ h1, valR_line _ _ _ _ h2]
  cases s with
  | none => cases t with
    | none => exact (ht rfl).symm
    | some y => rfl
  | some x => cases t <;> rfl
theorem end_since {xs ys : List (Option Int)} {s t : Option Int} {m k : Int} (hs : s = none → m = 0) (ht : t = none → k = 0) {S : Nat} (hS : sinR xs s m ys t k = S) (h : max xs.length ys.length < S) : EndG (fun i => lesO (valR xs s m i) (valR ys t k i)) (slS s m t k) S := by
  obtain ⟨a, b⟩ := les_line hs ht S hS
  rw [slS_L (by omega) (by omega) ht] at a b
  exact ⟨a, .inr (b h)⟩
theorem shrR_end (zs : List (Option Int)) (s0 : Option Int) (m0 : Int) : (shrR zs s0 m0).1.length = 0 ∨ (shrR zs s0 m0).1.getD ((shrR zs s0 m0).1.length - 1) none ≠ before (shrR zs s0 m0).2.1 m0 := by
  obtain ⟨h1, h2, h3, h4⟩ := shr_spec m0 zs zs.length s0
  unfold shrR
  dsimp only
  generalize shrN m0 zs zs.length s0 = r at *
  rw [List.length_take, Nat.min_eq_left h1]
  rcases h4 with h | h
  · exact .inl h
  · by_cases c : r.1 = 0
    · exact .inl c
    · right
      rw [List.getD_eq_getElem?_getD, List.getElem?_take, if_pos (by omega), ← List.getD_eq_getElem?_getD]
      exact h
theorem end_les {xs ys : List (Option Int)} {s t : Option Int} {m k : Int} (hs : s = none → m = 0) (ht : t = none → k = 0) : EndG (fun i => lesO (valR xs s m i) (valR ys t k i)) (slS s m t k) (lesR xs s m ys t k).1.length := by
  have v := fun i => lesR_val (xs := xs) (ys := ys) hs ht i
  have eR : lesR xs s m ys t k = shrR (lesL xs s m ys t k (sinR xs s m ys t k)) (lesO (valR xs s m (sinR xs s m ys t k)) (valR ys t k (sinR xs s m ys t k))) (slS s m t k) := by
    unfold lesR
    rw [slS_L (by omega) (by omega) ht]
  have e := shrR_end (lesL xs s m ys t k (sinR xs s m ys t k)) (lesO (valR xs s m (sinR xs s m ys t k)) (valR ys t k (sinR xs s m ys t k))) (slS s m t k)
  have ej : (lesR xs s m ys t k).2.2 = slS s m t k := by rw [eR]; rfl
  rw [← eR] at e
  rw [ej] at v
  generalize lesR xs s m ys t k = R at v e
  have f0 : ∀ d, lesO (valR xs s m (R.1.length + d)) (valR ys t k (R.1.length + d)) = lineV R.2.1 (slS s m t k) d := fun d => by
    rw [← v, valR_line _ _ _ _ (by omega), Nat.add_sub_cancel_left]
  have f00 := f0 0
  rw [Nat.add_zero, lineV_zero] at f00
  refine ⟨fun d => ?_, ?_⟩
  · dsimp only
    rw [f0, f00]
  · rcases e with e | e
    · exact .inl e
    · by_cases c : R.1.length = 0
      · exact .inl c
      · right
        dsimp only
        rw [f00, ← v]
        unfold valR
        rw [if_pos (by omega)]
        exact e
end K47

set_option Elab.async false
set_option linter.all false
set_option maxRecDepth 100000
set_option maxHeartbeats 4000000
set_option exponentiation.threshold 3000
namespace K47
open PySem PySem.Spec PyProof.Rows L2 CK
theorem les_nw {a b : Option Int} {n : Nat} (h1 : Nw a n) (h2 : Nw b n) : Nw (lesO a b) n := by
  cases a with
  | none => exact h2
  | some x => cases b with
    | none => exact h1
    | some y =>
      intro i e
      have e : some (min x y) = some i := e
      cases e
      have := h1 x rfl
      have := h2 y rfl
      rw [Int.min_def]
      split <;> assumption
section
variable {P : Program} {w : World} {K : PySem.W.Frag} {mg : Str → Option Value} {base : Heap} {E_InvalidRun E_TooMany E_CountError : Addr}
theorem c_law_sum (T : Txt K mg E_InvalidRun E_TooMany E_CountError) : C8.Cal P w K mg base 1 "_law_sum" sp_value_sum [] := by
  refine calF T.d_law_sum sc_law_sum (fun vs H Q E h => ?_) (fun f cdv A outer s H vs Q E hr h => ?_)
  · obtain ⟨_, _, rfl, _⟩ := h; rfl
  · obtain ⟨a, b, rfl, q⟩ := h
    refine ⟨_, (pss_one (ps_ret (pe_ifExp (PW.pt (pw_or (pt_cmpR op_isN (pv 0) pe_non (nomark _)) (pw_or1 (pt_cmpR op_isN (pv 1) pe_non (nomark _))))) pe_non (pe_op op_add (pv 0) (pv 1))))), ?_⟩
    cases a with
    | none => exact ⟨_, rfl, rfl, _, rfl, iteT (iteT q)⟩
    | some x =>
      refine ⟨_, rfl, rfl, _, rfl, iteF ?_⟩
      cases b with
      | none => exact ⟨_, rfl, rfl, _, rfl, iteT q⟩
      | some y => exact ⟨_, rfl, rfl, _, rfl, iteF ⟨_, rfl, _, rfl, x, y, rfl, rfl, q⟩⟩
theorem c_law_lesser (T : Txt K mg E_InvalidRun E_TooMany E_CountError) : C8.Cal P w K mg base 1 "_law_lesser" sp_lesser_value [] := by
  refine calF T.d_law_lesser sc_law_lesser (fun vs H Q E h => ?_) (fun f cdv A outer s H vs Q E hr h => ?_)
  · obtain ⟨_, _, rfl, _⟩ := h; rfl
  · obtain ⟨a, b, rfl, q⟩ := h
    refine ⟨_, (pss_cons (ps_if (PW.pt (pw_or (pt_cmpR op_isN (pv 0) pe_non (nomark _)) (pw_or1 (pt_cmpR op_isN (pv 1) pe_non (nomark _)))))
    (pss_one (ps_ret (pe_ifExp (pt_cmpR op_isN (pv 0) pe_non (nomark _)) (pv 1) (pv 0))))
    pss_nil)
    (pss_one (ps_ret (pe_callB (call_min2 rfl) (by rfl) T.m_min (by decide +kernel) (pa_cons (pv 0) (pa_cons (pv 1) pa_nil)))))), ?_⟩
    cases a with
    | none => exact ⟨_, rfl, rfl, _, rfl, iteT (iteT ⟨_, rfl, rfl, _, rfl, iteT ⟨_, rfl, q⟩⟩)⟩
    | some x =>
      refine ⟨_, rfl, rfl, _, rfl, iteF ?_⟩
      cases b with
      | none => exact ⟨_, rfl, rfl, _, rfl, iteT ⟨_, rfl, rfl, _, rfl, iteF ⟨_, rfl, q⟩⟩⟩
      | some y =>
        refine ⟨_, rfl, rfl, _, rfl, iteF ⟨_, rfl, _, rfl, x, y, rfl, ?_⟩⟩
        show Q (V.int (if y < x then y else x)) H
        rw [show (if y < x then y else x) = min x y by rw [Int.min_def]; split <;> split <;> omega]
        exact q
def sp_lesser_at : Sp := fun vs H Q _ => ∃ (o o2 : Addr) (xs ys : List (Option Int)) (s t : Option Int) (m k : Int) (n : Nat), vs = [.ref o, .ref o2, .int n] ∧ RunH H o xs s m ∧ RunH H o2 ys t k ∧ Dr xs s m ∧ Dr ys t k ∧ n < 2 ^ 190 ∧ Q (ov (lesO (valR xs s m n) (valR ys t k n))) H
theorem c_law_lesser_at (T : Txt K mg E_InvalidRun E_TooMany E_CountError) : C8.Cal P w K mg base 2 "_law_lesser_at" sp_lesser_at [] := by
  refine calF T.d_law_lesser_at sc_law_lesser_at (fun vs H Q E h => ?_) (fun f cdv A outer z H vs Q E hr h => ?_)
  · obtain ⟨_, _, _, _, _, _, _, _, _, rfl, _⟩ := h; rfl
  · obtain ⟨o, o2, xs, ys, s, t, m, k, n, rfl, r1, r2, b1, b2, hn, q⟩ := h
    refine ⟨_, (pss_one (ps_ret (C8.pe_c (c_law_lesser T) hr (by decide) (by rfl) (pa_cons (C8.pe_c (c_law_value T) hr (by decide) (by rfl) (pa_cons (pv 0) (pa_cons (pv 2) pa_nil))) (pa_cons (C8.pe_c (c_law_value T) hr (by decide) (by rfl) (pa_cons (pv 1) (pa_cons (pv 2) pa_nil))) pa_nil))))), ?_⟩
    exact ⟨_, rfl, _, rfl, o, xs, s, m, n, rfl, r1, by omega, Nat.lt_of_lt_of_le b1.sl (by decide), by have := b1.len; omega, _, rfl, _, rfl, o2, ys, t, k, n, rfl, r2, by omega, Nat.lt_of_lt_of_le b2.sl (by decide), by have := b2.len; omega, _, _, rfl, q⟩
def sp_lslope : Sp := fun vs H Q _ => ∃ (o o2 : Addr) (xs ys : List (Option Int)) (s t : Option Int) (m k : Int), vs = [.ref o, .ref o2] ∧ RunH H o xs s m ∧ RunH H o2 ys t k ∧ Q (.int (slS s m t k)) H
theorem c_law_slope (T : Txt K mg E_InvalidRun E_TooMany E_CountError) : C8.Cal P w K mg base 1 "_law_slope" sp_lslope [] := by
  refine calF T.d_law_slope sc_law_slope (fun vs H Q E h => ?_) (fun f cdv A outer z H vs Q E hr h => ?_)
  · obtain ⟨_, _, _, _, _, _, _, _, rfl, _⟩ := h; rfl
  · obtain ⟨o, o2, xs, ys, s, t, m, k, rfl, ⟨l1, h1, _⟩, ⟨l2, h2, _⟩, q⟩ := h
    refine ⟨_, (pss_cons (ps_if (PW.pt (pw_or (pt_cmpR op_isN (pe_ix ix_tup (pv 0) pe_int (fun _ _ => rfl)) pe_non (nomark _)) (pw_or1 (pt_cmpR op_isN (pe_ix ix_tup (pv 1) pe_int (fun _ _ => rfl)) pe_non (nomark _)))))
    (pss_one (ps_ret (pe_ifExp (pt_cmpR op_isN (pe_ix ix_tup (pv 0) pe_int (fun _ _ => rfl)) pe_non (nomark _)) (pe_ix ix_tup (pv 1) pe_int (fun _ _ => rfl)) (pe_ix ix_tup (pv 0) pe_int (fun _ _ => rfl)))))
    pss_nil)
    (pss_one (ps_ret (pe_callB (call_min2 rfl) (by rfl) T.m_min (by decide +kernel) (pa_cons (pe_ix ix_tup (pv 0) pe_int (fun _ _ => rfl)) (pa_cons (pe_ix ix_tup (pv 1) pe_int (fun _ _ => rfl)) pa_nil)))))), ?_⟩
    refine ⟨_, rfl, o, _, 1, ov s, rfl, rfl, .inl (.inl h1), rfl, rfl, _, rfl, ?_⟩
    cases s with
    | none => exact iteT (iteT ⟨_, rfl, o, _, 1, ov none, rfl, rfl, .inl (.inl h1), rfl, rfl, _, rfl, iteT ⟨_, rfl, o2, _, 2, .int k, rfl, rfl, .inl (.inl h2), rfl, q⟩⟩)
    | some x =>
      refine iteF ⟨_, rfl, o2, _, 1, ov t, rfl, rfl, .inl (.inl h2), rfl, rfl, _, rfl, ?_⟩
      cases t with
      | none => exact iteT ⟨_, rfl, o, _, 1, ov (some x), rfl, rfl, .inl (.inl h1), rfl, rfl, _, rfl, iteF ⟨_, rfl, o, _, 2, .int m, rfl, rfl, .inl (.inl h1), rfl, q⟩⟩
      | some y =>
        refine iteF ⟨_, rfl, o, _, 2, .int m, rfl, rfl, .inl (.inl h1), rfl, _, rfl, o2, _, 2, .int k, rfl, rfl, .inl (.inl h2), rfl, m, k, rfl, ?_⟩
        show Q (V.int (if k < m then k else m)) H
        rw [show (if k < m then k else m) = min m k by rw [Int.min_def]; split <;> split <;> omega]
        exact q
def sp_ending : Sp := fun vs H Q _ => ∃ (o o2 : Addr) (xs ys : List (Option Int)) (s t : Option Int) (m k : Int) (e g : Nat), vs = [.ref o, .ref o2, .int e, .int g] ∧ RunH H o xs s m ∧ RunH H o2 ys t k ∧ Dr xs s m ∧ Dr ys t k ∧ e < 2 ^ 150 ∧ g < 2 ^ 150 ∧
  EndG (fun i => lesO (valR xs s m i) (valR ys t k i)) (slS s m t k) e ∧ ∀ H', Same H H' → Q (.bl true) H'
theorem c_law_ending_good (T : Txt K mg E_InvalidRun E_TooMany E_CountError) : CalG P w K mg base 3 "_law_ending_good" sp_ending := by
  refine calG T.d_law_ending_good sc_law_ending_good (fun vs H Q E h => ?_) (fun f cdv A outer z H vs Q E hr gd h => ?_)
  · obtain ⟨_, _, _, _, _, _, _, _, _, _, rfl, _⟩ := h; rfl
  · obtain ⟨o, o2, xs, ys, s, t, m, k, e, g, rfl, r1, r2, b1, b2, he, hg, ⟨eg1, eg2⟩, q⟩ := h
    refine ⟨_, (pss_cons (ps_par (i := 4) (j := 5) (by rfl) sc_law_ending_good.nd rfl rfl (by decide) rfl rfl (pa_cons (C8.pe_c (c_law_slope T) hr (by decide) (by rfl) (pa_cons (pv 0) (pa_cons (pv 1) pa_nil))) (pa_cons (C8.pe_c (c_law_lesser_at T) hr (by decide) (by rfl) (pa_cons (pv 0) (pa_cons (pv 1) (pa_cons (pv 2) pa_nil)))) pa_nil)) (by rfl))
    (pss_cons (ps_for PassesOwn.never rfl (pi_list (pe_lst (pa_cons pe_int (pa_cons pe_int (pa_cons (pv 3) pa_nil))))) (pg_name (i := 6) sc_law_ending_good.nd rfl (Or.inl rfl))
    (pss_cons (ps_set (i := 7) sc_law_ending_good.nd rfl (Or.inl rfl) (pe_ifExp (pt_cmpR op_isN (pv 5) pe_non (nomark _)) pe_non (pe_op op_add (pv 5) (pe_op op_mulW (pv 4) (pv 6)))))
    (pss_one (ps_if (pt_cmpR op_ne (pe_callB (call_reprF hr gd) (by rfl) T.m_repr (by decide +kernel) (pa_cons (C8.pe_c (c_law_lesser_at T) hr (by decide) (by rfl) (pa_cons (pv 0) (pa_cons (pv 1) (pa_cons (pe_op op_add (pv 2) (pv 6)) pa_nil)))) pa_nil)) (pe_callB (call_reprF hr gd) (by rfl) T.m_repr (by decide +kernel) (pa_cons (pv 7) pa_nil)) (nomark _))
    (pss_one (ps_ret pe_bl))
    pss_nil))))
    (pss_cons (ps_if (pt_cmpR op_eq (pv 2) pe_int (nomark _))
    (pss_one (ps_ret pe_bl))
    pss_nil)
    (pss_one (ps_ret (pe_cmpR op_ne (pe_callB (call_reprF hr gd) (by rfl) T.m_repr (by decide +kernel) (pa_cons (C8.pe_c (c_law_lesser_at T) hr (by decide) (by rfl) (pa_cons (pv 0) (pa_cons (pv 1) (pa_cons (pe_op op_sub (pv 2) pe_int) pa_nil)))) pa_nil)) (pe_callB (call_reprF hr gd) (by rfl) T.m_repr (by decide +kernel) (pa_cons (C8.pe_c (c_law_back T) hr (by decide) (by rfl) (pa_cons (pv 5) (pa_cons (pv 4) pa_nil))) pa_nil)) (nomark _))))))), ?_⟩
    refine ⟨_, rfl, _, rfl, o, o2, xs, ys, s, t, m, k, rfl, r1, r2, _, rfl, _, rfl, _, rfl, o, o2, xs, ys, s, t, m, k, e, rfl, r1, r2, b1, b2, by omega, _, _, rfl, ?_⟩
    dsimp only at eg1 eg2
    have slb : (slS s m t k).natAbs < 2 ^ 71 := by
      have a1 := b1.sl
      have a2 := b2.sl
      cases s with
      | none => exact a2
      | some x => cases t with
        | none => exact a1
        | some y =>
          show (min m k).natAbs < _
          rw [Int.min_def]
          split <;> assumption
    have fv : ∀ i, i < 2 ^ 190 → Fine (dO (lesO (valR xs s m i) (valR ys t k i))) := fun i hi => fine_big (les_nw (val_big b1 hi) (val_big b2 hi))
    generalize slS s m t k = sl at eg1 eg2 slb
    refine ⟨_, rfl, by show 3 ≤ sizeLine; decide, fun p np => ?_⟩
    have z1 := sameNew (o := .lst [.int 1, .int 2, .int (g : Nat)]) np
    have hp : upd H p (.lst [.int 1, .int 2, .int (g : Nat)]) p = some (.lst [.int 1, .int 2, .int (g : Nat)]) := upd_same
    generalize upd H p (.lst [.int 1, .int 2, .int (g : Nat)]) = H1 at z1 hp ⊢
    obtain ⟨lw, hlw⟩ : ∃ lw, lw = lesO (valR xs s m e) (valR ys t k e) := ⟨_, rfl⟩
    rw [← hlw] at eg1 eg2 ⊢
    refine ⟨p, rfl, ⟨_, .inl (.inl hp)⟩, for_list (K := K) (D := { nx := _, rt := Q, bk := fun _ _ => False, ct := fun _ _ => False }) (a := p) (xs := [.int 1, .int 2, .int (g : Nat)]) (fun i σ H' => H' = H1 ∧ ∃ y6 y7, σ = [some (.ref o), some (.ref o2), some (.int e), some (.int g), some (.int sl), some (ov lw), y6, y7]) ⟨rfl, none, none, rfl⟩ (fun i σ H' _ p => .inl (.inl (by rw [p.1]; exact hp))) (fun i v σ H' hi p => ?_) (fun σ H' p => ?_)⟩
    · obtain ⟨rfl, y6, y7, rfl⟩ := p
      obtain ⟨d, rfl, hd⟩ : ∃ d : Nat, v = .int d ∧ d < 2 ^ 150 := by
        rcases i with _ | _ | _ | i
        · exact ⟨1, (Option.some.inj hi).symm, by decide⟩
        · exact ⟨2, (Option.some.inj hi).symm, by decide⟩
        · exact ⟨g, (Option.some.inj hi).symm, hg⟩
        · cases hi
      have ev := eg1 d
      have fd := fv (e + d) (by omega)
      rw [ev] at fd
      have fin : ∀ X : Option V, True := fun _ => True.intro
      have eI : [V.ref o, V.ref o2, V.int ((e : Int) + (d : Int))] ++ [] = [V.ref o, V.ref o2, V.int ((e + d : Nat) : Int)] := by rw [Int.natCast_add]; rfl
      refine ⟨_, rfl, rfl, _, rfl, ?_⟩
      cases lw with
      | none =>
        refine iteT ?_
        refine ⟨_, rfl, _, rfl, _, rfl, _, rfl, (e : Int), (d : Int), rfl, rfl, o, o2, xs, ys, s, t, m, k, e + d, eI, r1.same z1, r2.same z1, b1, b2, by omega, ?_⟩
        rw [ev]
        exact ⟨_, _, rfl, dp_ov _, fd, _, rfl, _, _, rfl, .non, fd, rfl, false, congrArg V.bl (ne_no _), iteF ⟨rfl, _, _, rfl⟩⟩
      | some i =>
        refine iteF ⟨_, rfl, _, rfl, _, rfl, sl, (d : Int), rfl, rfl, wide_mul (show sl.natAbs < 2 ^ 100 by omega) (show ((d : Nat) : Int).natAbs < 2 ^ 150 by omega) (by decide) (by decide) (by decide), i, _, rfl, rfl, ?_⟩
        refine ⟨_, rfl, _, rfl, _, rfl, _, rfl, (e : Int), (d : Int), rfl, rfl, o, o2, xs, ys, s, t, m, k, e + d, eI, r1.same z1, r2.same z1, b1, b2, by omega, ?_⟩
        rw [ev]
        exact ⟨_, _, rfl, dp_ov _, fd, _, rfl, _, _, rfl, dp_ov (some (i + sl * (d : Int))), fd, rfl, false, congrArg V.bl (ne_no _), iteF ⟨rfl, _, _, rfl⟩⟩
    · obtain ⟨rfl, y6, y7, rfl⟩ := p
      refine ⟨_, rfl, rfl, _, rfl, ?_⟩
      by_cases e0 : e = 0
      · rw [decide_eq_true (show V.int (e : Int) = V.int 0 by rw [e0]; rfl)]
        exact iteT (q _ z1)
      · rw [decide_eq_false (fun z => e0 (by have := V.int.inj z; omega))]
        have ne := eg2.resolve_left e0
        refine iteF ⟨_, rfl, _, rfl, _, rfl, (e : Int), 1, rfl, rfl, o, o2, xs, ys, s, t, m, k, e - 1, by show [V.ref o, V.ref o2, V.int ((e : Int) - 1)] ++ [] = _; rw [show (e : Int) - 1 = ((e - 1 : Nat) : Int) by omega]; rfl, r1.same z1, r2.same z1, b1, b2, by omega, _, _, rfl, dp_ov _, fv _ (by omega), _, rfl, _, rfl, lw, sl, rfl, _, _, rfl, dp_ov _, ?_, rfl, ?_⟩
        · have w0 : Nw lw 1000 := by rw [hlw]; exact les_nw (val_big b1 (by omega)) (val_big b2 (by omega))
          cases lw with
          | none => exact fine_big (s := none) (fun i h => nomatch h)
          | some i =>
            have := w0 i rfl
            refine fine_of (d := .int (i - sl)) (decide_eq_true ?_) (by simp [PyData.depth]) (by show 1923 ≤ 16000000; decide)
            have h1 : 2 ^ 1000 + 2 ^ 71 < 2 ^ 1900 := by decide +kernel
            generalize 2 ^ 1000 = A0 at this h1
            generalize 2 ^ 71 = B0 at slb h1
            generalize 2 ^ 1900 = C0 at h1 ⊢
            omega
        · rw [shown_dec, decide_eq_false ne]
          exact q _ z1
end
end K47

set_option Elab.async false
set_option linter.all false
set_option maxRecDepth 100000
set_option maxHeartbeats 4000000
set_option exponentiation.threshold 3000
namespace K47
open PySem PySem.Spec PyProof.Rows L2 CK
theorem sum_nw {a b : Option Int} {n : Nat} (h1 : Nw a n) (h2 : Nw b n) : Nw (sumO a b) (n + 1) := by
  cases a with
  | none => exact fun i e => nomatch e
  | some x => cases b with
    | none => exact fun i e => nomatch e
    | some y =>
      intro i e
      have e : some (x + y) = some i := e
      cases e
      have := h1 x rfl
      have := h2 y rfl
      have : 2 ^ (n + 1) = 2 ^ n + 2 ^ n := by rw [Nat.pow_succ]; omega
      omega
theorem fine_wide {s : Option Int} (h : Nw s 1800) : Fine (dO s) := by
  have ok : okD (dO s) = true ∧ bndD (dO s) ≤ 1923 := by
    cases s with
    | none => exact ⟨rfl, by decide⟩
    | some i => exact ⟨decide_eq_true (Nat.lt_of_lt_of_le (h i rfl) (Nat.pow_le_pow_right (by decide) (by decide))), Nat.le_refl _⟩
  exact fine_of ok.1 (by cases s <;> simp [dO, PyData.depth]) (by have := ok.2; omega)
/-- a run that is got: within bounds -/
structure Got (us : List (Option Int)) (u : Option Int) (j : Int) : Prop where
  len : us.length ≤ 600
  it : ∀ x ∈ us, Nw x 140
  st : Nw u 140
  sl : j.natAbs < 2 ^ 80
theorem Got.fine {us : List (Option Int)} {u : Option Int} {j : Int} (b : Got us u j) : Fine (dRun us u j) := fine_run (fun x h => (b.it x h).mono (by decide)) (by have := b.len; omega) (b.st.mono (by decide)) (Nat.lt_of_lt_of_le b.sl (by decide))
theorem shrR_got {zs : List (Option Int)} {s0 : Option Int} {m0 : Int} (hl : zs.length ≤ 600) (hz : ∀ x ∈ zs, Nw x 140) (h0 : Nw s0 140) (hm : m0.natAbs < 2 ^ 80) : Got (shrR zs s0 m0).1 (shrR zs s0 m0).2.1 (shrR zs s0 m0).2.2 := by
  refine ⟨?_, fun x hx => hz x (List.mem_of_mem_take hx), shr_nw m0 zs hz _ _ h0, hm⟩
  show (zs.take _).length ≤ 600
  rw [List.length_take]
  omega
theorem sumR_got {xs ys : List (Option Int)} {s t : Option Int} {m k : Int} (b1 : Dr xs s m) (b2 : Dr ys t k) : Got (sumR xs s m ys t k).1 (sumR xs s m ys t k).2.1 (sumR xs s m ys t k).2.2 := by
  have l1 := b1.len
  have l2 := b2.len
  have w : ∀ i, i ≤ 1000 → Nw (sumO (valR xs s m i) (valR ys t k i)) 140 := fun i hi => (sum_nw (val_near b1 hi) (val_near b2 hi)).mono (by decide)
  unfold sumR
  refine shrR_got (by unfold sumL; rw [map_len]; omega) (fun x hx => ?_) (w _ (by omega)) ?_
  · unfold sumL at hx
    obtain ⟨i, hi, rfl⟩ := List.mem_map.mp hx
    have := List.mem_range.mp hi
    exact w i (by omega)
  · have a1 := b1.sl
    have a2 := b2.sl
    generalize sumO (valR xs s m (max xs.length ys.length)) (valR ys t k (max xs.length ys.length)) = w0
    cases w0 with
    | none => show (0 : Int).natAbs < 2 ^ 80; decide
    | some i => show (m + k).natAbs < 2 ^ 80; omega
theorem sumR_least (xs : List (Option Int)) (s : Option Int) (m : Int) (ys : List (Option Int)) (t : Option Int) (k : Int) : isLeast (sumR xs s m ys t k).1 (sumR xs s m ys t k).2.1 (sumR xs s m ys t k).2.2 = true :=
  shrR_least _ _ _ (fun e => by rw [e]; rfl)
theorem sumR_len (xs : List (Option Int)) (s : Option Int) (m : Int) (ys : List (Option Int)) (t : Option Int) (k : Int) : (sumR xs s m ys t k).1.length ≤ max xs.length ys.length := by
  unfold sumR shrR
  show (List.take _ _).length ≤ _
  rw [List.length_take]
  unfold sumL
  rw [map_len]
  omega
section
variable {P : Program} {w : World} {K : PySem.W.Frag} {mg : Str → Option Value} {base : Heap} {E_InvalidRun E_TooMany E_CountError : Addr}
def sp_sum_good : Sp := fun vs H Q _ => ∃ (o o2 : Addr) (xs ys : List (Option Int)) (s t : Option Int) (m k : Int) (g : Nat), vs = [.ref o, .ref o2, .int g] ∧ RunH H o xs s m ∧ RunH H o2 ys t k ∧ Dr xs s m ∧ Dr ys t k ∧ isLeast xs s m = true ∧ isLeast ys t k = true ∧ g < 2 ^ 150 ∧ ∀ H', Same H H' → Q (.bl true) H'
theorem c_law_sum_good (T : Txt K mg E_InvalidRun E_TooMany E_CountError) : CalG P w K mg base 7 "_law_sum_good" sp_sum_good := by
  refine calG T.d_law_sum_good sc_law_sum_good (fun vs H Q E h => ?_) (fun f cdv A outer z H vs Q E hr gd h => ?_)
  · obtain ⟨_, _, _, _, _, _, _, _, _, rfl, _⟩ := h; rfl
  · obtain ⟨o, o2, xs, ys, s, t, m, k, g, rfl, r1, r2, b1, b2, i1, i2, hg, q⟩ := h
    refine ⟨_, (pss_cons (ps_set (i := 3) sc_law_sum_good.nd rfl (Or.inl rfl) (pe_lst (pa_cons (pe_callB (call_reprF hr gd) (by rfl) T.m_repr (by decide +kernel) (pa_cons (pv 0) pa_nil)) (pa_cons (pe_callB (call_reprF hr gd) (by rfl) T.m_repr (by decide +kernel) (pa_cons (pv 1) pa_nil)) pa_nil))))
    (pss_cons (ps_set (i := 4) sc_law_sum_good.nd rfl (Or.inl rfl) (C8.pe_c (c_run_sum T) hr (by decide) (by rfl) (pa_cons (pv 0) (pa_cons (pv 1) pa_nil))))
    (pss_cons (ps_if (PW.pt (pw_or (pt_cmpR (op_neSame hr.units) (pe_lst (pa_cons (pe_callB (call_reprF hr gd) (by rfl) T.m_repr (by decide +kernel) (pa_cons (pv 0) pa_nil)) (pa_cons (pe_callB (call_reprF hr gd) (by rfl) T.m_repr (by decide +kernel) (pa_cons (pv 1) pa_nil)) pa_nil))) (pv 3) (nomark _)) (pw_or (pt_not (pt_val (C8.pe_c (c_law_is_least T) hr (by decide) (by rfl) (pa_cons (pv 4) pa_nil)))) (pw_or1 (pt_cmpR op_ne (pe_callB (call_reprF hr gd) (by rfl) T.m_repr (by decide +kernel) (pa_cons (C8.pe_c (c_run_sum T) hr (by decide) (by rfl) (pa_cons (pv 1) (pa_cons (pv 0) pa_nil))) pa_nil)) (pe_callB (call_reprF hr gd) (by rfl) T.m_repr (by decide +kernel) (pa_cons (pv 4) pa_nil)) (nomark _))))))
    (pss_one (ps_ret pe_bl))
    pss_nil)
    (pss_cons (ps_set (i := 5) sc_law_sum_good.nd rfl (Or.inl rfl) (pe_callB (call_max2 rfl) (by rfl) T.m_max (by decide +kernel) (pa_cons (pe_callB call_len_seq (by rfl) T.m_len (by decide +kernel) (pa_cons (pe_ix ix_tup (pv 0) pe_int (fun _ _ => rfl)) pa_nil)) (pa_cons (pe_callB call_len_seq (by rfl) T.m_len (by decide +kernel) (pa_cons (pe_ix ix_tup (pv 1) pe_int (fun _ _ => rfl)) pa_nil)) pa_nil))))
    (pss_cons (ps_for PassesOwn.never rfl (pi_list (pe_op op_cat (pe_listRg rfl (by rfl) T.m_list (prg_1 (by rfl) T.m_range (pe_op op_add (pv 5) pe_int))) (pe_lst (pa_cons (pv 2) pa_nil)))) (pg_name (i := 6) sc_law_sum_good.nd rfl (Or.inl rfl))
    (pss_cons (ps_set (i := 7) sc_law_sum_good.nd rfl (Or.inl rfl) (C8.pe_c (c_law_sum T) hr (by decide) (by rfl) (pa_cons (C8.pe_c (c_law_value T) hr (by decide) (by rfl) (pa_cons (pv 0) (pa_cons (pv 6) pa_nil))) (pa_cons (C8.pe_c (c_law_value T) hr (by decide) (by rfl) (pa_cons (pv 1) (pa_cons (pv 6) pa_nil))) pa_nil))))
    (pss_one (ps_if (pt_cmpR op_ne (pe_callB (call_reprF hr gd) (by rfl) T.m_repr (by decide +kernel) (pa_cons (C8.pe_c (c_law_value T) hr (by decide) (by rfl) (pa_cons (pv 4) (pa_cons (pv 6) pa_nil))) pa_nil)) (pe_callB (call_reprF hr gd) (by rfl) T.m_repr (by decide +kernel) (pa_cons (pv 7) pa_nil)) (nomark _))
    (pss_one (ps_ret pe_bl))
    pss_nil))))
    (pss_cons (ps_expr (pe_bm PySem.F.plainAttrs_list PySem.F.slot_list_append PySem.F.type_list_append mt_append (pe_ix ix_tup (pv 4) pe_int (fun _ _ => rfl)) (pa_cons pe_int pa_nil)))
    (pss_one (ps_ret (pe_and (pe_cmpR op_le (pe_callB call_len_seq (by rfl) T.m_len (by decide +kernel) (pa_cons (pe_ix ix_tup (pv 4) pe_int (fun _ _ => rfl)) pa_nil)) (pe_op op_add (pv 5) pe_int) (nomark _)) (pe_one (pe_cmpR (op_eqD hr.units) (pe_lst (pa_cons (pe_callB (call_reprF hr gd) (by rfl) T.m_repr (by decide +kernel) (pa_cons (pv 0) pa_nil)) (pa_cons (pe_callB (call_reprF hr gd) (by rfl) T.m_repr (by decide +kernel) (pa_cons (pv 1) pa_nil)) pa_nil))) (pv 3) (nomark _)))))))))))), ?_⟩
    have l1 : xs.length ≤ 1000 := by have := b1.len; omega
    have l2 : ys.length ≤ 1000 := by have := b2.len; omega
    have sm1 := smd_run xs s m l1
    have sm2 := smd_run ys t k l2
    have ir1 : isRunD (dRun xs s m) = true := by rw [isRun_least _ _ _ b1.h0]; exact i1
    have ir2 : isRunD (dRun ys t k) = true := by rw [isRun_least _ _ _ b2.h0]; exact i2
    refine ⟨_, rfl, _, _, rfl, r1.dp, b1.fine, _, rfl, _, _, rfl, r2.dp, b2.fine, by show 2 ≤ sizeLine; decide, fun lg nlg => ?_⟩
    have s1 := sameNew (o := .lst [.str (dRun xs s m).shown, .str (dRun ys t k).shown]) nlg
    have hg1 : upd H lg (.lst [.str (dRun xs s m).shown, .str (dRun ys t k).shown]) lg = some (.lst [.str (dRun xs s m).shown, .str (dRun ys t k).shown]) := upd_same
    generalize upd H lg (.lst [.str (dRun xs s m).shown, .str (dRun ys t k).shown]) = H1 at s1 hg1
    refine ⟨_, rfl, _, rfl, _, _, _, _, rfl, (r1.same s1).dp, sm1, (r2.same s1).dp, sm2, .inr (.inr ⟨ir1, ir2, o, o2, xs, ys, s, t, m, k, rfl, rfl, r1.same s1, r2.same s1, b1.bd, b2.bd, fun r l H2 us u j s2 nr nl eR hr2 hl2 => ?_⟩)⟩
    have GB := sumR_got b1 b2
    have LS := sumR_least xs s m ys t k
    have LN := sumR_len xs s m ys t k
    have VL := sumR_val xs s m ys t k
    rw [eR] at GB LS LN VL
    have GB : Got us u j := GB
    have LS : isLeast us u j = true := LS
    have LN : us.length ≤ max xs.length ys.length := LN
    have VL : ∀ i, valR us u j i = sumO (valR xs s m i) (valR ys t k i) := VL
    have s12 := s1.trans s2
    have r12 := r1.same s12
    have r22 := r2.same s12
    refine ⟨_, rfl, _, _, rfl, r12.dp, b1.fine, _, rfl, _, _, rfl, r22.dp, b2.fine, by show 2 ≤ sizeLine; decide, fun p np => ?_⟩
    have sp := sameNew (o := .lst [.str (dRun xs s m).shown, .str (dRun ys t k).shown]) np
    have hp3 : upd H2 p (.lst [.str (dRun xs s m).shown, .str (dRun ys t k).shown]) p = some (.lst [.str (dRun xs s m).shown, .str (dRun ys t k).shown]) := upd_same
    generalize upd H2 p (.lst [.str (dRun xs s m).shown, .str (dRun ys t k).shown]) = H3 at sp hp3
    have s13 := s12.trans sp
    have hr3 := sp _ _ hr2
    have hl3 := sp _ _ hl2
    have dl : ∀ {H' : Hp} {a : Addr}, H' a = some (.lst [.str (dRun xs s m).shown, .str (dRun ys t k).shown]) → Dp K H' (.ref a) (.list [.str (dRun xs s m).shown, .str (dRun ys t k).shown]) := fun h => .lst (.inl (.inl h)) (.cons (.str _) (.cons (.str _) .nil))
    have shT := shaped_texts (ok_run xs s m) (ok_run ys t k)
    refine ⟨_, rfl, _, dl hp3, dl (sp _ _ (s2 _ _ hg1)), shT, false, rfl, iteF ?_⟩
    refine ⟨_, rfl, r, us, u, j, rfl, ⟨l, hr3, hl3⟩, by have := GB.len; omega, fun H4 s4 => ⟨_, rfl, ?_⟩⟩
    rw [LS]
    have s14 := s13.trans s4
    refine iteF ⟨_, rfl, _, rfl, .ref o2, .ref o, dRun ys t k, dRun xs s m, rfl, (r2.same s14).dp, sm2, (r1.same s14).dp, sm1, .inr (.inr ⟨ir2, ir1, o2, o, ys, xs, t, s, k, m, rfl, rfl, r2.same s14, r1.same s14, b2.bd, b1.bd, fun r' l' H5 us' u' j' s5 nr' nl' eR' hr5 hl5 => ?_⟩)⟩
    rw [sumR_comm, eR] at eR'
    cases eR'
    have s15 := s14.trans s5
    have hr5' := s5 _ _ (s4 _ _ hr3)
    have hl5' := s5 _ _ (s4 _ _ hl3)
    have fG := GB.fine
    have rf : RunH H5 r us u j := ⟨l, hr5', hl5'⟩
    refine ⟨_, _, rfl, RunH.dp ⟨l', hr5, hl5⟩, fG, _, rfl, _, _, rfl, rf.dp, fG, rfl, false, congrArg V.bl (ne_no _), iteF ?_⟩
    obtain ⟨z1, h1, h1'⟩ := id (r1.same s15)
    obtain ⟨z2, h2, h2'⟩ := id (r2.same s15)
    have hg5 := s5 _ _ (s4 _ _ (sp _ _ (s2 _ _ hg1)))
    refine ⟨_, rfl, o, _, 0, .ref z1, rfl, rfl, .inl (.inl h1), rfl, z1, _, rfl, .inl (.inl (.inl h1')), _, rfl, o2, _, 0, .ref z2, rfl, rfl, .inl (.inl h2), rfl, z2, _, rfl, .inl (.inl (.inl h2')), _, _, rfl, ?_⟩
    rw [List.length_map, List.length_map]
    have e : (if ((ys.length : Nat) : Int) > ((xs.length : Nat) : Int) then ((ys.length : Nat) : Int) else ((xs.length : Nat) : Int)) = ((max xs.length ys.length : Nat) : Int) := by
      split <;> omega
    rw [e]
    obtain ⟨mx, hmx⟩ : ∃ mx, mx = max xs.length ys.length := ⟨_, rfl⟩
    have mx20 : mx ≤ 20 := by have := b1.len; have := b2.len; omega
    rw [← hmx] at LN ⊢
    refine ⟨_, rfl, (mx : Int), 5, rfl, rfl, _, rfl, RgOk.of_le (Int.le_refl _) (by omega) (by decide) (by omega), fun p1 np1 => ?_⟩
    have lrg : (rgV 0 ((mx : Int) + 5)).length = mx + 5 := by rw [rgV_length]; omega
    have t1 := sameNew (o := .lst (rgV 0 ((mx : Int) + 5))) np1
    have hp1 : upd H5 p1 (.lst (rgV 0 ((mx : Int) + 5))) p1 = some (.lst (rgV 0 ((mx : Int) + 5))) := upd_same
    generalize upd H5 p1 (.lst (rgV 0 ((mx : Int) + 5))) = J1 at t1 hp1 ⊢
    refine ⟨_, rfl, by show 1 ≤ sizeLine; decide, fun p3 np3 => ?_⟩
    have t4 := sameNew (o := .lst [.int (g : Nat)]) np3
    have hp3' : upd J1 p3 (.lst [.int (g : Nat)]) p3 = some (.lst [.int (g : Nat)]) := upd_same
    generalize upd J1 p3 (.lst [.int (g : Nat)]) = J4 at t4 hp3' ⊢
    refine ⟨p1, p3, _, _, rfl, rfl, t4 _ _ hp1, hp3', by rw [lrg, sizeLine_eq]; show mx + 5 + 1 ≤ _; omega, fun p4 np4 => ?_⟩
    have t5 := sameNew (o := .lst (rgV 0 ((mx : Int) + 5) ++ [.int (g : Nat)])) np4
    have hp4 : upd J4 p4 (.lst (rgV 0 ((mx : Int) + 5) ++ [.int (g : Nat)])) p4 = some (.lst (rgV 0 ((mx : Int) + 5) ++ [.int (g : Nat)])) := upd_same
    generalize upd J4 p4 (.lst (rgV 0 ((mx : Int) + 5) ++ [.int (g : Nat)])) = J5 at t5 hp4 ⊢
    have t15 := t1.trans (t4.trans t5)
    have sJ := s15.trans t15
    have hr6 := t15 _ _ hr5'
    have hl6 := t15 _ _ hl5'
    have hg6 := t15 _ _ hg5
    have rf6 := rf.same t15
    refine ⟨p4, rfl, ⟨_, .inl (.inl hp4)⟩, for_list (K := K) (D := { nx := _, rt := Q, bk := fun _ _ => False, ct := fun _ _ => False }) (a := p4) (xs := rgV 0 ((mx : Int) + 5) ++ [.int (g : Nat)]) (fun i σ H' => H' = J5 ∧ ∃ y6 y7, σ = [some (.ref o), some (.ref o2), some (.int g), some (.ref lg), some (.ref r), some (.int mx), y6, y7]) ⟨rfl, none, none, rfl⟩ (fun i σ H' _ p => .inl (.inl (by rw [p.1]; exact hp4))) (fun i v σ H' hi p => ?_) (fun σ H' p => ?_)⟩
    · obtain ⟨rfl, y6, y7, rfl⟩ := p
      obtain ⟨iz, rfl, hz⟩ : ∃ iz : Nat, v = .int iz ∧ iz < 2 ^ 150 := by
        have hm := List.mem_of_getElem? hi
        rcases List.mem_append.mp hm with hm | hm
        · unfold rgV at hm
          obtain ⟨i, hi', rfl⟩ := List.mem_map.mp hm
          have := List.mem_range.mp hi'
          exact ⟨i, by rw [Int.zero_add], by omega⟩
        · exact ⟨g, List.mem_singleton.mp hm, hg⟩
      have ev := VL iz
      have fv : Fine (dO (sumO (valR xs s m iz) (valR ys t k iz))) := fine_wide ((sum_nw (val_big b1 (by omega)) (val_big b2 (by omega))).mono (by decide))
      refine ⟨_, rfl, _, rfl, o, xs, s, m, iz, rfl, r1.same sJ, by omega, Nat.lt_of_lt_of_le b1.sl (by decide), l1, _, rfl, _, rfl, o2, ys, t, k, iz, rfl, r2.same sJ, by omega, Nat.lt_of_lt_of_le b2.sl (by decide), l2, _, _, rfl, ?_⟩
      refine ⟨_, rfl, _, rfl, r, us, u, j, iz, rfl, rf6, by omega, Nat.lt_of_lt_of_le GB.sl (by decide), by have := GB.len; omega, ?_⟩
      rw [ev]
      exact ⟨_, _, rfl, dp_ov _, fv, _, rfl, _, _, rfl, dp_ov _, fv, rfl, false, congrArg V.bl (ne_no _), iteF ⟨rfl, _, _, rfl⟩⟩
    · obtain ⟨rfl, y6, y7, rfl⟩ := p
      refine ⟨_, rfl, r, _, 0, .ref l, rfl, rfl, .inl (.inl hr6), rfl, .inl ⟨rfl, _, .inl (.inl hl6)⟩, l, _, _, rfl, rfl, hl6, by rw [List.length_map, sizeLine_eq]; have := GB.len; omega, ?_⟩
      have nlH : H l = none := none_back s1 nl
      have keep : Same H (upd H' l (.lst (us.map ov ++ [.int 7]))) := fun b o e => (upd_ne (fun z => by rw [z, nlH] at e; cases e)).trans (sJ _ _ e)
      have rl : r ≠ l := fun z => by rw [z, hl6] at hr6; cases hr6
      have nlg : lg ≠ l := fun z => by rw [← z, hg1] at nl; cases nl
      have hr7 := (upd_ne (o := .lst (us.map ov ++ [.int 7])) rl).trans hr6
      have hg7 := (upd_ne (o := .lst (us.map ov ++ [.int 7])) nlg).trans hg6
      have hl7 : upd H' l (.lst (us.map ov ++ [.int 7])) l = some (.lst (us.map ov ++ [.int 7])) := upd_same
      generalize upd H' l (.lst (us.map ov ++ [.int 7])) = J7 at keep hr7 hg7 hl7 ⊢
      refine ⟨_, rfl, r, _, 0, .ref l, rfl, rfl, .inl (.inl hr7), rfl, l, _, rfl, .inl (.inl (.inl hl7)), _, rfl, (mx : Int), 1, rfl, rfl, _, _, rfl, rfl, ?_⟩
      refine ⟨true, congrArg V.bl (decide_eq_true (by rw [List.length_append, List.length_map]; show ((us.length + 1 : Nat) : Int) ≤ _; omega)), iteT ⟨_, rfl, _, _, rfl, (r1.same keep).dp, b1.fine, _, rfl, _, _, rfl, (r2.same keep).dp, b2.fine, by show 2 ≤ sizeLine; decide, fun q1 nq1 => ?_⟩⟩
      have z8 := sameNew (o := .lst [.str (dRun xs s m).shown, .str (dRun ys t k).shown]) nq1
      refine ⟨_, rfl, _, _, dl upd_same, dl (z8 _ _ hg7), shT, shT, ?_⟩
      rw [SeqAt.eqv_refl _ (SeqAt.canLay_of_shaped shT)]
      exact q _ (keep.trans z8)
end
end K47

set_option Elab.async false
set_option linter.all false
set_option maxRecDepth 100000
set_option maxHeartbeats 4000000
/-! a held exception's field, with the fragment named: for a reading within the suite of a try -/
namespace CK
open PySem PySem.Spec PyProof.Rows L2
theorem pe_fldEK {X : Cx} {K : PySem.W.Frag} (hK : X.K = K) {e : Expr} {te : TE} {n : Str} {pos : Pos} (he : PE X e te) (hb : attributeBase e n X.env (eval e X.env) = eval e X.env := by rfl) :
    PE X (.Attribute e n pos) (fun σ H Q => te σ H fun x H1 => ∃ (a C d : Addr) (fs : List (Str × V)) (v : V), x = .ref a ∧ XfC K C ∧ PySem.W.findIn K (.ref C) n = some none ∧ H1 a = some (ExV a (.ref C) (some d)) ∧ H1 d = some (.xd fs) ∧ fs.lookup n = some v ∧ Q v H1) := by
  subst hK
  exact pe_fldE he hb
end CK

set_option Elab.async false
set_option linter.all false
set_option maxRecDepth 100000
set_option maxHeartbeats 4000000
set_option exponentiation.threshold 3000
namespace K47
open PySem PySem.Spec PyProof.Rows L2 CK
theorem slS_sl {xs ys : List (Option Int)} {s t : Option Int} {m k : Int} (b1 : Dr xs s m) (b2 : Dr ys t k) : (slS s m t k).natAbs < 2 ^ 71 := by
  have a1 := b1.sl
  have a2 := b2.sl
  cases s with
  | none => exact a2
  | some x => cases t with
    | none => exact a1
    | some y =>
      show (min m k).natAbs < _
      rw [Int.min_def]
      split <;> assumption
theorem lesR_got {xs ys : List (Option Int)} {s t : Option Int} {m k : Int} (b1 : Dr xs s m) (b2 : Dr ys t k) (hS : sinR xs s m ys t k ≤ 600) : Got (lesR xs s m ys t k).1 (lesR xs s m ys t k).2.1 (lesR xs s m ys t k).2.2 := by
  have w : ∀ i, i ≤ 1000 → Nw (lesO (valR xs s m i) (valR ys t k i)) 140 := fun i hi => (les_nw (val_near b1 hi) (val_near b2 hi)).mono (by decide)
  unfold lesR
  refine shrR_got (by unfold lesL; rw [map_len]; omega) (fun x hx => ?_) (w _ (by omega)) ?_
  · unfold lesL at hx
    obtain ⟨i, hi, rfl⟩ := List.mem_map.mp hx
    have := List.mem_range.mp hi
    exact w i (by omega)
  · rw [slS_L (by omega) (by omega) b2.h0]
    have := slS_sl b1 b2
    omega
theorem lesR_least {xs ys : List (Option Int)} {s t : Option Int} {m k : Int} (hs : s = none → m = 0) (ht : t = none → k = 0) : isLeast (lesR xs s m ys t k).1 (lesR xs s m ys t k).2.1 (lesR xs s m ys t k).2.2 = true := by
  unfold lesR
  refine shrR_least _ _ _ (fun e => ?_)
  obtain ⟨l, _⟩ := les_line hs ht (xs := xs) (ys := ys) _ rfl
  rw [e] at l
  -- behind since all is none, so both are none far on
  have e0 := l 0
  rw [Nat.add_zero] at e0
  rw [slS_L (by omega) (by omega) ht]
  generalize hS : sinR xs s m ys t k = S at e
  have ge : max xs.length ys.length ≤ S := by
    have := sin_ge (valR xs s m (max xs.length ys.length)) m (valR ys t k (max xs.length ys.length)) k (max xs.length ys.length)
    unfold sinR at hS
    omega
  rw [valR_line _ _ _ _ (by omega), valR_line _ _ _ _ (by omega)] at e
  cases s with
  | none => cases t with
    | none => exact ht rfl
    | some y => cases e
  | some x => cases t with
    | none => cases e
    | some y => cases e
theorem lesR_len (xs : List (Option Int)) (s : Option Int) (m : Int) (ys : List (Option Int)) (t : Option Int) (k : Int) : (lesR xs s m ys t k).1.length ≤ sinR xs s m ys t k := by
  unfold lesR shrR
  show (List.take _ _).length ≤ _
  rw [List.length_take]
  unfold lesL
  rw [map_len]
  omega
/-- since isn't great -/
theorem sinR_small {xs ys : List (Option Int)} {s t : Option Int} {m k : Int} (b1 : Dr xs s m) (b2 : Dr ys t k) : sinR xs s m ys t k < 2 ^ 140 := by
  have one : ∀ (x y c d : Int) (n : Nat), n ≤ 20 → c < d → x.natAbs < 2 ^ 130 → y.natAbs < 2 ^ 130 → (sinA (some x) c (some y) d n).toNat < 2 ^ 140 := fun x y c d n hn h hx hy => by
    show (if x ≤ y then (n : Int) else n + (x - y + (d - c) - 1).fdiv (d - c)).toNat < 2 ^ 140
    split
    · exact Nat.lt_of_le_of_lt (show ((n : Nat) : Int).toNat ≤ 20 from hn) (by decide)
    · have c2 := (ceil_spec (c := d - c) (z := x - y) (by omega)).2
      have d1 : 2 ^ 130 + 2 ^ 130 + 100 < 2 ^ 140 := by decide +kernel
      generalize (x - y + (d - c) - 1).fdiv (d - c) = q at c2 ⊢
      by_cases q1 : q - 1 < 0
      · exact Nat.lt_of_le_of_lt (show ((n : Int) + q).toNat ≤ 20 by omega) (by decide)
      · have : 1 * (q - 1) ≤ (d - c) * (q - 1) := Int.mul_le_mul_of_nonneg_right (by omega) (by omega)
        rw [Int.one_mul] at this
        generalize (d - c) * (q - 1) = z at c2 this
        generalize 2 ^ 130 = B0 at hx hy d1
        generalize 2 ^ 140 = C0 at d1 ⊢
        omega
  have n20 : max xs.length ys.length ≤ 20 := by have := b1.len; have := b2.len; omega
  have wa := val_near b1 (show max xs.length ys.length ≤ 1000 by omega)
  have wb := val_near b2 (show max xs.length ys.length ≤ 1000 by omega)
  have small : (((max xs.length ys.length : Nat) : Int)).toNat < 2 ^ 140 := Nat.lt_of_le_of_lt (show (((max xs.length ys.length : Nat) : Int)).toNat ≤ 20 from n20) (by decide)
  unfold sinR
  generalize max xs.length ys.length = n at *
  generalize valR xs s m n = a at *
  generalize valR ys t k n = b at *
  cases a with
  | none => cases b <;> exact small
  | some x => cases b with
    | none => exact small
    | some y =>
      show (if m < k then sinA (some x) m (some y) k n else if k < m then sinA (some y) k (some x) m n else (n : Int)).toNat < 2 ^ 140
      split
      · exact one _ _ _ _ _ n20 (by assumption) (wa x rfl) (wb y rfl)
      · split
        · exact one _ _ _ _ _ n20 (by assumption) (wb y rfl) (wa x rfl)
        · exact small
abbrev GL (xs : List (Option Int)) (s : Option Int) (m : Int) (ys : List (Option Int)) (t : Option Int) (k : Int) : HO := .lst [.str (dRun xs s m).shown, .str (dRun ys t k).shown]
section
variable {P : Program} {w : World} {K : PySem.W.Frag} {mg : Str → Option Value} {base : Heap} {E_InvalidRun E_TooMany E_CountError : Addr}
theorem lg_tail (T : Txt K mg E_InvalidRun E_TooMany E_CountError) (f0 : Addr) (cdv : Value) (A : Around) (outer : List Env) (s0 : Shared) (H0 : Hp) (E : XK) (hr : Room 6 (A.deeper (envOfC "_law_lesser_good" (C8.fnScope (topS 39)) s0.heap.objs.size f0 cdv))) (gd : A.guards = some []) :
    ∃ u, PSs (cxOf C8.CX0 P w K mg base ["_law_one", "_law_other", "_law_great", "_law_given", "_law_many", "_law_found", "e", "_law_counts", "_law_number"] "_law_lesser_good" (C8.fnScope (topS 39)) f0 cdv A outer s0 H0 E).nox ((C8.fnBody (topS 39)).drop 2) u ∧
      ∀ (Dn : Ends) (HB H : Hp) (o o2 lg : Addr) (xs ys : List (Option Int)) (s t : Option Int) (m k : Int) (g : Nat) (y6 y7 y8 : Option V), RunH HB o xs s m → RunH HB o2 ys t k → Dr xs s m → Dr ys t k → isLeast xs s m = true → isLeast ys t k = true → g < 2 ^ 150 →
        HB lg = some (GL xs s m ys t k) → Same HB H → (∀ H', Same HB H' → Dn.rt (.bl true) H') →
        (∀ N : Nat, 600 < N → N < 2 ^ 150 → EndG (fun i => lesO (valR xs s m i) (valR ys t k i)) (slS s m t k) N → u Dn [some (.ref o), some (.ref o2), some (.int g), some (.ref lg), some (.int N), some .non, y6, y7, y8] H) ∧
        (∀ (r l : Addr) (us : List (Option Int)) (u' : Option Int) (j : Int), lesR xs s m ys t k = (us, u', j) → us.length ≤ 600 → sinR xs s m ys t k ≤ 600 → HB l = none → H r = some (.tup [.ref l, ov u', .int j]) → H l = some (.lst (us.map ov)) →
          u Dn [some (.ref o), some (.ref o2), some (.int g), some (.ref lg), some .non, some (.ref r), y6, y7, y8] H) := by
  refine ⟨_, (pss_cons (ps_if (pt_cmpR (op_neSame hr.units) (pe_lst (pa_cons (pe_callB (call_reprF hr gd) (by rfl) T.m_repr (by decide +kernel) (pa_cons (pv 0) pa_nil)) (pa_cons (pe_callB (call_reprF hr gd) (by rfl) T.m_repr (by decide +kernel) (pa_cons (pv 1) pa_nil)) pa_nil))) (pv 3) (nomark _))
    (pss_one (ps_ret pe_bl))
    pss_nil)
    (pss_cons (ps_if (pt_cmpR op_isN (pv 5) pe_non (nomark _))
    (pss_one (ps_ret (pe_and (C8.pe_c (c_law_whole T) hr (by decide) (by rfl) (pa_cons (pv 4) pa_nil)) (pe_and (pe_cmpR op_gt (pv 4) pe_int (nomark _)) (pe_one (pe_cG (c_law_ending_good T) hr gd (by decide) (by rfl) (pa_cons (pv 0) (pa_cons (pv 1) (pa_cons (pv 4) (pa_cons (pv 2) pa_nil))))))))))
    pss_nil)
    (pss_cons (ps_if (PW.pt (pw_or (pt_not (pt_val (C8.pe_c (c_law_is_least T) hr (by decide) (by rfl) (pa_cons (pv 5) pa_nil)))) (pw_or (pt_cmpR op_gt (pe_callB call_len_seq (by rfl) T.m_len (by decide +kernel) (pa_cons (pe_ix ix_tup (pv 5) pe_int (fun _ _ => rfl)) pa_nil)) pe_int (nomark _)) (pw_or1 (pt_not (pt_val (pe_cG (c_law_ending_good T) hr gd (by decide) (by rfl) (pa_cons (pv 0) (pa_cons (pv 1) (pa_cons (pe_callB call_len_seq (by rfl) T.m_len (by decide +kernel) (pa_cons (pe_ix ix_tup (pv 5) pe_int (fun _ _ => rfl)) pa_nil)) (pa_cons (pv 2) pa_nil)))))))))))
    (pss_one (ps_ret pe_bl))
    pss_nil)
    (pss_cons (ps_if (pt_cmpR op_ne (pe_callB (call_reprF hr gd) (by rfl) T.m_repr (by decide +kernel) (pa_cons (pe_cN (c_run_lesser_K_other_one T) hr (by decide) (by rfl) (pk_cons (pv 0) (pk_cons (pv 1) pk_nil))) pa_nil)) (pe_callB (call_reprF hr gd) (by rfl) T.m_repr (by decide +kernel) (pa_cons (pv 5) pa_nil)) (nomark _))
    (pss_one (ps_ret pe_bl))
    pss_nil)
    (pss_cons (ps_set (i := 7) sc_law_lesser_good.nd rfl (Or.inl rfl) (pe_op op_cat (pe_listRg rfl (by rfl) T.m_list (prg_1 (by rfl) T.m_range (pe_op op_add (pe_callB (call_max2 rfl) (by rfl) T.m_max (by decide +kernel) (pa_cons (pe_callB call_len_seq (by rfl) T.m_len (by decide +kernel) (pa_cons (pe_ix ix_tup (pv 0) pe_int (fun _ _ => rfl)) pa_nil)) (pa_cons (pe_callB call_len_seq (by rfl) T.m_len (by decide +kernel) (pa_cons (pe_ix ix_tup (pv 1) pe_int (fun _ _ => rfl)) pa_nil)) pa_nil))) pe_int))) (pe_lst (pa_cons (pe_callB (call_max2 rfl) (by rfl) T.m_max (by decide +kernel) (pa_cons (pe_op op_sub (pe_callB call_len_seq (by rfl) T.m_len (by decide +kernel) (pa_cons (pe_ix ix_tup (pv 5) pe_int (fun _ _ => rfl)) pa_nil)) pe_int) (pa_cons pe_int pa_nil))) (pa_cons (pe_op op_add (pe_callB call_len_seq (by rfl) T.m_len (by decide +kernel) (pa_cons (pe_ix ix_tup (pv 5) pe_int (fun _ _ => rfl)) pa_nil)) pe_int) (pa_cons (pv 2) pa_nil))))))
    (pss_cons (ps_for PassesOwn.never rfl (pi_list (pv 7)) (pg_name (i := 8) sc_law_lesser_good.nd rfl (Or.inl rfl))
    (pss_one (ps_if (pt_cmpR op_ne (pe_callB (call_reprF hr gd) (by rfl) T.m_repr (by decide +kernel) (pa_cons (C8.pe_c (c_law_value T) hr (by decide) (by rfl) (pa_cons (pv 5) (pa_cons (pv 8) pa_nil))) pa_nil)) (pe_callB (call_reprF hr gd) (by rfl) T.m_repr (by decide +kernel) (pa_cons (C8.pe_c (c_law_lesser_at T) hr (by decide) (by rfl) (pa_cons (pv 0) (pa_cons (pv 1) (pa_cons (pv 8) pa_nil)))) pa_nil)) (nomark _))
    (pss_one (ps_ret pe_bl))
    pss_nil)))
    (pss_cons (ps_expr (pe_bm PySem.F.plainAttrs_list PySem.F.slot_list_append PySem.F.type_list_append mt_append (pe_ix ix_tup (pv 5) pe_int (fun _ _ => rfl)) (pa_cons pe_int pa_nil)))
    (pss_one (ps_ret (pe_cmpR (op_eqD hr.units) (pe_lst (pa_cons (pe_callB (call_reprF hr gd) (by rfl) T.m_repr (by decide +kernel) (pa_cons (pv 0) pa_nil)) (pa_cons (pe_callB (call_reprF hr gd) (by rfl) T.m_repr (by decide +kernel) (pa_cons (pv 1) pa_nil)) pa_nil))) (pv 3) (nomark _))))))))))), ?_⟩
  intro Dn HB H o o2 lg xs ys s t m k g y6 y7 y8 r1 r2 b1 b2 i1 i2 hg hlg sB q
  have l1 : xs.length ≤ 1000 := by have := b1.len; omega
  have l2 : ys.length ≤ 1000 := by have := b2.len; omega
  have sm1 := smd_run xs s m l1
  have sm2 := smd_run ys t k l2
  have ir1 : isRunD (dRun xs s m) = true := by rw [isRun_least _ _ _ b1.h0]; exact i1
  have ir2 : isRunD (dRun ys t k) = true := by rw [isRun_least _ _ _ b2.h0]; exact i2
  have dl : ∀ {H' : Hp} {a : Addr}, H' a = some (GL xs s m ys t k) → Dp K H' (.ref a) (.list [.str (dRun xs s m).shown, .str (dRun ys t k).shown]) := fun h => .lst (.inl (.inl h)) (.cons (.str _) (.cons (.str _) .nil))
  have shT := shaped_texts (ok_run xs s m) (ok_run ys t k)
  refine ⟨fun N h6 hN eg => ?_, fun r l us u' j eR len hS nl hr0 hl0 => ?_⟩
  · refine ⟨_, rfl, _, _, rfl, (r1.same sB).dp, b1.fine, _, rfl, _, _, rfl, (r2.same sB).dp, b2.fine, by show 2 ≤ sizeLine; decide, fun p np => ?_⟩
    have sp := sameNew (o := GL xs s m ys t k) np
    have hp : upd H p (GL xs s m ys t k) p = some (GL xs s m ys t k) := upd_same
    generalize upd H p (GL xs s m ys t k) = H1 at sp hp
    refine ⟨_, rfl, _, dl hp, dl (sp _ _ (sB _ _ hlg)), shT, false, rfl, iteF ?_⟩
    refine ⟨_, rfl, rfl, _, rfl, iteT ?_⟩
    have r1' := (r1.same sB).same sp
    have r2' := (r2.same sB).same sp
    exact ⟨_, rfl, _, _, rfl, .int _, true, rfl, iteT ⟨_, rfl, (N : Int), 600, rfl, rfl, true, congrArg V.bl (decide_eq_true (by omega)), iteT ⟨_, rfl, _, rfl, _, rfl, _, rfl, o, o2, xs, ys, s, t, m, k, N, g, rfl, r1', r2', b1, b2, hN, hg, eg, fun H' s' => q H' ((sB.trans sp).trans s')⟩⟩⟩
  · refine ⟨_, rfl, _, _, rfl, (r1.same sB).dp, b1.fine, _, rfl, _, _, rfl, (r2.same sB).dp, b2.fine, by show 2 ≤ sizeLine; decide, fun p np => ?_⟩
    have sp := sameNew (o := GL xs s m ys t k) np
    have hp : upd H p (GL xs s m ys t k) p = some (GL xs s m ys t k) := upd_same
    generalize upd H p (GL xs s m ys t k) = H1 at sp hp
    refine ⟨_, rfl, _, dl hp, dl (sp _ _ (sB _ _ hlg)), shT, false, rfl, iteF ?_⟩
    refine ⟨_, rfl, rfl, _, rfl, iteF ?_⟩
    have GB := lesR_got b1 b2 hS
    have LS := lesR_least (xs := xs) (ys := ys) b1.h0 b2.h0
    have EG := end_les (xs := xs) (ys := ys) b1.h0 b2.h0
    have VL := fun i => lesR_val (xs := xs) (ys := ys) b1.h0 b2.h0 i
    rw [eR] at GB LS EG VL
    have GB : Got us u' j := GB
    have LS : isLeast us u' j = true := LS
    have EG : EndG (fun i => lesO (valR xs s m i) (valR ys t k i)) (slS s m t k) us.length := EG
    have VL : ∀ i, valR us u' j i = lesO (valR xs s m i) (valR ys t k i) := VL
    have s1 := sB.trans sp
    have hr1 := sp _ _ hr0
    have hl1 := sp _ _ hl0
    refine ⟨_, rfl, r, us, u', j, rfl, ⟨l, hr1, hl1⟩, by omega, fun H2 s2 => ⟨_, rfl, ?_⟩⟩
    rw [LS]
    have s02 := s1.trans s2
    have hr2 := s2 _ _ hr1
    have hl2 := s2 _ _ hl1
    refine iteF ⟨_, rfl, r, _, 0, .ref l, rfl, rfl, .inl (.inl hr2), rfl, l, _, rfl, .inl (.inl (.inl hl2)), _, 600, rfl, rfl, false, congrArg V.bl (decide_eq_false (by rw [List.length_map]; omega)), iteF ?_⟩
    refine ⟨_, rfl, _, rfl, _, rfl, r, _, 0, .ref l, rfl, rfl, .inl (.inl hr2), rfl, l, _, rfl, .inl (.inl (.inl hl2)), _, rfl, o, o2, xs, ys, s, t, m, k, us.length, g, by rw [List.length_map]; rfl, r1.same s02, r2.same s02, b1, b2, by omega, hg, EG, fun H3 s3 => ⟨true, rfl, iteF ?_⟩⟩
    have s03 := s02.trans s3
    have hr3 := s3 _ _ hr2
    have hl3 := s3 _ _ hl2
    refine ⟨_, rfl, _, rfl, rfl, rfl, .ref o2, .ref o, dRun ys t k, dRun xs s m, rfl, (r2.same s03).dp, sm2, (r1.same s03).dp, sm1, .inr (.inr ⟨ir2, ir1, o2, o, ys, xs, t, s, k, m, sinR xs s m ys t k, rfl, rfl, r2.same s03, r1.same s03, b2.bd, b1.bd, sinR_comm _ _ _ _ _ _, fun h => absurd h (by omega), fun _ h => absurd h (by rw [lesR_comm, eR]; show ¬600 < us.length; omega), fun _ _ r' l' H5 us' u2 j' s5 nr' nl' eR' hr5 hl5 => ?_⟩)⟩
    rw [lesR_comm, eR] at eR'
    cases eR'
    have s15 := s03.trans s5
    have hr5' := s5 _ _ hr3
    have hl5' := s5 _ _ hl3
    have fG := GB.fine
    have rf : RunH H5 r us u' j := ⟨l, hr5', hl5'⟩
    refine ⟨_, _, rfl, RunH.dp ⟨l', hr5, hl5⟩, fG, _, rfl, _, _, rfl, rf.dp, fG, rfl, false, congrArg V.bl (ne_no _), iteF ?_⟩
    obtain ⟨z1, h1, h1'⟩ := id (r1.same s15)
    obtain ⟨z2, h2, h2'⟩ := id (r2.same s15)
    have hg5 := s15 _ _ hlg
    refine ⟨_, rfl, o, _, 0, .ref z1, rfl, rfl, .inl (.inl h1), rfl, z1, _, rfl, .inl (.inl (.inl h1')), _, rfl, o2, _, 0, .ref z2, rfl, rfl, .inl (.inl h2), rfl, z2, _, rfl, .inl (.inl (.inl h2')), _, _, rfl, ?_⟩
    rw [List.length_map, List.length_map]
    have e : (if ((ys.length : Nat) : Int) > ((xs.length : Nat) : Int) then ((ys.length : Nat) : Int) else ((xs.length : Nat) : Int)) = ((max xs.length ys.length : Nat) : Int) := by
      split <;> omega
    rw [e]
    obtain ⟨mx, hmx⟩ : ∃ mx, mx = max xs.length ys.length := ⟨_, rfl⟩
    have mx20 : mx ≤ 20 := by have := b1.len; have := b2.len; omega
    rw [← hmx]
    refine ⟨(mx : Int), 5, rfl, rfl, _, rfl, RgOk.of_le (Int.le_refl _) (by omega) (by decide) (by omega), fun p1 np1 => ?_⟩
    have lrg : (rgV 0 ((mx : Int) + 5)).length = mx + 5 := by rw [rgV_length]; omega
    have t1 := sameNew (o := .lst (rgV 0 ((mx : Int) + 5))) np1
    have hp1 : upd H5 p1 (.lst (rgV 0 ((mx : Int) + 5))) p1 = some (.lst (rgV 0 ((mx : Int) + 5))) := upd_same
    generalize upd H5 p1 (.lst (rgV 0 ((mx : Int) + 5))) = J1 at t1 hp1 ⊢
    have hr6 := t1 _ _ hr5'
    have hl6 := t1 _ _ hl5'
    refine ⟨_, rfl, r, _, 0, .ref l, rfl, rfl, .inl (.inl hr6), rfl, l, _, rfl, .inl (.inl (.inl hl6)), _, 1, rfl, rfl, _, _, rfl, ?_⟩
    rw [List.length_map]
    have e2 : (if (0 : Int) > ((us.length : Nat) : Int) - 1 then (0 : Int) else ((us.length : Nat) : Int) - 1) = ((us.length - 1 : Nat) : Int) := by
      split <;> omega
    rw [e2]
    refine ⟨_, rfl, r, _, 0, .ref l, rfl, rfl, .inl (.inl hr6), rfl, l, _, rfl, .inl (.inl (.inl hl6)), _, 1, rfl, rfl, ?_⟩
    rw [List.length_map]
    obtain ⟨L3, hL3⟩ : ∃ L3 : List V, L3 = [.int ((us.length - 1 : Nat) : Int), .int (((us.length : Nat) : Int) + 1), .int (g : Nat)] := ⟨_, rfl⟩
    have l3 : L3.length = 3 := by rw [hL3]; rfl
    refine ⟨_, rfl, by show 3 ≤ sizeLine; decide, fun p3 np3 => ?_⟩
    rw [← hL3]
    have t4 := sameNew (o := .lst L3) np3
    have hp3' : upd J1 p3 (.lst L3) p3 = some (.lst L3) := upd_same
    generalize upd J1 p3 (.lst L3) = J4 at t4 hp3' ⊢
    refine ⟨p1, p3, _, _, rfl, rfl, t4 _ _ hp1, hp3', by rw [lrg, l3, sizeLine_eq]; omega, fun p4 np4 => ?_⟩
    have t5 := sameNew (o := .lst (rgV 0 ((mx : Int) + 5) ++ L3)) np4
    have hp4 : upd J4 p4 (.lst (rgV 0 ((mx : Int) + 5) ++ L3)) p4 = some (.lst (rgV 0 ((mx : Int) + 5) ++ L3)) := upd_same
    generalize upd J4 p4 (.lst (rgV 0 ((mx : Int) + 5) ++ L3)) = J5 at t5 hp4 ⊢
    have t15 := t1.trans (t4.trans t5)
    have sJ := s15.trans t15
    have hr7 := t15 _ _ hr5'
    have hl7 := t15 _ _ hl5'
    have hg6 := t15 _ _ hg5
    have rf6 := rf.same t15
    refine ⟨_, rfl, p4, rfl, ⟨_, .inl (.inl hp4)⟩, for_list (K := K) (D := { nx := _, rt := Dn.rt, bk := fun _ _ => False, ct := fun _ _ => False }) (a := p4) (xs := rgV 0 ((mx : Int) + 5) ++ L3) (fun i σ H' => H' = J5 ∧ ∃ y8, σ = [some (.ref o), some (.ref o2), some (.int g), some (.ref lg), some .non, some (.ref r), y6, some (.ref p4), y8]) ⟨rfl, y8, rfl⟩ (fun i σ H' _ p => .inl (.inl (by rw [p.1]; exact hp4))) (fun i v σ H' hi p => ?_) (fun σ H' p => ?_)⟩
    · obtain ⟨rfl, y8, rfl⟩ := p
      obtain ⟨iz, rfl, hz⟩ : ∃ iz : Nat, v = .int iz ∧ iz < 2 ^ 150 := by
        have hm := List.mem_of_getElem? hi
        rcases List.mem_append.mp hm with hm | hm
        · unfold rgV at hm
          obtain ⟨i, hi', rfl⟩ := List.mem_map.mp hm
          have := List.mem_range.mp hi'
          exact ⟨i, by rw [Int.zero_add], by omega⟩
        · rw [hL3] at hm
          rcases List.mem_cons.mp hm with rfl | hm
          · exact ⟨us.length - 1, rfl, by omega⟩
          · rcases List.mem_cons.mp hm with rfl | hm
            · exact ⟨us.length + 1, rfl, by omega⟩
            · exact ⟨g, List.mem_singleton.mp hm, hg⟩
      have ev := VL iz
      have fv : Fine (dO (lesO (valR xs s m iz) (valR ys t k iz))) := fine_big (les_nw (val_big b1 (by omega)) (val_big b2 (by omega)))
      refine ⟨_, rfl, _, rfl, r, us, u', j, iz, rfl, rf6, by omega, Nat.lt_of_lt_of_le GB.sl (by decide), by omega, ?_⟩
      rw [ev]
      refine ⟨_, _, rfl, dp_ov _, fv, ?_⟩
      exact ⟨_, rfl, _, rfl, _, rfl, o, o2, xs, ys, s, t, m, k, iz, rfl, r1.same sJ, r2.same sJ, b1, b2, by omega, _, _, rfl, dp_ov _, fv, rfl, false, congrArg V.bl (ne_no _), iteF ⟨rfl, _, rfl⟩⟩
    · obtain ⟨rfl, y8, rfl⟩ := p
      refine ⟨_, rfl, r, _, 0, .ref l, rfl, rfl, .inl (.inl hr7), rfl, .inl ⟨rfl, _, .inl (.inl hl7)⟩, l, _, _, rfl, rfl, hl7, by rw [List.length_map, sizeLine_eq]; omega, ?_⟩
      have keep : Same HB (upd H' l (.lst (us.map ov ++ [.int 7]))) := fun b o e => (upd_ne (fun z => by rw [z, nl] at e; cases e)).trans (sJ _ _ e)
      have nlg : lg ≠ l := fun z => by rw [z, nl] at hlg; cases hlg
      have hg7 := (upd_ne (o := .lst (us.map ov ++ [.int 7])) nlg).trans hg6
      generalize upd H' l (.lst (us.map ov ++ [.int 7])) = J7 at keep hg7 ⊢
      refine ⟨_, rfl, _, _, rfl, (r1.same keep).dp, b1.fine, _, rfl, _, _, rfl, (r2.same keep).dp, b2.fine, by show 2 ≤ sizeLine; decide, fun q1 nq1 => ?_⟩
      have z8 := sameNew (o := GL xs s m ys t k) nq1
      refine ⟨_, rfl, _, _, dl upd_same, dl (z8 _ _ hg7), shT, shT, ?_⟩
      rw [SeqAt.eqv_refl _ (SeqAt.canLay_of_shaped shT)]
      exact q _ (keep.trans z8)
def sp_lesser_good : Sp := fun vs H Q _ => ∃ (o o2 : Addr) (xs ys : List (Option Int)) (s t : Option Int) (m k : Int) (g : Nat), vs = [.ref o, .ref o2, .int g] ∧ RunH H o xs s m ∧ RunH H o2 ys t k ∧ Dr xs s m ∧ Dr ys t k ∧ isLeast xs s m = true ∧ isLeast ys t k = true ∧ g < 2 ^ 150 ∧ ∀ H', Same H H' → Q (.bl true) H'
theorem c_law_lesser_good (T : Txt K mg E_InvalidRun E_TooMany E_CountError) : CalG P w K mg base 7 "_law_lesser_good" sp_lesser_good := by
  refine calG T.d_law_lesser_good sc_law_lesser_good (fun vs H Q E h => ?_) (fun f cdv A outer z H vs Q E hr gd h => ?_)
  · obtain ⟨_, _, _, _, _, _, _, _, _, rfl, _⟩ := h; rfl
  · obtain ⟨o, o2, xs, ys, s, t, m, k, g, rfl, r1, r2, b1, b2, i1, i2, hg, q⟩ := h
    obtain ⟨u, hu, tail⟩ := lg_tail (P := P) (w := w) (base := base) T f cdv A outer z H E hr gd
    refine ⟨_, (pss_cons (ps_par3 (i := 3) (j := 4) (l := 5) (by rfl) sc_law_lesser_good.nd rfl rfl rfl (by decide) (by decide) (by decide) rfl rfl rfl (pa_cons (pe_lst (pa_cons (pe_callB (call_reprF hr gd) (by rfl) T.m_repr (by decide +kernel) (pa_cons (pv 0) pa_nil)) (pa_cons (pe_callB (call_reprF hr gd) (by rfl) T.m_repr (by decide +kernel) (pa_cons (pv 1) pa_nil)) pa_nil))) (pa_cons pe_non (pa_cons pe_non pa_nil))) (by rfl))
    (pss_cons (ps_try_keep (i := 6) rfl rfl sc_law_lesser_good.nd rfl rfl (by rfl) (by decide) T.x_TooMany.gC (fun W pn xe tk => (pss_one (ps_set (i := 5) sc_law_lesser_good.nd rfl (Or.inl rfl) (pe_x (x_run_lesser T) (tk) hr (by decide) (by rfl) (pa_cons (pv 0) (pa_cons (pv 1) pa_nil))))))
    (fun a pn => (pss_one (ps_set (i := 4) sc_law_lesser_good.nd rfl (Or.inl rfl) (pe_fldEK (K := K) rfl (pv 6))))))
    hu)), ?_⟩
    have l1 : xs.length ≤ 1000 := by have := b1.len; omega
    have l2 : ys.length ≤ 1000 := by have := b2.len; omega
    have sm1 := smd_run xs s m l1
    have sm2 := smd_run ys t k l2
    have ir1 : isRunD (dRun xs s m) = true := by rw [isRun_least _ _ _ b1.h0]; exact i1
    have ir2 : isRunD (dRun ys t k) = true := by rw [isRun_least _ _ _ b2.h0]; exact i2
    refine ⟨_, rfl, _, _, rfl, r1.dp, b1.fine, _, rfl, _, _, rfl, r2.dp, b2.fine, by show 2 ≤ sizeLine; decide, fun lg nlg => ?_⟩
    have s1 := sameNew (o := GL xs s m ys t k) nlg
    have hg1 : upd H lg (GL xs s m ys t k) lg = some (GL xs s m ys t k) := upd_same
    generalize upd H lg (GL xs s m ys t k) = H1 at s1 hg1
    have c1 := r1.same s1
    have c2 := r2.same s1
    have qq : ∀ H', Same H1 H' → Q (.bl true) H' := fun H' s' => q H' (s1.trans s')
    refine ⟨_, _, _, rfl, ?_⟩
    refine ⟨_, rfl, _, rfl, .ref o, .ref o2, dRun xs s m, dRun ys t k, rfl, c1.dp, sm1, c2.dp, sm2, .inr (.inr ⟨ir1, ir2, o, o2, xs, ys, s, t, m, k, sinR xs s m ys t k, rfl, rfl, c1, c2, b1.bd, b2.bd, rfl, fun h6 H2 x s2 ex => ?_, fun hS h6 H2 x s2 ex => ?_, fun hS len r l H2 us u' j s2 nr nl eR hr2 hl2 => ?_⟩)⟩
    · refine ⟨PySem.W.exm_ref T.x_TooMany.xf.exC T.x_TooMany.xf.hdC T.x_TooMany.ox.tyC T.x_TooMany.rf, fun a na => ?_⟩
      have sN := s2.trans (sameNew (o := ExV a (.ref E_TooMany) (some x)) na)
      have ea : upd H2 a (ExV a (.ref E_TooMany) (some x)) a = some (ExV a (.ref E_TooMany) (some x)) := upd_same
      have ex' := (upd_ne (o := ExV a (.ref E_TooMany) (some x)) (ne_of_none ex na)).trans ex
      refine ⟨_, rfl, a, _, x, _, _, rfl, T.x_TooMany.xf, T.x_TooMany.no, ea, ex', rfl, ?_⟩
      exact (tail { nx := fun x H' => Q V.non H', rt := Q } H1 _ o o2 lg xs ys s t m k g none none none c1 c2 b1 b2 i1 i2 hg hg1 sN qq).1 _ h6 (Nat.lt_trans (sinR_small b1 b2) (by decide)) (end_since b1.h0 b2.h0 rfl (by have := b1.len; have := b2.len; omega))
    · exact absurd h6 (by have := lesR_len xs s m ys t k; omega)
    · have len' : us.length ≤ 600 := by rw [eR] at len; exact len
      exact (tail { nx := fun x H' => Q V.non H', rt := Q } H1 H2 o o2 lg xs ys s t m k g none none none c1 c2 b1 b2 i1 i2 hg hg1 s2 qq).2 r l us u' j eR len' hS nl hr2 hl2
end
end K47

set_option Elab.async false
set_option linter.all false
set_option maxRecDepth 100000
set_option maxHeartbeats 4000000
set_option exponentiation.threshold 3000
namespace K47
open PySem PySem.Spec PyProof.Rows L2 CK
theorem tup_first {te : TE} {r : TA} {σ : L2.St} {H : Hp} {Q : V → Hp → Prop} (h : te σ H fun x H1 => r σ H1 fun xs H2 => (x :: xs).length ≤ sizeLine ∧ ∀ p : Addr, H2 p = none → Q (.ref p) (upd H2 p (.tup (x :: xs)))) : tTup (tCons te r) σ H Q := h
section
variable {P : Program} {w : World} {K : PySem.W.Frag} {mg : Str → Option Value} {base : Heap} {E_InvalidRun E_TooMany E_CountError : Addr}
def sp_crossing : Sp := fun vs H Q _ => ∃ (g : Addr) (n : Nat), vs = [.ref g] ∧ Gn (n + 400) H g ∧ ∀ (L o o2 : Addr) (xs ys : List (Option Int)) (s t : Option Int) (m k : Int) (H' : Hp), SameX g H H' → Gn n H' g → H' L = some (.lst [.ref o, .ref o2]) → RunH H' o xs s m → RunH H' o2 ys t k → Dr xs s m → Dr ys t k → Q (.ref L) H'
theorem c_law_crossing (T : Txt K mg E_InvalidRun E_TooMany E_CountError) : C8.Cal P w K mg base 5 "_law_crossing" sp_crossing [] := by
  refine calF T.d_law_crossing sc_law_crossing (fun vs H Q E h => ?_) (fun f cdv A outer z H vs Q E hr h => ?_)
  · obtain ⟨_, _, rfl, _⟩ := h; rfl
  · obtain ⟨g, n, rfl, G, q⟩ := h
    refine ⟨_, (pss_cons (ps_par (i := 1) (j := 2) (by rfl) sc_law_crossing.nd rfl rfl (by decide) rfl rfl (pa_cons (pe_op op_sub (C8.pe_c (c_law_random T) hr (by decide) (by rfl) (pa_cons (pv 0) (pa_cons pe_int pa_nil))) pe_int) (pa_cons (pe_op op_add (C8.pe_c (c_law_random T) hr (by decide) (by rfl) (pa_cons (pv 0) (pa_cons pe_int pa_nil))) pe_int) pa_nil)) (by rfl))
    (pss_cons (ps_set (i := 3) sc_law_crossing.nd rfl (Or.inl rfl) (C8.pe_c (c_law_random T) hr (by decide) (by rfl) (pa_cons (pv 0) (pa_cons pe_int pa_nil))))
    (pss_cons (ps_set (i := 4) sc_law_crossing.nd rfl (Or.inl rfl) (pe_tup (pa_cons (pe_lc (own := [("_law_turn", 5)]) (by rfl) sc_law_crossing.nd (pi_range1 (by rfl) T.m_range (pa_cons (C8.pe_c (c_law_random T) hr (by decide) (by rfl) (pa_cons (pv 0) (pa_cons pe_int pa_nil))) pa_nil)) (blkOk_by (N := ["_law_generator_here", "_law_flat", "_law_steep", "_law_far", "_law_one", "_law_turn", "_law_other"]) (sc := C8.fnScope (topS 41)) (own := [("_law_turn", 5)]) (by decide +kernel)) (fun _ _ _ _ _ => (pg_name (i := 5) sc_law_crossing.nd rfl (Or.inl rfl))) (fun _ _ _ _ _ => pts_nil) (fun _ _ _ _ _ => (C8.pe_c (c_law_worth T) hr (by decide) (by rfl) (pa_cons (pv 0) pa_nil)))) (pa_cons pe_int (pa_cons (pv 1) pa_nil)))))
    (pss_cons (ps_set (i := 6) sc_law_crossing.nd rfl (Or.inl rfl) (pe_tup (pa_cons (pe_lc (own := [("_law_turn", 5)]) (by rfl) sc_law_crossing.nd (pi_range1 (by rfl) T.m_range (pa_cons (C8.pe_c (c_law_random T) hr (by decide) (by rfl) (pa_cons (pv 0) (pa_cons pe_int pa_nil))) pa_nil)) (blkOk_by (N := ["_law_generator_here", "_law_flat", "_law_steep", "_law_far", "_law_one", "_law_turn", "_law_other"]) (sc := C8.fnScope (topS 41)) (own := [("_law_turn", 5)]) (by decide +kernel)) (fun _ _ _ _ _ => (pg_name (i := 5) sc_law_crossing.nd rfl (Or.inl rfl))) (fun _ _ _ _ _ => pts_nil) (fun _ _ _ _ _ => (C8.pe_c (c_law_worth T) hr (by decide) (by rfl) (pa_cons (pv 0) pa_nil)))) (pa_cons (pe_op op_sub pe_int (pe_op op_mulW (pv 3) (pv 2))) (pa_cons (pe_op op_add (pv 1) (pv 2)) pa_nil)))))
    (pss_one (ps_ret (pe_lst (pa_cons (pv 4) (pa_cons (pv 6) pa_nil))))))))), ?_⟩
    have first : ∀ (n2 : Nat) (Hx : Hp) (y1 y2 y3 y4 y5 y6 : Option V) (Qd : V → Hp → Prop), Gn (n2 + 20) Hx g → (∀ (D : Addr) (fs : List (Option Int)) (H' : Hp), SameX g Hx H' → Gn n2 H' g → Hx D = none → H' D = some (.lst (fs.map ov)) → fs.length ≤ 2 → (∀ x ∈ fs, Nw x 98) → Qd (.ref D) H') →
        (tLc (iRng1 (tCons (tCall sp_random [] C8.E0 (tCons (tVar 0) (tCons (tC (.int 3)) tNil))) tNil)) (gName 5) tYes (tCall sp_worth [] C8.E0 (tCons (tVar 0) tNil)) (List.map (fun x => x.snd) [(Str.ofString "_law_turn", 5)]) : TE) [some (.ref g), y1, y2, y3, y4, y5, y6] Hx Qd := fun n2 Hx y1 y2 y3 y4 y5 y6 Qd Gx k => by
      refine ⟨_, rfl, g, 3, n2 + 19, rfl, Gx, by decide, by decide, fun c H5 s5 G5 c0 c1 => ⟨c, rfl, by omega, by omega, fun D hD => ?_⟩⟩
      refine lcC_draw 2 (lo := 0) (g := g) (n := n2) (cnt := c.toNat) (fun v => ∃ w, v = ov w ∧ Nw w 98) (small1000 (by omega)) hD (G5.le (by omega)) (fun i H6 R hi s6 G6 q' => ?_) fun H7 ns s7 G7 hL hln hP => ?_
      · exact ⟨rfl, _, rfl, g, _, rfl, G6, fun y H8 s8 G8 wy => q' _ H8 s8 G8 ⟨y, rfl, wy⟩⟩
      · obtain ⟨fs, rfl, hfs⟩ := ovs_of hP
        rw [List.length_map] at hln
        exact k D fs H7 (s5.trans s7) G7 (backX s5 hD (Gn.ne G5 hD)) hL (by omega) hfs
    refine ⟨_, rfl, g, 5, n + 399, rfl, G, by decide, by decide, fun f1 H1 s1 G1 a0 a1 => ⟨f1, 2, rfl, rfl, _, rfl, g, 4, n + 398, rfl, G1, by decide, by decide, fun f2 H2 s2 G2 b0 b1 => ⟨f2, 1, rfl, rfl, _, _, rfl, ?_⟩⟩⟩
    refine ⟨_, rfl, g, 700, n + 397, rfl, G2, by decide, by decide, fun far H3 s3 G3 c0 c1 => ?_⟩
    dsimp only
    rw [gname_eq]
    refine seq_asg (tup_first (first (n + 200) H3 _ _ _ _ _ _ _ (G3.le (by omega)) fun D fs H4 s4 G4 nD hD lf wf => ?_))
    refine ⟨_, rfl, by show 3 ≤ sizeLine; decide, fun o no => ?_⟩
    have so := sameNew (o := .tup [.ref D, .int 5, .int (f1 - 2)]) no
    have ho : upd H4 o (.tup [.ref D, .int 5, .int (f1 - 2)]) o = some (.tup [.ref D, .int 5, .int (f1 - 2)]) := upd_same
    generalize upd H4 o (.tup [.ref D, .int 5, .int (f1 - 2)]) = H5 at so ho ⊢
    have G5 := G4.same so
    have hD5 := so _ _ hD
    refine seq_asg (tup_first (first (n + 100) H5 _ _ _ _ _ _ _ (G5.le (by omega)) fun D2 fs2 H6 s6 G6 nD2 hD2 lf2 wf2 => ?_))
    refine ⟨_, rfl, _, rfl, far, f2 + 1, rfl, rfl, wide_mul (show far.natAbs < 2 ^ 100 by omega) (show (f2 + 1).natAbs < 2 ^ 100 by omega) (by decide) (by decide) (by decide), _, _, rfl, rfl, _, rfl, _, rfl, _, _, rfl, rfl, by show 3 ≤ sizeLine; decide, fun o2 no2 => ?_⟩
    dsimp only at no2 ⊢
    have st2 := sameNew (o := .tup [.ref D2, .int (5 - far * (f2 + 1)), .int (f1 - 2 + (f2 + 1))]) no2
    have ho2 : upd H6 o2 (.tup [.ref D2, .int (5 - far * (f2 + 1)), .int (f1 - 2 + (f2 + 1))]) o2 = some (.tup [.ref D2, .int (5 - far * (f2 + 1)), .int (f1 - 2 + (f2 + 1))]) := upd_same
    generalize upd H6 o2 (.tup [.ref D2, .int (5 - far * (f2 + 1)), .int (f1 - 2 + (f2 + 1))]) = H7 at st2 ho2 ⊢
    refine ⟨_, rfl, _, rfl, by show 2 ≤ sizeLine; decide, fun L nL => ?_⟩
    have sL := sameNew (o := .lst [.ref o, .ref o2]) nL
    have og : o ≠ g := Gn.ne G4 no
    have Dg : D ≠ g := Gn.ne G3 nD
    have hb : (far * (f2 + 1)).natAbs ≤ 700 * 4 := by
      rw [Int.natAbs_mul]
      exact Nat.mul_le_mul (by omega) (by omega)
    refine q L o o2 fs fs2 (some 5) (some (5 - far * (f2 + 1))) (f1 - 2) (f1 - 2 + (f2 + 1)) _ ((s1.trans (s2.trans (s3.trans (s4.trans (.of so))))).trans (s6.trans (.of (st2.trans sL)))) ((G6.same (st2.trans sL)).le (by omega)) upd_same ⟨D, sL _ _ (st2 _ _ (s6 _ _ og ho)), sL _ _ (st2 _ _ (s6 _ _ Dg hD5))⟩ ⟨D2, sL _ _ ho2, sL _ _ (st2 _ _ hD2)⟩ ⟨by omega, fun x hx i e => Nat.lt_of_lt_of_le (wf x hx i e) (by decide), fun i e => ?_, by omega, fun e => nomatch e⟩ ⟨by omega, fun x hx i e => Nat.lt_of_lt_of_le (wf2 x hx i e) (by decide), fun i e => ?_, by omega, fun e => nomatch e⟩
    · cases e
      decide
    · cases e
      generalize far * (f2 + 1) = z at hb
      omega
end
end K47

set_option Elab.async false
set_option linter.all false
set_option maxRecDepth 100000
set_option maxHeartbeats 4000000
set_option exponentiation.threshold 3000
namespace K47
open PySem PySem.Spec PyProof.Rows L2 CK
section
variable {P : Program} {w : World} {K : PySem.W.Frag} {mg : Str → Option Value} {base : Heap} {E_InvalidRun E_TooMany E_CountError : Addr}
def sp_caught (K : PySem.W.Frag) : Sp := fun vs H Q _ => ∃ (wh : Int) (gl : Addr) (v1 v2 v : V) (d1 d2 d : PyData), vs = [.int wh, .ref gl] ∧ H gl = some (.lst [v1, v2]) ∧ Dp K H v1 d1 ∧ SmD d1 ∧ Dp K H v2 d2 ∧ SmD d2 ∧ ((isRunD d1 = false ∧ v = v1 ∧ d = d1) ∨ (isRunD d1 = true ∧ isRunD d2 = false ∧ v = v2 ∧ d = d2)) ∧ Fine d ∧
  ∀ H', Same H H' → Q (.str d.shown) H'
theorem c_law_caught (T : Txt K mg E_InvalidRun E_TooMany E_CountError) : CalG P w K mg base 7 "_law_caught" (sp_caught K) := by
  refine calG T.d_law_caught sc_law_caught (fun vs H Q E h => ?_) (fun f cdv A outer z H vs Q E hr gd h => ?_)
  · obtain ⟨_, _, _, _, _, _, _, _, rfl, _⟩ := h; rfl
  · obtain ⟨wh, gl, v1, v2, v, d1, d2, d, rfl, hgl, p1, sm1, p2, sm2, hc, fd, q⟩ := h
    refine ⟨_, (pss_cons (ps_set (i := 2) sc_law_caught.nd rfl (Or.inl rfl) pe_non)
    (pss_cons (ps_try_keep (i := 3) rfl rfl sc_law_caught.nd rfl rfl (by rfl) (by decide) T.x_CountError.gC (fun W pn xe tk => (pss_one (ps_if (pt_cmpR op_eq (pv 0) pe_int (nomark _))
    (pss_one (ps_expr (pe_x (x_run_sum T) (tk) hr (by decide) (by rfl) (pa_cons (pe_ix ix_listH (pv 1) pe_int (fun _ _ => rfl)) (pa_cons (pe_ix ix_listH (pv 1) pe_int (fun _ _ => rfl)) pa_nil)))))
    (pss_one (ps_expr (pe_x (x_run_lesser T) (tk) hr (by decide) (by rfl) (pa_cons (pe_ix ix_listH (pv 1) pe_int (fun _ _ => rfl)) (pa_cons (pe_ix ix_listH (pv 1) pe_int (fun _ _ => rfl)) pa_nil))))))))
    (fun a pn => (pss_one (ps_set (i := 2) sc_law_caught.nd rfl (Or.inl rfl) (pv 3)))))
    (pss_one (ps_ret (pe_ifExp (pt_val (pe_callB call_isE (by rfl) T.m_isinstance (by decide +kernel) (pa_cons (pv 2) (pa_cons (C8.pe_gc (v := .ref E_InvalidRun) (by rfl) ⟨_, T.x_InvalidRun.gC, rfl⟩) pa_nil)))) (pe_callB (call_reprF hr gd) (by rfl) T.m_repr (by decide +kernel) (pa_cons (pe_fldE (pv 2)) pa_nil)) pe_str))))), ?_⟩
    have fin : ∀ (σ : L2.St) (H' : Hp) (x a : Addr), σ = [some (.int wh), some (.ref gl), some (.ref a), none] → Same H H' → H' x = some (.xd [("value", v)]) → H' a = none →
        (tRet (tIf (tB (tCB (fun xs H Q => ∃ x c t u b, xs = [x, c] ∧ ClsV c u ∧ TyE K H x t ∧ PySem.W.kitOne K t u = some b ∧ Q (V.bl b) H) (tCons (tVar 2) (tCons (tC (V.ref E_InvalidRun)) tNil))))
          (tCB (fun xs H Q => ∃ v d, xs = [v] ∧ Dp K H v d ∧ Fine d ∧ Q (V.str d.shown) H) (tCons (fun σ H Q => tVar 2 σ H fun x H1 => ∃ a C d fs v, x = V.ref a ∧ XfC K C ∧ PySem.W.findIn K (Value.ref C) (Str.ofString "value") = some none ∧ H1 a = some (ExV a (Value.ref C) (some d)) ∧ H1 d = some (HO.xd fs) ∧ List.lookup (Str.ofString "value") fs = some v ∧ Q v H1) tNil))
          (tC (V.str (Str.ofString "none")))) : TS) { nx := fun _ H' => Q .non H', rt := Q } σ (upd H' a (ExV a (.ref E_InvalidRun) (some x))) := fun σ H' x a e s' ex na => by
      subst e
      have sN := s'.trans (sameNew (o := ExV a (.ref E_InvalidRun) (some x)) na)
      have ea : upd H' a (ExV a (.ref E_InvalidRun) (some x)) a = some (ExV a (.ref E_InvalidRun) (some x)) := upd_same
      have ex' := (upd_ne (o := ExV a (.ref E_InvalidRun) (some x)) (ne_of_none ex na)).trans ex
      have pv : Dp K (upd H' a (ExV a (.ref E_InvalidRun) (some x))) v d := dp_same sN _ _ (by rcases hc with ⟨_, rfl, rfl⟩ | ⟨_, _, rfl, rfl⟩ <;> assumption)
      refine ⟨_, rfl, _, _, _, _, true, rfl, .own _, .exc T.x_InvalidRun.xc T.x_InvalidRun.cl ea ex', kit_err T.x_InvalidRun T.s_InvalidRun_InvalidRun, _, rfl, iteT ?_⟩
      refine ⟨_, rfl, a, _, x, _, v, rfl, T.x_InvalidRun.xf, T.x_InvalidRun.no, ea, ex', rfl, v, d, rfl, pv, fd, q _ sN⟩
    refine ⟨_, rfl, rfl, _, rfl, ?_⟩
    by_cases e0 : wh = 0
    · rw [decide_eq_true (show V.int wh = V.int 0 by rw [e0])]
      refine iteT ⟨_, rfl, gl, _, 0, v1, rfl, rfl, hgl, rfl, _, rfl, gl, _, 1, v2, rfl, rfl, hgl, rfl, v1, v2, d1, d2, rfl, p1, sm1, p2, sm2, ?_⟩
      rcases hc with ⟨e1, rfl, rfl⟩ | ⟨e1, e2, rfl, rfl⟩
      · exact .inl ⟨e1, fun H' x s' ex => ⟨exm_err T.x_CountError T.s_InvalidRun_CountError, fun a na => ⟨_, rfl, fin _ H' x a rfl s' ex na⟩⟩⟩
      · exact .inr (.inl ⟨e1, e2, fun H' x s' ex => ⟨exm_err T.x_CountError T.s_InvalidRun_CountError, fun a na => ⟨_, rfl, fin _ H' x a rfl s' ex na⟩⟩⟩)
    · rw [decide_eq_false (show ¬V.int wh = V.int 0 from fun z => e0 (V.int.inj z))]
      refine iteF ⟨_, rfl, gl, _, 0, v1, rfl, rfl, hgl, rfl, _, rfl, gl, _, 1, v2, rfl, rfl, hgl, rfl, v1, v2, d1, d2, rfl, p1, sm1, p2, sm2, ?_⟩
      rcases hc with ⟨e1, rfl, rfl⟩ | ⟨e1, e2, rfl, rfl⟩
      · exact .inl ⟨e1, fun H' x s' ex => ⟨exm_err T.x_CountError T.s_InvalidRun_CountError, fun a na => ⟨_, rfl, fin _ H' x a rfl s' ex na⟩⟩⟩
      · exact .inr (.inl ⟨e1, e2, fun H' x s' ex => ⟨exm_err T.x_CountError T.s_InvalidRun_CountError, fun a na => ⟨_, rfl, fin _ H' x a rfl s' ex na⟩⟩⟩)
end
end K47

set_option Elab.async false
set_option linter.all false
set_option maxRecDepth 100000
set_option maxHeartbeats 2000000
/-! data that is written down: small, shown within bounds, by a test -/
namespace CK
open PySem PySem.Spec PyProof.Rows L2
def finB (d : PyData) : Bool := okD d && (decide (d.depth ≤ 60) && (decide (bndD d ≤ 16000000) && PyData.strOk d.shown))
theorem finB_ok {d : PyData} (h : finB d = true) : Fine d := by
  obtain ⟨a, h⟩ := Bool.and_eq_true_iff.mp h
  obtain ⟨b, h⟩ := Bool.and_eq_true_iff.mp h
  obtain ⟨c, _⟩ := Bool.and_eq_true_iff.mp h
  exact fine_of a (of_decide_eq_true b) (of_decide_eq_true c)
theorem finB_str {d : PyData} (h : finB d = true) : PyData.strOk d.shown = true := by
  obtain ⟨a, h⟩ := Bool.and_eq_true_iff.mp h
  obtain ⟨b, h⟩ := Bool.and_eq_true_iff.mp h
  exact (Bool.and_eq_true_iff.mp h).2
theorem dpAll_app {K : PySem.W.Frag} {H : Hp} {us : List V} {es : List PyData} : ∀ {vs : List V} {ds : List PyData}, DpAll K H vs ds → DpAll K H us es → DpAll K H (vs ++ us) (ds ++ es)
  | _, _, .nil, h => h
  | _, _, .cons a t, h => .cons a (dpAll_app t h)
theorem not_true {b : Bool} (h : (!b) = true) : b = false := by simpa using h
end CK

set_option Elab.async false
set_option linter.all false
set_option maxRecDepth 100000
set_option maxHeartbeats 8000000
set_option exponentiation.threshold 3000
namespace K47
open PySem PySem.Spec PyProof.Rows L2 CK
def smB : PyData → Bool
  | .tuple (.list ds :: _) => decide (ds.length ≤ 1000)
  | _ => true
theorem smB_ok {d : PyData} (h : smB d = true) : SmD d := fun ds b c e => by
  rw [e] at h
  exact of_decide_eq_true h
def drB (xs : List (Option Int)) (s : Option Int) (m : Int) : Bool := decide (xs.length ≤ 20) && (xs.all (fun x => match x with | none => true | some i => decide (i.natAbs < 2 ^ 120)) && ((match s with | none => decide (m = 0) | some i => decide (i.natAbs < 2 ^ 120)) && decide (m.natAbs < 2 ^ 71)))
theorem dr_ok {xs : List (Option Int)} {s : Option Int} {m : Int} (h : drB xs s m = true) : Dr xs s m := by
  obtain ⟨a, h⟩ := Bool.and_eq_true_iff.mp h
  obtain ⟨b, h⟩ := Bool.and_eq_true_iff.mp h
  obtain ⟨c, d⟩ := Bool.and_eq_true_iff.mp h
  refine ⟨of_decide_eq_true a, fun x hx i e => ?_, fun i e => ?_, of_decide_eq_true d, fun e => ?_⟩
  · have := List.all_eq_true.mp b x hx
    rw [e] at this
    exact of_decide_eq_true this
  · rw [e] at c
    exact of_decide_eq_true c
  · rw [e] at c
    exact of_decide_eq_true c
section
variable {P : Program} {w : World} {K : PySem.W.Frag} {mg : Str → Option Value} {base : Heap} {E_InvalidRun E_TooMany E_CountError : Addr}
theorem law_told (T : Txt K mg E_InvalidRun E_TooMany E_CountError) (f0 : Addr) (cdv : Value) (A : Around) (outer : List Env) (s0 : Shared) (H0 : Hp) (E : XK) (hr : Room 7 (A.deeper (envOfC "law" (C8.fnScope (topS 43)) s0.heap.objs.size f0 cdv))) (gd : A.guards = some []) :
    ∃ u, PSs (cxOf C8.CX0 P w K mg base ["_law_script", "_law_index", "_law_generator_here", "_law_pair", "_law_one", "_law_other", "_law_great", "_law_bad", "_law_which", "_law_told"] "law" (C8.fnScope (topS 43)) f0 cdv A outer s0 H0 E).nox ((C8.fnBody (topS 43)).drop 4) u ∧
      ∀ (Dn : Ends) (H : Hp) (v0 v1 v2 v3 v4 v5 v6 v7 v8 v9 : Option V), (∀ H', Dn.rt (.bl true) H') → u Dn [v0, v1, v2, v3, v4, v5, v6, v7, v8, v9] H := by
  refine ⟨_, (pss_cons (ps_set (i := 9) sc_law.nd rfl (Or.inl rfl) (pe_lst (pa_cons (C8.pe_c (c_run_sum T) hr (by decide) (by rfl) (pa_cons (pe_tup (pa_cons (pe_lst (pa_cons pe_int pa_nil)) (pa_cons pe_int (pa_cons pe_int pa_nil)))) (pa_cons (pe_tup (pa_cons (pe_lst pa_nil) (pa_cons pe_int (pa_cons pe_int pa_nil)))) pa_nil))) (pa_cons (pe_cN (c_run_sum_K_other_one T) hr (by decide) (by rfl) (pk_cons (pe_tup (pa_cons (pe_lst (pa_cons pe_non pa_nil)) (pa_cons pe_int (pa_cons pe_int pa_nil)))) (pk_cons (pe_tup (pa_cons (pe_lst pa_nil) (pa_cons pe_non (pa_cons pe_int pa_nil)))) pk_nil))) (pa_cons (C8.pe_c (c_run_lesser T) hr (by decide) (by rfl) (pa_cons (pe_tup (pa_cons (pe_lst pa_nil) (pa_cons pe_int (pa_cons pe_int pa_nil)))) (pa_cons (pe_tup (pa_cons (pe_lst pa_nil) (pa_cons pe_int (pa_cons pe_int pa_nil)))) pa_nil))) pa_nil)))))
    (pss_one (ps_ret (pe_cmpR op_eq (pe_callB (call_reprF hr gd) (by rfl) T.m_repr (by decide +kernel) (pa_cons (pv 9) pa_nil)) (pe_callB (call_reprF hr gd) (by rfl) T.m_repr (by decide +kernel) (pa_cons (pe_lst (pa_cons (pe_tup (pa_cons (pe_lst (pa_cons pe_int pa_nil)) (pa_cons pe_int (pa_cons pe_int pa_nil)))) (pa_cons (pe_tup (pa_cons (pe_lst pa_nil) (pa_cons pe_non (pa_cons pe_int pa_nil)))) (pa_cons (pe_tup (pa_cons (pe_lst (pa_cons pe_int (pa_cons pe_int (pa_cons pe_int pa_nil)))) (pa_cons pe_int (pa_cons pe_int pa_nil)))) pa_nil)))) pa_nil)) (nomark _))))), ?_⟩
  intro Dn H v0 v1 v2 v3 v4 v5 v6 v7 v8 v9 q
  have sB : Same H H := Same.refl _
  refine ⟨by show 1 ≤ sizeLine; decide, fun a1 n1 => ?_⟩
  have s1 := sameNew (o := .lst [(.int 1)]) n1
  have h1 : upd H a1 (.lst [(.int 1)]) a1 = some (.lst [(.int 1)]) := upd_same
  generalize upd H a1 (.lst [(.int 1)]) = H1 at s1 h1 ⊢
  replace sB := sB.trans s1
  have d_1 : Dp K H1 (.ref a1) (.list [(.int 1)]) := .lst (.inl (.inl h1)) (.cons (.int _) .nil)
  refine ⟨by show 3 ≤ sizeLine; decide, fun a2 n2 => ?_⟩
  have s2 := sameNew (o := .tup [(.ref a1), (.int 2), (.int 2)]) n2
  have h2 : upd H1 a2 (.tup [(.ref a1), (.int 2), (.int 2)]) a2 = some (.tup [(.ref a1), (.int 2), (.int 2)]) := upd_same
  generalize upd H1 a2 (.tup [(.ref a1), (.int 2), (.int 2)]) = H2 at s2 h2 ⊢
  replace d_1 := dp_same s2 _ _ d_1
  replace sB := sB.trans s2
  have d_2 : Dp K H2 (.ref a2) (.tuple [(.list [(.int 1)]), (.int 2), (.int 2)]) := .tup (.inl (.inl h2)) (.cons d_1 (.cons (.int _) (.cons (.int _) .nil)))
  replace h1 := s2 _ _ h1
  refine ⟨by show 0 ≤ sizeLine; decide, fun a3 n3 => ?_⟩
  have s3 := sameNew (o := .lst []) n3
  have h3 : upd H2 a3 (.lst []) a3 = some (.lst []) := upd_same
  generalize upd H2 a3 (.lst []) = H3 at s3 h3 ⊢
  replace d_2 := dp_same s3 _ _ d_2
  replace h2 := s3 _ _ h2
  replace h1 := s3 _ _ h1
  replace sB := sB.trans s3
  have d_3 : Dp K H3 (.ref a3) (.list []) := .lst (.inl (.inl h3)) .nil
  refine ⟨by show 3 ≤ sizeLine; decide, fun a4 n4 => ?_⟩
  have s4 := sameNew (o := .tup [(.ref a3), (.int 1), (.int 0)]) n4
  have h4 : upd H3 a4 (.tup [(.ref a3), (.int 1), (.int 0)]) a4 = some (.tup [(.ref a3), (.int 1), (.int 0)]) := upd_same
  generalize upd H3 a4 (.tup [(.ref a3), (.int 1), (.int 0)]) = H4 at s4 h4 ⊢
  replace d_2 := dp_same s4 _ _ d_2
  replace d_3 := dp_same s4 _ _ d_3
  replace h2 := s4 _ _ h2
  replace h1 := s4 _ _ h1
  replace sB := sB.trans s4
  have d_4 : Dp K H4 (.ref a4) (.tuple [(.list []), (.int 1), (.int 0)]) := .tup (.inl (.inl h4)) (.cons d_3 (.cons (.int _) (.cons (.int _) .nil)))
  replace h3 := s4 _ _ h3
  have mR0 : sumR ([(some (1))] : List (Option Int)) (some (2)) (2) ([] : List (Option Int)) (some (1)) (0) = (([(some (2))] : List (Option Int)), (some (3)), 2) := by decide +kernel
  refine ⟨.ref a2, .ref a4, _, _, rfl, d_2, smB_ok (by decide +kernel), d_4, smB_ok (by decide +kernel), .inr (.inr ⟨by decide +kernel, by decide +kernel, a2, a4, ([(some (1))] : List (Option Int)), ([] : List (Option Int)), (some (2)), (some (1)), 2, 0, rfl, rfl, ⟨a1, h2, h1⟩, ⟨a3, h4, h3⟩, (dr_ok (by decide +kernel)).bd, (dr_ok (by decide +kernel)).bd, fun r0 l0 R0 us0 u0 j0 sR0 nr0 nl0 e0 gr0 gl0 => ?_⟩)⟩
  rw [mR0] at e0
  cases e0
  have e_0 : Dp K R0 (.ref r0) (.tuple [(.list [(.int 2)]), (.int 3), (.int 2)]) := .tup (.inl (.inl gr0)) (.cons (.lst (.inl (.inl gl0)) (.cons (.int _) .nil)) (.cons (.int _) (.cons (.int _) .nil)))
  clear d_2 d_4 h1 h2 h3 h4
  replace sB := sB.trans sR0
  refine ⟨by show 1 ≤ sizeLine; decide, fun a5 n5 => ?_⟩
  have s5 := sameNew (o := .lst [.non]) n5
  have h5 : upd R0 a5 (.lst [.non]) a5 = some (.lst [.non]) := upd_same
  generalize upd R0 a5 (.lst [.non]) = H5 at s5 h5 ⊢
  replace e_0 := dp_same s5 _ _ e_0
  replace sB := sB.trans s5
  have d_5 : Dp K H5 (.ref a5) (.list [.none]) := .lst (.inl (.inl h5)) (.cons .non .nil)
  refine ⟨by show 3 ≤ sizeLine; decide, fun a6 n6 => ?_⟩
  have s6 := sameNew (o := .tup [(.ref a5), (.int 1), (.int 2)]) n6
  have h6 : upd H5 a6 (.tup [(.ref a5), (.int 1), (.int 2)]) a6 = some (.tup [(.ref a5), (.int 1), (.int 2)]) := upd_same
  generalize upd H5 a6 (.tup [(.ref a5), (.int 1), (.int 2)]) = H6 at s6 h6 ⊢
  replace e_0 := dp_same s6 _ _ e_0
  replace d_5 := dp_same s6 _ _ d_5
  replace sB := sB.trans s6
  have d_6 : Dp K H6 (.ref a6) (.tuple [(.list [.none]), (.int 1), (.int 2)]) := .tup (.inl (.inl h6)) (.cons d_5 (.cons (.int _) (.cons (.int _) .nil)))
  replace h5 := s6 _ _ h5
  refine ⟨by show 0 ≤ sizeLine; decide, fun a7 n7 => ?_⟩
  have s7 := sameNew (o := .lst []) n7
  have h7 : upd H6 a7 (.lst []) a7 = some (.lst []) := upd_same
  generalize upd H6 a7 (.lst []) = H7 at s7 h7 ⊢
  replace e_0 := dp_same s7 _ _ e_0
  replace d_6 := dp_same s7 _ _ d_6
  replace h6 := s7 _ _ h6
  replace h5 := s7 _ _ h5
  replace sB := sB.trans s7
  have d_7 : Dp K H7 (.ref a7) (.list []) := .lst (.inl (.inl h7)) .nil
  refine ⟨by show 3 ≤ sizeLine; decide, fun a8 n8 => ?_⟩
  have s8 := sameNew (o := .tup [(.ref a7), .non, (.int 0)]) n8
  have h8 : upd H7 a8 (.tup [(.ref a7), .non, (.int 0)]) a8 = some (.tup [(.ref a7), .non, (.int 0)]) := upd_same
  generalize upd H7 a8 (.tup [(.ref a7), .non, (.int 0)]) = H8 at s8 h8 ⊢
  replace e_0 := dp_same s8 _ _ e_0
  replace d_6 := dp_same s8 _ _ d_6
  replace d_7 := dp_same s8 _ _ d_7
  replace h6 := s8 _ _ h6
  replace h5 := s8 _ _ h5
  replace sB := sB.trans s8
  have d_8 : Dp K H8 (.ref a8) (.tuple [(.list []), .none, (.int 0)]) := .tup (.inl (.inl h8)) (.cons d_7 (.cons .non (.cons (.int _) .nil)))
  replace h7 := s8 _ _ h7
  have mR1 : sumR ([] : List (Option Int)) none (0) ([none] : List (Option Int)) (some (1)) (2) = (([] : List (Option Int)), none, 0) := by decide +kernel
  refine ⟨rfl, rfl, .ref a8, .ref a6, _, _, rfl, d_8, smB_ok (by decide +kernel), d_6, smB_ok (by decide +kernel), .inr (.inr ⟨by decide +kernel, by decide +kernel, a8, a6, ([] : List (Option Int)), ([none] : List (Option Int)), none, (some (1)), 0, 2, rfl, rfl, ⟨a7, h8, h7⟩, ⟨a5, h6, h5⟩, (dr_ok (by decide +kernel)).bd, (dr_ok (by decide +kernel)).bd, fun r1 l1 R1 us1 u1 j1 sR1 nr1 nl1 e1 gr1 gl1 => ?_⟩)⟩
  rw [mR1] at e1
  cases e1
  have e_1 : Dp K R1 (.ref r1) (.tuple [(.list []), .none, (.int 0)]) := .tup (.inl (.inl gr1)) (.cons (.lst (.inl (.inl gl1)) .nil) (.cons .non (.cons (.int _) .nil)))
  clear d_6 d_8 h5 h6 h7 h8
  replace e_0 := dp_same sR1 _ _ e_0
  replace sB := sB.trans sR1
  refine ⟨by show 0 ≤ sizeLine; decide, fun a9 n9 => ?_⟩
  have s9 := sameNew (o := .lst []) n9
  have h9 : upd R1 a9 (.lst []) a9 = some (.lst []) := upd_same
  generalize upd R1 a9 (.lst []) = H9 at s9 h9 ⊢
  replace e_0 := dp_same s9 _ _ e_0
  replace e_1 := dp_same s9 _ _ e_1
  replace sB := sB.trans s9
  have d_9 : Dp K H9 (.ref a9) (.list []) := .lst (.inl (.inl h9)) .nil
  refine ⟨by show 3 ≤ sizeLine; decide, fun a10 n10 => ?_⟩
  have s10 := sameNew (o := .tup [(.ref a9), (.int 0), (.int 2)]) n10
  have h10 : upd H9 a10 (.tup [(.ref a9), (.int 0), (.int 2)]) a10 = some (.tup [(.ref a9), (.int 0), (.int 2)]) := upd_same
  generalize upd H9 a10 (.tup [(.ref a9), (.int 0), (.int 2)]) = H10 at s10 h10 ⊢
  replace e_0 := dp_same s10 _ _ e_0
  replace e_1 := dp_same s10 _ _ e_1
  replace d_9 := dp_same s10 _ _ d_9
  replace sB := sB.trans s10
  have d_10 : Dp K H10 (.ref a10) (.tuple [(.list []), (.int 0), (.int 2)]) := .tup (.inl (.inl h10)) (.cons d_9 (.cons (.int _) (.cons (.int _) .nil)))
  replace h9 := s10 _ _ h9
  refine ⟨by show 0 ≤ sizeLine; decide, fun a11 n11 => ?_⟩
  have s11 := sameNew (o := .lst []) n11
  have h11 : upd H10 a11 (.lst []) a11 = some (.lst []) := upd_same
  generalize upd H10 a11 (.lst []) = H11 at s11 h11 ⊢
  replace e_0 := dp_same s11 _ _ e_0
  replace e_1 := dp_same s11 _ _ e_1
  replace d_10 := dp_same s11 _ _ d_10
  replace h10 := s11 _ _ h10
  replace h9 := s11 _ _ h9
  replace sB := sB.trans s11
  have d_11 : Dp K H11 (.ref a11) (.list []) := .lst (.inl (.inl h11)) .nil
  refine ⟨by show 3 ≤ sizeLine; decide, fun a12 n12 => ?_⟩
  have s12 := sameNew (o := .tup [(.ref a11), (.int 3), (.int 1)]) n12
  have h12 : upd H11 a12 (.tup [(.ref a11), (.int 3), (.int 1)]) a12 = some (.tup [(.ref a11), (.int 3), (.int 1)]) := upd_same
  generalize upd H11 a12 (.tup [(.ref a11), (.int 3), (.int 1)]) = H12 at s12 h12 ⊢
  replace e_0 := dp_same s12 _ _ e_0
  replace e_1 := dp_same s12 _ _ e_1
  replace d_10 := dp_same s12 _ _ d_10
  replace d_11 := dp_same s12 _ _ d_11
  replace h10 := s12 _ _ h10
  replace h9 := s12 _ _ h9
  replace sB := sB.trans s12
  have d_12 : Dp K H12 (.ref a12) (.tuple [(.list []), (.int 3), (.int 1)]) := .tup (.inl (.inl h12)) (.cons d_11 (.cons (.int _) (.cons (.int _) .nil)))
  replace h11 := s12 _ _ h11
  have mR2 : lesR ([] : List (Option Int)) (some (0)) (2) ([] : List (Option Int)) (some (3)) (1) = (([(some (0)), (some (2)), (some (4))] : List (Option Int)), (some (6)), 1) := by decide +kernel
  refine ⟨.ref a10, .ref a12, _, _, rfl, d_10, smB_ok (by decide +kernel), d_12, smB_ok (by decide +kernel), .inr (.inr ⟨by decide +kernel, by decide +kernel, a10, a12, ([] : List (Option Int)), ([] : List (Option Int)), (some (0)), (some (3)), 2, 1, _, rfl, rfl, ⟨a9, h10, h9⟩, ⟨a11, h12, h11⟩, (dr_ok (by decide +kernel)).bd, (dr_ok (by decide +kernel)).bd, rfl, fun h => absurd h (by decide +kernel), fun _ h => absurd h (by rw [mR2]; decide +kernel), fun _ _ r2 l2 R2 us2 u2 j2 sR2 nr2 nl2 e2 gr2 gl2 => ?_⟩)⟩
  rw [mR2] at e2
  cases e2
  have e_2 : Dp K R2 (.ref r2) (.tuple [(.list [(.int 0), (.int 2), (.int 4)]), (.int 6), (.int 1)]) := .tup (.inl (.inl gr2)) (.cons (.lst (.inl (.inl gl2)) (.cons (.int _) (.cons (.int _) (.cons (.int _) .nil)))) (.cons (.int _) (.cons (.int _) .nil)))
  clear d_10 d_12 h10 h11 h12 h9
  replace e_0 := dp_same sR2 _ _ e_0
  replace e_1 := dp_same sR2 _ _ e_1
  replace sB := sB.trans sR2
  refine ⟨by show 3 ≤ sizeLine; decide, fun aL nL => ?_⟩
  have sL := sameNew (o := .lst [.ref r0, .ref r1, .ref r2]) nL
  have hL : upd R2 aL (.lst [.ref r0, .ref r1, .ref r2]) aL = some (.lst [.ref r0, .ref r1, .ref r2]) := upd_same
  generalize upd R2 aL (.lst [.ref r0, .ref r1, .ref r2]) = HL at sL hL ⊢
  have d_T : Dp K HL (.ref aL) (.list [(.tuple [(.list [(.int 2)]), (.int 3), (.int 2)]), (.tuple [(.list []), .none, (.int 0)]), (.tuple [(.list [(.int 0), (.int 2), (.int 4)]), (.int 6), (.int 1)])]) := .lst (.inl (.inl hL)) (.cons (dp_same sL _ _ e_0) (.cons (dp_same sL _ _ e_1) (.cons (dp_same sL _ _ e_2) .nil)))
  have fT : Fine (.list [(.tuple [(.list [(.int 2)]), (.int 3), (.int 2)]), (.tuple [(.list []), .none, (.int 0)]), (.tuple [(.list [(.int 0), (.int 2), (.int 4)]), (.int 6), (.int 1)])]) := finB_ok (by decide +kernel)
  refine ⟨_, rfl, _, _, rfl, d_T, fT, ?_⟩
  clear e_0 e_1 e_2 hL d_T
  replace sB := sB.trans sL
  refine ⟨by show 1 ≤ sizeLine; decide, fun a13 n13 => ?_⟩
  have s13 := sameNew (o := .lst [(.int 2)]) n13
  have h13 : upd HL a13 (.lst [(.int 2)]) a13 = some (.lst [(.int 2)]) := upd_same
  generalize upd HL a13 (.lst [(.int 2)]) = H13 at s13 h13 ⊢
  replace sB := sB.trans s13
  have d_13 : Dp K H13 (.ref a13) (.list [(.int 2)]) := .lst (.inl (.inl h13)) (.cons (.int _) .nil)
  refine ⟨by show 3 ≤ sizeLine; decide, fun a14 n14 => ?_⟩
  have s14 := sameNew (o := .tup [(.ref a13), (.int 3), (.int 2)]) n14
  have h14 : upd H13 a14 (.tup [(.ref a13), (.int 3), (.int 2)]) a14 = some (.tup [(.ref a13), (.int 3), (.int 2)]) := upd_same
  generalize upd H13 a14 (.tup [(.ref a13), (.int 3), (.int 2)]) = H14 at s14 h14 ⊢
  replace d_13 := dp_same s14 _ _ d_13
  replace sB := sB.trans s14
  have d_14 : Dp K H14 (.ref a14) (.tuple [(.list [(.int 2)]), (.int 3), (.int 2)]) := .tup (.inl (.inl h14)) (.cons d_13 (.cons (.int _) (.cons (.int _) .nil)))
  refine ⟨by show 0 ≤ sizeLine; decide, fun a15 n15 => ?_⟩
  have s15 := sameNew (o := .lst []) n15
  have h15 : upd H14 a15 (.lst []) a15 = some (.lst []) := upd_same
  generalize upd H14 a15 (.lst []) = H15 at s15 h15 ⊢
  replace d_14 := dp_same s15 _ _ d_14
  replace sB := sB.trans s15
  have d_15 : Dp K H15 (.ref a15) (.list []) := .lst (.inl (.inl h15)) .nil
  refine ⟨by show 3 ≤ sizeLine; decide, fun a16 n16 => ?_⟩
  have s16 := sameNew (o := .tup [(.ref a15), .non, (.int 0)]) n16
  have h16 : upd H15 a16 (.tup [(.ref a15), .non, (.int 0)]) a16 = some (.tup [(.ref a15), .non, (.int 0)]) := upd_same
  generalize upd H15 a16 (.tup [(.ref a15), .non, (.int 0)]) = H16 at s16 h16 ⊢
  replace d_14 := dp_same s16 _ _ d_14
  replace d_15 := dp_same s16 _ _ d_15
  replace sB := sB.trans s16
  have d_16 : Dp K H16 (.ref a16) (.tuple [(.list []), .none, (.int 0)]) := .tup (.inl (.inl h16)) (.cons d_15 (.cons .non (.cons (.int _) .nil)))
  refine ⟨by show 3 ≤ sizeLine; decide, fun a17 n17 => ?_⟩
  have s17 := sameNew (o := .lst [(.int 0), (.int 2), (.int 4)]) n17
  have h17 : upd H16 a17 (.lst [(.int 0), (.int 2), (.int 4)]) a17 = some (.lst [(.int 0), (.int 2), (.int 4)]) := upd_same
  generalize upd H16 a17 (.lst [(.int 0), (.int 2), (.int 4)]) = H17 at s17 h17 ⊢
  replace d_14 := dp_same s17 _ _ d_14
  replace d_16 := dp_same s17 _ _ d_16
  replace sB := sB.trans s17
  have d_17 : Dp K H17 (.ref a17) (.list [(.int 0), (.int 2), (.int 4)]) := .lst (.inl (.inl h17)) (.cons (.int _) (.cons (.int _) (.cons (.int _) .nil)))
  refine ⟨by show 3 ≤ sizeLine; decide, fun a18 n18 => ?_⟩
  have s18 := sameNew (o := .tup [(.ref a17), (.int 6), (.int 1)]) n18
  have h18 : upd H17 a18 (.tup [(.ref a17), (.int 6), (.int 1)]) a18 = some (.tup [(.ref a17), (.int 6), (.int 1)]) := upd_same
  generalize upd H17 a18 (.tup [(.ref a17), (.int 6), (.int 1)]) = H18 at s18 h18 ⊢
  replace d_14 := dp_same s18 _ _ d_14
  replace d_16 := dp_same s18 _ _ d_16
  replace d_17 := dp_same s18 _ _ d_17
  replace sB := sB.trans s18
  have d_18 : Dp K H18 (.ref a18) (.tuple [(.list [(.int 0), (.int 2), (.int 4)]), (.int 6), (.int 1)]) := .tup (.inl (.inl h18)) (.cons d_17 (.cons (.int _) (.cons (.int _) .nil)))
  refine ⟨by show 3 ≤ sizeLine; decide, fun a19 n19 => ?_⟩
  have s19 := sameNew (o := .lst [(.ref a14), (.ref a16), (.ref a18)]) n19
  have h19 : upd H18 a19 (.lst [(.ref a14), (.ref a16), (.ref a18)]) a19 = some (.lst [(.ref a14), (.ref a16), (.ref a18)]) := upd_same
  generalize upd H18 a19 (.lst [(.ref a14), (.ref a16), (.ref a18)]) = H19 at s19 h19 ⊢
  replace d_14 := dp_same s19 _ _ d_14
  replace d_16 := dp_same s19 _ _ d_16
  replace d_18 := dp_same s19 _ _ d_18
  replace sB := sB.trans s19
  have d_19 : Dp K H19 (.ref a19) (.list [(.tuple [(.list [(.int 2)]), (.int 3), (.int 2)]), (.tuple [(.list []), .none, (.int 0)]), (.tuple [(.list [(.int 0), (.int 2), (.int 4)]), (.int 6), (.int 1)])]) := .lst (.inl (.inl h19)) (.cons d_14 (.cons d_16 (.cons d_18 .nil)))
  refine ⟨_, _, rfl, d_19, fT, rfl, ?_⟩
  rw [decide_eq_true rfl]
  exact q _
theorem law_three (T : Txt K mg E_InvalidRun E_TooMany E_CountError) (f0 : Addr) (cdv : Value) (A : Around) (outer : List Env) (s0 : Shared) (H0 : Hp) (E : XK) (hr : Room 7 (A.deeper (envOfC "law" (C8.fnScope (topS 43)) s0.heap.objs.size f0 cdv))) (gd : A.guards = some []) :
    ∃ u, PSs (cxOf C8.CX0 P w K mg base ["_law_script", "_law_index", "_law_generator_here", "_law_pair", "_law_one", "_law_other", "_law_great", "_law_bad", "_law_which", "_law_told"] "law" (C8.fnScope (topS 43)) f0 cdv A outer s0 H0 E).nox ((C8.fnBody (topS 43)).drop 2) u ∧
      ∀ (Dn : Ends) (H : Hp) (v0 v1 v2 v3 v4 v5 v6 v7 v8 v9 : Option V), (∀ H', Dn.rt (.bl true) H') → u Dn [v0, v1, v2, v3, v4, v5, v6, v7, v8, v9] H := by
  obtain ⟨u, hu, tail⟩ := law_told (P := P) (w := w) (base := base) T f0 cdv A outer s0 H0 E hr gd
  refine ⟨_, (pss_cons (ps_if (pt_not (pt_val (pe_cG (c_law_lesser_good T) hr gd (by decide) (by rfl) (pa_cons (pe_tup (pa_cons (pe_lst (pa_cons pe_int pa_nil)) (pa_cons pe_int (pa_cons pe_int pa_nil)))) (pa_cons (pe_tup (pa_cons (pe_lst pa_nil) (pa_cons pe_int (pa_cons pe_int pa_nil)))) (pa_cons (pe_op op_powB pe_int pe_int) pa_nil))))))
    (pss_one (ps_ret pe_bl))
    pss_nil)
    (pss_cons (ps_if (PW.pt (pw_or (pt_not (pt_val (pe_cG (c_law_lesser_good T) hr gd (by decide) (by rfl) (pa_cons (pe_tup (pa_cons (pe_lst pa_nil) (pa_cons pe_int (pa_cons pe_int pa_nil)))) (pa_cons (pe_tup (pa_cons (pe_lst pa_nil) (pa_cons pe_int (pa_cons pe_int pa_nil)))) (pa_cons (pe_op op_powB pe_int pe_int) pa_nil)))))) (pw_or1 (pt_not (pt_val (pe_cG (c_law_lesser_good T) hr gd (by decide) (by rfl) (pa_cons (pe_tup (pa_cons (pe_lst pa_nil) (pa_cons pe_int (pa_cons pe_int pa_nil)))) (pa_cons (pe_tup (pa_cons (pe_lst pa_nil) (pa_cons pe_int (pa_cons pe_int pa_nil)))) (pa_cons (pe_op op_powB pe_int pe_int) pa_nil)))))))))
    (pss_one (ps_ret pe_bl))
    pss_nil)
    hu)), ?_⟩
  intro Dn H v0 v1 v2 v3 v4 v5 v6 v7 v8 v9 q
  have sB : Same H H := Same.refl _
  refine ⟨by show 1 ≤ sizeLine; decide, fun a20 n20 => ?_⟩
  have s20 := sameNew (o := .lst [(.int 9)]) n20
  have h20 : upd H a20 (.lst [(.int 9)]) a20 = some (.lst [(.int 9)]) := upd_same
  generalize upd H a20 (.lst [(.int 9)]) = H20 at s20 h20 ⊢
  replace sB := sB.trans s20
  have d_20 : Dp K H20 (.ref a20) (.list [(.int 9)]) := .lst (.inl (.inl h20)) (.cons (.int _) .nil)
  refine ⟨by show 3 ≤ sizeLine; decide, fun a21 n21 => ?_⟩
  have s21 := sameNew (o := .tup [(.ref a20), (.int 0), (.int 2)]) n21
  have h21 : upd H20 a21 (.tup [(.ref a20), (.int 0), (.int 2)]) a21 = some (.tup [(.ref a20), (.int 0), (.int 2)]) := upd_same
  generalize upd H20 a21 (.tup [(.ref a20), (.int 0), (.int 2)]) = H21 at s21 h21 ⊢
  replace d_20 := dp_same s21 _ _ d_20
  replace sB := sB.trans s21
  have d_21 : Dp K H21 (.ref a21) (.tuple [(.list [(.int 9)]), (.int 0), (.int 2)]) := .tup (.inl (.inl h21)) (.cons d_20 (.cons (.int _) (.cons (.int _) .nil)))
  replace h20 := s21 _ _ h20
  refine ⟨by show 0 ≤ sizeLine; decide, fun a22 n22 => ?_⟩
  have s22 := sameNew (o := .lst []) n22
  have h22 : upd H21 a22 (.lst []) a22 = some (.lst []) := upd_same
  generalize upd H21 a22 (.lst []) = H22 at s22 h22 ⊢
  replace d_21 := dp_same s22 _ _ d_21
  replace h21 := s22 _ _ h21
  replace h20 := s22 _ _ h20
  replace sB := sB.trans s22
  have d_22 : Dp K H22 (.ref a22) (.list []) := .lst (.inl (.inl h22)) .nil
  refine ⟨by show 3 ≤ sizeLine; decide, fun a23 n23 => ?_⟩
  have s23 := sameNew (o := .tup [(.ref a22), (.int 700), (.int 1)]) n23
  have h23 : upd H22 a23 (.tup [(.ref a22), (.int 700), (.int 1)]) a23 = some (.tup [(.ref a22), (.int 700), (.int 1)]) := upd_same
  generalize upd H22 a23 (.tup [(.ref a22), (.int 700), (.int 1)]) = H23 at s23 h23 ⊢
  replace d_21 := dp_same s23 _ _ d_21
  replace d_22 := dp_same s23 _ _ d_22
  replace h21 := s23 _ _ h21
  replace h20 := s23 _ _ h20
  replace sB := sB.trans s23
  have d_23 : Dp K H23 (.ref a23) (.tuple [(.list []), (.int 700), (.int 1)]) := .tup (.inl (.inl h23)) (.cons d_22 (.cons (.int _) (.cons (.int _) .nil)))
  replace h22 := s23 _ _ h22
  refine ⟨10, 24, rfl, rfl, ⟨by decide, by decide⟩, a21, a23, ([(some (9))] : List (Option Int)), ([] : List (Option Int)), (some (0)), (some (700)), 2, 1, 1000000000000000000000000, rfl, ⟨a20, h21, h20⟩, ⟨a22, h23, h22⟩, dr_ok (by decide +kernel), dr_ok (by decide +kernel), by decide +kernel, by decide +kernel, by decide +kernel, fun C0 c0 => ?_⟩
  clear d_21 d_23 h20 h21 h22 h23
  replace sB := sB.trans c0
  refine ⟨true, rfl, iteF ?_⟩
  refine ⟨by show 0 ≤ sizeLine; decide, fun a24 n24 => ?_⟩
  have s24 := sameNew (o := .lst []) n24
  have h24 : upd C0 a24 (.lst []) a24 = some (.lst []) := upd_same
  generalize upd C0 a24 (.lst []) = H24 at s24 h24 ⊢
  replace sB := sB.trans s24
  have d_24 : Dp K H24 (.ref a24) (.list []) := .lst (.inl (.inl h24)) .nil
  refine ⟨by show 3 ≤ sizeLine; decide, fun a25 n25 => ?_⟩
  have s25 := sameNew (o := .tup [(.ref a24), (.int 0), (.int 2)]) n25
  have h25 : upd H24 a25 (.tup [(.ref a24), (.int 0), (.int 2)]) a25 = some (.tup [(.ref a24), (.int 0), (.int 2)]) := upd_same
  generalize upd H24 a25 (.tup [(.ref a24), (.int 0), (.int 2)]) = H25 at s25 h25 ⊢
  replace d_24 := dp_same s25 _ _ d_24
  replace sB := sB.trans s25
  have d_25 : Dp K H25 (.ref a25) (.tuple [(.list []), (.int 0), (.int 2)]) := .tup (.inl (.inl h25)) (.cons d_24 (.cons (.int _) (.cons (.int _) .nil)))
  replace h24 := s25 _ _ h24
  refine ⟨by show 0 ≤ sizeLine; decide, fun a26 n26 => ?_⟩
  have s26 := sameNew (o := .lst []) n26
  have h26 : upd H25 a26 (.lst []) a26 = some (.lst []) := upd_same
  generalize upd H25 a26 (.lst []) = H26 at s26 h26 ⊢
  replace d_25 := dp_same s26 _ _ d_25
  replace h25 := s26 _ _ h25
  replace h24 := s26 _ _ h24
  replace sB := sB.trans s26
  have d_26 : Dp K H26 (.ref a26) (.list []) := .lst (.inl (.inl h26)) .nil
  refine ⟨by show 3 ≤ sizeLine; decide, fun a27 n27 => ?_⟩
  have s27 := sameNew (o := .tup [(.ref a26), (.int 601), (.int 1)]) n27
  have h27 : upd H26 a27 (.tup [(.ref a26), (.int 601), (.int 1)]) a27 = some (.tup [(.ref a26), (.int 601), (.int 1)]) := upd_same
  generalize upd H26 a27 (.tup [(.ref a26), (.int 601), (.int 1)]) = H27 at s27 h27 ⊢
  replace d_25 := dp_same s27 _ _ d_25
  replace d_26 := dp_same s27 _ _ d_26
  replace h25 := s27 _ _ h25
  replace h24 := s27 _ _ h24
  replace sB := sB.trans s27
  have d_27 : Dp K H27 (.ref a27) (.tuple [(.list []), (.int 601), (.int 1)]) := .tup (.inl (.inl h27)) (.cons d_26 (.cons (.int _) (.cons (.int _) .nil)))
  replace h26 := s27 _ _ h26
  refine ⟨10, 24, rfl, rfl, ⟨by decide, by decide⟩, a25, a27, ([] : List (Option Int)), ([] : List (Option Int)), (some (0)), (some (601)), 2, 1, 1000000000000000000000000, rfl, ⟨a24, h25, h24⟩, ⟨a26, h27, h26⟩, dr_ok (by decide +kernel), dr_ok (by decide +kernel), by decide +kernel, by decide +kernel, by decide +kernel, fun C1 c1 => ?_⟩
  clear d_25 d_27 h24 h25 h26 h27
  replace sB := sB.trans c1
  refine ⟨true, rfl, iteF ?_⟩
  refine ⟨by show 0 ≤ sizeLine; decide, fun a28 n28 => ?_⟩
  have s28 := sameNew (o := .lst []) n28
  have h28 : upd C1 a28 (.lst []) a28 = some (.lst []) := upd_same
  generalize upd C1 a28 (.lst []) = H28 at s28 h28 ⊢
  replace sB := sB.trans s28
  have d_28 : Dp K H28 (.ref a28) (.list []) := .lst (.inl (.inl h28)) .nil
  refine ⟨by show 3 ≤ sizeLine; decide, fun a29 n29 => ?_⟩
  have s29 := sameNew (o := .tup [(.ref a28), (.int 0), (.int 2)]) n29
  have h29 : upd H28 a29 (.tup [(.ref a28), (.int 0), (.int 2)]) a29 = some (.tup [(.ref a28), (.int 0), (.int 2)]) := upd_same
  generalize upd H28 a29 (.tup [(.ref a28), (.int 0), (.int 2)]) = H29 at s29 h29 ⊢
  replace d_28 := dp_same s29 _ _ d_28
  replace sB := sB.trans s29
  have d_29 : Dp K H29 (.ref a29) (.tuple [(.list []), (.int 0), (.int 2)]) := .tup (.inl (.inl h29)) (.cons d_28 (.cons (.int _) (.cons (.int _) .nil)))
  replace h28 := s29 _ _ h28
  refine ⟨by show 0 ≤ sizeLine; decide, fun a30 n30 => ?_⟩
  have s30 := sameNew (o := .lst []) n30
  have h30 : upd H29 a30 (.lst []) a30 = some (.lst []) := upd_same
  generalize upd H29 a30 (.lst []) = H30 at s30 h30 ⊢
  replace d_29 := dp_same s30 _ _ d_29
  replace h29 := s30 _ _ h29
  replace h28 := s30 _ _ h28
  replace sB := sB.trans s30
  have d_30 : Dp K H30 (.ref a30) (.list []) := .lst (.inl (.inl h30)) .nil
  refine ⟨by show 3 ≤ sizeLine; decide, fun a31 n31 => ?_⟩
  have s31 := sameNew (o := .tup [(.ref a30), (.int 600), (.int 1)]) n31
  have h31 : upd H30 a31 (.tup [(.ref a30), (.int 600), (.int 1)]) a31 = some (.tup [(.ref a30), (.int 600), (.int 1)]) := upd_same
  generalize upd H30 a31 (.tup [(.ref a30), (.int 600), (.int 1)]) = H31 at s31 h31 ⊢
  replace d_29 := dp_same s31 _ _ d_29
  replace d_30 := dp_same s31 _ _ d_30
  replace h29 := s31 _ _ h29
  replace h28 := s31 _ _ h28
  replace sB := sB.trans s31
  have d_31 : Dp K H31 (.ref a31) (.tuple [(.list []), (.int 600), (.int 1)]) := .tup (.inl (.inl h31)) (.cons d_30 (.cons (.int _) (.cons (.int _) .nil)))
  replace h30 := s31 _ _ h30
  refine ⟨10, 24, rfl, rfl, ⟨by decide, by decide⟩, a29, a31, ([] : List (Option Int)), ([] : List (Option Int)), (some (0)), (some (600)), 2, 1, 1000000000000000000000000, rfl, ⟨a28, h29, h28⟩, ⟨a30, h31, h30⟩, dr_ok (by decide +kernel), dr_ok (by decide +kernel), by decide +kernel, by decide +kernel, by decide +kernel, fun C2 c2 => ?_⟩
  clear d_29 d_31 h28 h29 h30 h31
  replace sB := sB.trans c2
  refine ⟨true, rfl, iteF ?_⟩
  exact tail Dn _ v0 v1 v2 v3 v4 v5 v6 v7 v8 v9 q
theorem law_bad (T : Txt K mg E_InvalidRun E_TooMany E_CountError) (f0 : Addr) (cdv : Value) (A : Around) (outer : List Env) (s0 : Shared) (H0 : Hp) (E : XK) (hr : Room 7 (A.deeper (envOfC "law" (C8.fnScope (topS 43)) s0.heap.objs.size f0 cdv))) (gd : A.guards = some []) :
    ∃ u, PSs (cxOf C8.CX0 P w K mg base ["_law_script", "_law_index", "_law_generator_here", "_law_pair", "_law_one", "_law_other", "_law_great", "_law_bad", "_law_which", "_law_told"] "law" (C8.fnScope (topS 43)) f0 cdv A outer s0 H0 E).nox ((C8.fnBody (topS 43)).drop 1) u ∧
      ∀ (Dn : Ends) (H : Hp) (v0 v1 v2 v3 v4 v5 v6 v7 v8 v9 : Option V), (∀ H', Dn.rt (.bl true) H') → u Dn [v0, v1, v2, v3, v4, v5, v6, v7, v8, v9] H := by
  obtain ⟨u, hu, tail⟩ := law_three (P := P) (w := w) (base := base) T f0 cdv A outer s0 H0 E hr gd
  refine ⟨_, (pss_cons (ps_for PassesOwn.never rfl (pi_list (pe_lst (pa_cons pe_non (pa_cons pe_int (pa_cons (pe_tup (pa_cons (pe_lst (pa_cons pe_int pa_nil)) (pa_cons pe_int (pa_cons pe_int pa_nil)))) (pa_cons (pe_tup (pa_cons (pe_lst pa_nil) (pa_cons pe_non (pa_cons pe_int pa_nil)))) (pa_cons (pe_lst (pa_cons (pe_lst pa_nil) (pa_cons pe_int (pa_cons pe_int pa_nil)))) (pa_cons (pe_tup (pa_cons (pe_lst (pa_cons pe_bl pa_nil)) (pa_cons pe_int (pa_cons pe_int pa_nil)))) (pa_cons (pe_tup (pa_cons (pe_lst pa_nil) (pa_cons pe_int pa_nil))) pa_nil))))))))) (pg_name (i := 7) sc_law.nd rfl (Or.inl rfl))
    (pss_one (ps_for PassesOwn.never rfl (pi_range1 (by rfl) T.m_range (pa_cons pe_int pa_nil)) (pg_name (i := 8) sc_law.nd rfl (Or.inl rfl))
    (pss_one (ps_if (PW.pt (pw_or (pt_cmpR op_ne (pe_cG (c_law_caught T) hr gd (by decide) (by rfl) (pa_cons (pv 8) (pa_cons (pe_lst (pa_cons (pv 7) (pa_cons pe_non pa_nil))) pa_nil))) (pe_callB (call_reprF hr gd) (by rfl) T.m_repr (by decide +kernel) (pa_cons (pv 7) pa_nil)) (nomark _)) (pw_or1 (pt_cmpR op_ne (pe_cG (c_law_caught T) hr gd (by decide) (by rfl) (pa_cons (pv 8) (pa_cons (pe_lst (pa_cons (pe_tup (pa_cons (pe_lst pa_nil) (pa_cons pe_int (pa_cons pe_int pa_nil)))) (pa_cons (pv 7) pa_nil))) pa_nil))) (pe_callB (call_reprF hr gd) (by rfl) T.m_repr (by decide +kernel) (pa_cons (pv 7) pa_nil)) (nomark _)))))
    (pss_one (ps_ret pe_bl))
    pss_nil)))))
    hu), ?_⟩
  intro Dn H v0 v1 v2 v3 v4 v5 v6 v7 v8 v9 q
  have sB : Same H H := Same.refl _
  refine ⟨by show 1 ≤ sizeLine; decide, fun a32 n32 => ?_⟩
  have s32 := sameNew (o := .lst [(.int 1)]) n32
  have h32 : upd H a32 (.lst [(.int 1)]) a32 = some (.lst [(.int 1)]) := upd_same
  generalize upd H a32 (.lst [(.int 1)]) = H32 at s32 h32 ⊢
  replace sB := sB.trans s32
  have d_32 : Dp K H32 (.ref a32) (.list [(.int 1)]) := .lst (.inl (.inl h32)) (.cons (.int _) .nil)
  refine ⟨by show 3 ≤ sizeLine; decide, fun a33 n33 => ?_⟩
  have s33 := sameNew (o := .tup [(.ref a32), (.int 1), (.int 0)]) n33
  have h33 : upd H32 a33 (.tup [(.ref a32), (.int 1), (.int 0)]) a33 = some (.tup [(.ref a32), (.int 1), (.int 0)]) := upd_same
  generalize upd H32 a33 (.tup [(.ref a32), (.int 1), (.int 0)]) = H33 at s33 h33 ⊢
  replace d_32 := dp_same s33 _ _ d_32
  replace sB := sB.trans s33
  have d_33 : Dp K H33 (.ref a33) (.tuple [(.list [(.int 1)]), (.int 1), (.int 0)]) := .tup (.inl (.inl h33)) (.cons d_32 (.cons (.int _) (.cons (.int _) .nil)))
  refine ⟨by show 0 ≤ sizeLine; decide, fun a34 n34 => ?_⟩
  have s34 := sameNew (o := .lst []) n34
  have h34 : upd H33 a34 (.lst []) a34 = some (.lst []) := upd_same
  generalize upd H33 a34 (.lst []) = H34 at s34 h34 ⊢
  replace d_33 := dp_same s34 _ _ d_33
  replace sB := sB.trans s34
  have d_34 : Dp K H34 (.ref a34) (.list []) := .lst (.inl (.inl h34)) .nil
  refine ⟨by show 3 ≤ sizeLine; decide, fun a35 n35 => ?_⟩
  have s35 := sameNew (o := .tup [(.ref a34), .non, (.int 2)]) n35
  have h35 : upd H34 a35 (.tup [(.ref a34), .non, (.int 2)]) a35 = some (.tup [(.ref a34), .non, (.int 2)]) := upd_same
  generalize upd H34 a35 (.tup [(.ref a34), .non, (.int 2)]) = H35 at s35 h35 ⊢
  replace d_33 := dp_same s35 _ _ d_33
  replace d_34 := dp_same s35 _ _ d_34
  replace sB := sB.trans s35
  have d_35 : Dp K H35 (.ref a35) (.tuple [(.list []), .none, (.int 2)]) := .tup (.inl (.inl h35)) (.cons d_34 (.cons .non (.cons (.int _) .nil)))
  refine ⟨by show 0 ≤ sizeLine; decide, fun a36 n36 => ?_⟩
  have s36 := sameNew (o := .lst []) n36
  have h36 : upd H35 a36 (.lst []) a36 = some (.lst []) := upd_same
  generalize upd H35 a36 (.lst []) = H36 at s36 h36 ⊢
  replace d_33 := dp_same s36 _ _ d_33
  replace d_35 := dp_same s36 _ _ d_35
  replace sB := sB.trans s36
  have d_36 : Dp K H36 (.ref a36) (.list []) := .lst (.inl (.inl h36)) .nil
  refine ⟨by show 3 ≤ sizeLine; decide, fun a37 n37 => ?_⟩
  have s37 := sameNew (o := .lst [(.ref a36), (.int 1), (.int 1)]) n37
  have h37 : upd H36 a37 (.lst [(.ref a36), (.int 1), (.int 1)]) a37 = some (.lst [(.ref a36), (.int 1), (.int 1)]) := upd_same
  generalize upd H36 a37 (.lst [(.ref a36), (.int 1), (.int 1)]) = H37 at s37 h37 ⊢
  replace d_33 := dp_same s37 _ _ d_33
  replace d_35 := dp_same s37 _ _ d_35
  replace d_36 := dp_same s37 _ _ d_36
  replace sB := sB.trans s37
  have d_37 : Dp K H37 (.ref a37) (.list [(.list []), (.int 1), (.int 1)]) := .lst (.inl (.inl h37)) (.cons d_36 (.cons (.int _) (.cons (.int _) .nil)))
  refine ⟨by show 1 ≤ sizeLine; decide, fun a38 n38 => ?_⟩
  have s38 := sameNew (o := .lst [(.bl true)]) n38
  have h38 : upd H37 a38 (.lst [(.bl true)]) a38 = some (.lst [(.bl true)]) := upd_same
  generalize upd H37 a38 (.lst [(.bl true)]) = H38 at s38 h38 ⊢
  replace d_33 := dp_same s38 _ _ d_33
  replace d_35 := dp_same s38 _ _ d_35
  replace d_37 := dp_same s38 _ _ d_37
  replace sB := sB.trans s38
  have d_38 : Dp K H38 (.ref a38) (.list [(.bool true)]) := .lst (.inl (.inl h38)) (.cons (.bl _) .nil)
  refine ⟨by show 3 ≤ sizeLine; decide, fun a39 n39 => ?_⟩
  have s39 := sameNew (o := .tup [(.ref a38), (.int 0), (.int 0)]) n39
  have h39 : upd H38 a39 (.tup [(.ref a38), (.int 0), (.int 0)]) a39 = some (.tup [(.ref a38), (.int 0), (.int 0)]) := upd_same
  generalize upd H38 a39 (.tup [(.ref a38), (.int 0), (.int 0)]) = H39 at s39 h39 ⊢
  replace d_33 := dp_same s39 _ _ d_33
  replace d_35 := dp_same s39 _ _ d_35
  replace d_37 := dp_same s39 _ _ d_37
  replace d_38 := dp_same s39 _ _ d_38
  replace sB := sB.trans s39
  have d_39 : Dp K H39 (.ref a39) (.tuple [(.list [(.bool true)]), (.int 0), (.int 0)]) := .tup (.inl (.inl h39)) (.cons d_38 (.cons (.int _) (.cons (.int _) .nil)))
  refine ⟨by show 0 ≤ sizeLine; decide, fun a40 n40 => ?_⟩
  have s40 := sameNew (o := .lst []) n40
  have h40 : upd H39 a40 (.lst []) a40 = some (.lst []) := upd_same
  generalize upd H39 a40 (.lst []) = H40 at s40 h40 ⊢
  replace d_33 := dp_same s40 _ _ d_33
  replace d_35 := dp_same s40 _ _ d_35
  replace d_37 := dp_same s40 _ _ d_37
  replace d_39 := dp_same s40 _ _ d_39
  replace sB := sB.trans s40
  have d_40 : Dp K H40 (.ref a40) (.list []) := .lst (.inl (.inl h40)) .nil
  refine ⟨by show 2 ≤ sizeLine; decide, fun a41 n41 => ?_⟩
  have s41 := sameNew (o := .tup [(.ref a40), (.int 1)]) n41
  have h41 : upd H40 a41 (.tup [(.ref a40), (.int 1)]) a41 = some (.tup [(.ref a40), (.int 1)]) := upd_same
  generalize upd H40 a41 (.tup [(.ref a40), (.int 1)]) = H41 at s41 h41 ⊢
  replace d_33 := dp_same s41 _ _ d_33
  replace d_35 := dp_same s41 _ _ d_35
  replace d_37 := dp_same s41 _ _ d_37
  replace d_39 := dp_same s41 _ _ d_39
  replace d_40 := dp_same s41 _ _ d_40
  replace sB := sB.trans s41
  have d_41 : Dp K H41 (.ref a41) (.tuple [(.list []), (.int 1)]) := .tup (.inl (.inl h41)) (.cons d_40 (.cons (.int _) .nil))
  refine ⟨by show 7 ≤ sizeLine; decide, fun a42 n42 => ?_⟩
  have s42 := sameNew (o := .lst [.non, (.int 3), (.ref a33), (.ref a35), (.ref a37), (.ref a39), (.ref a41)]) n42
  have hL : upd H41 a42 (.lst [.non, (.int 3), (.ref a33), (.ref a35), (.ref a37), (.ref a39), (.ref a41)]) a42 = some (.lst [.non, (.int 3), (.ref a33), (.ref a35), (.ref a37), (.ref a39), (.ref a41)]) := upd_same
  generalize upd H41 a42 (.lst [.non, (.int 3), (.ref a33), (.ref a35), (.ref a37), (.ref a39), (.ref a41)]) = HL at s42 hL ⊢
  replace d_33 := dp_same s42 _ _ d_33
  replace d_35 := dp_same s42 _ _ d_35
  replace d_37 := dp_same s42 _ _ d_37
  replace d_39 := dp_same s42 _ _ d_39
  replace d_41 := dp_same s42 _ _ d_41
  have da : DpAll K HL [.non, (.int 3), (.ref a33), (.ref a35), (.ref a37), (.ref a39), (.ref a41)] [.none, (.int 3), (.tuple [(.list [(.int 1)]), (.int 1), (.int 0)]), (.tuple [(.list []), .none, (.int 2)]), (.list [(.list []), (.int 1), (.int 1)]), (.tuple [(.list [(.bool true)]), (.int 0), (.int 0)]), (.tuple [(.list []), (.int 1)])] := (.cons .non (.cons (.int _) (.cons d_33 (.cons d_35 (.cons d_37 (.cons d_39 (.cons d_41 .nil)))))))
  have aP : ([.none, (.int 3), (.tuple [(.list [(.int 1)]), (.int 1), (.int 0)]), (.tuple [(.list []), .none, (.int 2)]), (.list [(.list []), (.int 1), (.int 1)]), (.tuple [(.list [(.bool true)]), (.int 0), (.int 0)]), (.tuple [(.list []), (.int 1)])] : List PyData).all (fun d => !isRunD d && (finB d && smB d)) = true := by decide +kernel
  refine ⟨a42, rfl, ⟨_, .inl (.inl hL)⟩, for_list (K := K) (a := a42) (xs := [.non, (.int 3), (.ref a33), (.ref a35), (.ref a37), (.ref a39), (.ref a41)]) (fun i σ H' => Same HL H' ∧ ∃ y7 y8, σ = [v0, v1, v2, v3, v4, v5, v6, y7, y8, v9]) ⟨Same.refl _, v7, v8, rfl⟩ (fun i σ H' _ p => .inl (.inl (p.1 _ _ hL))) (fun i y σ H' hi p => ?_) (fun σ H' p => ?_)⟩
  · obtain ⟨sL, y7, y8, rfl⟩ := p
    obtain ⟨dy, hdy, d_y⟩ := dpAll_get da hi
    have pP := List.all_eq_true.mp aP dy (List.mem_of_getElem? hdy)
    obtain ⟨p1, pP⟩ := Bool.and_eq_true_iff.mp pP
    obtain ⟨p2, p3⟩ := Bool.and_eq_true_iff.mp pP
    replace d_y := dp_same sL _ _ d_y
    refine ⟨2, rfl, by decide, by decide, ?_⟩
    refine for_it walk_range (fun i σ H'' => Same H' H'' ∧ ∃ y8, σ = [v0, v1, v2, v3, v4, v5, v6, some y, y8, v9]) ⟨Same.refl _, y8, rfl⟩ (fun _ _ _ _ _ => True.intro) (fun iw x σ Hw H2 hi2 p y => ?_) fun σ Hw p => ?_
    · obtain ⟨sW, y8, rfl⟩ := p
      obtain ⟨rfl, rfl⟩ := y
      replace d_y := dp_same sW _ _ d_y
      have sB : Same H2 H2 := Same.refl _
      refine ⟨_, rfl, ?_⟩
      refine ⟨_, rfl, ?_⟩
      refine ⟨by show 2 ≤ sizeLine; decide, fun a43 n43 => ?_⟩
      have s43 := sameNew (o := .lst [y, .non]) n43
      have hT43 : upd H2 a43 (.lst [y, .non]) a43 = some (.lst [y, .non]) := upd_same
      generalize upd H2 a43 (.lst [y, .non]) = H43 at s43 hT43 ⊢
      replace d_y := dp_same s43 _ _ d_y
      replace sB := sB.trans s43
      refine ⟨_, a43, y, .non, y, dy, .none, dy, rfl, hT43, d_y, smB_ok p3, .non, smB_ok (by decide +kernel), .inl ⟨not_true p1, rfl, rfl⟩, finB_ok p2, fun C0 c0 => ?_⟩
      replace d_y := dp_same c0 _ _ d_y
      replace sB := sB.trans c0
      refine ⟨_, rfl, y, dy, rfl, d_y, finB_ok p2, rfl, false, congrArg V.bl (ne_no _), ?_⟩
      refine iteF ?_
      refine ⟨_, rfl, ?_⟩
      refine ⟨by show 0 ≤ sizeLine; decide, fun a44 n44 => ?_⟩
      have s44 := sameNew (o := .lst []) n44
      have h44 : upd C0 a44 (.lst []) a44 = some (.lst []) := upd_same
      generalize upd C0 a44 (.lst []) = H44 at s44 h44 ⊢
      replace d_y := dp_same s44 _ _ d_y
      replace sB := sB.trans s44
      have d_44 : Dp K H44 (.ref a44) (.list []) := .lst (.inl (.inl h44)) .nil
      refine ⟨by show 3 ≤ sizeLine; decide, fun a45 n45 => ?_⟩
      have s45 := sameNew (o := .tup [(.ref a44), (.int 1), (.int 1)]) n45
      have h45 : upd H44 a45 (.tup [(.ref a44), (.int 1), (.int 1)]) a45 = some (.tup [(.ref a44), (.int 1), (.int 1)]) := upd_same
      generalize upd H44 a45 (.tup [(.ref a44), (.int 1), (.int 1)]) = H45 at s45 h45 ⊢
      replace d_y := dp_same s45 _ _ d_y
      replace d_44 := dp_same s45 _ _ d_44
      replace sB := sB.trans s45
      have d_45 : Dp K H45 (.ref a45) (.tuple [(.list []), (.int 1), (.int 1)]) := .tup (.inl (.inl h45)) (.cons d_44 (.cons (.int _) (.cons (.int _) .nil)))
      refine ⟨_, rfl, ?_⟩
      refine ⟨by show 2 ≤ sizeLine; decide, fun a46 n46 => ?_⟩
      have s46 := sameNew (o := .lst [(.ref a45), y]) n46
      have hT46 : upd H45 a46 (.lst [(.ref a45), y]) a46 = some (.lst [(.ref a45), y]) := upd_same
      generalize upd H45 a46 (.lst [(.ref a45), y]) = H46 at s46 hT46 ⊢
      replace d_y := dp_same s46 _ _ d_y
      replace d_45 := dp_same s46 _ _ d_45
      replace sB := sB.trans s46
      refine ⟨_, a46, (.ref a45), y, y, (.tuple [(.list []), (.int 1), (.int 1)]), dy, dy, rfl, hT46, d_45, smB_ok (by decide +kernel), d_y, smB_ok p3, .inr ⟨by decide +kernel, not_true p1, rfl, rfl⟩, finB_ok p2, fun C1 c1 => ?_⟩
      replace d_y := dp_same c1 _ _ d_y
      replace sB := sB.trans c1
      refine ⟨_, rfl, y, dy, rfl, d_y, finB_ok p2, rfl, false, congrArg V.bl (ne_no _), ?_⟩
      exact iteF ⟨sW.trans sB, _, rfl⟩
    · obtain ⟨sW, y8, rfl⟩ := p
      exact ⟨sL.trans sW, _, _, rfl⟩
  · obtain ⟨sL, y7, y8, rfl⟩ := p
    exact tail Dn H' v0 v1 v2 v3 v4 v5 v6 y7 y8 v9 q
end
end K47

set_option Elab.async false
set_option linter.all false
set_option maxRecDepth 100000
set_option maxHeartbeats 4000000
set_option exponentiation.threshold 3000
namespace K47
open PySem PySem.Spec PyProof.Rows L2 CK
def sp_law (K : PySem.W.Frag) : Sp := fun vs H Q _ => ∃ (a : Addr) (ns : List Int), vs = [.ref a] ∧ SqL K H a (ns.map V.int) ∧ ns.length ≤ 63 ∧ ∀ H', Q (.bl true) H'
theorem new_run {H : Hp} {la ra : Addr} (na : H la = none) (s : Option Int) (m : Int) (nra : upd H la (.lst []) ra = none) : Same H (upd (upd H la (.lst [])) ra (.tup [.ref la, ov s, .int m])) ∧ RunH (upd (upd H la (.lst [])) ra (.tup [.ref la, ov s, .int m])) ra [] s m :=
  ⟨(sameNew na).trans (sameNew nra), la, upd_same, sameNew nra _ _ upd_same⟩
theorem law_end {l : PySem.W.OpenLaw} {w : World} {K : PySem.W.Frag} {mg : Str → Option Value} {fa E_InvalidRun E_TooMany E_CountError : Addr} (T : Txt K mg E_InvalidRun E_TooMany E_CountError) (hfa : mg "law" = some (.ref fa)) :
    ∃ fd : FuncData, (∀ (s : Shared) (v : Value), BindsTo s fd ⟨[v], []⟩ [("_law_script", v)]) ∧ ∀ base : Heap, K.In base → base.Ns mainGlobals mg → FnG l.prog w K mg base 8 fa fd ["_law_script"] (sp_law K) := by
  obtain ⟨f, fd, hm, hb, hF⟩ := T.d_law.oneG
  have e := hfa.symm.trans hm
  cases e
  refine ⟨fd, hb, fun base _ _ => hF sc_law (fun vs H Q E h => ?_) (fun cdv A outer s H vs Q E hr gd0 h => ?_)⟩
  · obtain ⟨_, _, rfl, _⟩ := h; rfl
  · obtain ⟨sa, ns, rfl, hS, hl, q⟩ := h
    have gd : (A.deeper (envOfC "law" (C8.fnScope (topS 43)) s.heap.objs.size fa cdv)).guards = some [] := gd0
    obtain ⟨u, hu, tail⟩ := law_bad T fa cdv A outer s H E hr gd0
    refine ⟨_, (pss_cons (ps_for PassesOwn.never rfl (pi_range1 (by rfl) T.m_range (pa_cons pe_int pa_nil)) (pg_name (i := 1) sc_law.nd rfl (Or.inl rfl))
    (pss_cons (ps_set (i := 2) sc_law.nd rfl (Or.inl rfl) (C8.pe_c (c_law_generator T) hr (by decide) (by rfl) (pa_cons (pv 0) (pa_cons (pv 1) pa_nil))))
    (pss_cons (ps_set (i := 3) sc_law.nd rfl (Or.inl rfl) (pe_lst (pa_cons (C8.pe_c (c_law_raw_run T) hr (by decide) (by rfl) (pa_cons (pv 2) (pa_cons pe_int pa_nil))) (pa_cons (C8.pe_c (c_law_raw_run T) hr (by decide) (by rfl) (pa_cons (pv 2) (pa_cons pe_int pa_nil))) pa_nil))))
    (pss_cons (ps_if (pt_cmpR op_eq (C8.pe_c (c_law_random T) hr (by decide) (by rfl) (pa_cons (pv 2) (pa_cons pe_int pa_nil))) pe_int (nomark _))
    (pss_one (ps_set (i := 3) sc_law.nd rfl (Or.inl rfl) (C8.pe_c (c_law_crossing T) hr (by decide) (by rfl) (pa_cons (pv 2) pa_nil))))
    pss_nil)
    (pss_cons (ps_par (i := 4) (j := 5) (by rfl) sc_law.nd rfl rfl (by decide) rfl rfl (pa_cons (pe_cG (c_law_made_least T) hr gd (by decide) (by rfl) (pa_cons (pe_ix ix_list (pv 3) pe_int (fun _ _ => rfl)) pa_nil)) (pa_cons (pe_cG (c_law_made_least T) hr gd (by decide) (by rfl) (pa_cons (pe_ix ix_list (pv 3) pe_int (fun _ _ => rfl)) pa_nil)) pa_nil)) (by rfl))
    (pss_cons (ps_set (i := 6) sc_law.nd rfl (Or.inl rfl) (pe_op op_add (pe_op op_powB pe_int pe_int) (C8.pe_c (c_law_random T) hr (by decide) (by rfl) (pa_cons (pv 2) (pa_cons (pe_op op_powB pe_int pe_int) pa_nil)))))
    (pss_cons (ps_if (PW.pt (pw_or (pt_not (pt_val (pe_cG (c_law_lesser_good T) hr gd (by decide) (by rfl) (pa_cons (pv 4) (pa_cons (pv 5) (pa_cons (pv 6) pa_nil)))))) (pw_or1 (pt_not (pt_val (pe_cG (c_law_sum_good T) hr gd (by decide) (by rfl) (pa_cons (pv 4) (pa_cons (pv 5) (pa_cons (pv 6) pa_nil)))))))))
    (pss_one (ps_ret pe_bl))
    pss_nil)
    (pss_cons (ps_if (PW.pt (pw_or (pt_not (pt_val (pe_cG (c_law_lesser_good T) hr gd (by decide) (by rfl) (pa_cons (pv 4) (pa_cons (pv 4) (pa_cons (pv 6) pa_nil)))))) (pw_or1 (pt_not (pt_val (pe_cG (c_law_lesser_good T) hr gd (by decide) (by rfl) (pa_cons (pv 4) (pa_cons (pe_tup (pa_cons (pe_lst pa_nil) (pa_cons pe_non (pa_cons pe_int pa_nil)))) (pa_cons (pv 6) pa_nil)))))))))
    (pss_one (ps_ret pe_bl))
    pss_nil)
    (pss_one (ps_if (pt_not (pt_val (pe_cG (c_law_sum_good T) hr gd (by decide) (by rfl) (pa_cons (pv 4) (pa_cons (pe_tup (pa_cons (pe_lst pa_nil) (pa_cons pe_int (pa_cons pe_int pa_nil)))) (pa_cons (pv 6) pa_nil))))))
    (pss_one (ps_ret pe_bl))
    pss_nil))))))))))
    hu), ?_⟩
    refine ⟨4, rfl, by decide, by decide, ?_⟩
    refine for_it walk_range (fun i σ H' => Same H H' ∧ ∃ y1 y2 y3 y4 y5 y6, σ = [some (.ref sa), y1, y2, y3, y4, y5, y6, none, none, none]) ⟨Same.refl _, none, none, none, none, none, none, rfl⟩ (fun _ _ _ _ _ => True.intro) (fun i x σ H' H'' hi p y => ?_) fun σ H' p => ?_
    · obtain ⟨s0, y1, y2, y3, y4, y5, y6, rfl⟩ := p
      obtain ⟨rfl, rfl⟩ := y
      have i4 : i < 4 := hi
      refine ⟨_, rfl, _, rfl, sa, ns, i, by show [V.ref sa, V.int (0 + (i : Int))] = _; rw [Int.zero_add], s0.seq hS, by omega, fun g H1 H2 s1 n1 s2 G2 => ?_⟩
      refine ⟨_, rfl, g, 99700, rfl, G2.le (by decide), fun o l xs st m H3 s3 G3 no nl ho hl' lx wx ws wm h0 => ⟨_, rfl, g, 99500, rfl, G3.le (by decide), fun o2 l2 ys t k H4 s4 G4 no2 nl2 ho2 hl2 ly wy wt wk h00 => ?_⟩⟩
      refine ⟨by show 2 ≤ sizeLine; decide, fun L nL => ?_⟩
      have sL := sameNew (o := .lst [.ref o, .ref o2]) nL
      have hL : upd H4 L (.lst [.ref o, .ref o2]) L = some (.lst [.ref o, .ref o2]) := upd_same
      generalize upd H4 L (.lst [.ref o, .ref o2]) = H5 at sL hL ⊢
      have og := Gn.ne G2 no
      have lg := Gn.ne G2 nl
      dsimp only
      rw [gname_eq]
      have d1 : Dr xs st m := ⟨by omega, fun x hx i e => Nat.lt_of_lt_of_le (wx x hx i e) (by decide), fun i e => Nat.lt_of_lt_of_le (ws i e) (by decide), Nat.lt_of_lt_of_le wm (by decide), h0⟩
      have d2 : Dr ys t k := ⟨by omega, fun x hx i e => Nat.lt_of_lt_of_le (wy x hx i e) (by decide), fun i e => Nat.lt_of_lt_of_le (wt i e) (by decide), Nat.lt_of_lt_of_le wk (by decide), h00⟩
      have w1 : RunH H5 o xs st m := ⟨l, sL _ _ (s4 _ _ og ho), sL _ _ (s4 _ _ lg hl')⟩
      have w2 : RunH H5 o2 ys t k := ⟨l2, sL _ _ ho2, sL _ _ hl2⟩
      have s25 : SameX g H2 H5 := s3.trans (s4.trans (.of sL))
      have G5 := G4.same sL
      refine joinS (a := tIfS _ _ _) (fun σ' Hx => ∃ (L o o2 : Addr) (xs ys : List (Option Int)) (s t : Option Int) (m k : Int), σ' = [some (.ref sa), some (.int (0 + (i : Int))), some (.ref g), some (.ref L), y4, y5, y6, none, none, none] ∧ SameX g H2 Hx ∧ Gn 99000 Hx g ∧ Hx L = some (.lst [.ref o, .ref o2]) ∧ RunH Hx o xs s m ∧ RunH Hx o2 ys t k ∧ Dr xs s m ∧ Dr ys t k) (fun σ' Hx p => ?_) fun U hU => ?_
      rotate_left
      · refine ⟨_, rfl, g, 3, 99499, rfl, G5, by decide, by decide, fun kd H6 s6 G6 k0 k1 => ⟨rfl, _, rfl, ?_⟩⟩
        by_cases e0 : kd = 0
        · rw [decide_eq_true (congrArg V.int e0)]
          exact iteT ⟨_, rfl, g, 99000, rfl, G6.le (by decide), fun L' o' o2' xs' ys' s' t' m' k' H7 s7 G7 hL' r1 r2 b1 b2 => hU _ _ ⟨L', o', o2', xs', ys', s', t', m', k', rfl, s25.trans (s6.trans s7), G7, hL', r1, r2, b1, b2⟩⟩
        · rw [decide_eq_false (fun z => e0 (V.int.inj z))]
          have Lg := Gn.ne G4 nL
          have o2g := Gn.ne G3 no2
          have l2g := Gn.ne G3 nl2
          exact iteF (hU _ _ ⟨L, o, o2, xs, ys, st, t, m, k, rfl, s25.trans s6, G6.le (by decide), s6 _ _ Lg hL, ⟨l, s6 _ _ og (sL _ _ (s4 _ _ og ho)), s6 _ _ lg (sL _ _ (s4 _ _ lg hl'))⟩, ⟨l2, s6 _ _ o2g (sL _ _ ho2), s6 _ _ l2g (sL _ _ hl2)⟩, d1, d2⟩)
      · clear d1 d2 w1 w2 G5 s25 hL sL nL G4 G3 s4 s3 ho hl' ho2 hl2
        obtain ⟨L, o, o2, xs, ys, st, t, m, k, rfl, s3, G3, hL, r1, r2, b1, b2⟩ := p
        refine ⟨_, rfl, L, _, 0, .ref o, rfl, rfl, .inl (.inl hL), rfl, o, xs, st, m, rfl, r1, b1, fun r l' H4 s4 nr nl hr4 hl4 => ?_⟩
        refine ⟨_, rfl, L, _, 1, .ref o2, rfl, rfl, .inl (.inl (s4 _ _ hL)), rfl, o2, ys, t, k, rfl, r2.same s4, b2, fun r' l2 H5 s5 nr' nl' hr5 hl5 => ⟨_, _, rfl, ?_⟩⟩
        have G5 := G3.same (s4.trans s5)
        have w1 : RunG H5 g r _ _ m := ⟨l', s5 _ _ hr4, s5 _ _ hl4, Gn.ne G3 nl⟩
        have w2 : RunG H5 g r' _ _ k := ⟨l2, hr5, hl5, Gn.ne (G3.same s4) nl'⟩
        have i1 := shr_least m xs st b1.h0
        have i2 := shr_least k ys t b2.h0
        refine ⟨10, 24, rfl, rfl, ⟨by decide, by decide⟩, _, rfl, 10, 30, rfl, rfl, ⟨by decide, by decide⟩, g, _, 98999, rfl, G5, by decide, by decide, fun kd H6 s6 G6 k0 k1 => ⟨_, _, rfl, rfl, ?_⟩⟩
        have p24 : (10 : Int) ^ (24 : Int).toNat = 1000000000000000000000000 := by decide +kernel
        have p30 : (10 : Int) ^ (30 : Int).toNat = 1000000000000000000000000000000 := by decide +kernel
        have k1 : kd < (10 : Int) ^ (30 : Int).toNat := k1
        rw [p30] at k1
        rw [p24]
        obtain ⟨gn, hgn, hgb⟩ : ∃ gn : Nat, 1000000000000000000000000 + kd = gn ∧ gn < 2 ^ 150 := ⟨(1000000000000000000000000 + kd).toNat, by omega, by omega⟩
        dsimp only
        rw [hgn, gname_eq]
        have x1 : RunH H6 r _ _ m := (w1.x G5 s6).run
        have x2 : RunH H6 r' _ _ k := (w2.x G5 s6).run
        have D1 := b1.shr
        have D2 := b2.shr
        refine ⟨_, rfl, _, rfl, _, rfl, r, r', _, _, _, _, m, k, gn, rfl, x1, x2, D1, D2, i1, i2, hgb, fun H7 s7 => ⟨true, rfl, iteF ?_⟩⟩
        refine ⟨_, rfl, _, rfl, _, rfl, r, r', _, _, _, _, m, k, gn, rfl, x1.same s7, x2.same s7, D1, D2, i1, i2, hgb, fun H8 s8 => ⟨true, rfl, iteF ?_⟩⟩
        have s68 := s7.trans s8
        refine ⟨_, rfl, _, rfl, _, rfl, r, r, _, _, _, _, m, m, gn, rfl, x1.same s68, x1.same s68, D1, D1, i1, i1, hgb, fun H9 s9 => ⟨true, rfl, iteF ?_⟩⟩
        have s69 := s68.trans s9
        refine ⟨_, rfl, by show 0 ≤ sizeLine; decide, fun la na => ⟨by show 3 ≤ sizeLine; decide, fun ra nra => ?_⟩⟩
        obtain ⟨sA, rA⟩ := new_run na none 0 nra
        have hA : upd (upd H9 la (.lst [])) ra (.tup [.ref la, .non, .int 0]) = upd (upd H9 la (.lst [])) ra (.tup [.ref la, ov none, .int 0]) := rfl
        rw [hA]
        generalize upd (upd H9 la (.lst [])) ra (.tup [.ref la, ov none, .int 0]) = HA at sA rA ⊢
        have s6A := s69.trans sA
        refine ⟨_, rfl, r, ra, _, [], _, none, m, 0, gn, rfl, x1.same s6A, rA, D1, dr_ok (by decide +kernel), i1, by decide +kernel, hgb, fun HB sB => ⟨true, rfl, iteF ?_⟩⟩
        have s6B := s6A.trans sB
        refine ⟨_, rfl, by show 0 ≤ sizeLine; decide, fun lc nc => ⟨by show 3 ≤ sizeLine; decide, fun rc nrc => ?_⟩⟩
        obtain ⟨sC, rC⟩ := new_run nc (some 0) 0 nrc
        have hC : upd (upd HB lc (.lst [])) rc (.tup [.ref lc, .int 0, .int 0]) = upd (upd HB lc (.lst [])) rc (.tup [.ref lc, ov (some 0), .int 0]) := rfl
        rw [hC]
        generalize upd (upd HB lc (.lst [])) rc (.tup [.ref lc, ov (some 0), .int 0]) = HC at sC rC ⊢
        have s6C := s6B.trans sC
        refine ⟨_, rfl, r, rc, _, [], _, some 0, m, 0, gn, rfl, x1.same s6C, rC, D1, dr_ok (by decide +kernel), i1, by decide +kernel, hgb, fun HD sD => ⟨true, rfl, iteF ?_⟩⟩
        refine ⟨fun b o e => ?_, _, _, _, _, _, _, rfl⟩
        have e1 := s1 _ _ (s0 _ _ e)
        have nb : b ≠ g := ne_of_none e1 n1
        exact (s6C.trans sD) _ _ (s6 _ _ nb (s5 _ _ (s4 _ _ (s3 _ _ nb (s2 _ _ e1)))))
    · obtain ⟨s0, y1, y2, y3, y4, y5, y6, rfl⟩ := p
      exact tail _ H' _ _ _ _ _ _ _ _ _ _ fun H'' => q H''
end K47

open PySem PySem.W PyProof.Rows
set_option maxHeartbeats 0 in
theorem PySem.Challenge.cw_countscribe_k47_sums_and_lessers_holds : PySem.Challenge.rw_countscribe_k47_sums_and_lessers.Holds := by
  w_on; o_law; k_head; (case hw => w_witness2)
  k_fill
  refine CK.walkG (l := PySem.Challenge.rw_countscribe_k47_sums_and_lessers) (n := 63) (k := 8) (x := "_law_script") (sp := fun w => K47.sp_law _) rfl (by decide) rfl ⟨rfl, by decide, by decide⟩ (fun w h Y => PySem.W.kIn_of Y) ?F (fun _ _ a ns hl _ hS => ⟨a, ns, rfl, hS, hl, fun _ => rfl⟩)
  case F =>
    intro w mg fa h KX G hmg
    refine' CK.with_err KX "InvalidRun" "value" (L2.inClass (K47.topS 2) 0) (CK.errF_mk KX G "InvalidRun.__init__" (L2.inClass (K47.topS 2) 0) ?a ?lk ?bm ?sa ?eC ?tC ?kp ?ga ?gg ?hd ?hcl ?hn ?ht ?hm ?no ?rf ?ii ?it ?il ?ic ?ik ?dl ?dm ?dr ?bd ?sc ?l1 ?l2 ?n1 ?n2 ?by_) fun x_InvalidRun => ?_
    (case a => k_is); (case lk => k_is); (case bm => decide +kernel); (case sa => k_is); (case eC => k_is); (case tC => k_is); (case kp => k_is); (case ga => k_is); (case gg => k_is); (case hd => k_is); (case hcl => k_is); (case hn => k_is); (case ht => k_is); (case hm => k_is); (case no => k_is); (case rf => first | rfl | k_is); (case ii => k_is); (case it => k_is); (case il => k_is); (case ic => k_is); (case ik => k_is); (case dl => k_is); (case dm => rfl); (case dr => first | rfl | exact ⟨_, rfl⟩)
    (case bd => exact fun _ _ _ _ _ _ _ us its h1 h2 => match us, its, h1, h2 with | [_, _], [_], _, _ => ⟨_, rfl, rfl⟩); (case sc => exact C8.fnScope_by (by decide +kernel)); (case l1 => rfl); (case l2 => rfl); (case n1 => decide); (case n2 => decide); (case by_ => exact ⟨_, _, _, _, rfl⟩)
    refine' CK.with_err KX "TooMany" "value" (L2.inClass (K47.topS 3) 0) (CK.errF_mk KX G "TooMany.__init__" (L2.inClass (K47.topS 3) 0) ?a ?lk ?bm ?sa ?eC ?tC ?kp ?ga ?gg ?hd ?hcl ?hn ?ht ?hm ?no ?rf ?ii ?it ?il ?ic ?ik ?dl ?dm ?dr ?bd ?sc ?l1 ?l2 ?n1 ?n2 ?by_) fun x_TooMany => ?_
    (case a => k_is); (case lk => k_is); (case bm => decide +kernel); (case sa => k_is); (case eC => k_is); (case tC => k_is); (case kp => k_is); (case ga => k_is); (case gg => k_is); (case hd => k_is); (case hcl => k_is); (case hn => k_is); (case ht => k_is); (case hm => k_is); (case no => k_is); (case rf => first | rfl | k_is); (case ii => k_is); (case it => k_is); (case il => k_is); (case ic => k_is); (case ik => k_is); (case dl => k_is); (case dm => rfl); (case dr => first | rfl | exact ⟨_, rfl⟩)
    (case bd => exact fun _ _ _ _ _ _ _ us its h1 h2 => match us, its, h1, h2 with | [_, _], [_], _, _ => ⟨_, rfl, rfl⟩); (case sc => exact C8.fnScope_by (by decide +kernel)); (case l1 => rfl); (case l2 => rfl); (case n1 => decide); (case n2 => decide); (case by_ => exact ⟨_, _, _, _, rfl⟩)
    refine' CK.with_base KX "CountError" (CK.baseE_mk KX G ?ba ?bb ?bc ?bd_) fun x_CountError => ?_
    (case ba => k_is); (case bb => k_is); (case bc => k_is); (case bd_ => k_is)
    refine' CK.with_sub x_InvalidRun x_InvalidRun.gC true ?z fun s_InvalidRun_InvalidRun => ?_; (case z => first | rfl | k_is)
    refine' CK.with_sub x_InvalidRun x_TooMany.gC false ?z fun s_InvalidRun_TooMany => ?_; (case z => first | rfl | k_is)
    refine' CK.with_sub x_InvalidRun x_CountError.gC true ?z fun s_InvalidRun_CountError => ?_; (case z => first | rfl | k_is)
    refine' CK.with_sub x_TooMany x_InvalidRun.gC false ?z fun s_TooMany_InvalidRun => ?_; (case z => first | rfl | k_is)
    refine' CK.with_sub x_TooMany x_TooMany.gC true ?z fun s_TooMany_TooMany => ?_; (case z => first | rfl | k_is)
    refine' CK.with_sub x_TooMany x_CountError.gC true ?z fun s_TooMany_CountError => ?_; (case z => first | rfl | k_is)
    refine' CK.with_def KX "is_whole" (K47.topS 5) ["value"] (CK.defF_mk KX G ?a ?l ?c ?k fun _ _ _ _ _ _ us hl => match us, hl with | [_], _ => rfl) fun d_is_whole => ?_
    (case a => k_is); (case l => k_is); (case c => k_is); (case k => k_is)
    refine' CK.with_def KX "is_run_value" (K47.topS 8) ["value"] (CK.defF_mk KX G ?a ?l ?c ?k fun _ _ _ _ _ _ us hl => match us, hl with | [_], _ => rfl) fun d_is_run_value => ?_
    (case a => k_is); (case l => k_is); (case c => k_is); (case k => k_is)
    refine' CK.with_def KX "is_run_list" (K47.topS 9) ["value"] (CK.defF_mk KX G ?a ?l ?c ?k fun _ _ _ _ _ _ us hl => match us, hl with | [_], _ => rfl) fun d_is_run_list => ?_
    (case a => k_is); (case l => k_is); (case c => k_is); (case k => k_is)
    refine' CK.with_def KX "is_slope" (K47.topS 10) ["start", "value"] (CK.defF_mk KX G ?a ?l ?c ?k fun _ _ _ _ _ _ us hl => match us, hl with | [_, _], _ => rfl) fun d_is_slope => ?_
    (case a => k_is); (case l => k_is); (case c => k_is); (case k => k_is)
    refine' CK.with_def KX "is_run" (K47.topS 11) ["value"] (CK.defF_mk KX G ?a ?l ?c ?k fun _ _ _ _ _ _ us hl => match us, hl with | [_], _ => rfl) fun d_is_run => ?_
    (case a => k_is); (case l => k_is); (case c => k_is); (case k => k_is)
    refine' CK.with_def KX "one_before" (K47.topS 12) ["start", "slope"] (CK.defF_mk KX G ?a ?l ?c ?k fun _ _ _ _ _ _ us hl => match us, hl with | [_, _], _ => rfl) fun d_one_before => ?_
    (case a => k_is); (case l => k_is); (case c => k_is); (case k => k_is)
    refine' CK.with_def KX "shortened" (K47.topS 13) ["first", "start", "slope"] (CK.defF_mk KX G ?a ?l ?c ?k fun _ _ _ _ _ _ us hl => match us, hl with | [_, _, _], _ => rfl) fun d_shortened => ?_
    (case a => k_is); (case l => k_is); (case c => k_is); (case k => k_is)
    refine' CK.with_def KX "need_run" (K47.topS 14) ["value"] (CK.defF_mk KX G ?a ?l ?c ?k fun _ _ _ _ _ _ us hl => match us, hl with | [_], _ => rfl) fun d_need_run => ?_
    (case a => k_is); (case l => k_is); (case c => k_is); (case k => k_is)
    refine' CK.with_def KX "at_count" (K47.topS 15) ["run", "count"] (CK.defF_mk KX G ?a ?l ?c ?k fun _ _ _ _ _ _ us hl => match us, hl with | [_, _], _ => rfl) fun d_at_count => ?_
    (case a => k_is); (case l => k_is); (case c => k_is); (case k => k_is)
    refine' CK.with_def KX "longer_list" (K47.topS 16) ["one", "other"] (CK.defF_mk KX G ?a ?l ?c ?k fun _ _ _ _ _ _ us hl => match us, hl with | [_, _], _ => rfl) fun d_longer_list => ?_
    (case a => k_is); (case l => k_is); (case c => k_is); (case k => k_is)
    refine' CK.with_defD KX "run_sum" (K47.topS 17) [] [] (CK.defD_mk _ _ _ _ KX G ?a ?l ?c ?k ?dd ?kk) fun d_run_sum => ?_
    (case a => k_is); (case l => k_is); (case c => k_is); (case k => k_is); (case dd => exact CK.dfl_nil); (case kk => exact CK.kwd_nil)
    refine' CK.with_def KX "value_sum" (K47.topS 18) ["left", "right"] (CK.defF_mk KX G ?a ?l ?c ?k fun _ _ _ _ _ _ us hl => match us, hl with | [_, _], _ => rfl) fun d_value_sum => ?_
    (case a => k_is); (case l => k_is); (case c => k_is); (case k => k_is)
    refine' CK.with_defD KX "run_lesser" (K47.topS 19) [] [] (CK.defD_mk _ _ _ _ KX G ?a ?l ?c ?k ?dd ?kk) fun d_run_lesser => ?_
    (case a => k_is); (case l => k_is); (case c => k_is); (case k => k_is); (case dd => exact CK.dfl_nil); (case kk => exact CK.kwd_nil)
    refine' CK.with_def KX "lesser_value" (K47.topS 20) ["left", "right"] (CK.defF_mk KX G ?a ?l ?c ?k fun _ _ _ _ _ _ us hl => match us, hl with | [_, _], _ => rfl) fun d_lesser_value => ?_
    (case a => k_is); (case l => k_is); (case c => k_is); (case k => k_is)
    refine' CK.with_def KX "is_lesser_far_on" (K47.topS 21) ["one", "other", "size"] (CK.defF_mk KX G ?a ?l ?c ?k fun _ _ _ _ _ _ us hl => match us, hl with | [_, _, _], _ => rfl) fun d_is_lesser_far_on => ?_
    (case a => k_is); (case l => k_is); (case c => k_is); (case k => k_is)
    refine' CK.with_def KX "lesser_since" (K47.topS 22) ["low", "high", "size"] (CK.defF_mk KX G ?a ?l ?c ?k fun _ _ _ _ _ _ us hl => match us, hl with | [_, _, _], _ => rfl) fun d_lesser_since => ?_
    (case a => k_is); (case l => k_is); (case c => k_is); (case k => k_is)
    refine' CK.with_def KX "_law_hash" (K47.topS 24) ["_law_seed", "_law_index"] (CK.defF_mk KX G ?a ?l ?c ?k fun _ _ _ _ _ _ us hl => match us, hl with | [_, _], _ => rfl) fun d_law_hash => ?_
    (case a => k_is); (case l => k_is); (case c => k_is); (case k => k_is)
    refine' CK.with_def KX "_law_generator" (K47.topS 25) ["_law_script", "_law_index"] (CK.defF_mk KX G ?a ?l ?c ?k fun _ _ _ _ _ _ us hl => match us, hl with | [_, _], _ => rfl) fun d_law_generator => ?_
    (case a => k_is); (case l => k_is); (case c => k_is); (case k => k_is)
    refine' CK.with_def KX "_law_random" (K47.topS 26) ["_law_generator_here", "_law_bound"] (CK.defF_mk KX G ?a ?l ?c ?k fun _ _ _ _ _ _ us hl => match us, hl with | [_, _], _ => rfl) fun d_law_random => ?_
    (case a => k_is); (case l => k_is); (case c => k_is); (case k => k_is)
    refine' CK.with_def KX "_law_back" (K47.topS 27) ["_law_start", "_law_slope_here"] (CK.defF_mk KX G ?a ?l ?c ?k fun _ _ _ _ _ _ us hl => match us, hl with | [_, _], _ => rfl) fun d_law_back => ?_
    (case a => k_is); (case l => k_is); (case c => k_is); (case k => k_is)
    refine' CK.with_def KX "_law_value" (K47.topS 28) ["_law_run", "_law_number"] (CK.defF_mk KX G ?a ?l ?c ?k fun _ _ _ _ _ _ us hl => match us, hl with | [_, _], _ => rfl) fun d_law_value => ?_
    (case a => k_is); (case l => k_is); (case c => k_is); (case k => k_is)
    refine' CK.with_def KX "_law_worth" (K47.topS 29) ["_law_generator_here"] (CK.defF_mk KX G ?a ?l ?c ?k fun _ _ _ _ _ _ us hl => match us, hl with | [_], _ => rfl) fun d_law_worth => ?_
    (case a => k_is); (case l => k_is); (case c => k_is); (case k => k_is)
    refine' CK.with_def KX "_law_raw_run" (K47.topS 30) ["_law_generator_here", "_law_most"] (CK.defF_mk KX G ?a ?l ?c ?k fun _ _ _ _ _ _ us hl => match us, hl with | [_, _], _ => rfl) fun d_law_raw_run => ?_
    (case a => k_is); (case l => k_is); (case c => k_is); (case k => k_is)
    refine' CK.with_def KX "_law_whole" (K47.topS 31) ["_law_value_here"] (CK.defF_mk KX G ?a ?l ?c ?k fun _ _ _ _ _ _ us hl => match us, hl with | [_], _ => rfl) fun d_law_whole => ?_
    (case a => k_is); (case l => k_is); (case c => k_is); (case k => k_is)
    refine' CK.with_def KX "_law_is_least" (K47.topS 32) ["_law_run"] (CK.defF_mk KX G ?a ?l ?c ?k fun _ _ _ _ _ _ us hl => match us, hl with | [_], _ => rfl) fun d_law_is_least => ?_
    (case a => k_is); (case l => k_is); (case c => k_is); (case k => k_is)
    refine' CK.with_def KX "_law_made_least" (K47.topS 33) ["_law_raw"] (CK.defF_mk KX G ?a ?l ?c ?k fun _ _ _ _ _ _ us hl => match us, hl with | [_], _ => rfl) fun d_law_made_least => ?_
    (case a => k_is); (case l => k_is); (case c => k_is); (case k => k_is)
    refine' CK.with_def KX "_law_sum" (K47.topS 34) ["_law_one", "_law_other"] (CK.defF_mk KX G ?a ?l ?c ?k fun _ _ _ _ _ _ us hl => match us, hl with | [_, _], _ => rfl) fun d_law_sum => ?_
    (case a => k_is); (case l => k_is); (case c => k_is); (case k => k_is)
    refine' CK.with_def KX "_law_lesser" (K47.topS 35) ["_law_one", "_law_other"] (CK.defF_mk KX G ?a ?l ?c ?k fun _ _ _ _ _ _ us hl => match us, hl with | [_, _], _ => rfl) fun d_law_lesser => ?_
    (case a => k_is); (case l => k_is); (case c => k_is); (case k => k_is)
    refine' CK.with_def KX "_law_lesser_at" (K47.topS 36) ["_law_one", "_law_other", "_law_number"] (CK.defF_mk KX G ?a ?l ?c ?k fun _ _ _ _ _ _ us hl => match us, hl with | [_, _, _], _ => rfl) fun d_law_lesser_at => ?_
    (case a => k_is); (case l => k_is); (case c => k_is); (case k => k_is)
    refine' CK.with_def KX "_law_slope" (K47.topS 37) ["_law_one", "_law_other"] (CK.defF_mk KX G ?a ?l ?c ?k fun _ _ _ _ _ _ us hl => match us, hl with | [_, _], _ => rfl) fun d_law_slope => ?_
    (case a => k_is); (case l => k_is); (case c => k_is); (case k => k_is)
    refine' CK.with_def KX "_law_ending_good" (K47.topS 38) ["_law_one", "_law_other", "_law_end", "_law_great"] (CK.defF_mk KX G ?a ?l ?c ?k fun _ _ _ _ _ _ us hl => match us, hl with | [_, _, _, _], _ => rfl) fun d_law_ending_good => ?_
    (case a => k_is); (case l => k_is); (case c => k_is); (case k => k_is)
    refine' CK.with_def KX "_law_lesser_good" (K47.topS 39) ["_law_one", "_law_other", "_law_great"] (CK.defF_mk KX G ?a ?l ?c ?k fun _ _ _ _ _ _ us hl => match us, hl with | [_, _, _], _ => rfl) fun d_law_lesser_good => ?_
    (case a => k_is); (case l => k_is); (case c => k_is); (case k => k_is)
    refine' CK.with_def KX "_law_sum_good" (K47.topS 40) ["_law_one", "_law_other", "_law_great"] (CK.defF_mk KX G ?a ?l ?c ?k fun _ _ _ _ _ _ us hl => match us, hl with | [_, _, _], _ => rfl) fun d_law_sum_good => ?_
    (case a => k_is); (case l => k_is); (case c => k_is); (case k => k_is)
    refine' CK.with_def KX "_law_crossing" (K47.topS 41) ["_law_generator_here"] (CK.defF_mk KX G ?a ?l ?c ?k fun _ _ _ _ _ _ us hl => match us, hl with | [_], _ => rfl) fun d_law_crossing => ?_
    (case a => k_is); (case l => k_is); (case c => k_is); (case k => k_is)
    refine' CK.with_def KX "_law_caught" (K47.topS 42) ["_law_which", "_law_given"] (CK.defF_mk KX G ?a ?l ?c ?k fun _ _ _ _ _ _ us hl => match us, hl with | [_, _], _ => rfl) fun d_law_caught => ?_
    (case a => k_is); (case l => k_is); (case c => k_is); (case k => k_is)
    refine' CK.with_def KX "law" (K47.topS 43) ["_law_script"] (CK.defF_mk KX G ?a ?l ?c ?k fun _ _ _ _ _ _ us hl => match us, hl with | [_], _ => rfl) fun d_law => ?_
    (case a => k_is); (case l => k_is); (case c => k_is); (case k => k_is)
    have m_all : mg "all" = none := by
      refine' PySem.W.mg_none_of KX G ?z
      (case z => k_is)
    have m_bool : mg "bool" = none := by
      refine' PySem.W.mg_none_of KX G ?z
      (case z => k_is)
    have m_int : mg "int" = none := by
      refine' PySem.W.mg_none_of KX G ?z
      (case z => k_is)
    have m_isinstance : mg "isinstance" = none := by
      refine' PySem.W.mg_none_of KX G ?z
      (case z => k_is)
    have m_len : mg "len" = none := by
      refine' PySem.W.mg_none_of KX G ?z
      (case z => k_is)
    have m_list : mg "list" = none := by
      refine' PySem.W.mg_none_of KX G ?z
      (case z => k_is)
    have m_max : mg "max" = none := by
      refine' PySem.W.mg_none_of KX G ?z
      (case z => k_is)
    have m_min : mg "min" = none := by
      refine' PySem.W.mg_none_of KX G ?z
      (case z => k_is)
    have m_range : mg "range" = none := by
      refine' PySem.W.mg_none_of KX G ?z
      (case z => k_is)
    have m_repr : mg "repr" = none := by
      refine' PySem.W.mg_none_of KX G ?z
      (case z => k_is)
    have m_sum : mg "sum" = none := by
      refine' PySem.W.mg_none_of KX G ?z
      (case z => k_is)
    have m_tuple : mg "tuple" = none := by
      refine' PySem.W.mg_none_of KX G ?z
      (case z => k_is)
    have k_MOST_ITEMS : ∃ u, mg "MOST_ITEMS" = some u ∧ L2.RelV (.int 600) u := by
      refine' ⟨?u_MOST_ITEMS, PySem.W.mg_of KX G ?z_MOST_ITEMS, ?r_MOST_ITEMS⟩
      (case z_MOST_ITEMS => k_is)
      all_goals exact ⟨_, rfl⟩
    have T : K47.Txt _ mg _ _ _ := ⟨x_InvalidRun, x_TooMany, x_CountError, s_InvalidRun_InvalidRun, s_InvalidRun_TooMany, s_InvalidRun_CountError, s_TooMany_InvalidRun, s_TooMany_TooMany, s_TooMany_CountError, d_is_whole, d_is_run_value, d_is_run_list, d_is_slope, d_is_run, d_one_before, d_shortened, d_need_run, d_at_count, d_longer_list, d_run_sum, d_value_sum, d_run_lesser, d_lesser_value, d_is_lesser_far_on, d_lesser_since, d_law_hash, d_law_generator, d_law_random, d_law_back, d_law_value, d_law_worth, d_law_raw_run, d_law_whole, d_law_is_least, d_law_made_least, d_law_sum, d_law_lesser, d_law_lesser_at, d_law_slope, d_law_ending_good, d_law_lesser_good, d_law_sum_good, d_law_crossing, d_law_caught, d_law, m_all, m_bool, m_int, m_isinstance, m_len, m_list, m_max, m_min, m_range, m_repr, m_sum, m_tuple, k_MOST_ITEMS⟩
    exact K47.law_end T hmg
