import PyProof.Rows.All
import Wide.All
import OpenK.AllK
import Wide.FinOn
import HandS.ForMost
import HandS.Wide
import HandS.WideBits
import HandS.TupAny
import HandS.TupMul
import HandS.IsInst
import HandS.Walk
import HandS.Style
import KE.GoesZip
import KE.GoesMore
import KE.GoesEnum
import HandS.Codes
import HandS.FStrTup
import PyProof.ListMulRoad
import PyProof.FactsAll.tuple_2
import PyProof.ReprLoop
import PyProof.ReprHeadsTuple
import PyProof.StrHeap
import PyProof.CallStr
import HandS.StrMore
import HandS.SortInts
import PyProof.Rows.StrRev
import PyProof.StrOps2
import KE.DataAny
import PyProof.ReprRoads
import HandS.Ends
import HandS.Defaults
import HandS.MakeKwOnly
import HandS.MakeKw
import HandS.Records
import HandS.Exc
import HandS.ExcOwn
import HandS.ExcInit
import HandS.ExcField
import HandS.ExcIs
import HandS.WordsExc
import HandS.TryOnly
import KE.KExcIs
import HandS.OwnEq
import PyProof.ReprLen
import PyProof.StrLawsRepr
import PySem.Challenge.RW_countscribe_k49_least_wheels
import HandS.Flow
import HandS.Conv
set_option Elab.async false
set_option linter.all false
set_option maxRecDepth 100000
set_option maxHeartbeats 2000000
/-! rules that the layer lacks: a power of great numbers, zip over a list and a tuple in any mix -/
namespace CK
open PySem PySem.Spec PyProof.Rows L2

section
variable {X : Cx}
theorem op_powB : OpR X (binaryOp .Pow) (rI (fun i j => 0 ≤ j ∧ (Builtin.Int.intBits i : Int) * j ≤ 2 ^ 27) fun i j => .int (i ^ j.toNat)) :=
  opI fun _ _ _ _ _ _ _ c q => pow_int c.1 c.2 q
end

/-- a list, or a tuple -/
inductive Kd | L | T
def SqB (K : PySem.W.Frag) : Kd → Hp → Addr → List V → Prop
  | .L, H, a, xs => SqL K H a xs
  | .T, H, a, xs => SqT K H a xs
def HasB : Kd → Heap → Addr → Array Value → Prop
  | .L, h, a, xs => h.IsList a xs
  | .T, h, a, xs => h.IsTuple a xs
def IterB : Kd → Heap → Addr → Addr → Nat → Prop
  | .L, h, it, a, i => h.IsListIter it a i
  | .T, h, it, a, i => h.IsTupleIter it a i
def objB : Kd → Addr → Obj
  | .L, a => { cls := .type "list_iterator", data := .fields #[.ref a, .int 0 0] }
  | .T, a => { cls := .type "tuple_iterator", data := .fields #[.ref a, .int 0 0] }
theorem drawsB (k : Kd) {prog : Program} {w : World} {A : Around} (hh : A.handled = none) (it t : Addr) (ne : t ≠ it) (zs : Array Value) :
    Draws prog w A it [it, t] zs.size (fun i v => zs[i]? = some v) (fun i h => IterB k h it t i ∧ HasB k h t zs) := by
  cases k with
  | L => exact Draws.list hh it t ne zs
  | T => exact Draws.tuple hh it t ne zs
theorem beginsB (k : Kd) (t : Addr) (zs : Array Value) : Begins (.ref t) (objB k t) fun h => HasB k h t zs := by
  cases k with
  | L => exact begins_list t zs
  | T => exact begins_tuple t zs
theorem IterB.at {k : Kd} {h h' : Heap} {it a : Addr} {i : Nat} (x : IterB k h it a i) (e : ∀ o, h.get? it = some o → h'.get? it = some o) : IterB k h' it a i := by
  cases k with
  | L => exact Heap.IsListIter.at x e
  | T => exact Heap.IsTupleIter.at x e
theorem IterB.there {k : Kd} {h : Heap} {it a : Addr} {i : Nat} (x : IterB k h it a i) : ∃ o, h.get? it = some o ∧ ∀ v, o.data ≠ .cell v := by
  cases k with
  | L =>
    obtain ⟨o, e, _, d⟩ := x
    exact ⟨o, e, fun v z => by rw [d] at z; cases z⟩
  | T =>
    obtain ⟨o, e, _, d⟩ := x
    exact ⟨o, e, fun v z => by rw [d] at z; cases z⟩
theorem IterB.new {k : Kd} {h : Heap} {it a : Addr} (e : h.get? it = some (objB k a)) : IterB k h it a 0 := by
  cases k with
  | L => exact ⟨_, e, rfl, rfl⟩
  | T => exact ⟨_, e, rfl, rfl⟩
theorem SqB.get {X : Cx} {pins : List (Addr × Obj)} {σ : L2.St} {H : Hp} {s : Shared} {k : Kd} {a : Addr} {xs : List V} (I : Inv X pins σ H s) (h : SqB X.K k H a xs) :
    ∃ zs : List Value, Vals xs zs ∧ HasB k s.heap a zs.toArray ∧ a < s.heap.objs.size := by
  cases k with
  | L =>
    obtain ⟨zs, r, p, _⟩ := I.list h
    exact ⟨zs, r, p.isList, p.lt⟩
  | T =>
    obtain ⟨zs, r, p, _⟩ := I.tuple h
    exact ⟨zs, r, p, p.lt⟩
theorem SqB.inj {X : Cx} {pins : List (Addr × Obj)} {σ : L2.St} {H : Hp} {s : Shared} {k : Kd} {a : Addr} {xs ys : List V} (I : Inv X pins σ H s) (h : SqB X.K k H a xs) (h' : SqB X.K k H a ys) : xs = ys := by
  cases k with
  | L => exact I.list_inj h h'
  | T => exact I.tuple_inj h h'

/-- both as they stand at each turn, the items in new pairs -/
def ItB (K : PySem.W.Frag) (k k' : Kd) (a b : Addr) : It :=
  ⟨fun i H => ∃ (xs ys : List V) (x y : V), SqB K k H a xs ∧ SqB K k' H b ys ∧ xs[i]? = some x ∧ ys[i]? = some y,
    fun i H v H' => ∃ T x y, v = .ref T ∧ H T = none ∧ H' = upd H T (.tup [x, y]) ∧ (∀ xs, SqB K k H a xs → xs[i]? = some x) ∧ ∀ ys, SqB K k' H b ys → ys[i]? = some y,
    fun i H => ∃ xs ys : List V, SqB K k H a xs ∧ SqB K k' H b ys ∧ i ≤ xs.length ∧ i ≤ ys.length ∧ (i = xs.length ∨ i = ys.length)⟩
theorem five {z TI TO i1 i2 c : Addr} (h : c ∈ [z, TI, TO, i1, i2]) : c = z ∨ c = TI ∨ c = TO ∨ c = i1 ∨ c = i2 := by simpa using h
theorem turnB {P : Program} {w : World} {K : PySem.W.Frag} {elts : List Expr} {kk : Nat} {tp : Pos} {k k' : Kd} {a b z TI TO i1 i2 : Addr} (S : ZipSep2 z TI TO i1 i2 [i1, a] [i2, b]) (na : a ≠ i1) (nb : b ≠ i2) :
    Turn P w K (.Tuple elts kk tp) (ItB K k k' a b) [z, TI, TO, i1, i2] z
      (fun i h => IsZip h z TI TO .none ∧ IsTupOf2 h TI (.ref i1) (.ref i2) ∧ (∃ x y, IsTupOf2 h TO x y) ∧ IterB k h i1 a i ∧ IterB k' h i2 b i) where
  mem := by simp
  obj := fun i h st c hc => by
    obtain ⟨hz, hI, ⟨x, y, hO⟩, h1, h2⟩ := st
    rcases five hc with q | q | q | q | q <;> subst q
    · exact ⟨_, hz, fun v q => nomatch q⟩
    · exact ⟨_, hI, fun v q => nomatch q⟩
    · exact ⟨_, hO, fun v q => nomatch q⟩
    · exact h1.there
    · exact h2.there
  keep := fun i h h' st q => by
    obtain ⟨hz, hI, ⟨x, y, hO⟩, h1, h2⟩ := st
    exact ⟨q z (by simp) _ hz, q TI (by simp) _ hI, ⟨x, y, q TO (by simp) _ hO⟩, h1.at (q i1 (by simp)), h2.at (q i2 (by simp))⟩
  item := by
    intro X hP hw hK hc i pins s σ H E I hf st hg
    subst hP hw hK
    obtain ⟨hz, hI, ⟨x0, y0, hO⟩, h1, h2⟩ := st
    obtain ⟨xs, ys, x, y, qx, qy, hx, hy⟩ := hg
    obtain ⟨zs, r1, p1, la⟩ := SqB.get I qx
    obtain ⟨zs', r2, p2, lb⟩ := SqB.get I qy
    obtain ⟨u, hu, ru⟩ := r1.get hx
    obtain ⟨u2, hu2, ru2⟩ := r2.get hy
    have z0 : z < s.heap.objs.size := Heap.lt_size hz
    have l1 : i < zs.toArray.size := by
      obtain ⟨q, _⟩ := List.getElem?_eq_some_iff.mp hu
      simpa using q
    have l2 : i < zs'.toArray.size := by
      obtain ⟨q, _⟩ := List.getElem?_eq_some_iff.mp hu2
      simpa using q
    have hh : X.A.in1.handled = none := I.ok.hd hc
    refine wpAny_pyNext_zipD2_item S (drawsB k hh i1 a na zs.toArray) (drawsB k' hh i2 b nb zs'.toArray) hz hI hO ⟨h1, p1⟩ ⟨h2, p2⟩ l1 l2 fun x1 x2 h' tk e1 e2 z' TO' t1 t2 hT hsz hk => ?_
    have e1' : x1 = u := by
      have q : zs[i]? = some x1 := by simpa using e1
      exact Option.some.inj (q.symm.trans hu)
    have e2' : x2 = u2 := by
      have q : zs'[i]? = some x2 := by simpa using e2
      exact Option.some.inj (q.symm.trans hu2)
    subst e1' e2'
    refine ⟨_, rfl, wpAny_letOwnedTupleGo_zip (s := { s with heap := h', toks := tk }) z' fun h'' z'' sb => ?_⟩
    have hT2 : h''.get? s.heap.objs.size = some { cls := .type "tuple", data := .seq #[x1, x2] } := (sb.2 _ (Nat.ne_of_gt z0)).trans hT
    have new : ObjOk X.prog X.w (upd H s.heap.objs.size (.tup [x, y])) h'' s.heap.objs.size (.tup [x, y]) :=
      ⟨by show 2 ≤ sizeLine; decide, [x1, x2], .cons ru (.cons ru2 .nil), ⟨_, hT2, rfl, _, rfl⟩⟩
    have I1 : Inv X pins σ (upd H s.heap.objs.size (.tup [x, y])) { s with heap := h'', toks := tk } :=
      I.turnedNew (ch := [z, TI, TO, i1, i2]) (fun c o hb q => by
        have n : c ≠ z ∧ c ≠ TI ∧ c ≠ TO ∧ c ≠ i1 ∧ c ≠ i2 := by simpa using hb
        exact (sb.2 c n.1).trans (hk c o n.1 n.2.2.1 n.2.2.2.1 n.2.2.2.2 q)) hf (Nat.le_refl _) new
    refine ⟨.ref s.heap.objs.size, _, I1, rfl, ⟨_, x, y, rfl, I.hok.fresh (Nat.le_refl _), rfl, fun l hl => by rw [SqB.inj I hl qx]; exact hx, fun l hl => by rw [SqB.inj I hl qy]; exact hy⟩, ⟨z'', ?_, ⟨x1, x2, ?_⟩, ?_, ?_⟩, fun c hcm => ?_⟩
    · exact (sb.2 _ S.TIz).trans (hk _ _ S.TIz S.TITO S.TIi1 S.TIi2 hI)
    · exact (sb.2 _ S.TOz).trans TO'
    · exact t1.1.at fun o q => (sb.2 _ S.zi1.symm).trans q
    · exact t2.1.at fun o q => (sb.2 _ S.zi2.symm).trans q
    · have lt : c < s.heap.objs.size := by
        rcases five hcm with q | q | q | q | q <;> subst q
        · exact z0
        · exact Heap.lt_size hI
        · exact Heap.lt_size hO
        · obtain ⟨_, e, _⟩ := h1.there
          exact Heap.lt_size e
        · obtain ⟨_, e, _⟩ := h2.there
          exact Heap.lt_size e
      rw [upd_ne (Nat.ne_of_lt lt)]
      exact (hf c hcm).1
  done := by
    intro X hP hw hK hc i pins s σ H E I hf st hg
    subst hP hw hK
    obtain ⟨hz, hI, ⟨x0, y0, hO⟩, h1, h2⟩ := st
    obtain ⟨xs, ys, qx, qy, m1, m2, hend⟩ := hg
    obtain ⟨zs, r1, p1, la⟩ := SqB.get I qx
    obtain ⟨zs', r2, p2, lb⟩ := SqB.get I qy
    have e1 : zs.toArray.size = xs.length := by rw [List.size_toArray]; exact r1.length.symm
    have e2 : zs'.toArray.size = ys.length := by rw [List.size_toArray]; exact r2.length.symm
    have hh : X.A.in1.handled = none := I.ok.hd hc
    exact wpAny_pyNext_zipD2_end S (drawsB k hh i1 a na zs.toArray) (drawsB k' hh i2 b nb zs'.toArray) hz hI hO ⟨h1, p1⟩ ⟨h2, p2⟩ (by omega) (by omega) (by omega) fun h' tk hk =>
      ⟨rfl, I.turnedL (ch := [z, TI, TO, i1, i2]) (fun c o hb q => by
        have n : c ≠ z ∧ c ≠ TI ∧ c ≠ TO ∧ c ≠ i1 ∧ c ≠ i2 := by simpa using hb
        exact hk c o n.1 n.2.2.1 n.2.2.2.1 n.2.2.2.2 q) hf⟩
  self := fun A i s Q E st h => wpAny_pyIter_zip st.1 h

def iZipB (K : PySem.W.Frag) (ta : TA) : TI := fun σ H R => ta σ H fun vs H1 => ∃ (k k' : Kd) (a b : Addr) (xs ys : List V), vs = [.ref a, .ref b] ∧ SqB K k H1 a xs ∧ SqB K k' H1 b ys ∧ R (ItB K k k' a b) H1
theorem pi_zipB {X : Cx} {K : PySem.W.Frag} {e e2 : Expr} {ta : TA} {p pos tp : Pos} {elts : List Expr} {kk : Nat} (hK : X.K = K) (hg : Gl X "zip") (hm : X.mg "zip" = none) (ha : PA X [e, e2] ta)
    (hs : starEach [e, e2] X.env = (false, eval e X.env) :: starEach [e2] X.env := by rfl) (hpl : (backTo pos (starEach [e2] X.env)).any (·.1) = false := by rfl) :
    PI X (.Tuple elts kk tp) (.Call (.Name "zip" p) [e, e2] [] pos) (iZipB K ta) := by
  subst hK
  refine ⟨fun pins s σ H R I h => Call_ (ld_blt I hg hm PyProof.Rows.boot_zip (callWith_type1 (thn (ha.run pos pins s σ H _ I h) fun us s1 q => ?_) hs hpl))⟩
  obtain ⟨vs, H1, I1, r1, k, k', a, b, xs, ys, rfl, qx, qy, q⟩ := q
  cases r1 with
  | cons r rr =>
  cases rr with
  | cons r' rr =>
  cases rr
  cases r
  cases r'
  obtain ⟨zs, _, p1, la⟩ := SqB.get I1 qx
  obtain ⟨zs', _, p2, lb⟩ := SqB.get I1 qy
  refine zip_begins2 (beginsB k a zs.toArray) (beginsB k' b zs'.toArray) p1 p2 fun h' hz hI hO o1 o2 hsz hk => wpAny_pyIter_zip hz ?_
  have S := zip_sep2 (N := s1.heap.objs.size) (fp1 := [a]) (fp2 := [b]) (fun c hc => by rw [List.mem_singleton.mp hc]; exact la) (fun c hc => by rw [List.mem_singleton.mp hc]; exact lb)
  refine ⟨s1.heap.objs.size + 4, _, _, _, H1, rfl, I1.kept (t' := s1.toks) hk, turnB S (Nat.ne_of_lt la) (Nat.ne_of_lt (Nat.lt_succ_of_lt lb)), ⟨hz, hI, ⟨_, _, hO⟩, .new o1, .new o2⟩, fun c hc => ?_, q⟩
  have le : s1.heap.objs.size ≤ c := by
    rcases five hc with z | z | z | z | z <;> subst z <;> first | exact Nat.le_add_right _ _ | exact Nat.le_refl _
  exact I1.fpOk le (I1.hok.fresh le)
theorem walkB {K : PySem.W.Frag} {k k' : Kd} {a b : Addr} {xs ys : List V} (hl : xs.length = ys.length) :
    Walk (ItB K k k' a b) xs.length (fun H => SqB K k H a xs ∧ SqB K k' H b ys) (YPair (fun i => xs[i]?) (fun i => ys[i]?)) := by
  refine ⟨fun i H hi q => ?_, fun H q => ⟨xs, ys, q.1, q.2, Nat.le_refl _, Nat.le_of_eq hl, .inl rfl⟩, fun i H v H' _ q y => ?_⟩
  · have h2 : i < ys.length := by omega
    exact ⟨xs, ys, xs[i], ys[i], q.1, q.2, by simp [hi], by simp [h2]⟩
  · obtain ⟨T, x, z, h1, h2, h3, h4, h5⟩ := y
    exact ⟨T, x, z, h1, h2, h3, h4 xs q.1, h5 ys q.2⟩
end CK

set_option Elab.async false
set_option linter.all false
set_option maxRecDepth 100000
set_option maxHeartbeats 4000000
namespace CK
open PySem PySem.Spec PyProof.Rows L2
theorem mulFill : fillsNumberSlot (.type "tuple") "mul" = pure false :=
  PySem.fillsNumberSlot_seq (r := some (.builtin "tuple.__rmul__")) (id := "tuple.__mul__") PySem.F.slot_tuple_mul.lookup (by decide +kernel)
    PySem.F.slot_tuple_rmul.lookup (by decide +kernel)
theorem mulSeq : seqRepeat? (.type "tuple") = pure (some (.builtin "tuple.__mul__")) := by
  unfold seqRepeat?
  rw [PySem.seqSlot_of (name := "__mul__") (id := "tuple.__mul__") (T := "tuple") PySem.F.slot_tuple_mul.lookup (by decide +kernel),
    PySem.seqSlot_of (name := "__rmul__") (id := "tuple.__rmul__") (T := "tuple") PySem.F.slot_tuple_rmul.lookup (by decide +kernel)]
  rfl
theorem rmulNo (a : Int) (t : Tok) (l : Addr) (zs : Array Value) (n : Nat) (dd : Option Addr) (sl : Array (Option Value)) :
    Meets (Builtin.«int.__rmul__» ⟨[.int a t, .ref l], []⟩) (fun _ R s =>
      s.heap.get? l = some { cls := .type "tuple", dict := dd, data := .seq zs n, slots := sl } ∧ R (.ok (.ret Value.notImplemented)) s) := by
  refine Meets.of_wp fun prog w A R s h => ?_
  obtain ⟨hq, g, d, tk, o2⟩ := s
  obtain ⟨hl, h⟩ := h
  wp_walk using wpAny_loadPart' hl
  exact ⟨_, rfl, h⟩
/-- one item, no times: a new empty tuple -/
theorem mul0 (l : Addr) (v : Value) (n : Nat) (dd : Option Addr) (sl : Array (Option Value)) (u : Tok) :
    Meets (Builtin.«tuple.__mul__» ⟨[.ref l, .int 0 u], []⟩) (fun _ R s =>
      s.heap.get? l = some { cls := .type "tuple", dict := dd, data := .seq #[v] n, slots := sl } ∧
      R (.ok (.ret (Value.ref s.heap.objs.size))) { s with heap := s.heap.push { cls := Value.type "tuple", data := Data.seq #[] } }) := by
  refine Meets.of_wp fun prog w A R s h => ?_
  obtain ⟨hq, g, d, tk, o2⟩ := s
  obtain ⟨hl, h⟩ := h
  have f1 := AutoSeq1.idx_int
  wp_walk using wpAny_loadPart' hl
  exact ⟨_, rfl, h⟩
/-- one item, once: the tuple itself -/
theorem mul1 (l : Addr) (v : Value) (n : Nat) (dd : Option Addr) (sl : Array (Option Value)) (u : Tok) :
    Meets (Builtin.«tuple.__mul__» ⟨[.ref l, .int 1 u], []⟩) (fun _ R s =>
      s.heap.get? l = some { cls := .type "tuple", dict := dd, data := .seq #[v] n, slots := sl } ∧ R (.ok (.ret (Value.ref l))) s) := by
  refine Meets.of_wp fun prog w A R s h => ?_
  obtain ⟨hq, g, d, tk, o2⟩ := s
  obtain ⟨hl, h⟩ := h
  have f1 := AutoSeq1.idx_int
  have f2 : (⟨hq, g, d, tk, o2⟩ : Shared).TypeIs (.ref l) "tuple" := ⟨_, hl, rfl⟩
  wp_walk using wpAny_loadPart' hl, wpAny_typeOf f2
  exact ⟨_, rfl, h⟩
section
variable {X : Cx}
theorem sameNew {H : Hp} {p : Addr} {o : HO} (h : H p = none) : Same H (upd H p o) := fun b z e => by
  rw [upd_ne (ne_of_none e h)]
  exact e
/-- one item, k times: 0 or 1 -/
def rRep01 : R2 := fun x y H Q => ∃ (l : Addr) (k : Int) (v : V), x = .ref l ∧ y = .int k ∧ H l = some (.tup [v]) ∧ (k = 0 ∨ k = 1) ∧
  ∀ p H', Same H H' → H' p = some (.tup (List.replicate k.toNat v)) → Q (.ref p) H'
theorem op_rep01 : OpR X (binaryOp .Mult) rRep01 := by
  intro pins s σ H x y xv yv Q I rx ry h
  obtain ⟨l, k, v, rfl, rfl, hl, hk, q⟩ := h
  cases rx
  obtain ⟨t, rfl⟩ := ry
  obtain ⟨zs, r, ⟨⟨cl, dd, da, sl⟩, ho, hc, n, hd⟩, hs⟩ := I.tuple (.inl (.inl hl) : SqT X.K H l [v])
  simp only at hc hd
  subst hc hd
  cases r with
  | cons r1 r2 =>
  cases r2
  rename_i u
  rcases hk with e | e <;> subst e
  · refine wpAny_binaryOp_repeat_ref (T := "tuple") (U := "int") (by decide) ⟨_, ho, rfl⟩ (fun s' => typeIs_int s' 0 t) mulFill F.fills_int_mul F.slot_int_rmul mulSeq F.slot_int_index.lookup
      (call_meets F.slot_int_rmul (typeIs_int s 0 t) F.entry_int_rmul (F.args_int_rmul_2 _ _) (rmulNo 0 t l _ n dd sl)
        ⟨ho, rfl, ⟨_, ho, rfl⟩, call_meets F.slot_tuple_mul ⟨_, ho, rfl⟩ F.entry_tuple_mul (F.args_tuple_mul_2 _ _) (mul0 l _ n dd sl t) ⟨ho, ?_⟩⟩)
    have hn : H s.heap.objs.size = none := I.hok.fresh (Nat.le_refl _)
    refine ⟨.ref s.heap.objs.size, _, I.laid (t' := s.toks) (o := .tup []) (fun b ob q => Heap.get?_push_of_some _ q) (Nat.le_refl _) ?_, rfl, q _ _ (sameNew hn) upd_same⟩
    exact ⟨Nat.zero_le _, [], .nil, IsTup.new _ _⟩
  · exact wpAny_binaryOp_repeat_ref (T := "tuple") (U := "int") (by decide) ⟨_, ho, rfl⟩ (fun s' => typeIs_int s' 1 t) mulFill F.fills_int_mul F.slot_int_rmul mulSeq F.slot_int_index.lookup
      (call_meets F.slot_int_rmul (typeIs_int s 1 t) F.entry_int_rmul (F.args_int_rmul_2 _ _) (rmulNo 1 t l _ n dd sl)
        ⟨ho, rfl, ⟨_, ho, rfl⟩, call_meets F.slot_tuple_mul ⟨_, ho, rfl⟩ F.entry_tuple_mul (F.args_tuple_mul_2 _ _) (mul1 l _ n dd sl t)
          ⟨ho, ⟨.ref l, H, I, rfl, q l H (Same.refl H) hl⟩⟩⟩)
/-! ### str(tuple of whole numbers): some text -/
theorem reprInts {prog : Program} {w : World} : ∀ {ns : List Int} {zs : List Value}, Vals (ns.map V.int) zs → (∀ n ∈ ns, n.natAbs.log2 < 1920) → ReprAll prog w zs (ns.map fun n => (toString n : Str))
  | [], _, r, _ => by
    cases r
    exact .nil
  | n :: l, _, r, h => by
    cases r with
    | cons r1 r2 =>
    obtain ⟨t, rfl⟩ := r1
    exact .cons (ReprIs.int t (h n List.mem_cons_self)) (reprInts r2 fun z hz => h z (List.mem_cons_of_mem _ hz))
end
end CK
namespace CK
open PySem PySem.Spec PyProof.Rows L2
section
variable {X : Cx}
/-- one item, k times -/
def rRepOne (K : PySem.W.Frag) : R2 := fun x y H Q => ∃ (l : Addr) (k : Int) (v : V), x = .ref l ∧ y = .int k ∧ H l = some (.tup [v]) ∧ 0 ≤ k ∧ k ≤ 1000 ∧
  ∀ p H', Same H H' → H' p = some (.tup (List.replicate k.toNat v)) → Q (.ref p) H'
theorem flat_rep {α : Type} (v : α) : ∀ n : Nat, (List.replicate n [v]).flatten = List.replicate n v
  | 0 => rfl
  | n + 1 => by rw [List.replicate_succ, List.flatten_cons, flat_rep v n, List.replicate_succ]; rfl
theorem op_repOne : OpR X (binaryOp .Mult) (rRepOne X.K) := by
  intro pins s σ H x y xv yv Q I rx ry h
  obtain ⟨l, k, v, rfl, rfl, hl, h0, h1, q⟩ := h
  by_cases hk : k = 0 ∨ k = 1
  · exact op_rep01 pins s σ H _ _ xv yv Q I rx ry ⟨l, k, v, rfl, rfl, hl, hk, q⟩
  · refine op_repT pins s σ H _ _ xv yv Q I rx ry ⟨l, k, [v], rfl, rfl, .inl (.inl hl), List.cons_ne_nil _ _, by omega, h1, by show 1 ≤ 1000; omega, fun p hp => q p _ (sameNew hp) ?_⟩
    rw [upd_same, flat_rep]
/-- str of a tuple of whole numbers: some text -/
theorem call_str_tup {k : Nat} (hr : Room k X.A) : CallR X (.type "str") (fun xs H Q => ∃ (a : Addr) (ns : List Int), xs = [.ref a] ∧ H a = some (.tup (ns.map V.int)) ∧ ns.length ≤ 100 ∧ (∀ n ∈ ns, n.natAbs.log2 < 1920) ∧ ∀ m : Str, Q (.str m) H) := by
  intro pins s σ H xs us Q I r h
  obtain ⟨a, ns, rfl, ha, hl, hn, q⟩ := h
  obtain ⟨u, rfl, rx⟩ := vals1 r
  cases rx
  obtain ⟨zs, rv, ⟨o, ho, hc, n, hd⟩, hz⟩ := I.tuple (.inl (.inl ha) : SqT X.K H a _)
  have hu := hr.units
  have hT : ReprAll X.prog X.w zs.toArray.toList (ns.map fun n => (toString n : Str)) := by simpa using reprInts rv hn
  have hp : ∀ l : List Int, (∀ n ∈ l, n.natAbs.log2 < 1920) → piled (l.map fun n => (toString n : Str)) ≤ l.length * 1923 := by
    intro l
    induction l with
    | nil => intro _; exact Nat.le_refl _
    | cons z l ih =>
      intro h
      have a1 := int_text_length_le (a := z) (k := 1920) (by omega) (h z List.mem_cons_self)
      have a2 := ih fun n hn => h n (List.mem_cons_of_mem _ hn)
      rw [List.map_cons, piled_cons, List.length_cons]
      have a3 : ((toString z : Str)).length = (toString z).length := PySem.ofString_length _
      omega
  have h1 := fmt_text (ns.map fun n => (toString n : Str))
  have h2 := hp ns hn
  have h3 : ns.length * 1923 ≤ 192300 := by omega
  have h4 : (tupleText (ns.map fun n => (toString n : Str))).length ≤ sizeLine := by
    rw [sizeLine_eq]
    omega
  refine callType_new F.called_str (by decide) (F.typeCall_str_1 _) (F.newCall_str_1 _) (fun obj => F.args_object_init_2 obj _) F.entry_str_new
    (meets_str_new (S := fun A' R s' => A'.units + 4 < cLine ∧ s'.heap.get? a = some o ∧ ∀ (m : Str) (u tk : Tok), R (.ok (.ret (.str m u))) { s' with toks := tk }) fun prog w A' R s' h =>
      wpAny_strOf_slot rfl (by show A'.units + 1 + 1 < cLine; have := h.1; omega) ⟨o, h.2.1, hc⟩ F.slot_tuple_str F.slot_tuple_repr
        (fmt_tuple_repr h.2.1 hc hd ?_ h4 fun m u tk _ => ⟨m, u, rfl, h.2.2 m u tk⟩))
    ⟨by show X.A.units + 1 + 4 < cLine; omega, ho, fun m u tk => ⟨typeIs_str _ _ _, .str m, H, I.tok _, ⟨u, rfl⟩, q m⟩⟩
  exact by simpa using reprInts rv hn
end
end CK

set_option Elab.async false
set_option linter.all false
set_option maxRecDepth 100000
set_option maxHeartbeats 2000000
namespace CK
open PySem PySem.Spec PyProof.Rows L2
/-! ### a def as it stands behind the top, and its promise by its body -/
structure DefF (K : PySem.W.Frag) (mg : Str → Option Value) (x : Str) (st : Stmt) (ps : List Str) : Prop where
  ex : ∃ (f : Addr) (fd : FuncData), C8.Def K mg x st f fd ∧ ∀ us : List Value, us.length = ps.length → bindArgs fd ⟨us, []⟩ = pure (ps.zip us)
theorem defF_mk {K : PySem.W.Frag} {h : Heap} {mg : Str → Option Value} {x : Str} {st : Stmt} {ps : List Str} {f : Addr} {od an : Option Addr} {oc kV dc pm cd ct : Value} {sl : Array (Option Value)}
    (X : K.In h) (G : h.Ns mainGlobals mg) (a : PySem.W.nsIn K mainGlobals x = some (some (.ref f)))
    (l : K.lookup f = some ⟨oc, od, .func (PySem.W.fnOf x x (C8.fnArgs st) (C8.fnBody st) (C8.fnScope st) .none kV dc pm an cd ct), sl⟩)
    (c : PySem.W.codeIn K cd x = true) (k : PySem.W.keepIn K (.ref f) = true)
    (hb : ∀ (kV doc pm : Value) (an : Option Addr) (cdv ct : Value) (us : List Value), us.length = ps.length →
      bindArgs (PySem.W.fnOf x x (C8.fnArgs st) (C8.fnBody st) (C8.fnScope st) .none kV doc pm an cdv ct) ⟨us, []⟩ = pure (ps.zip us)) : DefF K mg x st ps :=
  ⟨f, _, ⟨⟨oc, od, .none, kV, dc, pm, an, cd, ct, sl, rfl, l, c⟩, PySem.W.mg_of X G a, k⟩, hb kV dc pm an cd ct⟩
theorem calF {P : Program} {w : World} {K : PySem.W.Frag} {mg : Str → Option Value} {base : Heap} {x : Str} {st : Stmt} {N ps : List Str} {k : Nat} {sp : Sp} (D : DefF K mg x st ps) (S : FnScope N ps (C8.fnScope st))
    (len : ∀ vs H Q E, sp vs H Q E → vs.length = ps.length)
    (hbody : ∀ (f : Addr) (cdv : Value) (A : Around) (outer : List Env) (s : Shared) (H : Hp) (vs : List V) (Q : VK) (E : XK), Room k (A.deeper (envOfC x (C8.fnScope st) s.heap.objs.size f cdv)) → sp vs H Q E →
      ∃ t, PSs (cxOf C8.CX0 P w K mg base N x (C8.fnScope st) f cdv A outer s H E).nox (C8.fnBody st) t ∧ t { nx := fun _ H' => Q .non H', rt := Q } (start N vs) H) : C8.Cal P w K mg base (k + 1) x sp [] := by
  obtain ⟨f, fd, F, b⟩ := D.ex
  exact C8.cal0 F (.all b) .nil S len (hbody f)
/-- a def of one parameter as it stands, for the law's end -/
theorem DefF.one {K : PySem.W.Frag} {mg : Str → Option Value} {x p : Str} {st : Stmt} (D : DefF K mg x st [p]) : ∃ (f : Addr) (fd : FuncData), mg x = some (.ref f) ∧ (∀ (s : Shared) (v : Value), BindsTo s fd ⟨[v], []⟩ [(p, v)]) ∧
    ∀ {P : Program} {w : World} {base : Heap} {N : List Str} {k : Nat} {sp : Sp} (S : FnScope N [p] (C8.fnScope st)) (len : ∀ vs H Q E, sp vs H Q E → vs.length = 1)
      (hbody : ∀ (f : Addr) (cdv : Value) (A : Around) (outer : List Env) (s : Shared) (H : Hp) (vs : List V) (Q : VK) (E : XK), Room k (A.deeper (envOfC x (C8.fnScope st) s.heap.objs.size f cdv)) → sp vs H Q E →
        ∃ t, PSs (cxOf C8.CX0 P w K mg base N x (C8.fnScope st) f cdv A outer s H E).nox (C8.fnBody st) t ∧ t { nx := fun _ H' => Q .non H', rt := Q } (start N vs) H), FnOk P w K mg base C8.CX0 (k + 1) f fd [p] sp := by
  obtain ⟨f, fd, F, b⟩ := D.ex
  exact ⟨f, fd, F.mgf, fun s v => .of_eq (b [v] rfl), fun S len hbody => C8.fn0 F.fn S len (hbody f)⟩

theorem with_def {K : PySem.W.Frag} {h : Heap} {mg : Str → Option Value} (_ : K.In h) (x : Str) (st : Stmt) (ps : List Str) {R : Prop} (d : DefF K mg x st ps) (r : DefF K mg x st ps → R) : R := r d
/-! ### heaps -/
/-- all that was tracked is as it was, but for g -/
def SameX (g : Addr) (H H' : Hp) : Prop := ∀ b o, b ≠ g → H b = some o → H' b = some o
theorem SameX.refl (g : Addr) (H : Hp) : SameX g H H := fun _ _ _ h => h
theorem SameX.trans {g : Addr} {H H1 H2 : Hp} (a : SameX g H H1) (b : SameX g H1 H2) : SameX g H H2 := fun c o n h => b c o n (a c o n h)
theorem SameX.of {g : Addr} {H H1 : Hp} (a : Same H H1) : SameX g H H1 := fun c o _ h => a c o h
theorem sameX_upd {g : Addr} {H : Hp} {o : HO} : SameX g H (upd H g o) := fun b z n e => by
  rw [upd_ne n]
  exact e
theorem same_upd2 {H H1 : Hp} {D : Addr} {o : HO} (hD : H D = none) (s : Same H H1) : Same H (upd H1 D o) := fun b z e => by
  rw [upd_ne (ne_of_none e hD)]
  exact s b z e

/-! ### what a value is -/
/-- the built-in type of a value that is known -/
def tnm (H : Hp) : V → String
  | .non => "NoneType"
  | .bl _ => "bool"
  | .int _ => "int"
  | .str _ => "str"
  | .ref a => match H a with
    | some (.lst _) => "list"
    | some (.tup _) => "tuple"
    | _ => "?"
  | _ => "?"
theorem tnm_tup {H : Hp} {a : Addr} {xs : List V} (h : H a = some (.tup xs)) : tnm H (.ref a) = "tuple" := by
  simp only [tnm, h]
theorem tnm_lst {H : Hp} {a : Addr} {xs : List V} (h : H a = some (.lst xs)) : tnm H (.ref a) = "list" := by
  simp only [tnm, h]
/-- a value whose type is known -/
inductive Kn (H : Hp) : V → Prop
  | non : Kn H .non
  | bl (b : Bool) : Kn H (.bl b)
  | int (i : Int) : Kn H (.int i)
  | str (x : Str) : Kn H (.str x)
  | lst {a : Addr} {xs : List V} (e : H a = some (.lst xs)) : Kn H (.ref a)
  | tup {a : Addr} {xs : List V} (e : H a = some (.tup xs)) : Kn H (.ref a)
theorem Kn.same {H H' : Hp} {v : V} (k : Kn H v) (s : Same H H') : Kn H' v := by
  cases k with
  | non => exact .non
  | bl b => exact .bl b
  | int i => exact .int i
  | str x => exact .str x
  | lst e => exact .lst (s _ _ e)
  | tup e => exact .tup (s _ _ e)
theorem Kn.ty {K : PySem.W.Frag} {H : Hp} {v : V} (k : Kn H v) : TyX K H v (.type (tnm H v)) := by
  cases k with
  | non => exact .base .non
  | bl b => exact .base (.bl b)
  | int i => exact .base (.int i)
  | str x => exact .base (.str x)
  | lst e => rw [tnm_lst e]; exact .base (.lst e)
  | tup e => rw [tnm_tup e]; exact .base (.tup e)
section
variable {X : Cx}
/-- isinstance(v, T), a known value, a built-in type -/
theorem call_isK : CallR X (.builtin "isinstance") (fun xs H Q => ∃ (v : V) (T : String) (b : Bool), xs = [v, .ty T] ∧ Kn H v ∧ kitB (tnm H v) T = some b ∧ Q (.bl b) H) := by
  intro pins s σ H xs us Q I r h
  obtain ⟨v, T, b, rfl, k, e, q⟩ := h
  exact call_isi pins s σ H _ us Q I r ⟨v, .ty T, _, _, b, rfl, .ty T, k.ty, kit_ty e, q⟩
end
/-- a whole number, no Boolean -/
def isW : V → Bool
  | .int _ => true
  | _ => false
/-- a count -/
def isC : V → Bool
  | .int i => decide (0 ≤ i)
  | _ => false
/-- isinstance(v, int) -/
def isI : V → Bool
  | .int _ => true
  | .bl _ => true
  | _ => false
def isBo : V → Bool
  | .bl _ => true
  | _ => false
def isTu (H : Hp) : V → Bool
  | .ref a => match H a with
    | some (.tup _) => true
    | _ => false
  | _ => false
def isLi (H : Hp) : V → Bool
  | .ref a => match H a with
    | some (.lst _) => true
    | _ => false
  | _ => false
theorem kit_int {H : Hp} {v : V} (k : Kn H v) : kitB (tnm H v) "int" = some (isI v) := by
  cases k with
  | non => show kitB "NoneType" "int" = some false; decide +kernel
  | bl b => show kitB "bool" "int" = some true; decide +kernel
  | int i => show kitB "int" "int" = some true; decide +kernel
  | str x => show kitB "str" "int" = some false; decide +kernel
  | lst e => rw [tnm_lst e]; show kitB "list" "int" = some false; decide +kernel
  | tup e => rw [tnm_tup e]; show kitB "tuple" "int" = some false; decide +kernel
theorem kit_bool {H : Hp} {v : V} (k : Kn H v) : kitB (tnm H v) "bool" = some (isBo v) := by
  cases k with
  | non => show kitB "NoneType" "bool" = some false; decide +kernel
  | bl b => show kitB "bool" "bool" = some true; decide +kernel
  | int i => show kitB "int" "bool" = some false; decide +kernel
  | str x => show kitB "str" "bool" = some false; decide +kernel
  | lst e => rw [tnm_lst e]; show kitB "list" "bool" = some false; decide +kernel
  | tup e => rw [tnm_tup e]; show kitB "tuple" "bool" = some false; decide +kernel
theorem kit_tuple {H : Hp} {v : V} (k : Kn H v) : kitB (tnm H v) "tuple" = some (isTu H v) := by
  cases k with
  | non => show kitB "NoneType" "tuple" = some false; decide +kernel
  | bl b => show kitB "bool" "tuple" = some false; decide +kernel
  | int i => show kitB "int" "tuple" = some false; decide +kernel
  | str x => show kitB "str" "tuple" = some false; decide +kernel
  | lst e => rw [tnm_lst e, show isTu H (.ref _) = false by simp only [isTu, e]]; decide +kernel
  | tup e => rw [tnm_tup e, show isTu H (.ref _) = true by simp only [isTu, e]]; decide +kernel
theorem kit_list {H : Hp} {v : V} (k : Kn H v) : kitB (tnm H v) "list" = some (isLi H v) := by
  cases k with
  | non => show kitB "NoneType" "list" = some false; decide +kernel
  | bl b => show kitB "bool" "list" = some false; decide +kernel
  | int i => show kitB "int" "list" = some false; decide +kernel
  | str x => show kitB "str" "list" = some false; decide +kernel
  | lst e => rw [tnm_lst e, show isLi H (.ref _) = true by simp only [isLi, e]]; decide +kernel
  | tup e => rw [tnm_tup e, show isLi H (.ref _) = false by simp only [isLi, e]]; decide +kernel
theorem isTu_tup {H : Hp} {a : Addr} {xs : List V} (e : H a = some (.tup xs)) : isTu H (.ref a) = true := by simp only [isTu, e]
theorem isLi_lst {H : Hp} {a : Addr} {xs : List V} (e : H a = some (.lst xs)) : isLi H (.ref a) = true := by simp only [isLi, e]

/-! ### comprehensions that map -/
/-- n turns, each giving f i and leaving all that was tracked -/
theorem lc_mapW {J : It} {n : Nat} {G : Hp → Prop} {Y : Nat → Hp → V → Hp → Prop} (w : Walk J n G Y) {g : TG} {te : TE} {vs : List Nat} {σ : L2.St} {H1 : Hp} {D : Addr} {Qd : Hp → Prop} (f : Nat → V) (hn : n < sizeLine)
    (hG : ∀ H, Same H1 H → G H)
    (hs : ∀ (i : Nat) (x : V) (H H' : Hp) (R : VK), i < n → Same H1 H → Y i H x H' → (∀ H'', Same H H'' → R (f i) H'') → g x (wipe σ vs) H' fun σ2 H2 => wipe σ2 vs = wipe σ vs ∧ te σ2 H2 R)
    (hD : H1 D = none) (hd : ∀ H : Hp, Same H1 H → H D = some (.lst ((List.range n).map f)) → Qd H) :
    ∃ W : Nat → Nat → Hp → Prop, (∃ m, W 0 m (upd H1 D (.lst []))) ∧ ∀ i m H, W i m H →
      (J.stop i H ∧ Qd H) ∨ (J.go i H ∧ ∃ Nx : Hp → Prop, (∀ H', Nx H' → ∃ m', m' < m ∧ W (i + 1) m' H') ∧ ∀ x H', J.yld i H x H' → g x (wipe σ vs) H' fun σ2 H2 => wipe σ2 vs = wipe σ vs ∧ tYes σ2 H2 fun b H3 =>
        if b = true then te σ2 H3 fun y H4 => ∃ acc, H4 D = some (.lst acc) ∧ acc.length < sizeLine ∧ Nx (upd H4 D (.lst (acc ++ [y]))) else Nx H3) := by
  refine lc_it w (fun i H => Same H1 H ∧ H D = some (.lst ((List.range i).map f)) ∧ i ≤ n) ⟨sameNew hD, upd_same, Nat.zero_le _⟩ (fun i H _ p => hG H p.1) (fun i x H H' hi p y => ?_) fun H p => hd H p.1 p.2.1
  have q := hs i x H H' (fun y H4 => ∃ acc, H4 D = some (.lst acc) ∧ acc.length < sizeLine ∧ (Same H1 (upd H4 D (.lst (acc ++ [y]))) ∧ upd H4 D (.lst (acc ++ [y])) D = some (.lst ((List.range (i + 1)).map f)) ∧ i + 1 ≤ n)) hi p.1 y fun H'' s => by
    refine ⟨_, s D _ p.2.1, ?_, same_upd2 hD (p.1.trans s), ?_, hi⟩
    · rw [List.length_map, List.length_range]
      omega
    · rw [upd_same, List.range_succ, List.map_append]
      rfl
  exact q
theorem range_map_get {α β : Type} (xs : List α) (f : α → β) (d : Nat → β) (h : ∀ (i : Nat) (x : α), xs[i]? = some x → d i = f x) : (List.range xs.length).map d = xs.map f := by
  refine List.ext_getElem? fun i => ?_
  by_cases hi : i < xs.length
  · rw [List.getElem?_map, List.getElem?_map, List.getElem?_range hi, List.getElem?_eq_getElem hi]
    exact congrArg some (h i _ (List.getElem?_eq_getElem hi))
  · rw [List.getElem?_eq_none (by simp; omega), List.getElem?_eq_none (by simp; omega)]
/-- over a tuple -/
theorem lcT_map {K : PySem.W.Frag} {a : Addr} {xs : List V} {j : Nat} {te : TE} {vs : List Nat} {σ : L2.St} {H1 : Hp} {D : Addr} {Qd : Hp → Prop} (f : V → V) (ha : H1 a = some (.tup xs)) (hn : xs.length < sizeLine)
    (hs : ∀ (i : Nat) (x : V) (H : Hp) (R : VK), xs[i]? = some x → Same H1 H → (∀ H', Same H H' → R (f x) H') → wipe ((wipe σ vs).set j (some x)) vs = wipe σ vs ∧ te ((wipe σ vs).set j (some x)) H R)
    (hD : H1 D = none) (hd : ∀ H : Hp, Same H1 H → H D = some (.lst (xs.map f)) → Qd H) :
    ∃ W : Nat → Nat → Hp → Prop, (∃ m, W 0 m (upd H1 D (.lst []))) ∧ ∀ i m H, W i m H →
      ((Itt K a).stop i H ∧ Qd H) ∨ ((Itt K a).go i H ∧ ∃ Nx : Hp → Prop, (∀ H', Nx H' → ∃ m', m' < m ∧ W (i + 1) m' H') ∧ ∀ x H', (Itt K a).yld i H x H' → gName j x (wipe σ vs) H' fun σ2 H2 => wipe σ2 vs = wipe σ vs ∧ tYes σ2 H2 fun b H3 =>
        if b = true then te σ2 H3 fun y H4 => ∃ acc, H4 D = some (.lst acc) ∧ acc.length < sizeLine ∧ Nx (upd H4 D (.lst (acc ++ [y]))) else Nx H3) := by
  have e : (List.range xs.length).map (fun i => f (xs.getD i .non)) = xs.map f := range_map_get xs f _ fun i x h => by rw [List.getD_eq_getElem?_getD, h]; rfl
  refine lc_mapW (walk_tup (K := K) (a := a) (xs := xs)) (fun i => f (xs.getD i .non)) hn (fun H s => .inl (.inl (s _ _ ha))) (fun i x H H' R hi s y q => ?_) hD fun H s q => hd H s (by rw [q, e])
  obtain ⟨rfl, hx⟩ := y
  refine hs i x H' R hx s fun H'' s' => ?_
  have := q H'' s'
  rw [show xs.getD i .non = x by rw [List.getD_eq_getElem?_getD, hx]; rfl] at this
  exact this
/-- over a list -/
theorem lcL_map {K : PySem.W.Frag} {a : Addr} {xs : List V} {j : Nat} {te : TE} {vs : List Nat} {σ : L2.St} {H1 : Hp} {D : Addr} {Qd : Hp → Prop} (f : V → V) (ha : H1 a = some (.lst xs)) (hn : xs.length < sizeLine)
    (hs : ∀ (i : Nat) (x : V) (H : Hp) (R : VK), xs[i]? = some x → Same H1 H → (∀ H', Same H H' → R (f x) H') → wipe ((wipe σ vs).set j (some x)) vs = wipe σ vs ∧ te ((wipe σ vs).set j (some x)) H R)
    (hD : H1 D = none) (hd : ∀ H : Hp, Same H1 H → H D = some (.lst (xs.map f)) → Qd H) :
    ∃ W : Nat → Nat → Hp → Prop, (∃ m, W 0 m (upd H1 D (.lst []))) ∧ ∀ i m H, W i m H →
      ((Itl K a).stop i H ∧ Qd H) ∨ ((Itl K a).go i H ∧ ∃ Nx : Hp → Prop, (∀ H', Nx H' → ∃ m', m' < m ∧ W (i + 1) m' H') ∧ ∀ x H', (Itl K a).yld i H x H' → gName j x (wipe σ vs) H' fun σ2 H2 => wipe σ2 vs = wipe σ vs ∧ tYes σ2 H2 fun b H3 =>
        if b = true then te σ2 H3 fun y H4 => ∃ acc, H4 D = some (.lst acc) ∧ acc.length < sizeLine ∧ Nx (upd H4 D (.lst (acc ++ [y]))) else Nx H3) := by
  have e : (List.range xs.length).map (fun i => f (xs.getD i .non)) = xs.map f := range_map_get xs f _ fun i x h => by rw [List.getD_eq_getElem?_getD, h]; rfl
  refine lc_mapW (walk_list (K := K) (a := a) (xs := xs)) (fun i => f (xs.getD i .non)) hn (fun H s => .inl (.inl (s _ _ ha))) (fun i x H H' R hi s y q => ?_) hD fun H s q => hd H s (by rw [q, e])
  obtain ⟨rfl, hx⟩ := y
  refine hs i x H' R hx s fun H'' s' => ?_
  have := q H'' s'
  rw [show xs.getD i .non = x by rw [List.getD_eq_getElem?_getD, hx]; rfl] at this
  exact this
/-- over a range -/
theorem lcR_map {lo : Int} {n : Nat} {j : Nat} {te : TE} {vs : List Nat} {σ : L2.St} {H1 : Hp} {D : Addr} {Qd : Hp → Prop} (f : Nat → V) (hn : n < sizeLine)
    (hs : ∀ (i : Nat) (H : Hp) (R : VK), i < n → Same H1 H → (∀ H', Same H H' → R (f i) H') → wipe ((wipe σ vs).set j (some (.int (lo + i)))) vs = wipe σ vs ∧ te ((wipe σ vs).set j (some (.int (lo + i)))) H R)
    (hD : H1 D = none) (hd : ∀ H : Hp, Same H1 H → H D = some (.lst ((List.range n).map f)) → Qd H) :
    ∃ W : Nat → Nat → Hp → Prop, (∃ m, W 0 m (upd H1 D (.lst []))) ∧ ∀ i m H, W i m H →
      ((Itr lo n).stop i H ∧ Qd H) ∨ ((Itr lo n).go i H ∧ ∃ Nx : Hp → Prop, (∀ H', Nx H' → ∃ m', m' < m ∧ W (i + 1) m' H') ∧ ∀ x H', (Itr lo n).yld i H x H' → gName j x (wipe σ vs) H' fun σ2 H2 => wipe σ2 vs = wipe σ vs ∧ tYes σ2 H2 fun b H3 =>
        if b = true then te σ2 H3 fun y H4 => ∃ acc, H4 D = some (.lst acc) ∧ acc.length < sizeLine ∧ Nx (upd H4 D (.lst (acc ++ [y]))) else Nx H3) := by
  refine lc_mapW (walk_range (lo := lo) (n := n)) f hn (fun H s => True.intro) (fun i x H H' R hi s y q => ?_) hD fun H s q => hd H s q
  obtain ⟨rfl, rfl⟩ := y
  exact hs i H' R hi s q
theorem range_map_zip {α β γ : Type} (xs : List α) (ys : List β) (hl : xs.length = ys.length) (f : α → β → γ) (d : Nat → γ) (h : ∀ (i : Nat) (x : α) (y : β), xs[i]? = some x → ys[i]? = some y → d i = f x y) : (List.range xs.length).map d = List.zipWith f xs ys := by
  refine List.ext_getElem? fun i => ?_
  by_cases hi : i < xs.length
  · have hi2 : i < ys.length := by omega
    rw [List.getElem?_map, List.getElem?_range hi, List.getElem?_zipWith, List.getElem?_eq_getElem hi, List.getElem?_eq_getElem hi2]
    exact congrArg some (h i _ _ (List.getElem?_eq_getElem hi) (List.getElem?_eq_getElem hi2))
  · rw [List.getElem?_eq_none (by simp; omega), List.getElem?_eq_none (by simp; omega)]
/-- over zip -/
theorem lcZ_map {K : PySem.W.Frag} {k k' : Kd} {a b : Addr} {xs ys : List V} {i1 i2 : Nat} {te : TE} {vs : List Nat} {σ : L2.St} {H1 : Hp} {D : Addr} {Qd : Hp → Prop} (f : V → V → V) (hl : xs.length = ys.length) (hn : xs.length < sizeLine)
    (ha : ∀ H, Same H1 H → SqB K k H a xs ∧ SqB K k' H b ys)
    (hs : ∀ (i : Nat) (x y : V) (H : Hp) (R : VK), xs[i]? = some x → ys[i]? = some y → Same H1 H → (∀ H', Same H H' → R (f x y) H') → wipe (((wipe σ vs).set i1 (some x)).set i2 (some y)) vs = wipe σ vs ∧ te (((wipe σ vs).set i1 (some x)).set i2 (some y)) H R)
    (hD : H1 D = none) (hd : ∀ H : Hp, Same H1 H → H D = some (.lst (List.zipWith f xs ys)) → Qd H) :
    ∃ W : Nat → Nat → Hp → Prop, (∃ m, W 0 m (upd H1 D (.lst []))) ∧ ∀ i m H, W i m H →
      ((ItB K k k' a b).stop i H ∧ Qd H) ∨ ((ItB K k k' a b).go i H ∧ ∃ Nx : Hp → Prop, (∀ H', Nx H' → ∃ m', m' < m ∧ W (i + 1) m' H') ∧ ∀ x H', (ItB K k k' a b).yld i H x H' → gTup K 2 (gCons (gName i1) (gCons (gName i2) gNil)) x (wipe σ vs) H' fun σ2 H2 => wipe σ2 vs = wipe σ vs ∧ tYes σ2 H2 fun b H3 =>
        if b = true then te σ2 H3 fun y H4 => ∃ acc, H4 D = some (.lst acc) ∧ acc.length < sizeLine ∧ Nx (upd H4 D (.lst (acc ++ [y]))) else Nx H3) := by
  have e : (List.range xs.length).map (fun i => f (xs.getD i .non) (ys.getD i .non)) = List.zipWith f xs ys := range_map_zip xs ys hl f _ fun i x y h h' => by
    rw [List.getD_eq_getElem?_getD, List.getD_eq_getElem?_getD, h, h']
    rfl
  refine lc_mapW (walkB (K := K) (k := k) (k' := k') (a := a) (b := b) hl) (fun i => f (xs.getD i .non) (ys.getD i .non)) hn ha (fun i v H H' R hi s y q => ?_) hD fun H s q => hd H s (by rw [q, e])
  obtain ⟨T, x, y, rfl, hT, rfl, hx, hy⟩ := y
  have hx : xs[i]? = some x := hx
  have hy : ys[i]? = some y := hy
  have st : Same H (upd H T (.tup [x, y])) := sameNew hT
  refine ⟨T, [x, y], rfl, .inl (.inl upd_same), rfl, x, [y], rfl, y, [], rfl, rfl, hs i x y _ R hx hy (s.trans st) fun H'' s' => ?_⟩
  have := q H'' (st.trans s')
  rw [show xs.getD i .non = x by rw [List.getD_eq_getElem?_getD, hx]; rfl, show ys.getD i .non = y by rw [List.getD_eq_getElem?_getD, hy]; rfl] at this
  exact this
end CK

set_option Elab.async false
set_option linter.all false
set_option maxRecDepth 100000
set_option maxHeartbeats 2000000
namespace CK
open PySem PySem.Spec PyProof.Rows L2
theorem cutV_drop (xs : List V) (k : Nat) : cutV xs (some (k : Int)) none = xs.drop k := by
  unfold cutV
  rw [HT.sIx_nat xs.length 0 k, HT.sIx_none]
  by_cases h : k ≤ xs.length
  · rw [Nat.min_eq_left h, List.take_of_length_le (by rw [List.length_drop]; exact Nat.le_refl _)]
  · rw [Nat.min_eq_right (by omega), List.drop_of_length_le (Nat.le_refl _), List.drop_of_length_le (by omega), List.take_nil]
theorem cutV_take (xs : List V) (k : Nat) : cutV xs none (some (k : Int)) = xs.take k := by
  unfold cutV
  rw [HT.sIx_nat xs.length xs.length k, HT.sIx_none]
  show (xs.drop 0).take (min k xs.length - 0) = xs.take k
  rw [List.drop_zero, Nat.sub_zero]
  by_cases h : k ≤ xs.length
  · rw [Nat.min_eq_left h]
  · rw [Nat.min_eq_right (by omega), List.take_of_length_le (Nat.le_refl _), List.take_of_length_le (by omega)]
section
variable {X : Cx}
/-- a, b = a pair -/
theorem pg_two {K : PySem.W.Frag} {i j : Nat} {x y : Str} {px py pos : Pos} {k : Nat} (hK : X.K = K) (hc : X.calm = true) (hN : X.N.Nodup) (hi : X.N[i]? = some x) (hj : X.N[j]? = some y) (hx : Loc X.env.scope x) (hy : Loc X.env.scope y)
    (f1 : X.fn x = true ∨ X.env.scope.names.lookup x = some .local := by first | exact .inl rfl | exact .inr rfl)
    (f2 : X.fn y = true ∨ X.env.scope.names.lookup y = some .local := by first | exact .inl rfl | exact .inr rfl) :
    PG X (.Tuple [.Name x px, .Name y py] k pos) (gTup K 2 (gCons (gName i) (gCons (gName j) gNil))) := by
  subst hK
  exact pg_tup hc (pgs_cons (pg_name hN hi hx f1) (pgs_cons (pg_name hN hj hy f2) pgs_nil))
/-- t[k:], a tuple: what is behind, wherever it stands -/
theorem sl_drop : SlR X (fun x lo hi H Q => ∃ (a : Addr) (xs : List V) (k : Nat), x = .ref a ∧ lo = some (k : Int) ∧ hi = none ∧ H a = some (.tup xs) ∧ ∀ p H', Same H H' → H' p = some (.tup (xs.drop k)) → Q (.ref p) H') := by
  intro pins s σ H x v vl vu lo hi sl Q I rx hs pl pu h
  obtain ⟨a, xs, k, rfl, rfl, rfl, ha, q⟩ := h
  refine sl_tupA pins s σ H _ v vl vu _ _ sl Q I rx hs pl pu ⟨a, xs, rfl, .inl (.inl ha), fun z => q a H (Same.refl H) ?_, fun _ p hp => q p _ (sameNew hp) (by rw [upd_same, cutV_drop])⟩
  rw [ha, ← cutV_drop xs k]
  unfold cutV
  rw [z.1, z.2, Nat.sub_zero, List.drop_zero, List.take_length]
/-- t[:k] -/
theorem sl_take : SlR X (fun x lo hi H Q => ∃ (a : Addr) (xs : List V) (k : Nat), x = .ref a ∧ lo = none ∧ hi = some (k : Int) ∧ H a = some (.tup xs) ∧ ∀ p H', Same H H' → H' p = some (.tup (xs.take k)) → Q (.ref p) H') := by
  intro pins s σ H x v vl vu lo hi sl Q I rx hs pl pu h
  obtain ⟨a, xs, k, rfl, rfl, rfl, ha, q⟩ := h
  refine sl_tupA pins s σ H _ v vl vu _ _ sl Q I rx hs pl pu ⟨a, xs, rfl, .inl (.inl ha), fun z => q a H (Same.refl H) ?_, fun _ p hp => q p _ (sameNew hp) (by rw [upd_same, cutV_take])⟩
  rw [ha, ← cutV_take xs k]
  unfold cutV
  rw [z.1, z.2, Nat.sub_zero, List.drop_zero, List.take_length]
/-- t + u, tuples -/
theorem op_catS : OpR X (binaryOp .Add) (fun x y H Q => ∃ (a b : Addr) (xs ys : List V), x = .ref a ∧ y = .ref b ∧ H a = some (.tup xs) ∧ H b = some (.tup ys) ∧ xs.length + ys.length ≤ 1000 ∧
    ∀ p H', Same H H' → H' p = some (.tup (xs ++ ys)) → Q (.ref p) H') := by
  intro pins s σ H x y v u Q I rx ry h
  obtain ⟨a, b, xs, ys, rfl, rfl, ha, hb, hl, q⟩ := h
  refine op_catA pins s σ H _ _ v u Q I rx ry ⟨a, b, xs, ys, rfl, rfl, .inl (.inl ha), .inl (.inl hb), Nat.le_of_lt (small1000 hl), fun e => ?_, fun _ e => ?_, fun _ _ p hp => q p _ (sameNew hp) upd_same⟩
  · subst e
    exact q b H (Same.refl H) hb
  · subst e
    exact q a H (Same.refl H) (by rw [List.append_nil]; exact ha)
/-- t[i], xs[i] of what is tracked (no word of the written part, so that it stands in a comprehension) -/
theorem ix_tupH : IxR X (fun x y H Q => ∃ (p : Addr) (xs : List V) (i : Int) (v : V), x = .ref p ∧ y = .int i ∧ H p = some (.tup xs) ∧ atI xs i = some v ∧ Q v H) := by
  intro ve se pins s σ H x y xv yv Q I rx ry h e
  obtain ⟨p, xs, i, v, e1, e2, hp, e3, q⟩ := h
  exact ix_tup ve se pins s σ H x y xv yv Q I rx ry ⟨p, xs, i, v, e1, e2, .inl (.inl hp), e3, q⟩ e
theorem ix_listH : IxR X (fun x y H Q => ∃ (p : Addr) (xs : List V) (i : Int) (v : V), x = .ref p ∧ y = .int i ∧ H p = some (.lst xs) ∧ atI xs i = some v ∧ Q v H) := by
  intro ve se pins s σ H x y xv yv Q I rx ry h e
  obtain ⟨p, xs, i, v, e1, e2, hp, e3, q⟩ := h
  exact ix_list ve se pins s σ H x y xv yv Q I rx ry ⟨p, xs, i, v, e1, e2, .inl (.inl hp), e3, q⟩ e
theorem cr_sumH (hc : X.calm = true) : CallR X (.builtin "sum") (fun vs H Q => ∃ (a : Addr) (ns : List Int), vs = [V.ref a] ∧ H a = some (.lst (ns.map V.int)) ∧ Q (.int ns.sum) H) := by
  intro pins s σ H xs us Q I r h
  obtain ⟨a, ns, e, ha, q⟩ := h
  exact cr_sum hc pins s σ H xs us Q I r ⟨a, ns, e, .inl (.inl ha), q⟩
theorem call_listL : CallR X (.type "list") (fun xs H Q => ∃ (p : Addr) (ys : List V), xs = [.ref p] ∧ H p = some (.lst ys) ∧ ∀ l, H l = none → Q (.ref l) (upd H l (.lst ys))) := by
  intro pins s σ H xs us Q I r h
  obtain ⟨p, ys, e, hp, q⟩ := h
  exact call_list_of pins s σ H xs us Q I r ⟨p, ys, e, .inl (.inl (.inl hp)), q⟩
/-- tuple(xs) of a list: a new tuple -/
theorem call_tupL : CallR X (.type "tuple") (fun xs H Q => ∃ (p : Addr) (ys : List V), xs = [.ref p] ∧ H p = some (.lst ys) ∧ ∀ l H', Same H H' → H' l = some (.tup ys) → Q (.ref l) H') := by
  intro pins s σ H xs us Q I r h
  obtain ⟨p, ys, rfl, hp, q⟩ := h
  exact call_tuple_of pins s σ H _ us Q I r ⟨p, ys, rfl, .inl ⟨.inl (.inl hp), fun l hl => q l _ (sameNew hl) upd_same⟩⟩
end
end CK

set_option Elab.async false
set_option linter.all false
set_option maxRecDepth 100000
set_option maxHeartbeats 2000000
/-! the laws' generator of numbers: a list of three whole numbers -/
namespace CK
open PySem PySem.Spec PyProof.Rows L2
/-- the generator at g, from which n more numbers may be drawn -/
def Gn (n : Nat) (H : Hp) (g : Addr) : Prop := ∃ a b c : Int, H g = some (.lst [.int a, .int b, .int c]) ∧ 0 ≤ a ∧ 0 ≤ b ∧ b < 2 ^ 31 ∧ 0 ≤ c ∧ c + 8 * n ≤ 2 ^ 40
theorem Gn.le {n m : Nat} {H : Hp} {g : Addr} (h : Gn n H g) (hm : m ≤ n) : Gn m H g := by
  obtain ⟨a, b, c, h1, h2, h3, h4, h5, h6⟩ := h
  exact ⟨a, b, c, h1, h2, h3, h4, h5, by omega⟩
theorem Gn.same {n : Nat} {H H' : Hp} {g : Addr} (h : Gn n H g) (s : Same H H') : Gn n H' g := by
  obtain ⟨a, b, c, h1, r⟩ := h
  exact ⟨a, b, c, s _ _ h1, r⟩
theorem Gn.at {n : Nat} {H : Hp} {g : Addr} (h : Gn n H g) : ∃ xs, H g = some (.lst xs) := by
  obtain ⟨a, b, c, h1, r⟩ := h
  exact ⟨_, h1⟩
theorem Gn.ne {n : Nat} {H : Hp} {g D : Addr} (h : Gn n H g) (hD : H D = none) : D ≠ g := fun e => by
  obtain ⟨xs, h1⟩ := h.at
  rw [e, h1] at hD
  cases hD
theorem Gn.upd {n : Nat} {H : Hp} {g D : Addr} {o : HO} (h : Gn n H g) (hD : D ≠ g) : Gn n (upd H D o) g := by
  obtain ⟨a, b, c, h1, r⟩ := h
  exact ⟨a, b, c, by rw [upd_ne (Ne.symm hD)]; exact h1, r⟩
theorem sameX_new {g : Addr} {H : Hp} {D : Addr} {o : HO} (hD : H D = none) : SameX g H (L2.upd H D o) := .of (sameNew hD)
theorem SameX.upd2 {g D : Addr} {H H1 : Hp} {o : HO} (s : SameX g H H1) (hD : H D = none) : SameX g H (L2.upd H1 D o) := fun b z n e => by
  rw [upd_ne (ne_of_none e hD)]
  exact s b z n e
theorem SameX.tup {g a : Addr} {H H' : Hp} {xs : List V} {n : Nat} (s : SameX g H H') (G : Gn n H g) (h : H a = some (.tup xs)) : H' a = some (.tup xs) := s a _ (fun e => by
  obtain ⟨ys, h1⟩ := G.at
  rw [e, h1] at h
  cases h) h
theorem ix_at {n j : Nat} (h : j < n) : ixN n (j : Int) = some j := by
  unfold ixN
  rw [if_pos (by omega), if_pos (by omega)]
  rfl
/-- a comprehension that draws: its numbers stay within most -/
theorem lcD_draw {lo : Int} {g : Addr} {n cnt j : Nat} {most : Int} {te : TE} {vs : List Nat} {σ : L2.St} {H1 : Hp} {D : Addr} {Qd : Hp → Prop} (hc : cnt < sizeLine) (hD : H1 D = none) (hg : Gn (n + cnt) H1 g)
    (hs : ∀ (i : Nat) (H : Hp) (R : VK), i < cnt → SameX g H1 H → Gn (n + (cnt - (i + 1)) + 1) H g → (∀ (r : Int) H', SameX g H H' → Gn (n + (cnt - (i + 1))) H' g → 0 ≤ r → r ≤ most → R (.int r) H') →
      wipe ((wipe σ vs).set j (some (.int (lo + i)))) vs = wipe σ vs ∧ te ((wipe σ vs).set j (some (.int (lo + i)))) H R)
    (hd : ∀ (H : Hp) (ns : List Int), SameX g H1 H → Gn n H g → H D = some (.lst (ns.map V.int)) → ns.length = cnt → (∀ x ∈ ns, 0 ≤ x ∧ x ≤ most) → Qd H) :
    ∃ W : Nat → Nat → Hp → Prop, (∃ m, W 0 m (L2.upd H1 D (.lst []))) ∧ ∀ i m H, W i m H →
      ((Itr lo cnt).stop i H ∧ Qd H) ∨ ((Itr lo cnt).go i H ∧ ∃ Nx : Hp → Prop, (∀ H', Nx H' → ∃ m', m' < m ∧ W (i + 1) m' H') ∧ ∀ x H', (Itr lo cnt).yld i H x H' → gName j x (wipe σ vs) H' fun σ2 H2 => wipe σ2 vs = wipe σ vs ∧ tYes σ2 H2 fun b H3 =>
        if b = true then te σ2 H3 fun y H4 => ∃ acc, H4 D = some (.lst acc) ∧ acc.length < sizeLine ∧ Nx (L2.upd H4 D (.lst (acc ++ [y]))) else Nx H3) := by
  have hDg := hg.ne hD
  refine lc_range (fun i H => SameX g H1 H ∧ Gn (n + (cnt - i)) H g ∧ i ≤ cnt ∧ ∃ ns : List Int, H D = some (.lst (ns.map V.int)) ∧ ns.length = i ∧ ∀ x ∈ ns, 0 ≤ x ∧ x ≤ most)
    ⟨sameX_new hD, hg.upd hDg, Nat.zero_le _, [], upd_same, rfl, fun x h => absurd h List.not_mem_nil⟩ (fun i H hi p => ?_) fun H p => ?_
  · obtain ⟨s, G, _, ns, hL, hl, hb⟩ := p
    have G1 : Gn (n + (cnt - (i + 1)) + 1) H g := by
      have e : n + (cnt - (i + 1)) + 1 = n + (cnt - i) := by omega
      rw [e]
      exact G
    refine hs i H _ hi s G1 fun r H' s' G' h0 h1 => ⟨_, s' D _ hDg hL, by rw [List.length_map]; omega, (s.trans s').upd2 hD, G'.upd hDg, hi, ns ++ [r], ?_, ?_, fun x hx => ?_⟩
    · rw [upd_same, List.map_append]
      rfl
    · rw [List.length_append, hl]
      rfl
    · rcases List.mem_append.mp hx with z | z
      · exact hb x z
      · rw [List.mem_singleton.mp z]
        exact ⟨h0, h1⟩
  · obtain ⟨s, G, _, ns, hL, hl, hb⟩ := p
    rw [Nat.sub_self] at G
    exact hd H ns s G hL hl hb
end CK

set_option Elab.async false
set_option linter.all false
set_option maxRecDepth 100000
set_option maxHeartbeats 2000000
namespace CK
open PySem PySem.Spec PyProof.Rows L2
/-! ### data that are compared -/
def dI (ns : List Int) : PyData := .tuple (ns.map PyData.int)
theorem lay_ints : ∀ ns : List Int, PyData.canLayAll0 (ns.map PyData.int) = true
  | [] => by simp [PyData.canLayAll0]
  | n :: ns => by
    rw [List.map_cons, PyData.canLayAll0, lay_ints ns]
    simp [PyData.canLay0]
theorem deep_ints : ∀ ns : List Int, PyData.depthAll (ns.map PyData.int) = 0
  | [] => by simp [PyData.depthAll]
  | n :: ns => by
    rw [List.map_cons, PyData.depthAll, deep_ints ns]
    simp [PyData.depth]
theorem lay_dI (ns : List Int) : (dI ns).canLay0 = true := by
  unfold dI
  rw [PyData.canLay0]
  exact lay_ints ns
theorem deep_dI (ns : List Int) : (dI ns).depth = 1 := by
  unfold dI
  rw [PyData.depth, deep_ints]
theorem shaped_dI (ns : List Int) : SeqAt.shaped (dI ns) = true := by
  unfold SeqAt.shaped
  rw [lay_dI, deep_dI]
  rfl
theorem lay_forms : ∀ fs : List (List Int), PyData.canLayAll0 (fs.map dI) = true
  | [] => by simp [PyData.canLayAll0]
  | f :: fs => by
    rw [List.map_cons, PyData.canLayAll0, lay_forms fs, lay_dI]
    rfl
theorem deep_forms : ∀ fs : List (List Int), PyData.depthAll (fs.map dI) ≤ 1
  | [] => by simp [PyData.depthAll]
  | f :: fs => by
    have := deep_forms fs
    rw [List.map_cons, PyData.depthAll, deep_dI]
    omega
theorem shaped_forms (fs : List (List Int)) : SeqAt.shaped (.list (fs.map dI)) = true := by
  unfold SeqAt.shaped
  rw [PyData.canLay0, lay_forms, PyData.depth]
  have := deep_forms fs
  rw [decide_eq_true (by omega)]
  rfl
section
variable {K : PySem.W.Frag} {H : Hp}
theorem dpAll_ints : ∀ ns : List Int, DpAll K H (ns.map V.int) (ns.map PyData.int)
  | [] => .nil
  | n :: ns => .cons (.int n) (dpAll_ints ns)
theorem dp_ints {a : Addr} {ns : List Int} (h : H a = some (.tup (ns.map V.int))) : Dp K H (.ref a) (dI ns) := .tup (.inl (.inl h)) (dpAll_ints ns)
end
section
variable {X : Cx}
/-- x != y, of equal data -/
theorem op_neSame (hu : X.A.units + 64 < cLine) : OpR X (compareOp .NotEq) (fun x y H Q => ∃ d, Dp X.K H x d ∧ Dp X.K H y d ∧ SeqAt.shaped d = true ∧ Q (.bl false) H) := by
  intro pins s σ H x y v u Q I rx ry h
  obtain ⟨d, h1, h2, h3, q⟩ := h
  refine op_neD hu pins s σ H x y v u Q I rx ry ⟨d, d, h1, h2, h3, h3, ?_⟩
  rw [SeqAt.eqv_refl d (SeqAt.canLay_of_shaped h3)]
  exact q
end
/-! ### comprehensions that map, by the turn's number -/
theorem lcZ_mapI {K : PySem.W.Frag} {k k' : Kd} {a b : Addr} {xs ys : List V} {i1 i2 : Nat} {te : TE} {vs : List Nat} {σ : L2.St} {H1 : Hp} {D : Addr} {Qd : Hp → Prop} (f : Nat → V) (hl : xs.length = ys.length) (hn : xs.length < sizeLine)
    (ha : ∀ H, Same H1 H → SqB K k H a xs ∧ SqB K k' H b ys)
    (hs : ∀ (i : Nat) (x y : V) (H : Hp) (R : VK), xs[i]? = some x → ys[i]? = some y → Same H1 H → (∀ H', Same H H' → R (f i) H') → wipe (((wipe σ vs).set i1 (some x)).set i2 (some y)) vs = wipe σ vs ∧ te (((wipe σ vs).set i1 (some x)).set i2 (some y)) H R)
    (hD : H1 D = none) (hd : ∀ H : Hp, Same H1 H → H D = some (.lst ((List.range xs.length).map f)) → Qd H) :
    ∃ W : Nat → Nat → Hp → Prop, (∃ m, W 0 m (upd H1 D (.lst []))) ∧ ∀ i m H, W i m H →
      ((ItB K k k' a b).stop i H ∧ Qd H) ∨ ((ItB K k k' a b).go i H ∧ ∃ Nx : Hp → Prop, (∀ H', Nx H' → ∃ m', m' < m ∧ W (i + 1) m' H') ∧ ∀ x H', (ItB K k k' a b).yld i H x H' → gTup K 2 (gCons (gName i1) (gCons (gName i2) gNil)) x (wipe σ vs) H' fun σ2 H2 => wipe σ2 vs = wipe σ vs ∧ tYes σ2 H2 fun b H3 =>
        if b = true then te σ2 H3 fun y H4 => ∃ acc, H4 D = some (.lst acc) ∧ acc.length < sizeLine ∧ Nx (upd H4 D (.lst (acc ++ [y]))) else Nx H3) := by
  refine lc_mapW (walkB (K := K) (k := k) (k' := k') (a := a) (b := b) hl) f hn ha (fun i v H H' R hi s y q => ?_) hD hd
  obtain ⟨T, x, y, rfl, hT, rfl, hx, hy⟩ := y
  have hx : xs[i]? = some x := hx
  have hy : ys[i]? = some y := hy
  have st : Same H (upd H T (.tup [x, y])) := sameNew hT
  exact ⟨T, [x, y], rfl, .inl (.inl upd_same), rfl, x, [y], rfl, y, [], rfl, rfl, hs i x y _ R hx hy (s.trans st) fun H'' s' => q H'' (st.trans s')⟩
theorem lcL_mapI {K : PySem.W.Frag} {a : Addr} {xs : List V} {j : Nat} {te : TE} {vs : List Nat} {σ : L2.St} {H1 : Hp} {D : Addr} {Qd : Hp → Prop} (f : Nat → V) (ha : H1 a = some (.lst xs)) (hn : xs.length < sizeLine)
    (hs : ∀ (i : Nat) (x : V) (H : Hp) (R : VK), xs[i]? = some x → Same H1 H → (∀ H', Same H H' → R (f i) H') → wipe ((wipe σ vs).set j (some x)) vs = wipe σ vs ∧ te ((wipe σ vs).set j (some x)) H R)
    (hD : H1 D = none) (hd : ∀ H : Hp, Same H1 H → H D = some (.lst ((List.range xs.length).map f)) → Qd H) :
    ∃ W : Nat → Nat → Hp → Prop, (∃ m, W 0 m (upd H1 D (.lst []))) ∧ ∀ i m H, W i m H →
      ((Itl K a).stop i H ∧ Qd H) ∨ ((Itl K a).go i H ∧ ∃ Nx : Hp → Prop, (∀ H', Nx H' → ∃ m', m' < m ∧ W (i + 1) m' H') ∧ ∀ x H', (Itl K a).yld i H x H' → gName j x (wipe σ vs) H' fun σ2 H2 => wipe σ2 vs = wipe σ vs ∧ tYes σ2 H2 fun b H3 =>
        if b = true then te σ2 H3 fun y H4 => ∃ acc, H4 D = some (.lst acc) ∧ acc.length < sizeLine ∧ Nx (upd H4 D (.lst (acc ++ [y]))) else Nx H3) := by
  refine lc_mapW (walk_list (K := K) (a := a) (xs := xs)) f hn (fun H s => .inl (.inl (s _ _ ha))) (fun i x H H' R hi s y q => ?_) hD hd
  obtain ⟨rfl, hx⟩ := y
  exact hs i x H' R hx s q
end CK

set_option Elab.async false
set_option linter.all false
set_option maxRecDepth 100000
set_option maxHeartbeats 2000000
/-! own classes: their facts, their methods' promises by their bodies -/
namespace CK
open PySem PySem.Spec PyProof.Rows L2
/-- a method's def as it stands behind the top -/
structure MetF (K : PySem.W.Frag) (C : Addr) (m q : Str) (st : Stmt) (ps : List Str) : Prop where
  ex : ∃ (f : Addr) (fd : FuncData), C8.Fun K m q st f fd ∧ Meth K C m f ∧ Binds K fd ps []
/-- a class as it stands -/
structure ClF (K : PySem.W.Frag) (mg : Str → Option Value) (x : Str) (C : Addr) : Prop where
  mgC : mg x = some (.ref C)
  makes : PySem.W.makesIn K C = true
  kp : PySem.W.keepIn K (.ref C) = true
  ins : C8.InsC K C
theorem metF_mk {K : PySem.W.Frag} {mg : Str → Option Value} {x : Str} {C : Addr} (_ : ClF K mg x C) (m q : Str) (st : Stmt) (ps : List Str) {f : Addr} {od an : Option Addr} {oc kV dc pm cd ct : Value} {sl : Array (Option Value)}
    (a : PySem.W.findIn K (.ref C) m = some (some (.ref f))) (i : PySem.W.isFn K (.ref f) = true)
    (l : K.lookup f = some ⟨oc, od, .func (PySem.W.fnOf m q (C8.fnArgs st) (C8.fnBody st) (C8.fnScope st) .none kV dc pm an cd ct), sl⟩)
    (c : PySem.W.codeIn K cd q = true) (k : PySem.W.keepIn K (.ref f) = true)
    (hb : ∀ (kV doc pm : Value) (an : Option Addr) (cdv ct : Value) (us : List Value), us.length = ps.length →
      bindArgs (PySem.W.fnOf m q (C8.fnArgs st) (C8.fnBody st) (C8.fnScope st) .none kV doc pm an cdv ct) ⟨us, []⟩ = pure (ps.zip us)) : MetF K C m q st ps :=
  ⟨f, _, ⟨oc, od, .none, kV, dc, pm, an, cd, ct, sl, rfl, l, c⟩, ⟨a, i, k⟩, C8.Fun.binds ⟨oc, od, .none, kV, dc, pm, an, cd, ct, sl, rfl, l, c⟩ rfl hb⟩
theorem clF_mk {K : PySem.W.Frag} {h : Heap} {mg : Str → Option Value} {x : Str} {C : Addr} (X : K.In h) (G : h.Ns mainGlobals mg)
    (a : PySem.W.nsIn K mainGlobals x = some (some (.ref C))) (pg : PySem.W.plainGet K C Str.empty = true) (hd : PySem.W.hasDictIn K C = true) (po : PySem.W.plainOver K C = true)
    (sa : PySem.W.findIn K (.ref C) "__setattr__" = some (some (.builtin "object.__setattr__"))) (mk : PySem.W.makesIn K C = true) (kp : PySem.W.keepIn K (.ref C) = true)
    (ha : PySem.W.findIn K (.ref C) "__class__" = some (some (.builtin "object.__class__"))) (hn : PySem.W.specialIn K (.builtin "object.__class__") "__get__" = some (some (.builtin "getset_descriptor.__get__")))
    (htk : PySem.W.takesIn K (.builtin "object.__class__") = some true) (hm : PySem.W.mroIn K C (.type "object") = some true) : ClF K mg x C :=
  ⟨PySem.W.mg_of X G a, mk, kp, ⟨⟨pg, hd, po, sa⟩, ha, hn, htk, hm, if_pos (beq_self_eq_true _)⟩⟩
theorem with_cls {K : PySem.W.Frag} {h : Heap} {mg : Str → Option Value} (_ : K.In h) (x : Str) {C : Addr} {R : Prop} (d : ClF K mg x C) (r : ClF K mg x C → R) : R := r d
theorem with_met {K : PySem.W.Frag} {mg : Str → Option Value} {x : Str} {C : Addr} (_ : ClF K mg x C) (m q : Str) (st : Stmt) (ps : List Str) {R : Prop} (d : MetF K C m q st ps) (r : MetF K C m q st ps → R) : R := r d
section
variable {P : Program} {w : World} {K : PySem.W.Frag} {mg : Str → Option Value} {base : Heap} {x : Str} {C : Addr}
theorem metF {m q : Str} {st : Stmt} {N ps : List Str} {k : Nat} {sp : Sp} (c : ClF K mg x C) (D : MetF K C m q st ps) (S : FnScope N ps (C8.fnScope st))
    (len : ∀ vs H Q E, sp vs H Q E → vs.length = ps.length)
    (hbody : ∀ (f : Addr) (cdv : Value) (A : Around) (outer : List Env) (s : Shared) (H : Hp) (vs : List V) (Q : VK) (E : XK), Room k (A.deeper (envOfC q (C8.fnScope st) s.heap.objs.size f cdv)) → sp vs H Q E →
      ∃ t, PSs (cxOf C8.CX0 P w K mg base N q (C8.fnScope st) f cdv A outer s H E).nox (C8.fnBody st) t ∧ t { nx := fun _ H' => Q .non H', rt := Q } (start N vs) H) : C8.Met P w K mg base (k + 1) C m sp [] := by
  obtain ⟨f, fd, F, me, b⟩ := D.ex
  exact C8.met0 c.ins.cl me F b S len (hbody f)
theorem makF {q : Str} {st : Stmt} {N ps : List Str} {k : Nat} {sp : Sp} (c : ClF K mg x C) (D : MetF K C "__init__" q st ps) (S : FnScope N ps (C8.fnScope st))
    (len : ∀ vs H Q E, sp vs H Q E → vs.length = ps.length)
    (hbody : ∀ (f : Addr) (cdv : Value) (A : Around) (outer : List Env) (s : Shared) (H : Hp) (vs : List V) (Q : VK) (E : XK), Room k (A.deeper (envOfC q (C8.fnScope st) s.heap.objs.size f cdv)) → sp vs H Q E →
      ∃ t, PSs (cxOf C8.CX0 P w K mg base N q (C8.fnScope st) f cdv A outer s H E).nox (C8.fnBody st) t ∧ t { nx := fun _ H' => Q .non H', rt := Q } (start N vs) H) : C8.Mak P w K mg base (k + 1) x C sp [] := by
  obtain ⟨f, fd, F, me, b⟩ := D.ex
  exact C8.mak0 ⟨c.makes, me.at_, me.fn, c.kp⟩ c.mgC F b .nil S len (hbody f)
end
end CK
namespace CK
open PySem L2
theorem noA {K : PySem.W.Frag} {mg : Str → Option Value} {x : Str} {C : Addr} (_ : ClF K mg x C) (f : Str) (h : PySem.W.findIn K (.ref C) f = some none) : NoAttr K C f := h
end CK

set_option Elab.async false
set_option linter.all false
set_option maxRecDepth 100000
set_option maxHeartbeats 2000000
/-! texts by their code points -/
namespace CK
open PySem PySem.Spec PyProof.Rows L2 SX
theorem rev_S (z : List Nat) : (⟨((Builtin.Str.strSliceIndices none none (-1) (S z).length).filterMap ((S z).cps[·]?)).toArray⟩ : Str) = S z.reverse := by
  refine TL.ext_tl ?_
  show ((Builtin.Str.strSliceIndices none none (-1) (S z).length).filterMap ((S z).cps[·]?)).toArray.toList = z.reverse
  rw [List.toList_toArray, S_len, picked_rev, filterMap_get, List.map_map]
  · refine List.ext_getElem (by simp) fun i h1 h2 => ?_
    have hi : i < z.length := by simpa using h1
    rw [List.getElem_map, List.getElem_range, List.getElem_reverse]
    show (S z).cps.getD (z.length - 1 - i) 0 = _
    have : z.length - 1 - i < z.length := by omega
    simp [Array.getD, S, this]
  · intro i hi
    obtain ⟨k, hk, rfl⟩ := List.mem_map.mp hi
    have := List.mem_range.mp hk
    show z.length - 1 - k < z.length
    omega
section
variable {X : Cx}
/-- s[::-1] -/
def tRevS (te : TE) : TE := fun σ H Q => te σ H fun x H1 => ∃ z : List Nat, x = .str (S z) ∧ z.length ≤ sizeLine ∧ Q (.str (S z.reverse)) H1
theorem pe_revS {e : Expr} {te : TE} {k : Nat} {p1 p2 p3 pos : Pos} (he : PE X e te) : PE X (.Subscript e (.Slice none none (some (.UnaryOp .USub (.Constant (.int 1) k p1) p2)) p3) pos) (tRevS te) := by
  refine ⟨fun pins s σ H Q I h => ?_⟩
  refine Subscript_ (thn (he.run pins s σ H _ I h) fun v s1 ⟨x, H1, I1, r1, q1⟩ => ?_)
  obtain ⟨z, ex, hz, q⟩ := q1
  subst ex
  obtain ⟨t, rfl⟩ := r1
  have hst : PO X (some (.UnaryOp .USub (.Constant (.int 1) k p1) p2)) (tPart (tUn (rU fun i => .int (-i)) (tC (.int 1)))) := po_some (pe_un un_neg pe_int)
  refine wpAny_Slice (thn (po_none.run pins s1 σ H1 (fun o H2 => o = none ∧ H2 = H1) I1 ⟨rfl, rfl⟩) fun vl s2 ⟨l, H2, I2, pl, el, e2⟩ => ?_)
  subst el e2
  refine thn (po_none.run pins s2 σ H2 (fun o H3 => o = none ∧ H3 = H2) I2 ⟨rfl, rfl⟩) fun vu s3 ⟨u, H3, I3, pu, eu, e3⟩ => ?_
  subst eu e3
  refine thn (hst.run pins s3 σ H3 (fun o H4 => o = some (-1) ∧ H4 = H3) I3 ⟨1, rfl, -1, rfl, rfl, rfl⟩) fun vs s4 ⟨o, H4, I4, ps, eo, e4⟩ => ?_
  subst eo e4
  have I5 : Inv X pins σ H4 { s4 with heap := s4.heap.push { cls := .type "slice", data := .fields #[vl, vu, vs] } } := I4.kept (t' := s4.toks) fun b ob q => Heap.get?_push_of_some _ q
  show wpAny (model X.prog X.w) X.A (subscriptTail e (.Slice none none (some (.UnaryOp .USub (.Constant (.int 1) k p1) p2)) p3) (.str (S z) t) (.ref s4.heap.objs.size)) (EP X pins σ Q) X.xe { s4 with heap := s4.heap.push { cls := .type "slice", data := .fields #[vl, vu, vs] } }
  refine tail_any (ops := [.str (S z) t, .ref s4.heap.objs.size]) (typeIs_str _ _ _) F.slot_str_getitem.lookup ?_ (by with_unfolding_all rfl)
  obtain ⟨l, rfl, el⟩ := IsPart.raw pl
  obtain ⟨u, rfl, eu⟩ := IsPart.raw pu
  obtain ⟨st, rfl, es⟩ := IsPart.raw ps
  refine wpAny_getItem_str_slice (l := l) (u := u) (st := st) ⟨_, Heap.get?_push_size _ rfl, rfl, rfl⟩ (by rw [es]; decide) ?_
  unfold sliceMade slicePicked
  rw [es, el, eu]
  have hr := rev_S z
  show Made.post (.str ⟨((Builtin.Str.strSliceIndices none none (-1) (S z).length).filterMap ((S z).cps[·]?)).toArray⟩) _ _
  rw [hr]
  exact ⟨by rw [S_len, List.length_reverse]; exact hz, .str _, H4, I5.tok _, ⟨_, rfl⟩, q⟩
/-- s * n -/
theorem foldl_arr {α : Type} : ∀ (n : Nat) (w : Array α) (acc : Array α), ((List.replicate n w).foldl (fun a b => a ++ b) acc).toList = acc.toList ++ (List.replicate n w.toList).flatten
  | 0, _, _ => by simp
  | n + 1, w, acc => by
    rw [List.replicate_succ, List.foldl_cons, foldl_arr n w (acc ++ w), List.replicate_succ, List.flatten_cons, Array.toList_append, List.append_assoc]
theorem op_repS : OpR X (binaryOp .Mult) (fun x y H Q => ∃ (z : List Nat) (n : Nat), x = .str (S z) ∧ y = .int n ∧ n ≤ 1000 ∧ z.length ≤ 1000 ∧ Q (.str (S (List.replicate n z).flatten)) H) := by
  intro pins s σ H x y v u Q I rx ry h
  obtain ⟨z, n, rfl, rfl, hn, hz, q⟩ := h
  obtain ⟨t, rfl⟩ := rx
  obtain ⟨t', rfl⟩ := ry
  have hl : (List.replicate n z).flatten.length = n * z.length := by simp
  have hm : n * z.length ≤ 1000 * 1000 := Nat.mul_le_mul hn hz
  refine P.mul_str (by simp; omega) (fun h1 h2 => ?_) (fun h1 h2 => ?_) ?_
  · rw [S_len]
    have hn0 : (0 : Int) < n := by omega
    have h3 : (1000 : Int) ≤ (2 ^ 63 - 1) / (n : Int) := by
      refine (Int.le_ediv_iff_mul_le hn0).mpr ?_
      have : (1000 : Int) * n ≤ 1000 * 1000 := Int.mul_le_mul_of_nonneg_left (by omega) (by decide)
      omega
    omega
  · rw [S_len, Int.toNat_natCast, Nat.mul_comm]
    have : n * z.length ≤ sizeLine := by rw [sizeLine_eq]; omega
    unfold Builtin.Str.tooLong
    simp
    omega
  · by_cases h1 : (n : Int) < 1
    · rw [if_pos h1]
      have e : n = 0 := by omega
      subst e
      exact ⟨by decide, .str _, H, I.tok _, ⟨_, rfl⟩, q⟩
    · rw [if_neg h1]
      by_cases h2 : ((n : Int) == 1 || (S z).length == 0) = true
      · rw [if_pos h2]
        have e : (List.replicate n z).flatten = z := by
          rw [Bool.or_eq_true, beq_iff_eq, beq_iff_eq, S_len] at h2
          rcases h2 with h2 | h2
          · have : n = 1 := by omega
            subst this
            simp
          · rw [List.length_eq_zero_iff.mp h2]
            simp
        rw [e] at q
        exact ⟨.str _, H, I, ⟨_, rfl⟩, q⟩
      · rw [if_neg h2]
        have e : (⟨(List.replicate (n : Int).toNat (S z).cps).foldl (· ++ ·) #[]⟩ : Str) = S (List.replicate n z).flatten := by
          refine TL.ext_tl ?_
          show ((List.replicate (n : Int).toNat (S z).cps).foldl (· ++ ·) #[]).toList = _
          rw [Int.toNat_natCast, foldl_arr]
          rfl
        rw [e]
        exact ⟨by rw [S_len, hl, sizeLine_eq]; omega, .str _, H, I.tok _, ⟨_, rfl⟩, q⟩
/-- a % b, a // b of natural numbers -/
theorem fmodN (k n : Nat) : Int.fmod (k : Int) (n : Int) = ((k % n : Nat) : Int) := by
  rw [Int.fmod_eq_emod_of_nonneg _ (by omega)]
  rfl
theorem op_modZ : OpR X (binaryOp .Mod) (fun x y H Q => ∃ (k n : Nat), x = .int k ∧ y = .int n ∧ n ≠ 0 ∧ Q (.int ((k % n : Nat) : Int)) H) := by
  intro pins s σ H x y v u Q I rx ry h
  obtain ⟨k, n, e1, e2, h0, q⟩ := h
  refine op_modN pins s σ H x y v u Q I rx ry ⟨_, _, e1, e2, by omega, ?_⟩
  rw [← fmodN] at q
  exact q
theorem op_fdivZ : OpR X (binaryOp .FloorDiv) (fun x y H Q => ∃ (k n : Nat), x = .int k ∧ y = .int n ∧ n ≠ 0 ∧ n < 2 ^ 29 ∧ Q (.int ((k / n : Nat) : Int)) H) := by
  intro pins s σ H x y v u Q I rx ry h
  obtain ⟨k, n, e1, e2, h0, h1, q⟩ := h
  refine op_fdivN pins s σ H x y v u Q I rx ry ⟨_, _, e1, e2, ⟨by omega, by omega⟩, ?_⟩
  have : Int.fdiv (k : Int) (n : Int) = ((k / n : Nat) : Int) := by
    rw [Int.fdiv_eq_ediv_of_nonneg _ (by omega)]
    rfl
  rw [← this] at q
  exact q
theorem op_mulZ : OpR X (binaryOp .Mult) (fun x y H Q => ∃ (k n : Nat), x = .int k ∧ y = .int n ∧ k < 2 ^ 1000 ∧ n < 2 ^ 1000 ∧ Q (.int ((k * n : Nat) : Int)) H) := by
  intro pins s σ H x y v u Q I rx ry h
  obtain ⟨k, n, e1, e2, h0, h1, q⟩ := h
  refine op_mulW pins s σ H x y v u Q I rx ry ⟨_, _, e1, e2, wide_mul (a := 1000) (b := 1000) h0 h1 (by decide) (by decide) (by decide), ?_⟩
  rw [Int.natCast_mul] at q
  exact q
/-- len of a list that is tracked (it may stand in a comprehension) -/
theorem call_lenH : CallR X (.builtin "len") (fun xs H Q => ∃ (p : Addr) (ys : List V), xs = [.ref p] ∧ H p = some (.lst ys) ∧ Q (.int (ys.length : Nat)) H) := by
  intro pins s σ H xs us Q I r h
  obtain ⟨p, ys, e, hp, q⟩ := h
  exact call_len_seq pins s σ H xs us Q I r ⟨p, ys, e, .inl (.inl (.inl hp)), q⟩
end
end CK

set_option Elab.async false
set_option linter.all false
set_option maxRecDepth 100000
set_option maxHeartbeats 2000000
/-! any of a tuple of numbers -/
namespace CK
open PySem PySem.Spec PyProof.Rows L2 SX
theorem plain_ints : ∀ ns : List Int, PyData.plainAll (ns.map PyData.int) = true
  | [] => by simp [PyData.plainAll]
  | n :: ns => by
    rw [List.map_cons, PyData.plainAll, plain_ints ns]
    simp [PyData.plain]
theorem any_ints (ns : List Nat) : ((ns.map fun n : Nat => ((n : Nat) : Int)).map PyData.int).any PyData.truthy = ns.any fun x => decide (x ≠ 0) := by
  induction ns with
  | nil => rfl
  | cons n ns ih =>
    rw [List.map_cons, List.map_cons, List.any_cons, List.any_cons, ih]
    congr 1
    show ((n : Int) != 0) = decide (n ≠ 0)
    by_cases h : n = 0
    · subst h
      rfl
    · rw [decide_eq_true h, bne_iff_ne]
      omega
section
variable {X : Cx}
theorem cr_anyN (hc : X.calm = true) : CallR X (.builtin "any") (fun vs H Q => ∃ (a : Addr) (ns : List Nat), vs = [V.ref a] ∧ H a = some (.tup (ns.map fun n : Nat => V.int (n : Nat))) ∧ Q (.bl (ns.any fun x => decide (x ≠ 0))) H) := by
  intro pins s σ H vs us Q I r h
  obtain ⟨a, ns, rfl, ha, q⟩ := h
  obtain ⟨its, rv, hT, _⟩ := I.tuple (.inl (.inl ha))
  rw [Vals.ref1 r]
  have e : (ns.map fun n : Nat => V.int (n : Nat)) = (ns.map fun n : Nat => ((n : Nat) : Int)).map V.int := by
    rw [List.map_map]
    rfl
  rw [e] at rv
  obtain ⟨as, hr⟩ := Dp.readsAll I _ _ its (dpAll_ints _) rv
  refine PySem.W.any_tuple_data (I.ok.hd hc) hT (by rw [List.toList_toArray]; exact hr) (plain_ints _) (fun x hx => ?_) fun h' tk hk => ?_
  · obtain ⟨i, _, rfl⟩ := List.mem_map.mp hx
    trivial
  · rw [any_ints]
    exact ⟨.bl _, H, I.kept (t' := tk) hk, rfl, q⟩
end
end CK
namespace CK
open PySem PySem.Spec PyProof.Rows L2 SX
section
variable {X : Cx}
/-- a whole number and a Boolean -/
theorem op_addB : OpR X (binaryOp .Add) (fun x y H Q => ∃ (i : Int) (b : Bool), x = .int i ∧ y = .bl b ∧ Q (.int (i + if b = true then (1 : Int) else 0)) H) := by
  intro pins s σ H x y v u Q I rx ry h
  obtain ⟨i, b, rfl, rfl, q⟩ := h
  obtain ⟨t, rfl⟩ := rx
  obtain rfl : u = Value.bool b := ry
  exact add_int_bool ⟨.int _, H, I.tok _, ⟨_, rfl⟩, q⟩
end
end CK
namespace CK
open PySem PySem.Spec PyProof.Rows L2 SX
theorem vals_of_get : ∀ (vs : List V) (us : List Value), us.length = vs.length → (∀ (j : Nat) (v : V) (u : Value), vs[j]? = some v → us[j]? = some u → RelV v u) → Vals vs us
  | [], [], _, _ => .nil
  | [], _ :: _, h, _ => by simp at h
  | _ :: _, [], h, _ => by simp at h
  | v :: vs, u :: us, h, g => .cons (g 0 v u rfl rfl) (vals_of_get vs us (by simpa using h) fun j a b ha hb => g (j + 1) a b (by simpa using ha) (by simpa using hb))
section
variable {X : Cx}
/-- list(text): its letters -/
theorem call_listS (hc : X.calm = true) : CallR X (.type "list") (fun xs H Q => ∃ z : List Nat, xs = [.str (S z)] ∧ z.length ≤ 1000000 ∧ ∀ l, H l = none → Q (.ref l) (upd H l (.lst (z.map fun c => V.str (S [c]))))) := by
  intro pins s σ H xs us Q I r h
  obtain ⟨z, rfl, hz, q⟩ := h
  obtain ⟨u, rfl, rx⟩ := vals1 r
  obtain ⟨t, rfl⟩ := rx
  have sz : (S z).cps.size = z.length := S_len z
  refine call_list_str (I.ok.hd hc) (S z) t (fun h' tk acc' c' hk hS hacc => ?_) (by rw [sz, sizeLine_eq]; omega)
  refine ⟨.ref s.heap.objs.size, upd H s.heap.objs.size (.lst (z.map fun c => V.str (S [c]))), I.laid (t' := tk) hk (Nat.le_refl _) ?_, rfl, q _ (I.hok.fresh (Nat.le_refl _))⟩
  refine ⟨by rw [List.length_map, sizeLine_eq]; omega, acc'.toList, c', vals_of_get _ _ (by rw [List.length_map, Array.length_toList, hacc.1, sz]) fun j v u hv hu => ?_, by simpa using hS⟩
  obtain ⟨c, tt, hc', rfl⟩ := hacc.2 j u (by simpa using hu)
  rw [List.getElem?_map] at hv
  have e : z[j]? = some c := by
    have : (S z).cps[j]? = some c := hc'
    simpa [S] using this
  rw [e] at hv
  cases hv
  exact ⟨tt, rfl⟩
end
end CK
namespace CK
open PySem PySem.Spec PyProof.Rows L2 SX
section
variable {X : Cx} {o e : Expr} {es : List Expr} {to : TE} {t : TA} {name : Str} {apos cpos : Pos} {T id : String} {r : V → List V → Hp → VK → Prop}
/-- a built-in's method, where the written part is told apart (it may stand in a comprehension) -/
theorem pe_bmB {K : PySem.W.Frag} (hK : X.K = K) (pa : PlainAttrs T) (slot : Slot T name id) (hty : typeOf (.builtin id) = pure (.type "method_descriptor")) (hm : MtR X id r) (ho : PE X o to) (ha : PA X (e :: es) t)
    (hb : attributeBase o name X.env (eval o X.env) = eval o X.env := by rfl)
    (hf : ((backTo cpos (starEach (e :: es) X.env)).all (fun x => !x.1) && (backToKw cpos (keywordEach [] X.env)).all (fun x => x.1.isSome) && decide ((e :: es).length + ([] : List Keyword).length + (if ([] : List Keyword).isEmpty then 0 else 1) < 30)) = true := by rfl)
    (hl : (apos.endLine == cpos.line) = true := by rfl) (hs : starEach (e :: es) X.env = (false, eval e X.env) :: starEach es X.env := by rfl) (hp : (backTo cpos (starEach es X.env)).any (·.1) = false := by rfl) :
    PE X (.Call (.Attribute o name apos) (e :: es) [] cpos) (tBM K T r to t) := by
  subst hK
  exact pe_bm pa slot hty hm ho ha hb hf hl hs hp
end
end CK

set_option Elab.async false
set_option linter.all false
set_option maxRecDepth 100000
set_option maxHeartbeats 2000000
/-! defs that are called with no repr under way; repr of data -/
namespace CK
open PySem PySem.Spec PyProof.Rows L2
/-- what a def promises where no repr is under way -/
structure FnG (P : Program) (w : World) (K : PySem.W.Frag) (mg : Str → Option Value) (base : Heap) (k : Nat) (f : Addr) (fd : FuncData) (ps : List Str) (sp : Sp) : Prop where
  len : ∀ vs H Q E, sp vs H Q E → vs.length = ps.length
  go : ∀ (A : Around) (outer : List Env) (z : Shared) (H : Hp) (args : Args) (us : List Value) (vs : List V) (Q : VK) (E : XK), Room k A → A.guards = some [] → Env0 P w K mg base A outer z H → BindsTo z fd args (ps.zip us) →
    Vals vs us → sp vs H Q E → codeAny (model P w) A (.call (.ref f) args) (CR C8.CX0 outer P w H z Q E) z
theorem FnG.of {P : Program} {w : World} {K : PySem.W.Frag} {mg : Str → Option Value} {base : Heap} {k : Nat} {f : Addr} {fd : FuncData} {ps : List Str} {sp : Sp} (F : FnOk P w K mg base C8.CX0 k f fd ps sp) : FnG P w K mg base k f fd ps sp :=
  ⟨F.len, fun A outer z H args us vs Q E hr _ e0 hb r h => F.run A outer z H args us vs Q E hr e0 hb r h⟩
theorem fnG_of {P : Program} {w : World} {K : PySem.W.Frag} {mg : Str → Option Value} {base : Heap} {k : Nat} {f : Addr} {x : Str} {st : Stmt} {fd : FuncData} {N ps : List Str} {sp : Sp} (F : C8.Fun K x x st f fd) (S : FnScope N ps (C8.fnScope st))
    (len : ∀ vs H Q E, sp vs H Q E → vs.length = ps.length)
    (body : ∀ (cdv : Value) (A : Around) (outer : List Env) (z : Shared) (H : Hp) (vs : List V) (Q : VK) (E : XK), Room k (A.deeper (envOfC x (C8.fnScope st) z.heap.objs.size f cdv)) → A.guards = some [] → sp vs H Q E →
      ∃ t, PSs (cxOf C8.CX0 P w K mg base N x (C8.fnScope st) f cdv A outer z H E).nox (C8.fnBody st) t ∧ t { nx := fun _ H' => Q .non H', rt := Q } (start N vs) H) : FnG P w K mg base (k + 1) f fd ps sp := by
  obtain ⟨_, _, _, _, _, _, _, cdv, _, _, rfl, lk, hc⟩ := F.ex
  refine ⟨len, fun A outer z H args us vs Q E room gd en bnd va want => ?_⟩
  have ln := len _ _ _ _ want
  have up : ∀ b o, base.get? b = some o → z.heap.get? b = some o := fun b o e => (en.bs b o e).1
  have inK : K.In z.heap := en.mod.kin.keeps up
  have kinds : ∀ y ∈ ps.zip us, (C8.fnScope st).names.lookup y.1 = some .local ∨ ((C8.fnScope st).names.lookup y.1 = some .cell ∧ ((cellsFrom (z.heap.objs.size + 1) (C8.fnScope st).names []).lookup y.1).isSome = true) := by
    intro y hy
    have := S.par y.1 (List.of_mem_zip (a := y.1) (b := y.2) hy).1
    cases this with
    | inl a => exact .inl a
    | inr a => exact .inr ⟨a, PySem.W.cellsFrom_some _ _ _ (.inl a)⟩
  refine codeAny_call_function room.depth (inK _ _ lk) rfl S.co S.gen rfl (PySem.W.codeRec_of inK hc) (bnd _ _ _ _ (wpAny_newFunctionEnv_cells S.kind kinds fun env he z1 call => ?_))
  subst he
  refine ⟨(en.mod.nolimit.keeps up).keeps call.toInCall.keep, codeAny_func ?_⟩
  obtain ⟨t, ht, ok⟩ := body cdv A outer z H vs Q E (room.deeper _) gd want
  refine wpAny_mono (ht.nox.run [] z1 (start N vs) H _ (inv_start S room.hd en ln va call) ok) (fun fl z' got => ?_) fun e z' got => got
  have last : ∀ {σ' : L2.St} {H' : Hp} {v : V} {u : Value}, Inv (cxOf C8.CX0 P w K mg base N x (C8.fnScope st) f cdv A outer z H E) [] σ' H' z' → RelV v u → Q v H' → CE outer P w H z Q u z' :=
    fun {_ H' v _} J a b => ⟨v, H', J.os, J.bare, J.base, J.hok, a, b⟩
  cases fl with
  | ret u =>
    obtain ⟨v, _, H', J, a, b⟩ := got
    exact last J a b
  | next =>
    obtain ⟨_, H', J, b⟩ := got
    exact last (v := V.non) (u := Value.none) J rfl b
  | brk => exact got.choose_spec.choose_spec.2.elim
  | cont => exact got.choose_spec.choose_spec.2.elim
/-- a def by its name -/
structure CalG (P : Program) (w : World) (K : PySem.W.Frag) (mg : Str → Option Value) (base : Heap) (k : Nat) (x : Str) (sp : Sp) : Prop where
  ex : ∃ (f : Addr) (fd : FuncData) (ps : List Str), FnG P w K mg base k f fd ps sp ∧ mg x = some (.ref f) ∧ PySem.W.keepIn K (.ref f) = true ∧ Binds K fd ps []
theorem calG {P : Program} {w : World} {K : PySem.W.Frag} {mg : Str → Option Value} {base : Heap} {x : Str} {st : Stmt} {N ps : List Str} {k : Nat} {sp : Sp} (D : DefF K mg x st ps) (S : FnScope N ps (C8.fnScope st))
    (len : ∀ vs H Q E, sp vs H Q E → vs.length = ps.length)
    (body : ∀ (f : Addr) (cdv : Value) (A : Around) (outer : List Env) (z : Shared) (H : Hp) (vs : List V) (Q : VK) (E : XK), Room k (A.deeper (envOfC x (C8.fnScope st) z.heap.objs.size f cdv)) → A.guards = some [] → sp vs H Q E →
      ∃ t, PSs (cxOf C8.CX0 P w K mg base N x (C8.fnScope st) f cdv A outer z H E).nox (C8.fnBody st) t ∧ t { nx := fun _ H' => Q .non H', rt := Q } (start N vs) H) : CalG P w K mg base (k + 1) x sp := by
  obtain ⟨f, fd, F, b⟩ := D.ex
  exact ⟨f, fd, ps, fnG_of F.fn S len (body f), F.mgf, F.kp, .all b⟩
section
variable {X : Cx} {k j : Nat} {x : Str} {sp : Sp} {p pos : Pos} {e : Expr} {es : List Expr} {t : TA}
theorem run_fnG {pins : List (Addr × Obj)} {σ : L2.St} {H : Hp} {z : Shared} {Q : VK} {us : List Value} {vs : List V} {f : Addr} {fd : FuncData} {ps : List Str} (F : FnG X.prog X.w X.K X.mg X.base k f fd ps sp) (room : Room k X.A) (gd : X.A.guards = some [])
    (b : Binds X.K fd ps []) (I : Inv X pins σ H z) (r : Vals vs us) (h : sp (vs ++ []) H Q E0) : wpAny (model X.prog X.w) X.A (call (.ref f) us) (EP X pins σ Q) X.xe z := by
  rw [List.append_nil] at h
  have ll : (us ++ []).length = ps.length := by
    rw [List.append_nil, ← r.length]
    exact F.len _ _ _ _ h
  have bb := b z us I.kIn ll
  rw [List.append_nil] at bb
  refine wpAny_call (codeAny_mono (F.go X.A X.stack z H ⟨us, []⟩ us vs Q E0 room gd I.env0 bb r h) fun res z' got => ?_)
  match res, got with
  | .ok (.ret u), got => exact I.after got
  | .error e, got => exact pass0 pins σ H z e z' I got
theorem pe_cG (c : CalG X.prog X.w X.K X.mg X.base k x sp) (hr : Room j X.A) (gd : X.A.guards = some []) (hk : k ≤ j) (hg : Gl X x) (ha : PA X (e :: es) t)
    (hdb : (x == ("__debug__" : Str)) = false := by decide) (he : starEach (e :: es) X.env = (false, eval e X.env) :: starEach es X.env := by rfl) (hpl : (backTo pos (starEach es X.env)).any (·.1) = false := by rfl) :
    PE X (.Call (.Name x p) (e :: es) [] pos) (tCall sp [] E0 t) := by
  obtain ⟨f, fd, ps, F, hm, kp, b⟩ := c.ex
  refine ⟨fun pins s σ H Q I h => wpAny_Call_Name_kw (ld_glob I hg hm ?_ hdb)⟩
  exact PySem.W.callWith_K (h₀ := X.base) I.ok.mod.kin kp (thn (ha.run pos pins s σ H _ I h) fun us s1 ⟨vs, H1, I1, r, q⟩ => ⟨I1.kIn, run_fnG F (hr.mono hk) gd b I1 r q⟩) he hpl
theorem pe_cG0 (c : CalG X.prog X.w X.K X.mg X.base k x sp) (hr : Room j X.A) (gd : X.A.guards = some []) (hk : k ≤ j) (hg : Gl X x)
    (hdb : (x == ("__debug__" : Str)) = false := by decide) :
    PE X (.Call (.Name x p) [] [] pos) (tCall sp [] E0 tNil) := by
  obtain ⟨f, fd, ps, F, hm, kp, b⟩ := c.ex
  refine ⟨fun pins s σ H Q I h => wpAny_Call_Name_kw (ld_glob I hg hm ?_ hdb)⟩
  exact PySem.W.callWith_K0 I.kIn kp (run_fnG (us := []) F (hr.mono hk) gd b I .nil h)
/-- repr of data -/
theorem call_repr (hr : Room j X.A) (gd : X.A.guards = some []) : CallR X (.builtin "repr") (fun xs H Q => ∃ (v : V) (d : PyData), xs = [v] ∧ Dp X.K H v d ∧ d.showable = true ∧ d.hasDict = false ∧ d.depth ≤ 60 ∧ d.shown.length ≤ sizeLine ∧ Q (.str d.shown) H) := by
  intro pins s σ H xs us Q I r h
  obtain ⟨v, d, rfl, dp, hs, hd, hdep, hz, q⟩ := h
  obtain ⟨u, rfl, rx⟩ := vals1 r
  obtain ⟨as, rd⟩ := Dp.reads I d v u dp rx
  have hu := hr.units
  have fin : ∀ (a : Addr) (d : PyData), Reads s.heap (.ref a) d as → d.showable = true → d.hasDict = false → d.depth ≤ 60 → d.shown.length ≤ sizeLine → Q (.str d.shown) H →
      wpAny (model X.prog X.w) X.A (call (.builtin "repr") [.ref a]) (EP X pins σ Q) X.xe s := fun a d rd hs hd hdep hz q =>
    repr_of_reads' rd hs (PyData.noDict_hsm hd) gd (by omega) (fun _ _ e => e) (fun h' u tk hk => ⟨.str _, H, I.kept (t' := tk) hk, ⟨u, rfl⟩, q⟩) hz
  cases rd with
  | none => exact PySem.P.repr_of_none ⟨.str _, H, I.tok _, ⟨_, rfl⟩, by simpa only [PyData.shown] using q⟩
  | bool b => exact PySem.P.repr_of_bool ⟨.str _, H, I.tok _, ⟨_, rfl⟩, by simpa only [PyData.shown] using q⟩
  | int i t => exact PySem.P.repr_of_int (by simpa [PyData.showable] using hs) ⟨.str _, H, I.tok _, ⟨_, rfl⟩, by simpa only [PyData.shown] using q⟩
  | str y t => exact PySem.P.repr_of_str ⟨.str _, H, I.tok _, ⟨_, rfl⟩, by simpa only [PyData.shown] using q⟩ (by simpa only [PyData.shown] using hz)
  | list a b c e => exact fin _ _ (.list a b c e) hs hd hdep hz q
  | tuple a b c e => exact fin _ _ (.tuple a b c e) hs hd hdep hz q
  | dict a b c e g => exact fin _ _ (.dict a b c e g) hs hd hdep hz q
end
end CK

set_option Elab.async false
set_option linter.all false
set_option maxRecDepth 100000
set_option maxHeartbeats 2000000
/-! the law's end, where no repr is under way -/
namespace CK
open PySem PySem.Spec PyProof.Rows L2
theorem DefF.oneG {K : PySem.W.Frag} {mg : Str → Option Value} {x p : Str} {st : Stmt} (D : DefF K mg x st [p]) : ∃ (f : Addr) (fd : FuncData), mg x = some (.ref f) ∧ (∀ (s : Shared) (v : Value), BindsTo s fd ⟨[v], []⟩ [(p, v)]) ∧
    ∀ {P : Program} {w : World} {base : Heap} {N : List Str} {k : Nat} {sp : Sp} (S : FnScope N [p] (C8.fnScope st)) (len : ∀ vs H Q E, sp vs H Q E → vs.length = 1)
      (body : ∀ (cdv : Value) (A : Around) (outer : List Env) (z : Shared) (H : Hp) (vs : List V) (Q : VK) (E : XK), Room k (A.deeper (envOfC x (C8.fnScope st) z.heap.objs.size f cdv)) → A.guards = some [] → sp vs H Q E →
        ∃ t, PSs (cxOf C8.CX0 P w K mg base N x (C8.fnScope st) f cdv A outer z H E).nox (C8.fnBody st) t ∧ t { nx := fun _ H' => Q .non H', rt := Q } (start N vs) H), FnG P w K mg base (k + 1) f fd [p] sp := by
  obtain ⟨f, fd, F, b⟩ := D.ex
  exact ⟨f, fd, F.mgf, fun s v => .of_eq (b [v] rfl), fun S len body => fnG_of F.fn S len body⟩
section
variable {P : Program} {w : World} {K : PySem.W.Frag} {mg mb : Str → Option Value} {k : Nat} {fa a : Addr} {fd : FuncData} {x : Str} {sp : Sp} {z : Shared} {vs : List Value} {ns : List Int}
/-- from an abstract heap H that tracks the script at most -/
theorem callG_at (inK : K.In z.heap) (gl : z.heap.Ns mainGlobals mg) (bl : z.heap.Ns builtinsNs mb) (bb : ∀ x : Str, x ≠ "__name__" → mb x = bootBuiltins x) (lim : z.heap.NoLimit) (gens : z.gens = #[])
    (scr : z.heap.get? a = some { cls := .type "list", data := .seq vs.toArray }) (room : Room k callerA)
    (F : ∀ base : Heap, K.In base → base.Ns mainGlobals mg → FnG P w K mg base k fa fd [x] sp) (bind : ∀ (s : Shared) (u : Value), BindsTo s fd ⟨[u], []⟩ [(x, u)])
    (H : Hp) (only : Only H) (want : sp [.ref a] H (fun v _ => v = .bl true) fun _ _ _ => False) (hok : HOk P w H z.heap) (alone : ∀ b, H b ≠ none → b = a) (apart : H a ≠ none → K.lookup a = none) :
    codeAny (model P w) callerA (.call (.ref fa) ⟨[.ref a], []⟩) (fun r s' => r = .ok (.ret (.bool true)) ∧ OldK z.heap s'.heap ∧ s'.os = z.os ∧ AllBare s'.gens) z := by
  have isA : ∀ {b : Addr} {u : HO}, H b = some u → b = a := fun {b u} e => alone b fun n => by rw [n] at e; cases e
  have hid : ∀ {b : Addr} {m : Str → Option Value}, z.heap.Ns b m → (hidT z.heap H).Ns b m := by
    intro b m h
    obtain ⟨o, es, ep, e, dt, rest⟩ := h
    refine ⟨o, es, ep, hidT_get e ?_, dt, rest⟩
    match q : H b with
    | none => rfl
    | some u =>
      rw [isA q, scr] at e
      cases e
      exact absurd dt (fun y => by cases y)
  have inB : K.In (hidT z.heap H) := by
    intro b o e
    refine hidT_get (inK b o e) ?_
    match q : H b with
    | none => rfl
    | some u =>
      have ba := isA q
      subst ba
      rw [apart (by rw [q]; exact fun y => by cases y)] at e
      exact absurd e (fun y => by cases y)
  obtain ⟨mc, l1, l2⟩ := lim
  have md : Mod K mg (hidT z.heap H) := ⟨inB, hid gl, ⟨mb, hid bl, bb⟩, ⟨mc, hid l1, l2⟩⟩
  have en : Env0 P w K mg (hidT z.heap H) callerA [] z H :=
    { frames := rfl, mod := md, bs := fun b o e => of_hidT e, bsz := Nat.le_of_eq (hidT_size _ _), funs := trivial, frf := fun b hb => absurd (show b ∈ ([] : List Addr) from hb) List.not_mem_nil, hok := hok, bare := .of_eq gens }
  refine codeAny_mono ((F _ inB (hid gl)).go callerA [] z H ⟨[.ref a], []⟩ [.ref a] [.ref a] _ _ room rfl en (bind z (.ref a)) (.cons rfl .nil) want) fun r s' got => ?_
  match r, got with
  | .ok (.ret u), got =>
    obtain ⟨v, H', os, bare, un, hok', rv, q⟩ := got
    have q : v = .bl true := q
    subst q
    have eu : u = Value.bool true := rv
    subst eu
    refine ⟨rfl, OldK.of_keep fun b o e => ?_, os, bare⟩
    match q : H b with
    | none => exact un.keep b o e q (fun y => absurd (show b ∈ ([] : List Addr) from y) List.not_mem_nil) List.not_mem_nil
    | some u =>
      obtain y | ⟨ob, xs, y⟩ := only b
      · exact absurd (q.symm.trans y) (fun y => by cases y)
      · have o1 := (hok b _ y).1
        have o2 := (hok' b _ (un.frzs b ob _ y)).1
        rw [e] at o1
        rw [Option.some.inj o1]
        exact o2
  | .error e, got => exact absurd got (fun y => nomatch y)
theorem callG (inK : K.In z.heap) (gl : z.heap.Ns mainGlobals mg) (bl : z.heap.Ns builtinsNs mb) (bb : ∀ x : Str, x ≠ "__name__" → mb x = bootBuiltins x) (lim : z.heap.NoLimit) (gens : z.gens = #[])
    (scr : z.heap.get? a = some { cls := .type "list", data := .seq vs.toArray }) (nums : IntsAre vs ns) (len : ns.length ≤ sizeLine) (room : Room k callerA)
    (F : ∀ base : Heap, K.In base → base.Ns mainGlobals mg → FnG P w K mg base k fa fd [x] sp) (bind : ∀ (s : Shared) (u : Value), BindsTo s fd ⟨[u], []⟩ [(x, u)])
    (want : ∀ H : Hp, Only H → SqL K H a (ns.map V.int) → sp [.ref a] H (fun v _ => v = .bl true) fun _ _ _ => False) :
    codeAny (model P w) callerA (.call (.ref fa) ⟨[.ref a], []⟩) (fun r s' => r = .ok (.ret (.bool true)) ∧ OldK z.heap s'.heap ∧ s'.os = z.os ∧ AllBare s'.gens) z := by
  have vals := vals_ints nums
  match look : K.lookup a with
  | some o =>
    have e := inK a o look
    rw [scr] at e
    obtain rfl := Option.some.inj e
    refine callG_at inK gl bl bb lim gens scr room F bind (fun _ => none) (fun _ => .inl rfl) (want _ (fun _ => .inl rfl) (.inr ?_)) (fun b u y => absurd y (fun q => by cases q)) (fun b y => absurd rfl y) (fun y => absurd rfl y)
    exact ⟨_, vs.toArray, _, look, rfl, rfl, rfl, by rw [List.size_toArray, nums.length]; exact len, by simpa using vals⟩
  | none =>
    have at_ : ∀ b, (if b = a then some (HO.frz { cls := .type "list", data := .seq vs.toArray } (.lst (ns.map V.int))) else none) ≠ none → b = a := fun b y => by
      by_cases e : b = a
      · exact e
      · rw [if_neg e] at y
        exact absurd rfl y
    have only : Only fun b => if b = a then some (HO.frz { cls := .type "list", data := .seq vs.toArray } (.lst (ns.map V.int))) else none := fun b => by
      by_cases e : b = a
      · exact .inr ⟨_, _, if_pos e⟩
      · exact .inl (if_neg e)
    refine callG_at inK gl bl bb lim gens scr room F bind _ only (want _ only (.inl (.inr ⟨_, if_pos rfl⟩))) (fun b u y => ?_) at_ fun _ => look
    have e := at_ b (fun q => by have := q.symm.trans y; cases this)
    subst e
    have y' := (if_pos rfl).symm.trans y
    obtain rfl := Option.some.inj y'
    exact ⟨scr, by rw [List.length_map]; exact len, vs, _, vals, scr⟩
end
/-- what k_head leaves, from the law's promise -/
theorem walkG {l : PySem.W.OpenLaw} {n k : Nat} {q : Program} {loose : List Str} {XP : (Str → Option Value) → Heap → Prop} {YP : World → Heap → Prop} {d : DefRec} {K : Params → PySem.W.Frag} {sp : World → Sp} {x : Str}
    (most : l.most = some n) (small : n ≤ sizeLine) (plain : d.params.defaults = []) (room : Room k callerA) (inK : ∀ (w : World) (h : Heap), YP w h → (K w.params).In h)
    (F : ∀ (w : World) (mg : Str → Option Value) (fa : Addr) (h : Heap), (K w.params).In h → h.Ns mainGlobals mg → mg d.name = some (.ref fa) → ∃ fd : FuncData,
      (∀ (s : Shared) (u : Value), BindsTo s fd ⟨[u], []⟩ [(x, u)]) ∧ ∀ base : Heap, (K w.params).In base → base.Ns mainGlobals mg → FnG l.prog w (K w.params) mg base k fa fd [x] (sp w))
    (want : ∀ (w : World) (H : Hp) (a : Addr) (ns : List Int), ns.length ≤ n → Only H → SqL (K w.params) H a (ns.map V.int) → sp w [.ref a] H (fun v _ => v = .bl true) fun _ _ _ => False) :
    PySem.W.WalkO q loose XP YP l.row.toRowW d [] (fun f vs => PySem.call f vs) := by
  refine Att.attach_call most plain fun w _ z mg mb fa _ _ _ _ a vs ns G Y _ _ _ hmg scr nums hl gens => ?_
  have h1 := inK w _ Y
  obtain ⟨fd, bind, hF⟩ := F w mg fa _ h1 G.T.g hmg
  exact callG h1 G.T.g G.T.b G.T.builtins G.T.nolimit gens scr nums (Nat.le_trans hl small) room hF bind fun H hO hS => want w H a ns hl hO hS
end CK

set_option Elab.async false
set_option linter.all false
set_option maxRecDepth 100000
set_option maxHeartbeats 2000000
/-! comprehensions with a test; equality of data made of whole numbers -/
namespace CK
open PySem PySem.Spec PyProof.Rows L2
/-- n turns, each kept if b i, giving f i, leaving all that was tracked -/
theorem lc_filtW {J : It} {n : Nat} {G : Hp → Prop} {Y : Nat → Hp → V → Hp → Prop} (w : Walk J n G Y) {g : TG} {tt : TT} {te : TE} {vs : List Nat} {σ : L2.St} {H1 : Hp} {D : Addr} {Qd : Hp → Prop} (b : Nat → Bool) (f : Nat → V) (hn : n < sizeLine)
    (hG : ∀ H, Same H1 H → G H)
    (hs : ∀ (i : Nat) (x : V) (H H' : Hp) (R : VK) (R0 : Hp → Prop), i < n → Same H1 H → Y i H x H' → (b i = true → ∀ H'', Same H H'' → R (f i) H'') → (b i = false → ∀ H'', Same H H'' → R0 H'') →
      g x (wipe σ vs) H' fun σ2 H2 => wipe σ2 vs = wipe σ vs ∧ tt σ2 H2 fun c H3 => if c = true then te σ2 H3 R else R0 H3)
    (hD : H1 D = none) (hd : ∀ H : Hp, Same H1 H → H D = some (.lst (((List.range n).filter b).map f)) → Qd H) :
    ∃ W : Nat → Nat → Hp → Prop, (∃ m, W 0 m (upd H1 D (.lst []))) ∧ ∀ i m H, W i m H →
      (J.stop i H ∧ Qd H) ∨ (J.go i H ∧ ∃ Nx : Hp → Prop, (∀ H', Nx H' → ∃ m', m' < m ∧ W (i + 1) m' H') ∧ ∀ x H', J.yld i H x H' → g x (wipe σ vs) H' fun σ2 H2 => wipe σ2 vs = wipe σ vs ∧ tt σ2 H2 fun b H3 =>
        if b = true then te σ2 H3 fun y H4 => ∃ acc, H4 D = some (.lst acc) ∧ acc.length < sizeLine ∧ Nx (upd H4 D (.lst (acc ++ [y]))) else Nx H3) := by
  refine lc_it w (fun i H => Same H1 H ∧ H D = some (.lst (((List.range i).filter b).map f)) ∧ i ≤ n) ⟨sameNew hD, upd_same, Nat.zero_le _⟩ (fun i H _ p => hG H p.1) (fun i x H H' hi p y => ?_) fun H p => hd H p.1 p.2.1
  refine hs i x H H' _ _ hi p.1 y (fun hb H'' s => ?_) fun hb H'' s => ?_
  · refine ⟨_, s D _ p.2.1, ?_, same_upd2 hD (p.1.trans s), ?_, hi⟩
    · have := List.length_filter_le b (List.range i)
      rw [List.length_range] at this
      rw [List.length_map]
      omega
    · rw [upd_same, List.range_succ, List.filter_append, List.map_append, List.filter_cons_of_pos hb]
      rfl
  · refine ⟨p.1.trans s, ?_, hi⟩
    rw [s D _ p.2.1, List.range_succ, List.filter_append, List.filter_cons_of_neg (by rw [hb]; exact Bool.false_ne_true), List.filter_nil, List.append_nil]
theorem filt_nil (b : Nat → Bool) (f : Nat → V) (n : Nat) : ((List.range n).filter b).map f = [] ↔ ∀ i, i < n → b i = false := by
  rw [List.map_eq_nil_iff, List.filter_eq_nil_iff]
  constructor
  · intro h i hi
    have := h i (List.mem_range.mpr hi)
    simpa using this
  · intro h i hi
    rw [h i (List.mem_range.mp hi)]
    exact Bool.false_ne_true
/-- over zip -/
theorem lcZ_filt {K : PySem.W.Frag} {k k' : Kd} {a c : Addr} {xs ys : List V} {i1 i2 : Nat} {tt : TT} {te : TE} {vs : List Nat} {σ : L2.St} {H1 : Hp} {D : Addr} {Qd : Hp → Prop} (b : Nat → Bool) (f : Nat → V) (hl : xs.length = ys.length) (hn : xs.length < sizeLine)
    (ha : ∀ H, Same H1 H → SqB K k H a xs ∧ SqB K k' H c ys)
    (hs : ∀ (i : Nat) (x y : V) (H : Hp) (R : VK) (R0 : Hp → Prop), xs[i]? = some x → ys[i]? = some y → Same H1 H → (b i = true → ∀ H', Same H H' → R (f i) H') → (b i = false → ∀ H', Same H H' → R0 H') →
      wipe (((wipe σ vs).set i1 (some x)).set i2 (some y)) vs = wipe σ vs ∧ tt (((wipe σ vs).set i1 (some x)).set i2 (some y)) H fun c H3 => if c = true then te (((wipe σ vs).set i1 (some x)).set i2 (some y)) H3 R else R0 H3)
    (hD : H1 D = none) (hd : ∀ H : Hp, Same H1 H → H D = some (.lst (((List.range xs.length).filter b).map f)) → Qd H) :
    ∃ W : Nat → Nat → Hp → Prop, (∃ m, W 0 m (upd H1 D (.lst []))) ∧ ∀ i m H, W i m H →
      ((ItB K k k' a c).stop i H ∧ Qd H) ∨ ((ItB K k k' a c).go i H ∧ ∃ Nx : Hp → Prop, (∀ H', Nx H' → ∃ m', m' < m ∧ W (i + 1) m' H') ∧ ∀ x H', (ItB K k k' a c).yld i H x H' → gTup K 2 (gCons (gName i1) (gCons (gName i2) gNil)) x (wipe σ vs) H' fun σ2 H2 => wipe σ2 vs = wipe σ vs ∧ tt σ2 H2 fun b H3 =>
        if b = true then te σ2 H3 fun y H4 => ∃ acc, H4 D = some (.lst acc) ∧ acc.length < sizeLine ∧ Nx (upd H4 D (.lst (acc ++ [y]))) else Nx H3) := by
  refine lc_filtW (walkB (K := K) (k := k) (k' := k') (a := a) (b := c) hl) b f hn ha (fun i v H H' R R0 hi s y q q0 => ?_) hD hd
  obtain ⟨T, x, y, rfl, hT, rfl, hx, hy⟩ := y
  have hx : xs[i]? = some x := hx
  have hy : ys[i]? = some y := hy
  have st : Same H (upd H T (.tup [x, y])) := sameNew hT
  exact ⟨T, [x, y], rfl, .inl (.inl upd_same), rfl, x, [y], rfl, y, [], rfl, rfl, hs i x y _ R R0 hx hy (s.trans st) (fun hb H'' s' => q hb H'' (st.trans s')) fun hb H'' s' => q0 hb H'' (st.trans s')⟩
/-- over a list -/
theorem lcL_filt {K : PySem.W.Frag} {a : Addr} {xs : List V} {j : Nat} {tt : TT} {te : TE} {vs : List Nat} {σ : L2.St} {H1 : Hp} {D : Addr} {Qd : Hp → Prop} (b : Nat → Bool) (f : Nat → V) (ha : ∀ H, Same H1 H → SqL K H a xs) (hn : xs.length < sizeLine)
    (hs : ∀ (i : Nat) (x : V) (H : Hp) (R : VK) (R0 : Hp → Prop), xs[i]? = some x → Same H1 H → (b i = true → ∀ H', Same H H' → R (f i) H') → (b i = false → ∀ H', Same H H' → R0 H') →
      wipe ((wipe σ vs).set j (some x)) vs = wipe σ vs ∧ tt ((wipe σ vs).set j (some x)) H fun c H3 => if c = true then te ((wipe σ vs).set j (some x)) H3 R else R0 H3)
    (hD : H1 D = none) (hd : ∀ H : Hp, Same H1 H → H D = some (.lst (((List.range xs.length).filter b).map f)) → Qd H) :
    ∃ W : Nat → Nat → Hp → Prop, (∃ m, W 0 m (upd H1 D (.lst []))) ∧ ∀ i m H, W i m H →
      ((Itl K a).stop i H ∧ Qd H) ∨ ((Itl K a).go i H ∧ ∃ Nx : Hp → Prop, (∀ H', Nx H' → ∃ m', m' < m ∧ W (i + 1) m' H') ∧ ∀ x H', (Itl K a).yld i H x H' → gName j x (wipe σ vs) H' fun σ2 H2 => wipe σ2 vs = wipe σ vs ∧ tt σ2 H2 fun b H3 =>
        if b = true then te σ2 H3 fun y H4 => ∃ acc, H4 D = some (.lst acc) ∧ acc.length < sizeLine ∧ Nx (upd H4 D (.lst (acc ++ [y]))) else Nx H3) := by
  refine lc_filtW (walk_list (K := K) (a := a) (xs := xs)) b f hn ha (fun i v H H' R R0 hi s y q q0 => ?_) hD hd
  obtain ⟨rfl, hx⟩ := y
  exact hs i v H' R R0 hx s q q0
/-- over a tuple -/
theorem lcT_filt {K : PySem.W.Frag} {a : Addr} {xs : List V} {j : Nat} {tt : TT} {te : TE} {vs : List Nat} {σ : L2.St} {H1 : Hp} {D : Addr} {Qd : Hp → Prop} (b : Nat → Bool) (f : Nat → V) (ha : ∀ H, Same H1 H → SqT K H a xs) (hn : xs.length < sizeLine)
    (hs : ∀ (i : Nat) (x : V) (H : Hp) (R : VK) (R0 : Hp → Prop), xs[i]? = some x → Same H1 H → (b i = true → ∀ H', Same H H' → R (f i) H') → (b i = false → ∀ H', Same H H' → R0 H') →
      wipe ((wipe σ vs).set j (some x)) vs = wipe σ vs ∧ tt ((wipe σ vs).set j (some x)) H fun c H3 => if c = true then te ((wipe σ vs).set j (some x)) H3 R else R0 H3)
    (hD : H1 D = none) (hd : ∀ H : Hp, Same H1 H → H D = some (.lst (((List.range xs.length).filter b).map f)) → Qd H) :
    ∃ W : Nat → Nat → Hp → Prop, (∃ m, W 0 m (upd H1 D (.lst []))) ∧ ∀ i m H, W i m H →
      ((Itt K a).stop i H ∧ Qd H) ∨ ((Itt K a).go i H ∧ ∃ Nx : Hp → Prop, (∀ H', Nx H' → ∃ m', m' < m ∧ W (i + 1) m' H') ∧ ∀ x H', (Itt K a).yld i H x H' → gName j x (wipe σ vs) H' fun σ2 H2 => wipe σ2 vs = wipe σ vs ∧ tt σ2 H2 fun b H3 =>
        if b = true then te σ2 H3 fun y H4 => ∃ acc, H4 D = some (.lst acc) ∧ acc.length < sizeLine ∧ Nx (upd H4 D (.lst (acc ++ [y]))) else Nx H3) := by
  refine lc_filtW (walk_tup (K := K) (a := a) (xs := xs)) b f hn ha (fun i v H H' R R0 hi s y q q0 => ?_) hD hd
  obtain ⟨rfl, hx⟩ := y
  exact hs i v H' R R0 hx s q q0
/-- a tuple of the module's own -/
theorem tupF {K : PySem.W.Frag} {h : Heap} {mg : Str → Option Value} {x : Str} {f : Addr} {o : Obj} {its : Array Value} {n : Nat} {xs : List V} (X : K.In h) (G : h.Ns mainGlobals mg) (a : PySem.W.nsIn K mainGlobals x = some (some (.ref f))) (l : K.lookup f = some o)
    (hc : o.cls = .type "tuple") (hd : o.data = .seq its n) (hs : its.size ≤ sizeLine) (hv : Vals xs its.toList) : ∃ a, mg x = some (.ref a) ∧ ∀ H, SqT K H a xs :=
  ⟨f, PySem.W.mg_of X G a, fun H => .inr ⟨o, its, n, l, hc, hd, hs, hv⟩⟩
abbrev TupF (K : PySem.W.Frag) (mg : Str → Option Value) (x : Str) (xs : List V) : Prop := ∃ a, mg x = some (.ref a) ∧ ∀ H, SqT K H a xs
theorem with_tup {K : PySem.W.Frag} {h : Heap} {mg : Str → Option Value} (_ : K.In h) (x : Str) (xs : List V) {R : Prop} (d : TupF K mg x xs) (r : TupF K mg x xs → R) : R := r d
/-! data of whole numbers -/
theorem eqvAll_ints : ∀ f g : List Int, PyData.eqvAll (f.map PyData.int) (g.map PyData.int) = decide (f = g)
  | [], [] => by simp [PyData.eqvAll]
  | [], _ :: _ => by simp [PyData.eqvAll]
  | _ :: _, [] => by simp [PyData.eqvAll]
  | x :: f, y :: g => by
    rw [List.map_cons, List.map_cons, PyData.eqvAll, eqvAll_ints f g]
    simp [PyData.eqv, Bool.beq_eq_decide_eq]
theorem eqv_dI (f g : List Int) : PyData.eqv (dI f) (dI g) = decide (f = g) := by
  unfold dI
  simp only [PyData.eqv, eqvAll_ints]
def dLI (ns : List Int) : PyData := .list (ns.map PyData.int)
theorem eqv_dLI (f g : List Int) : PyData.eqv (dLI f) (dLI g) = decide (f = g) := by
  unfold dLI
  simp only [PyData.eqv, eqvAll_ints]
theorem shaped_dLI (ns : List Int) : SeqAt.shaped (dLI ns) = true := by
  unfold SeqAt.shaped dLI
  rw [PyData.canLay0, lay_ints, PyData.depth, deep_ints]
  decide
theorem dp_lints {K : PySem.W.Frag} {H : Hp} {a : Addr} {ns : List Int} (h : H a = some (.lst (ns.map V.int))) : Dp K H (.ref a) (dLI ns) := .lst (.inl (.inl h)) (dpAll_ints ns)
/-! repr of whole numbers -/
theorem shown_ints : ∀ ns : List Int, (∀ n ∈ ns, n.natAbs.log2 < 1920) → PyData.showableAll (ns.map PyData.int) = true
  | [], _ => by simp [PyData.showableAll]
  | n :: ns, h => by
    rw [List.map_cons, PyData.showableAll, shown_ints ns fun z hz => h z (List.mem_cons_of_mem _ hz)]
    simp [PyData.showable, h n List.mem_cons_self]
theorem noDict_ints : ∀ ns : List Int, PyData.hasDictAll (ns.map PyData.int) = false
  | [] => by simp [PyData.hasDictAll]
  | n :: ns => by
    rw [List.map_cons, PyData.hasDictAll, noDict_ints ns]
    simp [PyData.hasDict]
theorem piled_ints : ∀ ns : List Int, (∀ n ∈ ns, n.natAbs.log2 < 1920) → piled (PyData.shownAll (ns.map PyData.int)) ≤ ns.length * 1923
  | [], _ => Nat.zero_le _
  | n :: ns, h => by
    have a1 := int_text_length_le (a := n) (k := 1920) (by omega) (h n List.mem_cons_self)
    have a2 := piled_ints ns fun z hz => h z (List.mem_cons_of_mem _ hz)
    have a3 : ((toString n : Str)).length = (toString n).length := PySem.ofString_length _
    have e : PyData.shown (.int n) = (toString n : Str) := by simp only [PyData.shown]
    rw [List.map_cons, PyData.shownAll, piled_cons, List.length_cons, e]
    omega
theorem show_dI {ns : List Int} (h : ∀ n ∈ ns, n.natAbs.log2 < 1920) (hl : ns.length ≤ 100) : (dI ns).showable = true ∧ (dI ns).hasDict = false ∧ (dI ns).depth ≤ 60 ∧ (dI ns).shown.length ≤ sizeLine := by
  refine ⟨?_, ?_, by rw [deep_dI]; decide, ?_⟩
  · unfold dI
    rw [PyData.showable]
    exact shown_ints ns h
  · unfold dI
    rw [PyData.hasDict]
    exact noDict_ints ns
  · unfold dI
    rw [PyData.shown]
    have := fmt_text (PyData.shownAll (ns.map PyData.int))
    have := piled_ints ns h
    have : ns.length * 1923 ≤ 100 * 1923 := Nat.mul_le_mul_right _ hl
    rw [sizeLine_eq]
    omega
theorem log_lt {n : Int} (h : n.natAbs < 2 ^ 1900) : n.natAbs.log2 < 1920 := by
  by_cases z : n.natAbs = 0
  · rw [z]
    decide
  · have := (Nat.log2_lt z).mpr h
    omega
end CK

set_option Elab.async false
set_option linter.all false
set_option maxRecDepth 100000
set_option maxHeartbeats 2000000
/-! statements in order, tests that may end the call -/
namespace CK
open PySem PySem.Spec PyProof.Rows L2
theorem seq_cut {t u : TS} {D : Ends} {σ : L2.St} {H : Hp} (Mid : L2.St → Hp → Prop) (h1 : ∀ K : L2.St → Hp → Prop, (∀ σ' H', Mid σ' H' → K σ' H') → t { D with nx := K } σ H) (h2 : ∀ σ' H', Mid σ' H' → u D σ' H') : tSeq t u D σ H := h1 _ h2
/-- a test whose answer is b: what is within, and what follows -/
theorem if_dec {c : TT} {t u : TS} {D : Ends} {σ : L2.St} {H : Hp} (b : Bool) (h : ∀ R : Bool → Hp → Prop, (∀ H', Same H H' → R b H') → c σ H R)
    (yes : b = true → ∀ H', Same H H' → t { D with nx := fun σ' H'' => u D σ' H'' } σ H') (no : b = false → ∀ H', Same H H' → u D σ H') : tSeq (tIfS c t tNext) u D σ H :=
  h _ fun H' s => by
    cases b with
    | true => exact iteT (yes rfl H' s)
    | false => exact iteF (no rfl H' s)
/-- the last test of a block -/
theorem if_end {c : TT} {t u : TS} {D : Ends} {σ : L2.St} {H : Hp} (b : Bool) (h : ∀ R : Bool → Hp → Prop, (∀ H', Same H H' → R b H') → c σ H R)
    (yes : b = true → ∀ H', Same H H' → t D σ H') (no : b = false → ∀ H', Same H H' → u D σ H') : tIfS c t u D σ H :=
  h _ fun H' s => by
    cases b with
    | true => exact iteT (yes rfl H' s)
    | false => exact iteF (no rfl H' s)
theorem if_not {c : TT} {t u : TS} {D : Ends} {σ : L2.St} {H : Hp} (h : ∀ R : Bool → Hp → Prop, (∀ H', Same H H' → R false H') → c σ H R) (r : ∀ H', Same H H' → u D σ H') : tSeq (tIfS c t tNext) u D σ H :=
  h _ fun H' s => iteF (r H' s)
theorem yes_if {σ : L2.St} {H : Hp} {A B : Hp → Prop} (h : A H) : tYes σ H fun b H3 => if b = true then A H3 else B H3 := by
  show (if true = true then A H else B H)
  exact if_pos rfl ▸ h
end CK

set_option Elab.async false
set_option linter.all false
set_option maxRecDepth 100000
set_option maxHeartbeats 2000000
/-! defs, methods and classes with defaults, called with keywords alone or with fewer arguments -/
namespace CK
open PySem PySem.Spec PyProof.Rows L2
/-- a def with defaults as it stands -/
structure DefD (K : PySem.W.Frag) (mg : Str → Option Value) (x : Str) (st : Stmt) (dvs : List V) (kws : List (Str × V)) : Prop where
  ex : ∃ (f : Addr) (fd : FuncData), FunD K x x (C8.fnArgs st) (C8.fnBody st) (C8.fnScope st) dvs kws f fd ∧ mg x = some (.ref f)
/-- a method with defaults -/
structure MetD (K : PySem.W.Frag) (C : Addr) (m q : Str) (st : Stmt) (dvs : List V) (kws : List (Str × V)) : Prop where
  ex : ∃ (f : Addr) (fd : FuncData), FunD K m q (C8.fnArgs st) (C8.fnBody st) (C8.fnScope st) dvs kws f fd ∧ Meth K C m f
theorem fun_of {K : PySem.W.Frag} {x q : Str} {st : Stmt} {dvs : List V} {kws : List (Str × V)} {f : Addr} {fd : FuncData} (F : FunD K x q (C8.fnArgs st) (C8.fnBody st) (C8.fnScope st) dvs kws f fd) : C8.Fun K x q st f fd := by
  obtain ⟨oc, od, dV, kV, doc, pm, an, cdv, ct, osl, rfl, lk, hcd, _, _⟩ := F.ex
  exact ⟨oc, od, dV, kV, doc, pm, an, cdv, ct, osl, rfl, lk, hcd⟩
theorem defD_mk {K : PySem.W.Frag} {h : Heap} {mg : Str → Option Value} (x : Str) (st : Stmt) (dvs : List V) (kws : List (Str × V)) {f : Addr} {od an : Option Addr} {oc dV kV dc pm cd ct : Value} {sl : Array (Option Value)}
    (X : K.In h) (G : h.Ns mainGlobals mg) (a : PySem.W.nsIn K mainGlobals x = some (some (.ref f)))
    (l : K.lookup f = some ⟨oc, od, .func (PySem.W.fnOf x x (C8.fnArgs st) (C8.fnBody st) (C8.fnScope st) dV kV dc pm an cd ct), sl⟩)
    (c : PySem.W.codeIn K cd x = true) (k : PySem.W.keepIn K (.ref f) = true) (dd : DflV K dV dvs) (kk : KwdV K kV kws) : DefD K mg x st dvs kws :=
  ⟨f, _, ⟨⟨oc, od, dV, kV, dc, pm, an, cd, ct, sl, rfl, l, c, dd, kk⟩, k⟩, PySem.W.mg_of X G a⟩
theorem metD_mk {K : PySem.W.Frag} {mg : Str → Option Value} {x : Str} {C : Addr} (_ : ClF K mg x C) (m q : Str) (st : Stmt) (dvs : List V) (kws : List (Str × V)) {f : Addr} {od an : Option Addr} {oc dV kV dc pm cd ct : Value} {sl : Array (Option Value)}
    (a : PySem.W.findIn K (.ref C) m = some (some (.ref f))) (i : PySem.W.isFn K (.ref f) = true)
    (l : K.lookup f = some ⟨oc, od, .func (PySem.W.fnOf m q (C8.fnArgs st) (C8.fnBody st) (C8.fnScope st) dV kV dc pm an cd ct), sl⟩)
    (c : PySem.W.codeIn K cd q = true) (k : PySem.W.keepIn K (.ref f) = true) (dd : DflV K dV dvs) (kk : KwdV K kV kws) : MetD K C m q st dvs kws :=
  ⟨f, _, ⟨⟨oc, od, dV, kV, dc, pm, an, cd, ct, sl, rfl, l, c, dd, kk⟩, k⟩, ⟨a, i, k⟩⟩
theorem with_defD {K : PySem.W.Frag} {h : Heap} {mg : Str → Option Value} (_ : K.In h) (x : Str) (st : Stmt) (dvs : List V) (kws : List (Str × V)) {R : Prop} (d : DefD K mg x st dvs kws) (r : DefD K mg x st dvs kws → R) : R := r d
theorem with_metD {K : PySem.W.Frag} {mg : Str → Option Value} {x : Str} {C : Addr} (_ : ClF K mg x C) (m q : Str) (st : Stmt) (dvs : List V) (kws : List (Str × V)) {R : Prop} (d : MetD K C m q st dvs kws) (r : MetD K C m q st dvs kws → R) : R := r d
/-- keyword-only defaults, one by one -/
theorem kwd_nil {K : PySem.W.Frag} {kV : Value} : KwdV K kV [] := .inl rfl
theorem kwd_cons {K : PySem.W.Frag} {D : Addr} {x : Str} {v : V} {u : Value} {kws : List (Str × V)} (h : PySem.W.nsIn K D x = some (some u)) (r : RelV v u) (t : KwdV K (.ref D) kws) : KwdV K (.ref D) ((x, v) :: kws) := by
  refine .inr ⟨D, rfl, fun q hq => ?_⟩
  rcases List.mem_cons.mp hq with rfl | hq
  · exact ⟨u, h, r⟩
  · rcases t with rfl | ⟨D', e, t⟩
    · cases hq
    · cases e
      exact t q hq
theorem dfl_nil {K : PySem.W.Frag} : DflV K .none [] := .inl ⟨rfl, rfl⟩
theorem dfl_one {K : PySem.W.Frag} {T : Addr} {o : Obj} {v : V} {u : Value} {n : Nat} (l : K.lookup T = some o) (d : o.data = .seq #[u] n) (r : RelV v u) : DflV K (.ref T) [v] := .inr ⟨List.cons_ne_nil _ _, T, o, [u], n, rfl, l, d, .cons r .nil⟩
theorem FunD.kbindsN {K : PySem.W.Frag} {x qual : Str} {params : Arguments} {body : List Stmt} {scope : Scope} {f : Addr} {fd : FuncData} {ps : List Str} (F : FunD K x qual params body scope [] [] f fd) (n : Nat) (ks : List Str) (g : {α : Type} → List α → List α → List α)
    (hrel : ∀ {vs zs : List V} {us ws : List Value}, Vals vs us → Vals zs ws → Vals (g vs zs) (g us ws))
    (h : ∀ (kV doc pm : Value) (an : Option Addr) (cdv ct : Value) (us ws : List Value), us.length = n → ws.length = ks.length → bindArgs (PySem.W.fnOf x qual params body scope .none kV doc pm an cdv ct) ⟨us, ks.zip ws⟩ = pure (ps.zip (g us ws))) :
    KBn K fd ps n ks (fun us ws => g us ws) (fun vs zs => g vs zs) := by
  obtain ⟨oc, od, dV, kV, doc, pm, an, cdv, ct, osl, rfl, lk, hcd, hD, hK⟩ := F.ex
  rcases hD with ⟨_, rfl⟩ | ⟨e, _⟩
  · exact ⟨fun s us ws X l1 l2 => .of_eq (h kV doc pm an cdv ct us ws l1 l2), fun r1 r2 => hrel r1 r2⟩
  · exact absurd rfl e
/-! ### calls -/
structure CalN (P : Program) (w : World) (K : PySem.W.Frag) (mg : Str → Option Value) (base : Heap) (k : Nat) (x : Str) (ks : List Str) (sp : Sp) (gV : List V → List V → List V) : Prop where
  ex : ∃ (f : Addr) (fd : FuncData) (ps : List Str) (g : List Value → List Value → List Value), FnOk P w K mg base C8.CX0 k f fd ps sp ∧ mg x = some (.ref f) ∧ PySem.W.keepIn K (.ref f) = true ∧ KBn K fd ps 0 ks g gV
structure MakN (P : Program) (w : World) (K : PySem.W.Frag) (mg : Str → Option Value) (base : Heap) (k : Nat) (x : Str) (C : Addr) (ks : List Str) (sp : Sp) (gV : List V → List V → List V) : Prop where
  ex : ∃ (f : Addr) (fd : FuncData) (ps : List Str) (g : List Value → List Value → List Value), Mk K C f ∧ FnOk P w K mg base C8.CX0 k f fd ps sp ∧ mg x = some (.ref C) ∧ KBn K fd ps 1 ks g gV
structure MetN (P : Program) (w : World) (K : PySem.W.Frag) (mg : Str → Option Value) (base : Heap) (k : Nat) (C : Addr) (m : Str) (ks : List Str) (sp : Sp) (gV : List V → List V → List V) : Prop where
  ex : ∃ (f : Addr) (fd : FuncData) (ps : List Str) (g : List Value → List Value → List Value), Cls K C ∧ Meth K C m f ∧ FnOk P w K mg base C8.CX0 k f fd ps sp ∧ KBn K fd ps 1 ks g gV
def tMethN (C : Addr) (m : Str) (n : Nat) (sp : Sp) (gV : List V → List V → List V) (E : XK) (ta : TE) (tk : TA) : TE := fun σ H Q => ta σ H fun x H1 => ∃ a dx fs, x = .ref a ∧ H1 a = some (.ins C dx fs) ∧ fs.lookup m = none ∧
  tk σ H1 fun zs H2 => zs.length = n ∧ sp (gV [.ref a] zs) H2 Q E
section
variable {X : Cx} {k j : Nat} {C : Addr} {x m : Str} {sp : Sp} {dvs : List V} {p pos apos : Pos} {o : Expr} {kws : List Keyword} {ks : List Str} {ta : TE} {tk : TA} {gV : List V → List V → List V}
theorem pe_cN (c : CalN X.prog X.w X.K X.mg X.base k x ks sp gV) (hr : Room j X.A) (hk : k ≤ j) (hg : Gl X x) (hkw : PK X kws tk)
    (hall : (backToKw pos (keywordEach kws X.env)).all (·.1.isSome) = true := by rfl) (hks : (backToKw pos (keywordEach kws X.env)).filterMap (·.1) = ks := by rfl) (hdb : (x == ("__debug__" : Str)) = false := by decide)
    (hpl : ((backTo pos (starEach [] X.env)).any (·.1) || (backToKw pos (keywordEach kws X.env)).any (·.1.isNone)) = false := by rfl) :
    PE X (.Call (.Name x p) [] kws pos) (tCallN 0 ks.length sp gV C8.E0 tNil tk) := by
  obtain ⟨f, fd, ps, g, F, hm, kp, hb⟩ := c.ex
  refine ⟨fun pins s σ H Q I h => ?_⟩
  refine wpAny_Call_Name_kw (ld_glob I hg hm ?_ hdb)
  refine PySem.W.callWith_KW0 (h₀ := X.base) I.ok.mod.kin kp hall ?_ hpl
  refine thn (hkw.run pos pins s σ H _ I h) fun ws s2 ⟨zs, H2, I2, rz, l1, l2, q2⟩ => ⟨I2.kIn, ?_⟩
  rw [hks]
  exact run_fnN (us := []) (vs := []) F (hr.mono hk) hb C8.pass0 I2 .nil rz rfl l2 q2
theorem pe_mkN (c : MakN X.prog X.w X.K X.mg X.base k x C ks sp gV) (hr : Room j X.A) (hk : k + 1 ≤ j) (hg : Gl X x) (hkw : PK X kws tk)
    (hall : (backToKw pos (keywordEach kws X.env)).all (·.1.isSome) = true := by rfl) (hks : (backToKw pos (keywordEach kws X.env)).filterMap (·.1) = ks := by rfl) (hdb : (x == ("__debug__" : Str)) = false := by decide)
    (hpl : ((backTo pos (starEach [] X.env)).any (·.1) || (backToKw pos (keywordEach kws X.env)).any (·.1.isNone)) = false := by rfl) :
    PE X (.Call (.Name x p) [] kws pos) (tMakeK C 0 ks.length sp gV C8.E0 tNil tk) := by
  obtain ⟨f, fd, ps, g, M, F, hm, hb⟩ := c.ex
  exact pe_makeK0 M F (hr.mono hk) hg hm hb C8.pass0 hkw hall hks hdb hpl
theorem pe_mk0 (c : C8.Mak X.prog X.w X.K X.mg X.base k x C sp dvs) (hr : Room j X.A) (hk : k + 1 ≤ j) (hg : Gl X x)
    (hdb : (x == ("__debug__" : Str)) = false := by decide) : PE X (.Call (.Name x p) [] [] pos) (tMake C sp dvs C8.E0 tNil) := by
  obtain ⟨f, fd, ps, ds, M, F, hm, b, d⟩ := c.ex
  exact pe_make0 M F (hr.mono hk) hg hm b d C8.pass0 hdb
theorem pe_mtN {pl : Sem Bool} (c : MetN X.prog X.w X.K X.mg X.base k C m ks sp gV) (hr : Room j X.A) (hk : k ≤ j) (he : PE X o ta) (hkw : PK X kws tk)
    (hall : (backToKw pos (keywordEach kws X.env)).all (·.1.isSome) = true := by rfl) (hks : (backToKw pos (keywordEach kws X.env)).filterMap (·.1) = ks := by rfl)
    (hpl : ((backTo pos (starEach [] X.env)).any (·.1) || (backToKw pos (keywordEach kws X.env)).any (·.1.isNone)) = false := by rfl)
    (ht : eval (.Call (.Attribute o m apos) [] kws pos) X.env = (do
      let ov ← eval o X.env
      standAt apos.atName
      let (f, first) ← holding [ov] (getMethod ov m pl)
      callWith pos f first (backTo pos (starEach [] X.env)) (backToKw pos (keywordEach kws X.env))) := by rfl) :
    PE X (.Call (.Attribute o m apos) [] kws pos) (tMethN C m ks.length sp gV C8.E0 ta tk) := by
  obtain ⟨f, fd, ps, g, hc, hm, F, hb⟩ := c.ex
  refine ⟨fun pins s σ H Q I h => ?_⟩
  refine PySem.W.methodCall_KW (pl := pl) (thn (he.run pins s σ H _ I h) fun u s1 ⟨x, H1, I1, rx, a, dx, fs, ex, ea, l, q⟩ => ?_) ht
  subst ex
  obtain rfl : u = Value.ref a := rx
  refine getmeth_ok I1 ea hc hm l ?_
  refine PySem.W.callWith_KW0 (first := [.ref a]) (h₀ := X.base) I.ok.mod.kin hm.kp hall ?_ hpl
  refine thn (hkw.run pos pins s1 σ H1 _ I1 q) fun ws s2 ⟨zs, H2, I2, rz, l2, q2⟩ => ⟨I2.kIn, ?_⟩
  rw [hks]
  exact run_fnN (us := [.ref a]) (vs := [.ref a]) F (hr.mono hk) hb C8.pass0 I2 (.cons rfl .nil) rz rfl l2 q2
end
end CK

set_option Elab.async false
set_option linter.all false
set_option maxRecDepth 100000
set_option maxHeartbeats 4000000
/-! exceptions: kept behind the suite that catches them; defs that raise; errors with one field -/
namespace CK
open PySem PySem.Spec PyProof.Rows L2
/-- a caught exception that is still held -/
def ExV (a : Addr) (cls : Value) (d : Option Addr) : HO := .ext fun g => ∃ ob fv, g.get? a = some ob ∧ Zc cls d ob ∧ ob.data = .fields fv
section
variable {X : Cx} {pins : List (Addr × Obj)} {σ : L2.St} {H : Hp} {g : Heap} {a : Addr} {cls : Value} {d : Option Addr} {ob : Obj} {fv : Array Value} {B : Heap} {y z : Shared}
theorem exV_ok {P : Program} {w : World} (h1 : g.get? a = some ob) (h2 : Zc cls d ob) (h3 : ob.data = .fields fv) : ObjOk P w H g a (ExV a cls d) :=
  ⟨⟨ob, fv, h1, h2, h3⟩, ⟨ob, h1⟩, fun _ _ ⟨o', v', y1, y2⟩ k => ⟨o', v', k _ y1, y2⟩⟩
theorem exV_at {P : Program} {w : World} (hok : HOk P w H g) (h : H a = some (ExV a cls d)) : ∃ ob fv, g.get? a = some ob ∧ Zc cls d ob ∧ ob.data = .fields fv := by
  have := hok a _ h
  exact this.1
/-- the exception's object is tracked from now on -/
theorem held_now (I : Inv X pins σ H y) (gr : ∀ b o, y.heap.get? b = some o → b ∉ frs X.stack → B.get? b = some o) (up : y.heap.UpToSlots z.heap) (st : B.StaysIn z.heap) (nB : B.get? a = none) (na : H a = none) (nf : a ∉ frs X.stack)
    (h1 : z.heap.get? a = some ob) (h2 : Zc cls d ob) (h3 : ob.data = .fields fv) (os : z.os = y.os) (ag : AllBare z.gens) : Inv X pins σ (upd H a (ExV a cls d)) z := by
  have old : ∀ {b o}, y.heap.get? b = some o → b ≠ a := fun {b o} e q => by
    subst q
    rw [gr b o e nf] at nB
    cases nB
  have fr : ∀ b ∈ frs X.stack, ∀ o, y.heap.get? b = some o → ∃ sl, z.heap.get? b = some { o with slots := sl } := fun b hb o e => by
    obtain ⟨_, o2, e2, hnf⟩ := I.stack.mem hb
    obtain rfl : o2 = o := Option.some.inj (e2.symm.trans e)
    exact up b o2 e2 hnf
  refine I.call' (ch := []) os ⟨?_, ?_, ?_, ?_, ?_, ?_, ?_⟩ ?_ ag (fun _ q => nomatch q)
  · exact fun b o e _ hb _ => st b o (gr b o e hb)
  · exact fun b o e _ hb _ => fr b hb o e
  · exact fun b o e n _ => (upd_ne (old e)).trans n
  · intro b o e _
    by_cases hb : b ∈ frs X.stack
    · exact ⟨_, (fr b hb o e).choose_spec⟩
    · exact ⟨o, st b o (gr b o e hb)⟩
  · exact fun b xs e => (upd_ne (ne_of_none e na)).trans e
  · exact fun b o u e => (upd_ne (ne_of_none e na)).trans e
  · exact fun b ps e => ⟨#[], by rw [upd_ne (ne_of_none e na), e, Array.append_empty]⟩
  · intro b o e
    by_cases hb : b = a
    · subst hb
      obtain rfl : ExV b cls d = o := Option.some.inj (upd_same.symm.trans e)
      exact exV_ok h1 h2 h3
    · have e' : H b = some o := (upd_ne hb).symm.trans e
      exact (I.inGround gr b o e').stay (fun c v _ q => st c v q) (fun c q => (upd_ne (ne_of_none q na)).trans q) (fun c xs q => (upd_ne (ne_of_none q na)).trans q)
/-- into the suite, and back -/
theorem to_suite {a : Addr} (I : Inv X pins σ H z) : Inv (X.suite a (X.pn ++ pins)) [] σ H z :=
  ⟨I.ok.suite a _, I.os, I.bare, I.base, I.loc, I.cell, I.free, I.freeC, fun p hp => I.pin p (by simpa using hp), I.hok, I.len⟩
theorem of_suite {a : Addr} {more : List (Addr × Obj)} (I : Inv (X.suite a (X.pn ++ pins)) more σ H z) (ok : X.Ok) : Inv X pins σ H z :=
  ⟨ok, I.os, I.bare, I.base, I.loc, I.cell, I.free, I.freeC, fun p hp => I.pin p (List.mem_append.mpr (.inl hp)), I.hok, I.len⟩
end
/-- what 'except x as n: suite' wishes where x is met: n in slot i; the exception is held from there on -/
def wKeep (K : PySem.W.Frag) (c : Value) (i : Nat) (ts : Addr → TS) (D : Ends) : WX := fun cls d σ H =>
  PySem.W.exmOne K cls c = some true ∧ ∀ a, H a = none → ts a { nx := fun σ' H' => D.nx (σ'.set i none) H', rt := D.rt, bk := fun σ' H' => D.bk (σ'.set i none) H', ct := fun σ' H' => D.ct (σ'.set i none) H' } (σ.set i (some (.ref a))) (upd H a (ExV a cls d))
section
variable {X : Cx} {x n : Str} {c : Value} {i : Nat} {body suite : List Stmt} {b₀ : Stmt} {np pos pos' : Pos} {tb : WX → TS} {ts : Addr → TS}
theorem ps_try_keep (hs : X.stack = X.env :: X.outer) (hf : X.env.frame = some X.env.locals) (hN : X.N.Nodup) (hi : X.N[i]? = some n) (hln : X.env.kindOf n = some .local) (hg : Gl X x) (hdb : (x == ("__debug__" : Str)) = false) (hm : X.mg x = some c)
    (hb : ∀ (W : WX) (pn : List (Addr × Obj)) (xe : Value → Shared → Prop), Takes (X.tr pn xe) W → PSs (X.tr pn xe) body (tb W)) (hsu : ∀ (a : Addr) (pn : List (Addr × Obj)), PSs (X.suite a pn) (b₀ :: suite) (ts a)) :
    PS X (.Try body [.ExceptHandler (some (.Name x np)) (some n) (b₀ :: suite) pos'] [] [] pos) (fun D σ H => tb (wKeep X.K c i ts D) D σ H) := by
  constructor
  intro pins z σ H D I h
  have hfr : X.A.frames = some (X.env :: X.outer) := I.ok.frames.trans (congrArg some hs)
  refine wpAny_Try_except (wpAny_mono ((hb (wKeep X.K c i ts D) (X.pn ++ pins) _ ?_).run [] z σ H D (I.toTry _) h) ?_ (fun _ _ q => q))
  · rintro _ z1 ⟨a, B, y, pins', σ1, H1, cls, d, rfl, J', gr, up, sky, na, os, ag, hx, hyes⟩
    have J : Inv X pins σ1 H1 y := J'.ofTry I.ok
    have sky1 : Sky B (X.env :: X.outer) a (Zc cls d) X.env.locals z1.heap := hs ▸ sky
    refine Sky.land Zc.steady hfr hf sky1 fun g3 fl3 up3 => ?_
    have nf : ∀ {g : Heap}, HandSPX.FlyingZ B (X.env :: X.outer) a (Zc cls d) g → a ∉ frs X.stack := fun {g} fl hm => by
      obtain ⟨ob, fv, h1, _, h3⟩ := fl.there
      rw [hs] at hm
      obtain ⟨_, o2, e2, hn⟩ := fl.2.2.1.mem hm
      obtain rfl : ob = o2 := Option.some.inj (h1.symm.trans e2)
      exact hn fv h3
    obtain ⟨ob3, fv3, a1, a2, a3⟩ := fl3.there
    have V3 := to_suite (a := a) (held_now (z := { z1 with heap := g3 }) J gr (up.trans up3) fl3.1 fl3.2.1 na (nf fl3) a1 a2 a3 os ag)
    refine wpAny_handleBy_cons (codeAny_handlers_test (ld_glob V3 hg hm ?_ hdb)) (fun q => nomatch q)
    have isc : PySem.W.Looks (model X.prog X.w) g3 (typeOf (.ref a)) cls := fun _ _ _ _ k q => wpAny_typeOf_ref (k _ _ a1) (a2.1.symm ▸ q)
    refine (PySem.W.exm_one V3.kIn isc hx).here (codeAny_handlers_suite_as (HandSPX.lands_againZ fl3 fun g4 fl4 up4 => ?_))
    obtain ⟨ob4, fv4, b1, b2, b3⟩ := fl4.there
    have V4 := to_suite (a := a) (held_now (z := { z1 with heap := g4 }) J gr ((up.trans up3).trans up4) fl4.1 fl4.2.1 na (nf fl4) b1 b2 b3 os ag)
    refine store_ok (X := X.suite a (X.pn ++ pins)) V4 hN hi (.inl hln) (v := .ref a) rfl (fun z5 V5 => ?_) (.inr hln)
    refine wpAny_mono ((hsu a (X.pn ++ pins)).run [] z5 _ _ _ V5 (hyes a na)) ?_ (fun _ _ q => q.elim)
    rintro f z6 got
    cases f with
    | next => exact gone_ok (of_suite got.choose_spec.choose_spec.1 I.ok) hN hi hln fun z7 V7 => ⟨_, _, V7, got.choose_spec.choose_spec.2⟩
    | brk => exact gone_ok (of_suite got.choose_spec.choose_spec.1 I.ok) hN hi hln fun z7 V7 => ⟨_, _, V7, got.choose_spec.choose_spec.2⟩
    | cont => exact gone_ok (of_suite got.choose_spec.choose_spec.1 I.ok) hN hi hln fun z7 V7 => ⟨_, _, V7, got.choose_spec.choose_spec.2⟩
    | ret u =>
      obtain ⟨v, σ6, H6, V6, r6, q6⟩ := got
      exact gone_ok (of_suite V6 I.ok) hN hi hln fun z7 V7 => ⟨v, _, _, V7, r6, q6⟩
  · rintro f z1 got
    cases f with
    | next => exact wpAny_execs_nil ⟨_, _, got.choose_spec.choose_spec.1.ofTry I.ok, got.choose_spec.choose_spec.2⟩
    | brk => exact ⟨_, _, got.choose_spec.choose_spec.1.ofTry I.ok, got.choose_spec.choose_spec.2⟩
    | cont => exact ⟨_, _, got.choose_spec.choose_spec.1.ofTry I.ok, got.choose_spec.choose_spec.2⟩
    | ret u =>
      obtain ⟨v, σ6, H6, V6, r6, q6⟩ := got
      exact ⟨v, _, _, V6.ofTry I.ok, r6, q6⟩
end
/-! ### defs that may raise -/
section
variable {P : Program} {w : World} {K : PySem.W.Frag} {mg : Str → Option Value} {base : Heap} {k : Nat} {x : Str} {st : Stmt} {sp : Sp}
/-- where nothing is let out, a def that may raise is one that doesn't -/
theorem calm_of {f : Addr} {fd : FuncData} {ps : List Str} (F : FnOk P w K mg base (L2.CX P w) k f fd ps sp) : FnOk P w K mg base C8.CX0 k f fd ps (fun vs H Q _ => sp vs H Q E0) := by
  refine ⟨fun vs H Q _ h => F.len vs H Q E0 h, fun A outer z H args us vs Q E hr e0 hb r h => codeAny_mono (F.run A outer z H args us vs Q E0 hr e0 hb r h) fun res z' got => ?_⟩
  cases res with
  | ok f => cases f <;> exact got
  | error e =>
    obtain ⟨_, _, _, _, _, _, _, _, _, _, _, _, q⟩ := got
    exact q.elim
/-- a def that may raise, by its name -/
structure CalX (P : Program) (w : World) (K : PySem.W.Frag) (mg : Str → Option Value) (base : Heap) (k : Nat) (x : Str) (sp : Sp) : Prop where
  ex : ∃ (f : Addr) (fd : FuncData) (ps : List Str), FnOk P w K mg base (L2.CX P w) k f fd ps sp ∧ mg x = some (.ref f) ∧ PySem.W.keepIn K (.ref f) = true ∧ Binds K fd ps []
theorem CalX.cal (c : CalX P w K mg base k x sp) : C8.Cal P w K mg base k x (fun vs H Q _ => sp vs H Q E0) [] := by
  obtain ⟨f, fd, ps, F, m, kp, b⟩ := c.ex
  exact ⟨f, fd, ps, [], calm_of F, m, kp, b, .nil⟩
theorem fnX_of {q : Str} {f : Addr} {fd : FuncData} {N ps : List Str} (F : C8.Fun K x q st f fd) (S : FnScope N ps (C8.fnScope st)) (len : ∀ vs H Q E, sp vs H Q E → vs.length = ps.length)
    (body : ∀ (cdv : Value) (A : Around) (outer : List Env) (z : Shared) (H : Hp) (vs : List V) (Q : VK) (E : XK), Room k (A.deeper (envOfC q (C8.fnScope st) z.heap.objs.size f cdv)) → sp vs H Q E →
      ∃ t, PSs (cxOf (L2.CX P w) P w K mg base N q (C8.fnScope st) f cdv A outer z H E) (C8.fnBody st) t ∧ t { nx := fun _ H' => Q .non H', rt := Q } (start N vs) H) : FnOk P w K mg base (L2.CX P w) (k + 1) f fd ps sp := by
  obtain ⟨_, _, _, _, _, _, _, cdv, _, _, rfl, lk, hc⟩ := F.ex
  exact fn_of lk hc S len fun A outer z H vs Q E hr h => body cdv A outer z H vs Q E hr h
theorem calX {N ps : List Str} (D : DefF K mg x st ps) (S : FnScope N ps (C8.fnScope st)) (len : ∀ vs H Q E, sp vs H Q E → vs.length = ps.length)
    (body : ∀ (f : Addr) (cdv : Value) (A : Around) (outer : List Env) (z : Shared) (H : Hp) (vs : List V) (Q : VK) (E : XK), Room k (A.deeper (envOfC x (C8.fnScope st) z.heap.objs.size f cdv)) → sp vs H Q E →
      ∃ t, PSs (cxOf (L2.CX P w) P w K mg base N x (C8.fnScope st) f cdv A outer z H E) (C8.fnBody st) t ∧ t { nx := fun _ H' => Q .non H', rt := Q } (start N vs) H) : CalX P w K mg base (k + 1) x sp := by
  obtain ⟨f, fd, F, b⟩ := D.ex
  exact ⟨f, fd, ps, fnX_of F.fn S len (body f), F.mgf, F.kp, .all b⟩
end
section
variable {X : Cx} {k j : Nat} {x : Str} {sp : Sp} {p pos : Pos} {e : Expr} {es : List Expr} {t : TA} {W : WX}
theorem pe_x (c : CalX X.prog X.w X.K X.mg X.base k x sp) (tk : Takes X W) (hr : Room j X.A) (hk : k ≤ j) (hg : Gl X x) (ha : PA X (e :: es) t)
    (hdb : (x == ("__debug__" : Str)) = false := by decide) (he : starEach (e :: es) X.env = (false, eval e X.env) :: starEach es X.env := by rfl) (hpl : (backTo pos (starEach es X.env)).any (·.1) = false := by rfl) :
    PE X (.Call (.Name x p) (e :: es) [] pos) (tCallS sp (WE W) t) := by
  obtain ⟨f, fd, ps, F, m, kp, b⟩ := c.ex
  exact pe_callS F (hr.mono hk) hg m kp b (fun σ => passAt tk σ) ha hdb he hpl
end
/-! ### an error with one field -/
/-- __init__(self, value=..): self.value = value -/
structure ErrF (K : PySem.W.Frag) (mg : Str → Option Value) (x fl : Str) (C : Addr) : Prop where
  gC : mg x = some (.ref C)
  ox : OexC K C
  xf : XfC K C
  xc : ExcC K C
  no : PySem.W.findIn K (.ref C) fl = some none
  cl : (PySem.W.clsIn K C).isSome = true
  rf : PySem.W.subIn K (.ref C) (.ref C) = some true
  fn : ∃ (st : Stmt) (q : Str) (f : Addr) (fd : FuncData), C8.Fun K "__init__" q st f fd ∧ PySem.W.findIn K (.ref C) "__init__" = some (some (.ref f)) ∧ PySem.W.typeIn K (.ref f) = some (.type "function") ∧ Binds K fd ["self", fl] [] ∧
    FnScope ["self", fl] ["self", fl] (C8.fnScope st) ∧ (C8.fnScope st).names.lookup ("self" : Str) = some .local ∧ (C8.fnScope st).names.lookup fl = some .local ∧ (fl == ("__debug__" : Str)) = false ∧ (fl == ("__classdict__" : Str)) = false ∧
    ∃ q1 q2 q3 q4, C8.fnBody st = [.Assign [.Attribute (.Name "self" q1) fl q2] (.Name fl q3) q4]
def sp_err (C : Addr) (fl : Str) : Sp := fun vs H Q _ => ∃ a v, vs = [.ref a, v] ∧ H a = some (exo a C none) ∧ ∀ dx, H dx = none → dx ≠ a → Q .non (upd (upd H dx (exd dx [(fl, v)])) a (exo a C (some dx)))
section
variable {P : Program} {w : World} {K : PySem.W.Frag} {mg : Str → Option Value} {base : Heap} {x fl : Str} {C : Addr}
theorem ErrF.init (T : ErrF K mg x fl C) : ∃ (f : Addr) (fd : FuncData), FnOk P w K mg base (L2.CX P w) 1 f fd ["self", fl] (sp_err C fl) ∧ PySem.W.findIn K (.ref C) "__init__" = some (some (.ref f)) ∧ PySem.W.typeIn K (.ref f) = some (.type "function") ∧ Binds K fd ["self", fl] [] := by
  obtain ⟨st, qn, f, fd, F, iC, tI, bd, S, l1, l2, n1, n2, q1, q2, q3, q4, eb⟩ := T.fn
  refine ⟨f, fd, fnX_of F S (fun vs H Q E h => ?_) (fun cdv A outer z H vs Q E hr h => ?_), iC, tI, bd⟩
  · obtain ⟨a, v, rfl, _⟩ := h
    rfl
  · obtain ⟨a, v, rfl, ea, q⟩ := h
    have k1 : (envOfC qn (C8.fnScope st) z.heap.objs.size f cdv).kindOf "self" = some .local := l1
    have k2 : (envOfC qn (C8.fnScope st) z.heap.objs.size f cdv).kindOf fl = some .local := l2
    refine ⟨_, by rw [eb]; exact pss_one (ps_ost (pe_var (i := 0) rfl (.inl k1) (by decide) (by decide)) (pe_var (i := 1) rfl (.inl k2) n1 n2)), ?_⟩
    exact ⟨_, rfl, _, rfl, a, C, rfl, T.ox, T.no, .inl ⟨ea, fun dx n ne => q dx n ne⟩⟩
end
section
variable {X : Cx} {x fl : Str} {C : Addr} {j : Nat} {W : WX} {e : Expr} {te : TE} {p pos pos' : Pos}
theorem pe_mono {X : Cx} {e : Expr} {te : TE} (he : PE X e te) : PE X e (fun σ H Q' => ∃ Q : VK, te σ H Q ∧ ∀ v H1, Q v H1 → Q' v H1) :=
  ⟨fun pins z σ H Q' I ⟨Q, h, m⟩ => thn (he.run pins z σ H Q I h) fun u z1 ⟨v, H1, I1, r, q⟩ => ⟨v, H1, I1, r, m v H1 q⟩⟩
/-- raise x(e) -/
theorem ps_raiseE (T : ErrF X.K X.mg x fl C) (hc : X.calm = true) (tk : Takes X W) (hr : Room j X.A) (h2 : 2 ≤ j) (hg : Gl X x) (he : PE X e te) (hdb : (x == ("__debug__" : Str)) = false := by decide)
    (hse : starEach [e] X.env = (false, eval e X.env) :: starEach [] X.env := by rfl) (hpl : (backTo pos (starEach [] X.env)).any (·.1) = false := by rfl) :
    PS X (.Raise (some (.Call (.Name x p) [e] [] pos)) none pos') (fun _ σ H => te σ H fun v H1 => ∀ d, H1 d = none → W (.ref C) (some d) σ (upd H1 d (.xd [(fl, v)]))) := by
  obtain ⟨f, fd, F, iC, tI, bd⟩ := T.init (P := X.prog) (w := X.w) (base := X.base)
  refine ps_raise hc tk (t := fun σ H Q => te σ H fun v H1 => ∀ d, H1 d = none → Q (.ref C) (some d) (upd H1 d (.xd [(fl, v)]))) (fun pins z σ H Q I h => ?_)
  refine pmk_oex (dvs := []) T.ox iC tI F (hr.mono h2) bd .nil passL hg T.gC (pa_cons (hs := hse) (pe_mono he) pa_nil) hdb hse hpl pins z σ H Q I ⟨_, h, fun v H1 q => ⟨(by show 1 ≤ 1000; decide), fun a na => ⟨a, v, rfl, upd_same, fun dx n ne => ?_⟩⟩⟩
  have nd : H1 dx = none := (upd_ne ne).symm.trans n
  refine ⟨rfl, dx, _, upd_same, (upd_ne ne).trans upd_same, nd, ?_⟩
  have e : upd (del (upd (upd (upd H1 a (exo a C none)) dx (exd dx [(fl, v)])) a (exo a C (some dx))) a) dx (.xd [(fl, v)]) = upd H1 dx (.xd [(fl, v)]) := by
    funext b
    by_cases h1 : b = dx
    · rw [h1, upd_same, upd_same]
    · rw [upd_ne h1, upd_ne h1]
      by_cases h2 : b = a
      · rw [h2, del_same, na]
      · rw [del_ne h2, upd_ne h2, upd_ne h1, upd_ne h2]
  rw [e]
  exact q dx nd
end
/-! ### what is caught, looked at -/
section
variable {X : Cx}
inductive TyE (K : PySem.W.Frag) (H : Hp) : V → Value → Prop where
  | dat {x : V} {t : Value} (h : TyX K H x t) : TyE K H x t
  | exc {a C d : Addr} {fs : List (Str × V)} (T : ExcC K C) (cl : (PySem.W.clsIn K C).isSome = true) (ea : H a = some (ExV a (.ref C) (some d))) (ed : H d = some (.xd fs)) : TyE K H (.ref a) (.ref C)
theorem inst_of {P : Program} {w : World} {H : Hp} {g : Heap} {a C d : Addr} {fs : List (Str × V)} (hok : HOk P w H g) (ea : H a = some (ExV a (.ref C) (some d))) (ed : H d = some (.xd fs)) :
    ∃ (ob od : Obj) (mA : Str → Option Value), PySem.W.InstAt g a ob C (some od) ∧ (∀ f, PySem.W.lookIn f od = some (mA f)) ∧ ∀ f, RelO (fs.lookup f) (mA f) := by
  obtain ⟨ob, fv, h1, h2, h3⟩ := exV_at hok ea
  have hx : ObjOk P w H g d (.xd fs) := hok d _ ed
  obtain ⟨mA, hns, hr⟩ := hx
  obtain ⟨od, ho, hl⟩ := lookIn_ns hns
  exact ⟨ob, od, mA, ⟨h1, h2.1, by unfold PySem.W.notCls; rw [h3] <;> rfl, by rw [h2.2]; exact ho⟩, hl, hr⟩
theorem kit_ofE {pins : List (Addr × Obj)} {σ : L2.St} {H : Hp} {z : Shared} {x : V} {u t : Value} (I : Inv X pins σ H z) (rx : RelV x u) (ty : TyE X.K H x t) : ∃ P : Heap → Prop, PySem.W.KitX X.K u t P ∧ P z.heap ∧ u ≠ .builtin "__main__.__loader__#opaque" := by
  cases ty with
  | dat h => exact kit_of I rx h
  | @exc a C d fs T cl ea ed =>
    obtain rfl : u = Value.ref a := rx
    obtain ⟨ob, od, _, J, _⟩ := inst_of I.hok ea ed
    exact ⟨_, PySem.W.kitx_exc cl T.hg T.hk T.hs T.ha T.hn T.ht T.hm, J, fun q => nomatch q⟩
/-- isinstance(x, C), x data or held -/
theorem call_isE : CallR X (.builtin "isinstance") (fun xs H Q => ∃ (x c : V) (t u : Value) (b : Bool), xs = [x, c] ∧ ClsV c u ∧ TyE X.K H x t ∧ PySem.W.kitOne X.K t u = some b ∧ Q (.bl b) H) := by
  intro pins z σ H xs us Q I r h
  obtain ⟨x, c, t, u, b, rfl, k, ty, e, q⟩ := h
  obtain ⟨u1, u2, rfl, r1, r2⟩ := vals2 r
  obtain rfl := k.eq r2
  obtain ⟨_, Z, pz, hx⟩ := kit_ofE I r1 ty
  exact PySem.W.kia_one Z I.kIn pz e hx (fun tk => ⟨.bl b, H, I.tok tk, rfl, q⟩)
/-- .. of a tuple of classes -/
theorem call_isEt : CallR X (.builtin "isinstance") (fun xs H Q => ∃ (x : V) (tp : Addr) (cs : List V) (t : Value) (us : List Value) (b : Bool), xs = [x, .ref tp] ∧ H tp = some (.tup cs) ∧ Paired ClsV cs us ∧ TyE X.K H x t ∧ PySem.W.kitAny X.K t us = some b ∧ Q (.bl b) H) := by
  intro pins z σ H xs us Q I r h
  obtain ⟨x, tp, cs, t, ws, b, rfl, ht, k, ty, e, q⟩ := h
  obtain ⟨u1, u2, rfl, r1, r2⟩ := vals2 r
  obtain rfl : u2 = Value.ref tp := r2
  obtain ⟨_, Z, pz, hx⟩ := kit_ofE I r1 ty
  have hk : ObjOk X.prog X.w H z.heap tp (.tup cs) := I.hok tp _ ht
  obtain ⟨_, its, rv, ⟨oc, od, dt, sl⟩, g1, g2, n, g3⟩ := hk
  obtain rfl := ClsV.all k rv
  dsimp only at g2 g3
  subst g2 g3
  exact PySem.W.kia_tup Z I.kIn pz g1 e hx (fun tk => ⟨.bl b, H, I.tok tk, rfl, q⟩)
/-- e.f of what is held -/
theorem pe_fldE {e : Expr} {te : TE} {n : Str} {pos : Pos} (he : PE X e te) (hb : attributeBase e n X.env (eval e X.env) = eval e X.env := by rfl) :
    PE X (.Attribute e n pos) (fun σ H Q => te σ H fun x H1 => ∃ (a C d : Addr) (fs : List (Str × V)) (v : V), x = .ref a ∧ XfC X.K C ∧ PySem.W.findIn X.K (.ref C) n = some none ∧ H1 a = some (ExV a (.ref C) (some d)) ∧ H1 d = some (.xd fs) ∧ fs.lookup n = some v ∧ Q v H1) := by
  refine ⟨fun pins z σ H Q I h => attr_of hb (thn (he.run pins z σ H _ I h) fun u z1 got => ?_)⟩
  obtain ⟨x, H1, I1, rx, a, C, d, fs, v, rfl, T, hno, ea, ed, l, q⟩ := got
  obtain rfl : u = Value.ref a := rx
  obtain ⟨ob, od, mA, J, hl, hr⟩ := inst_of I1.hok ea ed
  obtain ⟨u', hu, ru⟩ := RelO.some_of (v := v) (o := mA n) (by rw [← l]; exact hr n)
  exact HandSPX.exc_get I1.kIn J T.ga T.gg T.exC (PySem.W.findObj_own T.hdC hno rfl (by rw [hl, hu])) (handed_of ru) ⟨v, H1, I1.tok _, ru, q⟩
theorem kit_err {K : PySem.W.Frag} {mg : Str → Option Value} {x fl : Str} {C D : Addr} {b : Bool} (T : ErrF K mg x fl D) (s : PySem.W.subIn K (.ref C) (.ref D) = some b) : PySem.W.kitOne K (.ref C) (.ref D) = some b := by
  unfold PySem.W.kitOne
  by_cases e : C = D
  · subst e
    rw [if_pos (beq_self_eq_true _)]
    exact T.rf.symm.trans s
  · rw [if_neg (by simpa using e)]
    unfold PySem.W.kitCls
    simp only [T.cl, T.ox.tyC, beq_self_eq_true, Bool.and_self, if_true]
    exact s
end
/-! ### the classes as they stand behind the top -/
structure BaseE (K : PySem.W.Frag) (mg : Str → Option Value) (x : Str) (C : Addr) : Prop where
  gC : mg x = some (.ref C)
  sb : PySem.W.subIn K (.ref C) (.type "BaseException") = some true
  hd : PySem.W.hasDictIn K C = true
  ty : PySem.W.typeIn K (.ref C) = some (.type "type")
section
variable {K : PySem.W.Frag} {h : Heap} {mg : Str → Option Value} {x y fl : Str} {C D : Addr}
theorem baseE_mk (X : K.In h) (G : h.Ns mainGlobals mg) (a : PySem.W.nsIn K mainGlobals x = some (some (.ref C))) (b : PySem.W.subIn K (.ref C) (.type "BaseException") = some true)
    (c : PySem.W.hasDictIn K C = true) (d : PySem.W.typeIn K (.ref C) = some (.type "type")) : BaseE K mg x C := ⟨PySem.W.mg_of X G a, b, c, d⟩
theorem with_base (_ : K.In h) (x : Str) {R : Prop} (d : BaseE K mg x C) (r : BaseE K mg x C → R) : R := r d
theorem exm_err (T : BaseE K mg x D) (s : PySem.W.subIn K (.ref C) (.ref D) = some true) : PySem.W.exmOne K (.ref C) (.ref D) = some true := PySem.W.exm_ref T.sb T.hd T.ty s
theorem sub_is (_ : mg x = some (.ref C)) (_ : mg y = some (.ref D)) (b : Bool) (s : PySem.W.subIn K (.ref C) (.ref D) = some b) : PySem.W.subIn K (.ref C) (.ref D) = some b := s
theorem with_sub {R : Prop} (_ : ErrF K mg x fl C) (_ : mg y = some (.ref D)) (b : Bool) (s : PySem.W.subIn K (.ref C) (.ref D) = some b) (r : PySem.W.subIn K (.ref C) (.ref D) = some b → R) : R := r s
theorem with_err (_ : K.In h) (x fl : Str) (st : Stmt) {R : Prop} (d : ErrF K mg x fl C) (r : ErrF K mg x fl C → R) : R := r d
theorem errF_mk (X : K.In h) (G : h.Ns mainGlobals mg) (qn : Str) (st : Stmt) {f T : Addr} {od an : Option Addr} {oc kV dc pm cd ct u : Value} {sl : Array (Option Value)} {o : Obj} {nn : Nat}
    {nm q : Str} {N : Addr} {bs bm : List Value} {sn : List Str} {sub : List Value} {ab : Bool} {col : Option Bool} {dd : Option Addr} {k0 k1 k2 k3 k5 : Option Value}
    (a : PySem.W.nsIn K mainGlobals x = some (some (.ref C)))
    (lk : K.lookup C = some (excClassObj nm q C N bs bm true sn sub ab col dd k0 k1 k2 k3 k5 "ValueError.__new__")) (hbm : PySem.HandSPX.refsVE bm = true)
    (sa : PySem.W.findIn K (.ref C) "__setattr__" = some (some (.builtin "object.__setattr__"))) (eC : PySem.W.subIn K (.ref C) (.type "BaseException") = some true)
    (tC : PySem.W.typeIn K (.ref C) = some (.type "type")) (kp : PySem.W.keepIn K (.ref C) = true)
    (ga : PySem.W.findIn K (.ref C) "__getattribute__" = some (some (.builtin "BaseException.__getattribute__"))) (gg : PySem.W.findIn K (.ref C) "__getattr__" = some none) (hd : PySem.W.hasDictIn K C = true)
    (hc : PySem.W.findIn K (.ref C) "__class__" = some (some (.builtin "object.__class__"))) (hn : PySem.W.specialIn K (.builtin "object.__class__") "__get__" = some (some (.builtin "getset_descriptor.__get__")))
    (ht : PySem.W.takesIn K (.builtin "object.__class__") = some true) (hm : PySem.W.mroIn K C (.type "object") = some true) (no : PySem.W.findIn K (.ref C) fl = some none)
    (rf : PySem.W.subIn K (.ref C) (.ref C) = some true) (ii : PySem.W.findIn K (.ref C) "__init__" = some (some (.ref f))) (it : PySem.W.typeIn K (.ref f) = some (.type "function"))
    (il : K.lookup f = some ⟨oc, od, .func (PySem.W.fnOf "__init__" qn (C8.fnArgs st) (C8.fnBody st) (C8.fnScope st) (.ref T) kV dc pm an cd ct), sl⟩) (ic : PySem.W.codeIn K cd qn = true) (ik : PySem.W.keepIn K (.ref f) = true)
    (dl : K.lookup T = some o) (dm : o.data = .seq #[u] nn) (dr : RelV .non u)
    (bd : ∀ (T : Addr) (kV doc pm : Value) (an : Option Addr) (cdv ct : Value) (us its : List Value), us.length = 2 → its.length = 1 →
      ∃ k, bindArgs (PySem.W.fnOf "__init__" qn (C8.fnArgs st) (C8.fnBody st) (C8.fnScope st) (.ref T) kV doc pm an cdv ct) ⟨us, []⟩ = seqItems? (.ref T) >>= k ∧ k (some its.toArray) = pure ([("self" : Str), fl].zip (us ++ its.drop 1)))
    (sc : FnScope ["self", fl] ["self", fl] (C8.fnScope st)) (l1 : (C8.fnScope st).names.lookup ("self" : Str) = some .local) (l2 : (C8.fnScope st).names.lookup fl = some .local) (n1 : (fl == ("__debug__" : Str)) = false) (n2 : (fl == ("__classdict__" : Str)) = false)
    (by_ : ∃ q1 q2 q3 q4, C8.fnBody st = [.Assign [.Attribute (.Name "self" q1) fl q2] (.Name fl q3) q4]) : ErrF K mg x fl C := by
  have F : FunD K "__init__" qn (C8.fnArgs st) (C8.fnBody st) (C8.fnScope st) [.non] [] f (PySem.W.fnOf "__init__" qn (C8.fnArgs st) (C8.fnBody st) (C8.fnScope st) (.ref T) kV dc pm an cd ct) :=
    ⟨⟨oc, od, .ref T, kV, dc, pm, an, cd, ct, sl, rfl, il, ic, dfl_one dl dm dr, kwd_nil⟩, ik⟩
  obtain ⟨ds, rd, hb⟩ := F.binds1 (ps := ["self", fl]) 2 1 (by simp) rfl bd
  cases rd
  have cl : (PySem.W.clsIn K C).isSome = true := by
    unfold PySem.W.clsIn
    rw [lk] <;> rfl
  exact ⟨PySem.W.mg_of X G a, ⟨⟨nm, q, N, bs, bm, sn, sub, ab, col, dd, k0, k1, k2, k3, k5, lk, hbm⟩, sa, eC, tC, kp⟩, ⟨ga, gg, eC, hd⟩, ⟨ga, gg, eC, hd, hc, hn, ht, hm⟩, no, cl, rf,
    st, qn, f, _, fun_of F, ii, it, hb, sc, l1, l2, n1, n2, by_⟩
end
end CK

set_option Elab.async false
set_option linter.all false
set_option maxRecDepth 100000
set_option maxHeartbeats 2000000
/-! sum of a tuple of numbers -/
namespace CK
open PySem PySem.Spec PyProof.Rows L2 SX
section
variable {prog : Program} {w : World} {A : Around} {E : Value → Shared → Prop} {s : Shared} {l : Addr} {xs : Array (Int × Tok)}
theorem sum_tupG {Q : Value → Shared → Prop} (hh : A.handled = none) (hl : s.heap.IsTuple l (intItems xs))
    (h : ∀ h' tk t', (∀ b o, s.heap.get? b = some o → h'.get? b = some o) → Q (.int (preSum (numAt xs) xs.size) t') { s with heap := h', toks := tk }) :
    wpAny (model prog w) A (call (.builtin "sum") [.ref l]) Q E s := by
  have hlt : l < s.heap.objs.size := by obtain ⟨_, e, _⟩ := hl; exact Heap.lt_size e
  refine call_sum_walkG (wpAny_pyIter_tuple hl ?_)
  refine ⟨_, _, _, _, _, _, numAt xs, rfl, Walks.tuple (A := A.in1) hh _ l (Nat.ne_of_lt hlt) (intItems xs), ⟨⟨_, Heap.get?_push_size _ rfl, rfl, rfl⟩, hl.push _⟩, fun b hb => ?_, (fun _ _ => intItems_at), fun h' tk t' hk => ?_⟩
  · show b < (s.heap.push _).objs.size
    rw [Heap.size_push]
    rcases List.mem_cons.mp hb with rfl | hb
    · exact Nat.lt_succ_self _
    · rcases List.mem_cons.mp hb with rfl | hb
      · exact Nat.lt_succ_of_lt hlt
      · cases hb
  · have := h h' tk t' fun b o e => by
      refine hk b o (fun hm => ?_) (Heap.get?_push_of_some _ e)
      have := List.mem_singleton.mp hm
      have hb := Heap.lt_size e
      rw [this] at hb
      exact absurd hb (Nat.lt_irrefl _)
    simpa [intItems] using this
end
section
variable {X : Cx}
theorem cr_sumT (hc : X.calm = true) : CallR X (.builtin "sum") (fun vs H Q => ∃ (a : Addr) (ns : List Int), vs = [V.ref a] ∧ H a = some (.tup (ns.map V.int)) ∧ Q (.int ns.sum) H) := by
  intro pins s σ H vs us Q I r h
  obtain ⟨a, ns, rfl, ha, q⟩ := h
  obtain ⟨its, rv, hl, _⟩ := I.tuple (.inl (.inl ha))
  rw [Vals.ref1 r]
  have hi := rv.ints
  obtain ⟨xs, e⟩ := hi.allInts.items
  have hn : numsOf (intItems xs).toList = ns := by rw [← e]; exact hi.numsOf
  rw [nums_intItems] at hn
  have hl' : s.heap.IsTuple a (intItems xs) := by rw [← e]; exact hl
  refine sum_tupG (I.ok.hd hc) hl' fun h' tk t' hk => ?_
  have es : preSum (numAt xs) xs.size = ns.sum := by rw [preSum_eq, List.take_of_length_le (by simp), hn]
  rw [es]
  exact ⟨.int _, H, I.kept (t' := tk) hk, ⟨_, rfl⟩, q⟩
end
end CK

set_option Elab.async false
set_option linter.all false
set_option maxRecDepth 100000
set_option maxHeartbeats 2000000
/-! a tuple of one item, k times, k of at least -1 -/
namespace CK
open PySem PySem.Spec PyProof.Rows L2 SX
theorem mulM1 (l : Addr) (v : Value) (n : Nat) (dd : Option Addr) (sl : Array (Option Value)) (u : Tok) :
    Meets (Builtin.«tuple.__mul__» ⟨[.ref l, .int (-1) u], []⟩) (fun _ R s =>
      s.heap.get? l = some { cls := .type "tuple", dict := dd, data := .seq #[v] n, slots := sl } ∧
      R (.ok (.ret (Value.ref s.heap.objs.size))) { s with heap := s.heap.push { cls := Value.type "tuple", data := Data.seq #[] } }) := by
  refine Meets.of_wp fun prog w A R s h => ?_
  obtain ⟨hq, g, d, tk, o2⟩ := s
  obtain ⟨hl, h⟩ := h
  have f1 := AutoSeq1.idx_int
  wp_walk using wpAny_loadPart' hl
  exact ⟨_, rfl, h⟩
section
variable {X : Cx}
theorem op_repOneZ : OpR X (binaryOp .Mult) (fun x y H Q => ∃ (l : Addr) (k : Int) (v : V), x = .ref l ∧ y = .int k ∧ H l = some (.tup [v]) ∧ -1 ≤ k ∧ k ≤ 1000 ∧
    ∀ p H', Same H H' → H' p = some (.tup (List.replicate k.toNat v)) → Q (.ref p) H') := by
  intro pins s σ H x y xv yv Q I rx ry h
  obtain ⟨l, k, v, rfl, rfl, hl, h0, h1, q⟩ := h
  by_cases hk : k = -1
  · subst hk
    cases rx
    obtain ⟨t, rfl⟩ := ry
    obtain ⟨zs, r, ⟨⟨cl, dd, da, sl⟩, ho, hc, n, hd⟩, hs⟩ := I.tuple (.inl (.inl hl) : SqT X.K H l [v])
    simp only at hc hd
    subst hc hd
    cases r with
    | cons r1 r2 =>
    cases r2
    rename_i u
    refine wpAny_binaryOp_repeat_ref (T := "tuple") (U := "int") (by decide) ⟨_, ho, rfl⟩ (fun s' => typeIs_int s' (-1) t) mulFill F.fills_int_mul F.slot_int_rmul mulSeq F.slot_int_index.lookup
      (call_meets F.slot_int_rmul (typeIs_int s (-1) t) F.entry_int_rmul (F.args_int_rmul_2 _ _) (rmulNo (-1) t l _ n dd sl)
        ⟨ho, rfl, ⟨_, ho, rfl⟩, call_meets F.slot_tuple_mul ⟨_, ho, rfl⟩ F.entry_tuple_mul (F.args_tuple_mul_2 _ _) (mulM1 l _ n dd sl t) ⟨ho, ?_⟩⟩)
    have hn : H s.heap.objs.size = none := I.hok.fresh (Nat.le_refl _)
    refine ⟨.ref s.heap.objs.size, _, I.laid (t' := s.toks) (o := .tup []) (fun b ob q => Heap.get?_push_of_some _ q) (Nat.le_refl _) ?_, rfl, q _ _ (sameNew hn) upd_same⟩
    exact ⟨Nat.zero_le _, [], .nil, IsTup.new _ _⟩
  · exact op_repOne pins s σ H _ _ xv yv Q I rx ry ⟨l, k, v, rfl, rfl, hl, by omega, h1, q⟩
end
end CK

set_option Elab.async false
set_option linter.all false
set_option maxRecDepth 100000
set_option maxHeartbeats 2000000
/-! == of two objects of an own class, by its __eq__, which may say yes or no -/
namespace CK
open PySem PySem.Spec PyProof.Rows L2 SX
section
variable {X : Cx} {k j : Nat} {C : Addr} {sp : Sp}
def rEqO (C : Addr) (sp : Sp) : R2 := fun x y H Q => ∃ a b dx fs dy gs, x = .ref a ∧ y = .ref b ∧ H a = some (.ins C dx fs) ∧ H b = some (.ins C dy gs) ∧ sp [.ref a, .ref b] H (fun v H' => (∃ r, v = .bl r) ∧ Q v H') C8.E0
theorem op_eqO (c : C8.Met X.prog X.w X.K X.mg X.base k C "__eq__" sp []) (hr : Room j X.A) (hk : k ≤ j) : OpR X (compareOp .Eq) (rEqO C sp) := by
  intro pins s σ H x y v u Q I rx ry h
  obtain ⟨a, b, dx, fs, dy, gs, rfl, rfl, ha, hb', hsp⟩ := h
  obtain ⟨f, fd, ps, ds, hc, hm, F, bnd, d⟩ := c.ex
  cases d
  cases rx
  cases ry
  obtain ⟨mA, J, _⟩ := ins_get I.hok ha
  obtain ⟨mB, J', _⟩ := ins_get I.hok hb'
  obtain ⟨od, J, _⟩ := J.look
  obtain ⟨od', J', _⟩ := J'.look
  obtain ⟨m, hF⟩ := I.fr
  have hr' := hr.mono hk
  show wpAny (model X.prog X.w) X.A (richCompare .Eq (.ref a) (.ref b)) (EP X pins σ Q) X.xe s
  refine PySem.W.cmp_K (op := .Eq) (tb := .ref C) hr.units0 hF I.ok.mod.kin J J'.type (by simp [PySem.W.notFirst]) hm.at_ hm.fn ?_
  have hl := F.len _ _ _ _ hsp
  have r2 : Vals [V.ref a, V.ref b] [Value.ref a, Value.ref b] := .cons rfl (.cons rfl .nil)
  refine wpAny_call (codeAny_mono (F.run X.A X.stack s H ⟨[.ref a, .ref b], []⟩ [.ref a, .ref b] [.ref a, .ref b] _ C8.E0 hr' I.env0 (by
    have := bnd s [.ref a, .ref b] I.kIn (by simpa using hl)
    simpa using this) r2 hsp) fun r s' hq => ?_)
  cases r with
  | error e => exact C8.pass0 (E := C8.E0) pins σ H s e s' I hq
  | ok fl =>
    cases fl with
    | ret w =>
      obtain ⟨z, H', I', rz, ⟨r, ez⟩, q⟩ := I.after hq
      subst ez
      cases rz
      exact ⟨.bl r, H', I', rfl, q⟩
    | next => exact False.elim hq
    | brk => exact False.elim hq
    | cont => exact False.elim hq
end
end CK

set_option Elab.async false
set_option linter.all false
set_option maxRecDepth 100000
set_option maxHeartbeats 2000000
/-! == of an object of an own class and a list, by the object's __eq__ -/
namespace CK
open PySem PySem.Spec PyProof.Rows L2 SX
section
variable {X : Cx} {k j : Nat} {C : Addr} {sp : Sp}
def rEqOL (C : Addr) (sp : Sp) : R2 := fun x y H Q => ∃ a b dx fs xs, x = .ref a ∧ y = .ref b ∧ H a = some (.ins C dx fs) ∧ H b = some (.lst xs) ∧ sp [.ref a, .ref b] H (fun v H' => (∃ r, v = .bl r) ∧ Q v H') C8.E0
theorem notFirst_list (K : PySem.W.Frag) (C : Addr) : PySem.W.notFirst K C (.type "list") = true := by
  have : PySem.W.subIn K (.type "list") (.ref C) = some false := by rfl
  unfold PySem.W.notFirst
  rw [this]
  simp
theorem op_eqOL (c : C8.Met X.prog X.w X.K X.mg X.base k C "__eq__" sp []) (hr : Room j X.A) (hk : k ≤ j) : OpR X (compareOp .Eq) (rEqOL C sp) := by
  intro pins s σ H x y v u Q I rx ry h
  obtain ⟨a, b, dx, fs, xs, rfl, rfl, ha, hb', hsp⟩ := h
  obtain ⟨f, fd, ps, ds, hc, hm, F, bnd, d⟩ := c.ex
  cases d
  cases rx
  cases ry
  obtain ⟨mA, J, _⟩ := ins_get I.hok ha
  obtain ⟨od, J, _⟩ := J.look
  obtain ⟨its, rv, hT, _⟩ := I.list (.inl (.inl hb'))
  obtain ⟨m, hF⟩ := I.fr
  have hr' := hr.mono hk
  obtain ⟨ob, nb, eb, cb, _, _⟩ := hT
  have hty : PySem.W.Looks (model X.prog X.w) s.heap (typeOf (.ref b)) (.type "list") := (PySem.W.Looks.ld eb).andThen (by rw [cb]; exact .now)
  show wpAny (model X.prog X.w) X.A (richCompare .Eq (.ref a) (.ref b)) (EP X pins σ Q) X.xe s
  refine PySem.W.cmp_K (op := .Eq) (tb := .type "list") hr.units0 hF I.ok.mod.kin J hty (notFirst_list _ _) hm.at_ hm.fn ?_
  have hl := F.len _ _ _ _ hsp
  have r2 : Vals [V.ref a, V.ref b] [Value.ref a, Value.ref b] := .cons rfl (.cons rfl .nil)
  refine wpAny_call (codeAny_mono (F.run X.A X.stack s H ⟨[.ref a, .ref b], []⟩ [.ref a, .ref b] [.ref a, .ref b] _ C8.E0 hr' I.env0 (by
    have := bnd s [.ref a, .ref b] I.kIn (by simpa using hl)
    simpa using this) r2 hsp) fun r s' hq => ?_)
  cases r with
  | error e => exact C8.pass0 (E := C8.E0) pins σ H s e s' I hq
  | ok fl =>
    cases fl with
    | ret w =>
      obtain ⟨z, H', I', rz, ⟨r, ez⟩, q⟩ := I.after hq
      subst ez
      cases rz
      exact ⟨.bl r, H', I', rfl, q⟩
    | next => exact False.elim hq
    | brk => exact False.elim hq
    | cont => exact False.elim hq
/-- the class object is of the type type -/
def TyC (K : PySem.W.Frag) (C : Addr) : Prop := ∃ od cd sl, K.lookup C = some ⟨.type "type", od, .cls cd, sl⟩
theorem tyc_mk {K : PySem.W.Frag} {mg : Str → Option Value} {x : Str} {C : Addr} (_ : ClF K mg x C) {oc : Value} {od : Option Addr} {cd : ClassData} {sl : Array (Option Value)} (l : K.lookup C = some ⟨oc, od, .cls cd, sl⟩) (e : oc = .type "type") : TyC K C := by
  subst e
  exact ⟨_, _, _, l⟩
theorem with_tyc {K : PySem.W.Frag} {mg : Str → Option Value} {x : Str} {C : Addr} (_ : ClF K mg x C) {R : Prop} (d : TyC K C) (r : TyC K C → R) : R := r d
theorem kit_listC {K : PySem.W.Frag} {C : Addr} (t : TyC K C) : PySem.W.kitOne K (.type "list") (.ref C) = some false := by
  obtain ⟨od, cd, sl, l⟩ := t
  have s : PySem.W.subIn K (.type "list") (.ref C) = some false := by rfl
  have h1 : PySem.W.clsIn K C = some cd := by unfold PySem.W.clsIn; rw [l]
  have h2 : PySem.W.typeIn K (.ref C) = some (.type "type") := by
    show (K.lookup C).map _ = _
    rw [l]
    rfl
  have h3 : PySem.W.kitCls K (.type "list") (.ref C) = some false := by
    unfold PySem.W.kitCls
    dsimp only
    rw [h1, h2, s]
    rfl
  unfold PySem.W.kitOne
  rw [h3]
  rfl
/-- isinstance of an object of an own class, or of a list -/
theorem call_isCL (c : C8.InsC X.K C) (t : TyC X.K C) : CallR X (.builtin "isinstance") (fun xs H Q => (∃ a dx fs, xs = [.ref a, .ref C] ∧ H a = some (.ins C dx fs) ∧ Q (.bl true) H) ∨ ∃ a ys, xs = [.ref a, .ref C] ∧ H a = some (.lst ys) ∧ Q (.bl false) H) := by
  intro pins s σ H xs us Q I r h
  rcases h with h | ⟨a, ys, rfl, ha, q⟩
  · exact C8.call_isC c pins s σ H xs us Q I r h
  · exact call_isi pins s σ H _ us Q I r ⟨.ref a, .ref C, .type "list", .ref C, false, rfl, .own C, .base (.lst ha), kit_listC t, q⟩
end
end CK

set_option Elab.async false
set_option linter.all false
set_option maxRecDepth 100000
/-! (instance, number) == (instance, number): tuples whose instances are equal by their own == -/
namespace CK
open PySem PySem.Spec PyProof.Rows L2
section
variable {X : Cx} {k j : Nat} {C : Addr} {sp : Sp} {R : Addr → Addr → Hp → Prop}
/-- two of the class that R tells equal, or two equal flat values -/
abbrev DPart (C : Addr) (R : Addr → Addr → Hp → Prop) : Eqv := fun x y H => DIns C R x y H ∨ DFlat x y H
theorem op_eqTO (c : C8.Met X.prog X.w X.K X.mg X.base k C "__eq__" sp []) (hR : ∀ a b H H', Ext H H' → R a b H → R a b H') (hs : ∀ vs H Q E, spEq R vs H Q E → sp vs H Q E) (hr : Room j X.A) (hk : k + 1 ≤ j) : OpR X (compareOp .Eq) (rEqG (DTup X.K (DPart C R))) := by
  obtain ⟨f, fd, ps, ds, hc, hm, F, bnd, d⟩ := c.ex
  cases d
  have e1 : EqG X k (DIns C R) := eqG_ins (F.imp hs) hm.at_ hm.fn bnd (C8.pass0 (E := C8.E0))
  exact op_eqG (rcG_tup (Mon.or (mon_ins hR) mon_flat) (e1.or (eqG_flat.mono (Nat.zero_le _)))) (hr.mono hk)
end
end CK

set_option Elab.async false
set_option linter.all false
set_option maxRecDepth 100000
/-! lists of instances: == by their own ==; != of two lists of the same objects -/
namespace CK
open PySem PySem.Spec PyProof.Rows L2
section
variable {X : Cx} {k j : Nat} {C : Addr} {sp : Sp} {R : Addr → Addr → Hp → Prop}
theorem op_eqLO (c : C8.Met X.prog X.w X.K X.mg X.base k C "__eq__" sp []) (hR : ∀ a b H H', Ext H H' → R a b H → R a b H') (hs : ∀ vs H Q E, spEq R vs H Q E → sp vs H Q E) (hr : Room j X.A) (hk : k + 1 ≤ j) : OpR X (compareOp .Eq) (rEqG (DList (DIns C R))) := by
  obtain ⟨f, fd, ps, ds, hc, hm, F, bnd, d⟩ := c.ex
  cases d
  have e1 : EqG X k (DIns C R) := eqG_ins (F.imp hs) hm.at_ hm.fn bnd (C8.pass0 (E := C8.E0))
  exact op_eqG (rcG_list (mon_ins hR) e1) (hr.mono hk)
theorem refs_its : ∀ {as : List Addr} {us : List Value}, Vals (as.map V.ref) us → us = as.map Value.ref
  | [], _, r => by cases r; rfl
  | a :: as, _, r => by
    cases r with
    | cons h t =>
      rw [refs_its t]
      have h : _ = Value.ref a := h
      rw [h]
      rfl
theorem op_neRefs (hu : X.A.units < cLine) : OpR X (compareOp .NotEq) (fun x y H Q => ∃ (a b : Addr) (as : List Addr), x = .ref a ∧ y = .ref b ∧ H a = some (.lst (as.map V.ref)) ∧ H b = some (.lst (as.map V.ref)) ∧ Q (.bl false) H) := by
  intro pins s σ H x y v u Q I rx ry h
  obtain ⟨a, b, as, rfl, rfl, ha, hb, q⟩ := h
  cases rx
  cases ry
  obtain ⟨its, r1, l1, _⟩ := I.list (.inl (.inl ha))
  obtain ⟨its2, r2, l2, _⟩ := I.list (.inl (.inl hb))
  rw [refs_its r1] at l1
  rw [refs_its r2] at l2
  show wpAny (model X.prog X.w) X.A (richCompare .NotEq (.ref a) (.ref b)) (EP X pins σ Q) X.xe s
  refine SeqAt.RcNeAt.lists (e := fun _ => true) l1.isList l2.isList rfl hu (fun j h1 h2 => SeqAt.EqAt.same _) X.prog X.w _ _ ?_
  have e : (!(List.range (as.map Value.ref).toArray.size).all fun _ => true) = false := by simp
  rw [e]
  exact ⟨.bl false, H, I, rfl, q⟩
/-- xs == [], whatever the items are -/
theorem op_eqNil (hu : X.A.units < cLine) : OpR X (compareOp .Eq) (fun x y H Q => ∃ (a b : Addr) (xs : List V), x = .ref a ∧ y = .ref b ∧ H a = some (.lst xs) ∧ H b = some (.lst []) ∧ Q (.bl (decide (xs = []))) H) := by
  intro pins s σ H x y v u Q I rx ry h
  obtain ⟨a, b, xs, rfl, rfl, ha, hb, q⟩ := h
  cases rx
  cases ry
  obtain ⟨its, r1, l1, _⟩ := I.list (.inl (.inl ha))
  obtain ⟨its2, r2, l2, _⟩ := I.list (.inl (.inl hb))
  have n2 : its2 = [] := List.length_eq_zero_iff.mp (by rw [← r2.length]; rfl)
  subst n2
  show wpAny (model X.prog X.w) X.A (richCompare .Eq (.ref a) (.ref b)) (EP X pins σ Q) X.xe s
  cases xs with
  | nil =>
    have n1 : its = [] := List.length_eq_zero_iff.mp (by rw [← r1.length]; rfl)
    subst n1
    refine SeqAt.RcAt.lists (e := fun _ => true) l1.isList l2.isList rfl hu (fun j h1 h2 => absurd h1 (by simp)) X.prog X.w _ _ ?_
    exact ⟨.bl true, H, I, rfl, q⟩
  | cons x xs =>
    have n1 : its.length = xs.length + 1 := by rw [← r1.length]; rfl
    refine SeqAt.RcAt.lists_lengths l1.isList l2.isList (by simp [n1]) hu X.prog X.w _ _ ?_
    exact ⟨.bl false, H, I, rfl, q⟩
end
end CK

set_option linter.all false
namespace CK
open PySem PySem.Spec PyProof.Rows L2
/-- != of data within a comprehension -/
theorem op_neDK {X : Cx} {K : PySem.W.Frag} (hK : X.K = K) (hu : X.A.units + 64 < cLine) : OpR X (compareOp .NotEq) (rNeD K) := by
  subst hK
  exact op_neD hu
end CK

set_option Elab.async false
set_option linter.all false
set_option maxRecDepth 100000
set_option maxHeartbeats 2000000
/-! values of any kind, by their data -/
namespace CK
open PySem PySem.Spec PyProof.Rows L2
section
variable {K : PySem.W.Frag} {H H' : Hp}
theorem sqL_same {a : Addr} {xs : List V} (s : Same H H') : SqL K H a xs → SqL K H' a xs
  | .inl (.inl e) => .inl (.inl (s _ _ e))
  | .inl (.inr ⟨o, e⟩) => .inl (.inr ⟨o, s _ _ e⟩)
  | .inr h => .inr h
theorem sqT_same {a : Addr} {xs : List V} (s : Same H H') : SqT K H a xs → SqT K H' a xs
  | .inl (.inl e) => .inl (.inl (s _ _ e))
  | .inl (.inr ⟨o, e⟩) => .inl (.inr ⟨o, s _ _ e⟩)
  | .inr h => .inr h
mutual
theorem dp_same (s : Same H H') : ∀ (d : PyData) (v : V), Dp K H v d → Dp K H' v d
  | .none, _, h => by cases h; exact .non
  | .bool b, _, h => by cases h; exact .bl b
  | .int i, _, h => by cases h; exact .int i
  | .str x, _, h => by cases h; exact .str x
  | .list ds, _, h => by cases h with | lst a b => exact .lst (sqL_same s a) (dpAll_same s ds _ b)
  | .tuple ds, _, h => by cases h with | tup a b => exact .tup (sqT_same s a) (dpAll_same s ds _ b)
  | .dict es, _, h => by cases h
theorem dpAll_same (s : Same H H') : ∀ (ds : List PyData) (vs : List V), DpAll K H vs ds → DpAll K H' vs ds
  | [], _, h => by cases h; exact .nil
  | d :: ds, _, h => by cases h with | cons a b => exact .cons (dp_same s d _ a) (dpAll_same s ds _ b)
end
theorem dpAll_len : ∀ {vs : List V} {ds : List PyData}, DpAll K H vs ds → vs.length = ds.length
  | _, _, .nil => rfl
  | _, _, .cons _ t => congrArg (· + 1) (dpAll_len t)
theorem dpAll_get : ∀ {vs : List V} {ds : List PyData} {i : Nat} {v : V}, DpAll K H vs ds → vs[i]? = some v → ∃ d, ds[i]? = some d ∧ Dp K H v d
  | _, _, 0, _, .cons a _, e => ⟨_, rfl, by cases e; exact a⟩
  | _, _, i + 1, _, .cons _ t, e => dpAll_get (i := i) t (by simpa using e)
end
/-- the built-in type of a value -/
def kindD : PyData → String
  | .none => "NoneType"
  | .bool _ => "bool"
  | .int _ => "int"
  | .str _ => "str"
  | .list _ => "list"
  | .tuple _ => "tuple"
  | .dict _ => "dict"
theorem tyX_dp {K : PySem.W.Frag} {H : Hp} {v : V} {d : PyData} (h : Dp K H v d) : TyX K H v (.type (kindD d)) := by
  cases h with
  | non => exact .base .non
  | bl b => exact .base (.bl b)
  | int i => exact .base (.int i)
  | str x => exact .base (.str x)
  | lst a _ =>
    rcases a with (e | ⟨o, e⟩) | ⟨o, its, n, e, c, _⟩
    · exact .base (.lst e)
    · exact .base (.frz e)
    · exact .kList e c
  | tup a _ =>
    rcases a with (e | ⟨o, e⟩) | ⟨o, its, n, e, c, _⟩
    · exact .base (.tup e)
    · exact .fTuple e
    · exact .kTuple e c
section
variable {X : Cx}
/-- isinstance of data -/
theorem call_isD : CallR X (.builtin "isinstance") (fun xs H Q => ∃ (v : V) (d : PyData) (T : String) (b : Bool), xs = [v, .ty T] ∧ Dp X.K H v d ∧ kitB (kindD d) T = some b ∧ Q (.bl b) H) := by
  intro pins s σ H xs us Q I r h
  obtain ⟨v, d, T, b, rfl, k, e, q⟩ := h
  exact call_isi pins s σ H _ us Q I r ⟨v, .ty T, _, _, b, rfl, .ty T, tyX_dp k, kit_ty e, q⟩
end
def isInt : PyData → Bool
  | .int _ => true
  | _ => false
def isBool : PyData → Bool
  | .bool _ => true
  | _ => false
def isLd : PyData → Bool
  | .list _ => true
  | _ => false
def isTd : PyData → Bool
  | .tuple _ => true
  | _ => false
def isSd : PyData → Bool
  | .str _ => true
  | _ => false
theorem kitd_int : ∀ d : PyData, kitB (kindD d) "int" = some (isInt d || isBool d)
  | .none => (by decide +kernel : kitB "NoneType" "int" = some false)
  | .bool _ => (by decide +kernel : kitB "bool" "int" = some true)
  | .int _ => (by decide +kernel : kitB "int" "int" = some true)
  | .str _ => (by decide +kernel : kitB "str" "int" = some false)
  | .list _ => (by decide +kernel : kitB "list" "int" = some false)
  | .tuple _ => (by decide +kernel : kitB "tuple" "int" = some false)
  | .dict _ => (by decide +kernel : kitB "dict" "int" = some false)
theorem kitd_bool : ∀ d : PyData, kitB (kindD d) "bool" = some (isBool d)
  | .none => (by decide +kernel : kitB "NoneType" "bool" = some false)
  | .bool _ => (by decide +kernel : kitB "bool" "bool" = some true)
  | .int _ => (by decide +kernel : kitB "int" "bool" = some false)
  | .str _ => (by decide +kernel : kitB "str" "bool" = some false)
  | .list _ => (by decide +kernel : kitB "list" "bool" = some false)
  | .tuple _ => (by decide +kernel : kitB "tuple" "bool" = some false)
  | .dict _ => (by decide +kernel : kitB "dict" "bool" = some false)
theorem kitd_list : ∀ d : PyData, kitB (kindD d) "list" = some (isLd d)
  | .none => (by decide +kernel : kitB "NoneType" "list" = some false)
  | .bool _ => (by decide +kernel : kitB "bool" "list" = some false)
  | .int _ => (by decide +kernel : kitB "int" "list" = some false)
  | .str _ => (by decide +kernel : kitB "str" "list" = some false)
  | .list _ => (by decide +kernel : kitB "list" "list" = some true)
  | .tuple _ => (by decide +kernel : kitB "tuple" "list" = some false)
  | .dict _ => (by decide +kernel : kitB "dict" "list" = some false)
theorem kitd_tuple : ∀ d : PyData, kitB (kindD d) "tuple" = some (isTd d)
  | .none => (by decide +kernel : kitB "NoneType" "tuple" = some false)
  | .bool _ => (by decide +kernel : kitB "bool" "tuple" = some false)
  | .int _ => (by decide +kernel : kitB "int" "tuple" = some false)
  | .str _ => (by decide +kernel : kitB "str" "tuple" = some false)
  | .list _ => (by decide +kernel : kitB "list" "tuple" = some false)
  | .tuple _ => (by decide +kernel : kitB "tuple" "tuple" = some true)
  | .dict _ => (by decide +kernel : kitB "dict" "tuple" = some false)
theorem kitd_str : ∀ d : PyData, kitB (kindD d) "str" = some (isSd d)
  | .none => (by decide +kernel : kitB "NoneType" "str" = some false)
  | .bool _ => (by decide +kernel : kitB "bool" "str" = some false)
  | .int _ => (by decide +kernel : kitB "int" "str" = some false)
  | .str _ => (by decide +kernel : kitB "str" "str" = some true)
  | .list _ => (by decide +kernel : kitB "list" "str" = some false)
  | .tuple _ => (by decide +kernel : kitB "tuple" "str" = some false)
  | .dict _ => (by decide +kernel : kitB "dict" "str" = some false)
theorem isInt_of {d : PyData} (h : isInt d = true) : ∃ i, d = .int i := by
  cases d with
  | int i => exact ⟨i, rfl⟩
  | _ => exact absurd h Bool.false_ne_true
/-- a comprehension that maps the items of a list -/
theorem lcS_map {K : PySem.W.Frag} {a : Addr} {xs : List V} {j : Nat} {te : TE} {vs : List Nat} {σ : L2.St} {H1 : Hp} {D : Addr} {Qd : Hp → Prop} (f : Nat → V) (ha : SqL K H1 a xs) (hn : xs.length < sizeLine)
    (hs : ∀ (i : Nat) (x : V) (H : Hp) (R : VK), xs[i]? = some x → Same H1 H → (∀ H', Same H H' → R (f i) H') → wipe ((wipe σ vs).set j (some x)) vs = wipe σ vs ∧ te ((wipe σ vs).set j (some x)) H R)
    (hD : H1 D = none) (hd : ∀ H : Hp, Same H1 H → H D = some (.lst ((List.range xs.length).map f)) → Qd H) :
    ∃ W : Nat → Nat → Hp → Prop, (∃ m, W 0 m (upd H1 D (.lst []))) ∧ ∀ i m H, W i m H →
      ((Itl K a).stop i H ∧ Qd H) ∨ ((Itl K a).go i H ∧ ∃ Nx : Hp → Prop, (∀ H', Nx H' → ∃ m', m' < m ∧ W (i + 1) m' H') ∧ ∀ x H', (Itl K a).yld i H x H' → gName j x (wipe σ vs) H' fun σ2 H2 => wipe σ2 vs = wipe σ vs ∧ tYes σ2 H2 fun b H3 =>
        if b = true then te σ2 H3 fun y H4 => ∃ acc, H4 D = some (.lst acc) ∧ acc.length < sizeLine ∧ Nx (upd H4 D (.lst (acc ++ [y]))) else Nx H3) := by
  refine lc_mapW (walk_list (K := K) (a := a) (xs := xs)) f hn (fun H s => sqL_same s ha) (fun i x H H' R hi s y q => ?_) hD hd
  obtain ⟨rfl, hx⟩ := y
  exact hs i x H' R hx s q
/-! what repr asks of data -/
mutual
def okD : PyData → Bool
  | .none | .bool _ => true
  | .int i => decide (i.natAbs < 2 ^ 1900)
  | .str x => x.cps.toList.all fun c => decide (c < 16 ^ 8)
  | .list xs | .tuple xs => okDs xs
  | .dict _ => false
def okDs : List PyData → Bool
  | [] => true
  | x :: xs => okD x && okDs xs
end
mutual
def bndD : PyData → Nat
  | .none | .bool _ => 8
  | .int _ => 1923
  | .str x => 10 * x.length + 2
  | .list xs | .tuple xs => bndDs xs + 3
  | .dict _ => 0
def bndDs : List PyData → Nat
  | [] => 0
  | x :: xs => bndD x + 2 + bndDs xs
end
theorem shownAll_len : ∀ xs : List PyData, (PyData.shownAll xs).length = xs.length
  | [] => by simp [PyData.shownAll]
  | x :: xs => by rw [PyData.shownAll, List.length_cons, List.length_cons, shownAll_len xs]
mutual
theorem fine0 : ∀ d : PyData, okD d = true → d.showable = true ∧ d.hasDict = false ∧ d.shown.length ≤ bndD d
  | .none, _ => by decide +kernel
  | .bool true, _ => by decide +kernel
  | .bool false, _ => by decide +kernel
  | .int i, h => by
    have hl := log_lt (of_decide_eq_true h)
    have a1 := int_text_length_le (a := i) (k := 1920) (by omega) hl
    have a3 : ((toString i : Str)).length = (toString i).length := PySem.ofString_length _
    have e : PyData.shown (.int i) = (toString i : Str) := by simp only [PyData.shown]
    refine ⟨by simp [PyData.showable, hl], by simp [PyData.hasDict], ?_⟩
    rw [e, bndD]
    omega
  | .str x, h => by
    refine ⟨by simp [PyData.showable], by simp [PyData.hasDict], ?_⟩
    rw [PyData.shown, bndD]
    refine StrLaws.reprText_len _ fun c hc => ?_
    have := List.all_eq_true.mp h c (by simpa using hc)
    simpa using this
  | .list xs, h => by
    obtain ⟨a1, a2, a3⟩ := fine1 xs h
    refine ⟨by rw [PyData.showable, a1], by rw [PyData.hasDict, a2], ?_⟩
    rw [PyData.shown, bndD]
    have := listText_len_le (PyData.shownAll xs)
    rw [shownAll_len] at this
    omega
  | .tuple xs, h => by
    obtain ⟨a1, a2, a3⟩ := fine1 xs h
    refine ⟨by rw [PyData.showable, a1], by rw [PyData.hasDict, a2], ?_⟩
    rw [PyData.shown, bndD]
    have := tupleText_len_le (PyData.shownAll xs)
    rw [shownAll_len] at this
    omega
  | .dict kvs, h => absurd h Bool.false_ne_true
theorem fine1 : ∀ xs : List PyData, okDs xs = true → PyData.showableAll xs = true ∧ PyData.hasDictAll xs = false ∧ ((PyData.shownAll xs).map (·.length)).sum + 2 * xs.length ≤ bndDs xs
  | [], _ => by decide +kernel
  | x :: xs, h => by
    have h' : (okD x && okDs xs) = true := h
    obtain ⟨h1, h2⟩ := Bool.and_eq_true_iff.mp h'
    obtain ⟨a1, a2, a3⟩ := fine0 x h1
    obtain ⟨b1, b2, b3⟩ := fine1 xs h2
    refine ⟨by rw [PyData.showableAll, a1, b1]; rfl, by rw [PyData.hasDictAll, a2, b2]; rfl, ?_⟩
    rw [PyData.shownAll, List.map_cons, List.sum_cons, List.length_cons, bndDs]
    omega
end
/-- data that repr takes -/
def Fine (d : PyData) : Prop := d.showable = true ∧ d.hasDict = false ∧ d.depth ≤ 60 ∧ d.shown.length ≤ sizeLine
theorem fine_of {d : PyData} (h : okD d = true) (hd : d.depth ≤ 60) (hb : bndD d ≤ 16000000) : Fine d := by
  obtain ⟨a, b, c⟩ := fine0 d h
  exact ⟨a, b, hd, by rw [sizeLine_eq]; omega⟩
section
variable {X : Cx} {j : Nat}
/-- repr of fine data -/
theorem call_reprF (hr : Room j X.A) (gd : X.A.guards = some []) : CallR X (.builtin "repr") (fun xs H Q => ∃ (v : V) (d : PyData), xs = [v] ∧ Dp X.K H v d ∧ Fine d ∧ Q (.str d.shown) H) := by
  intro pins s σ H xs us Q I r h
  obtain ⟨v, d, rfl, dp, ⟨a, b, c, e⟩, q⟩ := h
  exact call_repr hr gd pins s σ H _ us Q I r ⟨v, d, rfl, dp, a, b, c, e, q⟩
end
end CK

set_option Elab.async false
set_option linter.all false
set_option maxRecDepth 100000
set_option maxHeartbeats 2000000
/-! what is shown of data has only characters that are -/
namespace CK
open PySem PySem.Spec PyProof.Rows L2
theorem ok_append {a b : Str} (h1 : PyData.strOk a = true) (h2 : PyData.strOk b = true) : PyData.strOk (a ++ b) = true := by
  unfold PyData.strOk at *
  have e : (a ++ b).cps = a.cps ++ b.cps := rfl
  rw [e, Array.all_append, h1, h2]
  rfl
theorem ok_of (s : String) : PyData.strOk (Str.ofString s) = true := by
  unfold PyData.strOk
  rw [PySem.Str.ofString_eq_toList]
  rw [List.all_toArray, List.all_map, List.all_eq_true]
  intro c _
  show decide (c.toNat < 0x110000) = true
  have := c.valid
  refine decide_eq_true ?_
  have h : c.val.toNat.isValidChar := this
  show c.val.toNat < _
  rcases h with h | h
  · omega
  · exact h.2
theorem ok_from : ∀ (ts : List Str) (k : Nat) (a : Str), PyData.strOk a = true → (∀ t ∈ ts, PyData.strOk t = true) → PyData.strOk (textFrom k a ts) = true
  | [], k, a, h, _ => h
  | t :: r, k, a, h, hs => by
    refine ok_from r (k + 1) _ (ok_append (ok_append h ?_) (hs t List.mem_cons_self)) fun x hx => hs x (List.mem_cons_of_mem _ hx)
    split <;> exact ok_of _
theorem ok_listText {ts : List Str} (h : ∀ t ∈ ts, PyData.strOk t = true) : PyData.strOk (listText ts) = true := ok_append (ok_from ts 0 _ (ok_of _) h) (ok_of _)
theorem ok_join {s : Str} (hs : PyData.strOk s = true) : ∀ ts : List Str, (∀ t ∈ ts, PyData.strOk t = true) → PyData.strOk (Str.join s ts) = true
  | [], _ => by
    show PyData.strOk Str.empty = true
    decide +kernel
  | [x], h => h x List.mem_cons_self
  | x :: y :: r, h => by
    show PyData.strOk (x ++ s ++ Str.join s (y :: r)) = true
    exact ok_append (ok_append (h x List.mem_cons_self) hs) (ok_join hs (y :: r) fun t ht => h t (List.mem_cons_of_mem _ ht))
theorem ok_tupleText {ts : List Str} (h : ∀ t ∈ ts, PyData.strOk t = true) : PyData.strOk (tupleText ts) = true := by
  unfold tupleText
  refine ok_append (ok_append (ok_of _) (ok_join (ok_of _) ts h)) ?_
  split <;> exact ok_of _
mutual
/-- no text, no dict within -/
def bareD : PyData → Bool
  | .none => true
  | .bool _ => true
  | .int _ => true
  | .str _ => false
  | .list xs => bareDs xs
  | .tuple xs => bareDs xs
  | .dict _ => false
def bareDs : List PyData → Bool
  | [] => true
  | x :: xs => bareD x && bareDs xs
end
mutual
theorem ok_shown : ∀ d : PyData, bareD d = true → PyData.strOk d.shown = true
  | .none, _ => by
    have e : PyData.shown .none = Str.ofString "None" := by simp only [PyData.shown]
    rw [e]; exact ok_of _
  | .bool b, _ => by
    have e : PyData.shown (.bool b) = (if b = true then Str.ofString "True" else Str.ofString "False") := by simp only [PyData.shown]
    rw [e]
    split <;> exact ok_of _
  | .int i, _ => by
    have e : PyData.shown (.int i) = (toString i : Str) := by simp only [PyData.shown]
    rw [e]; exact ok_of _
  | .str _, h => by simp [bareD] at h
  | .list xs, h => by
    rw [PyData.shown]
    rw [bareD] at h
    exact ok_listText (ok_shownAll xs h)
  | .tuple xs, h => by
    rw [PyData.shown]
    rw [bareD] at h
    exact ok_tupleText (ok_shownAll xs h)
  | .dict _, h => by simp [bareD] at h
theorem ok_shownAll : ∀ xs : List PyData, bareDs xs = true → ∀ t ∈ PyData.shownAll xs, PyData.strOk t = true
  | [], _ => fun t h => by rw [PyData.shownAll] at h; exact nomatch h
  | x :: xs, h => fun t ht => by
    rw [bareDs, Bool.and_eq_true] at h
    rw [PyData.shownAll] at ht
    rcases List.mem_cons.mp ht with rfl | ht
    · exact ok_shown x h.1
    · exact ok_shownAll xs h.2 t ht
end
theorem shaped_texts {a b : Str} (h1 : PyData.strOk a = true) (h2 : PyData.strOk b = true) : SeqAt.shaped (.list [.str a, .str b]) = true := by
  simp [SeqAt.shaped, PyData.depth, PyData.depthAll, PyData.canLay0, PyData.canLayAll0, h1, h2]
end CK

set_option Elab.async false
set_option linter.all false
set_option maxRecDepth 100000
set_option maxHeartbeats 2000000
/-! data that is written down: small, shown within bounds, by a test -/
namespace CK
open PySem PySem.Spec PyProof.Rows L2
def finB (d : PyData) : Bool := okD d && (decide (d.depth ≤ 60) && (decide (bndD d ≤ 16000000) && PyData.strOk d.shown))
theorem finB_ok {d : PyData} (h : finB d = true) : Fine d := by
  obtain ⟨a, h⟩ := Bool.and_eq_true_iff.mp h
  obtain ⟨b, h⟩ := Bool.and_eq_true_iff.mp h
  obtain ⟨c, _⟩ := Bool.and_eq_true_iff.mp h
  exact fine_of a (of_decide_eq_true b) (of_decide_eq_true c)
theorem finB_str {d : PyData} (h : finB d = true) : PyData.strOk d.shown = true := by
  obtain ⟨a, h⟩ := Bool.and_eq_true_iff.mp h
  obtain ⟨b, h⟩ := Bool.and_eq_true_iff.mp h
  exact (Bool.and_eq_true_iff.mp h).2
theorem dpAll_app {K : PySem.W.Frag} {H : Hp} {us : List V} {es : List PyData} : ∀ {vs : List V} {ds : List PyData}, DpAll K H vs ds → DpAll K H us es → DpAll K H (vs ++ us) (ds ++ es)
  | _, _, .nil, h => h
  | _, _, .cons a t, h => .cons a (dpAll_app t h)
theorem not_true {b : Bool} (h : (!b) = true) : b = false := by simpa using h
end CK

set_option Elab.async false
set_option linter.all false
set_option maxRecDepth 100000
set_option maxHeartbeats 4000000
namespace K49
open PySem PySem.Spec PyProof.Rows L2 CK
def topS (i : Nat) : Stmt := PySem.Challenge.pw_countscribe_k49_least_wheels.main.body.getD i (.Pass ⟨0, 0, 0, 0⟩)
theorem sc_is_whole : FnScope ["value"] ["value"] (C8.fnScope (topS 6)) := C8.fnScope_by (by decide +kernel)
theorem sc_is_count : FnScope ["value"] ["value"] (C8.fnScope (topS 7)) := C8.fnScope_by (by decide +kernel)
theorem sc_is_lettered : FnScope ["value", "most"] ["value", "most"] (C8.fnScope (topS 8)) := C8.fnScope_by (by decide +kernel)
theorem sc_is_letter : FnScope ["value"] ["value"] (C8.fnScope (topS 9)) := C8.fnScope_by (by decide +kernel)
theorem sc_need_count : FnScope ["value"] ["value"] (C8.fnScope (topS 10)) := C8.fnScope_by (by decide +kernel)
theorem sc_border_sizes : FnScope ["word", "sizes", "size", "at"] ["word"] (C8.fnScope (topS 12)) := C8.fnScope_by (by decide +kernel)
theorem sc_root_size : FnScope ["word", "step"] ["word"] (C8.fnScope (topS 13)) := C8.fnScope_by (by decide +kernel)
theorem sc_is_wheel_list : FnScope ["value", "item"] ["value"] (C8.fnScope (topS 15)) := C8.fnScope_by (by decide +kernel)
theorem sc_turn_root : FnScope ["turn", "item"] ["turn"] (C8.fnScope (topS 16)) := C8.fnScope_by (by decide +kernel)
theorem sc_items_going_back : FnScope ["first", "turn", "many"] ["first", "turn"] (C8.fnScope (topS 17)) := C8.fnScope_by (by decide +kernel)
theorem sc_is_wheel : FnScope ["value", "first", "turn"] ["value"] (C8.fnScope (topS 18)) := C8.fnScope_by (by decide +kernel)
theorem sc_least_wheel : FnScope ["first", "turn", "size", "back", "at"] ["first", "turn"] (C8.fnScope (topS 19)) := C8.fnScope_by (by decide +kernel)
theorem sc_wheel_value : FnScope ["wheel", "number", "first", "turn"] ["wheel", "number"] (C8.fnScope (topS 20)) := C8.fnScope_by (by decide +kernel)
theorem sc_law_hash : FnScope ["_law_seed", "_law_index", "_law_mixed"] ["_law_seed", "_law_index"] (C8.fnScope (topS 22)) := C8.fnScope_by (by decide +kernel)
theorem sc_law_generator : FnScope ["_law_script", "_law_index", "_law_seed"] ["_law_script", "_law_index"] (C8.fnScope (topS 23)) := C8.fnScope_by (by decide +kernel)
theorem sc_law_random : FnScope ["_law_generator_here", "_law_bound", "_law_drawn", "_law_turn"] ["_law_generator_here", "_law_bound"] (C8.fnScope (topS 24)) := C8.fnScope_by (by decide +kernel)
theorem sc_law_sign : FnScope ["_law_generator_here"] ["_law_generator_here"] (C8.fnScope (topS 25)) := C8.fnScope_by (by decide +kernel)
theorem sc_law_raw_wheel : FnScope ["_law_generator_here", "_law_part", "_law_turn", "_law_many", "_law_first", "_law_spot", "_law_behind"] ["_law_generator_here"] (C8.fnScope (topS 26)) := C8.fnScope_by (by decide +kernel)
theorem sc_law_value : FnScope ["_law_wheel", "_law_number"] ["_law_wheel", "_law_number"] (C8.fnScope (topS 27)) := C8.fnScope_by (by decide +kernel)
theorem sc_law_signs : FnScope ["_law_value_here", "_law_item"] ["_law_value_here"] (C8.fnScope (topS 28)) := C8.fnScope_by (by decide +kernel)
theorem sc_law_is_least : FnScope ["_law_wheel", "_law_turn", "_law_many"] ["_law_wheel"] (C8.fnScope (topS 29)) := C8.fnScope_by (by decide +kernel)
theorem sc_law_good : FnScope ["_law_generator_here", "_law_raw", "_law_given", "_law_found", "_law_number", "_law_again", "_law_kept"] ["_law_generator_here", "_law_raw"] (C8.fnScope (topS 30)) := C8.fnScope_by (by decide +kernel)
theorem sc_law_caught : FnScope ["_law_which", "_law_given", "_law_error", "e"] ["_law_which", "_law_given"] (C8.fnScope (topS 31)) := C8.fnScope_by (by decide +kernel)
theorem sc_law_refused : FnScope ["_law_bad"] [] (C8.fnScope (topS 32)) := C8.fnScope_by (by decide +kernel)
theorem sc_law : FnScope ["_law_script", "_law_index", "_law_generator_here", "_law_told"] ["_law_script"] (C8.fnScope (topS 33)) := C8.fnScope_by (by decide +kernel)
structure Txt (K : PySem.W.Frag) (mg : Str → Option Value) (E_InvalidNumber E_InvalidList E_InvalidWheel E_CountError : Addr) : Prop where
  x_InvalidNumber : ErrF K mg "InvalidNumber" "value" E_InvalidNumber
  x_InvalidList : ErrF K mg "InvalidList" "value" E_InvalidList
  x_InvalidWheel : ErrF K mg "InvalidWheel" "value" E_InvalidWheel
  x_CountError : BaseE K mg "CountError" E_CountError
  s_InvalidNumber_InvalidNumber : PySem.W.subIn K (.ref E_InvalidNumber) (.ref E_InvalidNumber) = some true
  s_InvalidNumber_InvalidList : PySem.W.subIn K (.ref E_InvalidNumber) (.ref E_InvalidList) = some false
  s_InvalidNumber_InvalidWheel : PySem.W.subIn K (.ref E_InvalidNumber) (.ref E_InvalidWheel) = some false
  s_InvalidNumber_CountError : PySem.W.subIn K (.ref E_InvalidNumber) (.ref E_CountError) = some true
  s_InvalidList_InvalidNumber : PySem.W.subIn K (.ref E_InvalidList) (.ref E_InvalidNumber) = some false
  s_InvalidList_InvalidList : PySem.W.subIn K (.ref E_InvalidList) (.ref E_InvalidList) = some true
  s_InvalidList_InvalidWheel : PySem.W.subIn K (.ref E_InvalidList) (.ref E_InvalidWheel) = some false
  s_InvalidList_CountError : PySem.W.subIn K (.ref E_InvalidList) (.ref E_CountError) = some true
  s_InvalidWheel_InvalidNumber : PySem.W.subIn K (.ref E_InvalidWheel) (.ref E_InvalidNumber) = some false
  s_InvalidWheel_InvalidList : PySem.W.subIn K (.ref E_InvalidWheel) (.ref E_InvalidList) = some false
  s_InvalidWheel_InvalidWheel : PySem.W.subIn K (.ref E_InvalidWheel) (.ref E_InvalidWheel) = some true
  s_InvalidWheel_CountError : PySem.W.subIn K (.ref E_InvalidWheel) (.ref E_CountError) = some true
  d_is_whole : DefF K mg "is_whole" (topS 6) ["value"]
  d_is_count : DefF K mg "is_count" (topS 7) ["value"]
  d_is_lettered : DefF K mg "is_lettered" (topS 8) ["value", "most"]
  d_is_letter : DefF K mg "is_letter" (topS 9) ["value"]
  d_need_count : DefF K mg "need_count" (topS 10) ["value"]
  d_border_sizes : DefF K mg "border_sizes" (topS 12) ["word"]
  d_root_size : DefF K mg "root_size" (topS 13) ["word"]
  d_is_wheel_list : DefF K mg "is_wheel_list" (topS 15) ["value"]
  d_turn_root : DefF K mg "turn_root" (topS 16) ["turn"]
  d_items_going_back : DefF K mg "items_going_back" (topS 17) ["first", "turn"]
  d_is_wheel : DefD K mg "is_wheel" (topS 18) [] []
  d_least_wheel : DefD K mg "least_wheel" (topS 19) [] []
  d_wheel_value : DefD K mg "wheel_value" (topS 20) [] []
  d_law_hash : DefF K mg "_law_hash" (topS 22) ["_law_seed", "_law_index"]
  d_law_generator : DefF K mg "_law_generator" (topS 23) ["_law_script", "_law_index"]
  d_law_random : DefF K mg "_law_random" (topS 24) ["_law_generator_here", "_law_bound"]
  d_law_sign : DefF K mg "_law_sign" (topS 25) ["_law_generator_here"]
  d_law_raw_wheel : DefF K mg "_law_raw_wheel" (topS 26) ["_law_generator_here"]
  d_law_value : DefF K mg "_law_value" (topS 27) ["_law_wheel", "_law_number"]
  d_law_signs : DefF K mg "_law_signs" (topS 28) ["_law_value_here"]
  d_law_is_least : DefF K mg "_law_is_least" (topS 29) ["_law_wheel"]
  d_law_good : DefF K mg "_law_good" (topS 30) ["_law_generator_here", "_law_raw"]
  d_law_caught : DefF K mg "_law_caught" (topS 31) ["_law_which", "_law_given"]
  d_law_refused : DefF K mg "_law_refused" (topS 32) []
  d_law : DefF K mg "law" (topS 33) ["_law_script"]
  m_all : mg "all" = none
  m_bool : mg "bool" = none
  m_int : mg "int" = none
  m_isinstance : mg "isinstance" = none
  m_len : mg "len" = none
  m_list : mg "list" = none
  m_max : mg "max" = none
  m_range : mg "range" = none
  m_repr : mg "repr" = none
  m_str : mg "str" = none
  m_sum : mg "sum" = none
  m_tuple : mg "tuple" = none
end K49

set_option Elab.async false
set_option linter.all false
set_option maxRecDepth 100000
set_option maxHeartbeats 4000000
namespace K49
open PySem PySem.Spec PyProof.Rows L2 CK
def isVal : PyData → Bool
  | .int _ => true
  | .none => true
  | _ => false
def isRL : PyData → Bool
  | .list ds => ds.all isVal
  | _ => false
def isSl (s d : PyData) : Bool := match d with
  | .int z => match s with
    | .none => decide (z = 0)
    | _ => true
  | _ => false
section
variable {P : Program} {w : World} {K : PySem.W.Frag} {mg : Str → Option Value} {base : Heap} {E_InvalidNumber E_InvalidList E_InvalidWheel E_CountError : Addr}
def sp_whole (K : PySem.W.Frag) : Sp := fun vs H Q _ => ∃ v d, vs = [v] ∧ Dp K H v d ∧ Q (.bl (isInt d)) H
theorem c_is_whole (T : Txt K mg E_InvalidNumber E_InvalidList E_InvalidWheel E_CountError) : C8.Cal P w K mg base 1 "is_whole" (sp_whole K) [] := by
  refine calF T.d_is_whole sc_is_whole (fun vs H Q E h => ?_) (fun f cdv A outer s H vs Q E hr h => ?_)
  · obtain ⟨_, _, rfl, _⟩ := h; rfl
  · obtain ⟨v, d, rfl, dv, q⟩ := h
    refine ⟨_, (pss_one (ps_ret (pe_and (pe_callB call_isD (by rfl) T.m_isinstance (by decide +kernel) (pa_cons (pv 0) (pa_cons (pe_bltn (v := .ty "int") (by rfl) T.m_int (by decide +kernel) rfl) pa_nil))) (pe_one (pe_not (pe_callB call_isD (by rfl) T.m_isinstance (by decide +kernel) (pa_cons (pv 0) (pa_cons (pe_bltn (v := .ty "bool") (by rfl) T.m_bool (by decide +kernel) rfl) pa_nil)))))))), ?_⟩
    refine ⟨_, rfl, v, d, _, _, rfl, dv, kitd_int d, _, rfl, ?_⟩
    by_cases e : (isInt d || isBool d) = true
    · rw [if_pos e]
      refine ⟨_, rfl, v, d, _, _, rfl, dv, kitd_bool d, _, rfl, ?_⟩
      cases d <;> first | exact q | exact absurd e Bool.false_ne_true
    · rw [if_neg e]
      cases d <;> first | exact q | exact absurd rfl e
def isCnt : PyData → Bool
  | .int i => decide (0 ≤ i)
  | _ => false
def sp_count (K : PySem.W.Frag) : Sp := fun vs H Q _ => ∃ v d, vs = [v] ∧ Dp K H v d ∧ Q (.bl (isCnt d)) H
theorem c_is_count (T : Txt K mg E_InvalidNumber E_InvalidList E_InvalidWheel E_CountError) : C8.Cal P w K mg base 2 "is_count" (sp_count K) [] := by
  refine calF T.d_is_count sc_is_count (fun vs H Q E h => ?_) (fun f cdv A outer s H vs Q E hr h => ?_)
  · obtain ⟨_, _, rfl, _⟩ := h; rfl
  · obtain ⟨v, d, rfl, dv, q⟩ := h
    refine ⟨_, (pss_one (ps_ret (pe_and (C8.pe_c (c_is_whole T) hr (by decide) (by rfl) (pa_cons (pv 0) pa_nil)) (pe_one (pe_cmpR op_ge (pv 0) pe_int (nomark _)))))), ?_⟩
    refine ⟨_, rfl, v, d, rfl, dv, _, rfl, ?_⟩
    by_cases e : isInt d = true
    · obtain ⟨i, rfl⟩ := isInt_of e
      cases dv
      exact ⟨_, rfl, i, 0, rfl, rfl, q⟩
    · rw [if_neg e]
      cases d <;> first | exact q | exact absurd rfl e
def ov : Option Int → V
  | none => .non
  | some i => .int i
def before (s : Option Int) (m : Int) : Option Int := s.map (· - m)
theorem ov_inj {a b : Option Int} (h : ov a = ov b) : a = b := by
  cases a <;> cases b <;> simp_all [ov]
theorem ov_dec (a b : Option Int) : decide (ov a = ov b) = decide (a = b) := by
  by_cases h : a = b
  · rw [h, decide_eq_true rfl, decide_eq_true rfl]
  · rw [decide_eq_false h, decide_eq_false (fun z => h (ov_inj z))]
end
end K49

set_option Elab.async false
set_option linter.all false
set_option maxRecDepth 100000
set_option maxHeartbeats 4000000
namespace K49
open PySem PySem.Spec PyProof.Rows L2 CK
def isLt1 (s : Str) : Bool := decide (s.length ≤ 1) && (decide (s = "") || (Txt.isascii s && (Txt.isalpha s && Txt.islower s)))
def isLtd : PyData → Bool
  | .str s => isLt1 s
  | _ => false
def isLet : PyData → Bool
  | .str s => isLt1 s && !decide (s = "")
  | _ => false
def isItem : PyData → Bool
  | .none => true
  | d => isLet d
def isWL : PyData → Bool
  | .list ds => ds.all isItem
  | _ => false
/-- texts within are short -/
def SmS (d : PyData) : Prop := ∀ s, d = .str s → s.length ≤ 1000
def SmL (d : PyData) : Prop := ∀ ds, d = .list ds → ds.length ≤ 1000 ∧ ∀ e ∈ ds, SmS e
theorem str_dec (a b : Str) : decide (V.str a = V.str b) = decide (a = b) := by
  by_cases h : a = b
  · rw [h, decide_eq_true rfl, decide_eq_true rfl]
  · rw [decide_eq_false h, decide_eq_false (fun z => h (V.str.inj z))]
section
variable {P : Program} {w : World} {K : PySem.W.Frag} {mg : Str → Option Value} {base : Heap} {E_InvalidNumber E_InvalidList E_InvalidWheel E_CountError : Addr}
def sp_lettered (K : PySem.W.Frag) : Sp := fun vs H Q _ => ∃ v d, vs = [v, .int 1] ∧ Dp K H v d ∧ SmS d ∧ Q (.bl (isLtd d)) H
theorem c_is_lettered (T : Txt K mg E_InvalidNumber E_InvalidList E_InvalidWheel E_CountError) : C8.Cal P w K mg base 1 "is_lettered" (sp_lettered K) [] := by
  refine calF T.d_is_lettered sc_is_lettered (fun vs H Q E h => ?_) (fun f cdv A outer s H vs Q E hr h => ?_)
  · obtain ⟨_, _, rfl, _⟩ := h; rfl
  · obtain ⟨v, d, rfl, dv, hl, q⟩ := h
    refine ⟨_, (pss_cons (ps_if (PW.pt (pw_or (pt_not (pt_val (pe_callB call_isD (by rfl) T.m_isinstance (by decide +kernel) (pa_cons (pv 0) (pa_cons (pe_bltn (v := .ty "str") (by rfl) T.m_str (by decide +kernel) rfl) pa_nil))))) (pw_or1 (pt_cmpR op_gt (pe_callB call_len_str (by rfl) T.m_len (by decide +kernel) (pa_cons (pv 0) pa_nil)) (pv 1) (nomark _)))))
    (pss_one (ps_ret pe_bl))
    pss_nil)
    (pss_one (ps_ret (pe_or (pe_cmpR op_eq (pv 0) pe_str (nomark _)) (pe_one (pe_and (pe_m0 PySem.F.slot_str_isascii PySem.F.type_str_isascii mt_isascii (pv 0)) (pe_and (pe_m0 PySem.F.slot_str_isalpha PySem.F.type_str_isalpha mt_isalpha (pv 0)) (pe_one (pe_m0 PySem.F.slot_str_islower PySem.F.type_str_islower mt_islower (pv 0)))))))))), ?_⟩
    refine ⟨_, rfl, v, d, _, _, rfl, dv, kitd_str d, _, rfl, ?_⟩
    cases dv with
    | str s =>
      refine iteF ?_
      refine ⟨_, rfl, s, rfl, by have := hl s rfl; rw [sizeLine_eq]; omega, _, rfl, _, 1, rfl, rfl, _, rfl, ?_⟩
      by_cases h1 : s.length ≤ 1
      · rw [decide_eq_false (by omega)]
        refine iteF ⟨_, rfl, rfl, _, rfl, ?_⟩
        have e0 : isLtd (.str s) = (decide (s = "") || (Txt.isascii s && (Txt.isalpha s && Txt.islower s))) := by
          show (decide (s.length ≤ 1) && _) = _
          rw [decide_eq_true h1, Bool.true_and]
        rw [e0] at q
        rw [str_dec]
        by_cases h2 : s = Str.ofString ""
        · rw [decide_eq_true h2] at q ⊢
          exact iteT q
        · rw [decide_eq_false h2] at q ⊢
          refine iteF ⟨_, rfl, ⟨_, rfl⟩, _, rfl, rfl, trivial, _, rfl, ?_⟩
          by_cases h3 : Txt.isascii s = true
          · rw [h3] at q ⊢
            refine iteT ⟨_, rfl, ⟨_, rfl⟩, _, rfl, rfl, trivial, _, rfl, ?_⟩
            by_cases h4 : Txt.isalpha s = true
            · rw [h4] at q ⊢
              exact iteT ⟨_, rfl, ⟨_, rfl⟩, _, rfl, rfl, trivial, q⟩
            · rw [Bool.eq_false_iff.mpr h4] at q ⊢
              exact iteF q
          · rw [Bool.eq_false_iff.mpr h3] at q ⊢
            exact iteF q
      · rw [decide_eq_true (by omega)]
        have e0 : isLtd (.str s) = false := by
          show (decide (s.length ≤ 1) && _) = _
          rw [decide_eq_false h1, Bool.false_and]
        rw [e0] at q
        exact iteT q
    | _ => exact iteT (iteT q)
def sp_letter (K : PySem.W.Frag) : Sp := fun vs H Q _ => ∃ v d, vs = [v] ∧ Dp K H v d ∧ SmS d ∧ Q (.bl (isLet d)) H
theorem c_is_letter (T : Txt K mg E_InvalidNumber E_InvalidList E_InvalidWheel E_CountError) : C8.Cal P w K mg base 2 "is_letter" (sp_letter K) [] := by
  refine calF T.d_is_letter sc_is_letter (fun vs H Q E h => ?_) (fun f cdv A outer s H vs Q E hr h => ?_)
  · obtain ⟨_, _, rfl, _⟩ := h; rfl
  · obtain ⟨v, d, rfl, dv, hl, q⟩ := h
    refine ⟨_, (pss_one (ps_ret (pe_and (C8.pe_c (c_is_lettered T) hr (by decide) (by rfl) (pa_cons (pv 0) (pa_cons pe_int pa_nil))) (pe_one (pe_cmpR op_ne (pv 0) pe_str (nomark _)))))), ?_⟩
    refine ⟨_, rfl, v, d, rfl, dv, hl, _, rfl, ?_⟩
    cases dv with
    | str s =>
      by_cases h1 : isLt1 s = true
      · rw [show isLtd (.str s) = true from h1]
        refine iteT ⟨_, rfl, rfl, ?_⟩
        show Q (V.bl (!decide (V.str s = V.str (Str.ofString "")))) H
        rw [str_dec]
        have e0 : isLet (.str s) = !decide (s = "") := by show (isLt1 s && _) = _; rw [h1, Bool.true_and]
        rw [e0] at q
        exact q
      · rw [show isLtd (.str s) = false from Bool.eq_false_iff.mpr h1]
        have e0 : isLet (.str s) = false := by show (isLt1 s && _) = _; rw [Bool.eq_false_iff.mpr h1, Bool.false_and]
        rw [e0] at q
        exact iteF q
    | _ => exact iteF q
def sp_wheel_list (K : PySem.W.Frag) : Sp := fun vs H Q _ => ∃ v d, vs = [v] ∧ Dp K H v d ∧ SmL d ∧ ∀ H', Same H H' → Q (.bl (isWL d)) H'
theorem c_is_wheel_list (T : Txt K mg E_InvalidNumber E_InvalidList E_InvalidWheel E_CountError) : C8.Cal P w K mg base 3 "is_wheel_list" (sp_wheel_list K) [] := by
  refine calF T.d_is_wheel_list sc_is_wheel_list (fun vs H Q E h => ?_) (fun f cdv A outer s H vs Q E hr h => ?_)
  · obtain ⟨_, _, rfl, _⟩ := h; rfl
  · obtain ⟨v, d, rfl, dv, hn, q⟩ := h
    refine ⟨_, (pss_one (ps_ret (pe_and (pe_callB call_isD (by rfl) T.m_isinstance (by decide +kernel) (pa_cons (pv 0) (pa_cons (pe_bltn (v := .ty "list") (by rfl) T.m_list (by decide +kernel) rfl) pa_nil))) (pe_one (pe_callB (cr_all rfl) (by rfl) T.m_all (by decide +kernel) (pa_cons (pe_lc (own := [("item", 1)]) (by rfl) sc_is_wheel_list.nd (pi_list (pv 0)) (blkOk_by (N := ["value", "item"]) (sc := C8.fnScope (topS 15)) (own := [("item", 1)]) (by decide +kernel)) (fun _ _ _ _ _ => (pg_name (i := 1) sc_is_wheel_list.nd rfl (Or.inl rfl))) (fun _ _ _ _ _ => pts_nil) (fun _ _ _ _ _ => (pe_or (pe_cmpR op_isN (pv 1) pe_non (nomark _)) (pe_one (C8.pe_c (c_is_letter T) hr (by decide) (by rfl) (pa_cons (pv 1) pa_nil)))))) pa_nil)))))), ?_⟩
    refine ⟨_, rfl, v, d, _, _, rfl, dv, kitd_list d, _, rfl, ?_⟩
    cases dv with
    | lst sq da =>
      rename_i a xs ds
      have hl := dpAll_len da
      obtain ⟨h1, h2⟩ := hn ds rfl
      refine iteT ⟨_, rfl, a, rfl, ⟨xs, sq⟩, fun D hD => lcS_map (fun i => V.bl (isItem (ds.getD i .none))) sq (by rw [sizeLine_eq]; omega) (fun i x H1 R hx s1 k => ⟨rfl, ?_⟩) hD fun H1 s1 hr => ?_⟩
      · obtain ⟨d, hd, dx⟩ := dpAll_get da hx
        have k := k H1 (Same.refl _)
        rw [List.getD_eq_getElem?_getD, hd] at k
        have sm := h2 d (List.mem_of_getElem? hd)
        refine ⟨x, rfl, rfl, _, rfl, ?_⟩
        have dx' := dp_same s1 _ _ dx
        by_cases e : x = .non
        · subst e
          cases dx'
          exact k
        · rw [decide_eq_false e]
          refine iteF ⟨_, rfl, x, d, rfl, dx', sm, ?_⟩
          cases dx' <;> first | exact k | exact absurd rfl e
      · refine ⟨D, (List.range xs.length).map (fun i => isItem (ds.getD i .none)), rfl, .inl (.inl (by rw [hr, List.map_map]; rfl)), ?_⟩
        have e : (List.range xs.length).map (fun i => isItem (ds.getD i .none)) = ds.map isItem := by
          rw [hl]
          exact range_map_get ds isItem _ fun i x h => by rw [List.getD_eq_getElem?_getD, h]; rfl
        rw [e, List.all_map]
        exact q H1 s1
    | _ => exact iteF (q _ (Same.refl _))
end
end K49

set_option linter.all false
/-! words as lists of numbers: beginnings, borders, periods, powers, roots -/
namespace WM
abbrev W := List Nat
/-! ### beginnings in common -/
def lcp : W → W → Nat
  | x :: xs, y :: ys => if x = y then lcp xs ys + 1 else 0
  | _, _ => 0
theorem lcp_le : ∀ a b : W, lcp a b ≤ a.length ∧ lcp a b ≤ b.length
  | [], b => by simp [lcp]
  | _ :: _, [] => by simp [lcp]
  | x :: xs, y :: ys => by
    have := lcp_le xs ys
    unfold lcp
    split <;> simp <;> omega
theorem lcp_take : ∀ (a b : W) (k : Nat), k ≤ lcp a b → a.take k = b.take k
  | _, _, 0, _ => by simp
  | [], b, k + 1, h => by simp [lcp] at h
  | _ :: _, [], k + 1, h => by simp [lcp] at h
  | x :: xs, y :: ys, k + 1, h => by
    unfold lcp at h
    split at h
    · rename_i e
      subst e
      rw [List.take_succ_cons, List.take_succ_cons, lcp_take xs ys k (by omega)]
    · omega
theorem le_lcp : ∀ (a b : W) (k : Nat), k ≤ a.length → k ≤ b.length → a.take k = b.take k → k ≤ lcp a b
  | _, _, 0, _, _, _ => Nat.zero_le _
  | [], b, k + 1, h, _, _ => by simp at h
  | _ :: _, [], k + 1, _, h, _ => by simp at h
  | x :: xs, y :: ys, k + 1, h1, h2, h => by
    rw [List.take_succ_cons, List.take_succ_cons] at h
    injection h with e1 e2
    subst e1
    have := le_lcp xs ys k (by simpa using h1) (by simpa using h2) e2
    unfold lcp
    rw [if_pos rfl]
    omega
theorem lcp_iff {a b : W} {k : Nat} (h1 : k ≤ a.length) (h2 : k ≤ b.length) : a.take k = b.take k ↔ k ≤ lcp a b := ⟨le_lcp a b k h1 h2, lcp_take a b k⟩

/-! ### periods and borders -/
/-- letters that stand p apart are the same -/
def Per (p : Nat) (w : W) : Prop := ∀ i, i + p < w.length → w[i]? = w[i + p]?
/-- the first b letters are the last b -/
def Bor (b : Nat) (w : W) : Prop := b ≤ w.length ∧ ∀ i, i < b → w[i]? = w[w.length - b + i]?
instance (b : Nat) (w : W) : Decidable (Bor b w) := by unfold Bor; exact inferInstance
theorem bor_per {b : Nat} {w : W} (h : Bor b w) : Per (w.length - b) w := fun i hi => by
  rw [h.2 i (by have := h.1; omega), Nat.add_comm i]
theorem per_bor {p : Nat} {w : W} (hp : p ≤ w.length) (h : Per p w) : Bor (w.length - p) w := by
  refine ⟨Nat.sub_le _ _, fun i hi => ?_⟩
  rw [h i (by omega)]
  congr 1
  omega
theorem per_zero (w : W) : Per 0 w := fun i _ => rfl
theorem per_len {p : Nat} {w : W} (h : w.length ≤ p) : Per p w := fun i hi => by omega
theorem per_take {p k : Nat} {w : W} (h : Per p w) : Per p (w.take k) := fun i hi => by
  rw [List.length_take] at hi
  rw [List.getElem?_take_of_lt (by omega), List.getElem?_take_of_lt (by omega)]
  exact h i (by omega)
theorem per_mul {p : Nat} {w : W} (h : Per p w) : ∀ (k i : Nat), i + p * k < w.length → w[i]? = w[i + p * k]?
  | 0, i, _ => by simp
  | k + 1, i, hi => by
    rw [Nat.mul_succ] at hi ⊢
    rw [per_mul h k i (by omega), h (i + p * k) (by omega)]
    congr 1
    omega
/-- Fine and Wilf's, the weak form -/
theorem per_sub {p q : Nat} {w : W} (hpq : p ≤ q) (hp : Per p w) (hq : Per q w) (hl : p + q ≤ w.length) : Per (q - p) w := fun i hi => by
  by_cases h : i + q < w.length
  · rw [hq i h]
    have := hp (i + (q - p)) (by omega)
    rw [this]
    congr 1
    omega
  · have h1 : p ≤ i := by omega
    have a := hp (i - p) (by omega)
    have b := hq (i - p) (by omega)
    rw [show i - p + p = i by omega] at a
    rw [show i - p + q = i + (q - p) by omega] at b
    rw [← a, b]
theorem fine_wilf : ∀ (n p q : Nat) (w : W), p + q ≤ n → Per p w → Per q w → p + q ≤ w.length → Per (Nat.gcd p q) w
  | 0, p, q, w, hn, hp, hq, _ => by
    have e1 : p = 0 := by omega
    have e2 : q = 0 := by omega
    subst e1 e2
    exact hp
  | n + 1, p, q, w, hn, hp, hq, hl => by
    by_cases p0 : p = 0
    · subst p0
      rw [Nat.gcd_zero_left]
      exact hq
    by_cases q0 : q = 0
    · subst q0
      rw [Nat.gcd_zero_right]
      exact hp
    by_cases h : p ≤ q
    · have := fine_wilf n p (q - p) w (by omega) hp (per_sub h hp hq hl) (by omega)
      rw [Nat.gcd_sub_self_right h] at this
      exact this
    · have := fine_wilf n (p - q) q w (by omega) (per_sub (by omega) hq hp (by omega)) hq (by omega)
      rw [Nat.gcd_sub_self_left (by omega)] at this
      exact this
theorem per_gcd {p q : Nat} {w : W} (hp : Per p w) (hq : Per q w) (hl : p + q ≤ w.length) : Per (Nat.gcd p q) w := fine_wilf _ p q w (Nat.le_refl _) hp hq hl

/-! ### the longest border -/
def lbF (w : W) : Nat → Nat
  | 0 => 0
  | b + 1 => if Bor (b + 1) w then b + 1 else lbF w b
/-- how long the longest border is, besides the word itself -/
def lb (w : W) : Nat := lbF w (w.length - 1)
theorem bor_zero (w : W) : Bor 0 w := ⟨Nat.zero_le _, fun i h => by omega⟩
theorem lbF_bor (w : W) : ∀ b, Bor (lbF w b) w ∧ lbF w b ≤ b
  | 0 => ⟨bor_zero w, Nat.le_refl _⟩
  | b + 1 => by
    unfold lbF
    split
    · rename_i h
      exact ⟨h, Nat.le_refl _⟩
    · have := lbF_bor w b
      exact ⟨this.1, by omega⟩
theorem lbF_max (w : W) : ∀ b c, c ≤ b → Bor c w → c ≤ lbF w b
  | 0, c, h, _ => by omega
  | b + 1, c, h, hc => by
    unfold lbF
    split
    · omega
    · rename_i hn
      by_cases e : c = b + 1
      · subst e
        exact absurd hc hn
      · exact lbF_max w b c (by omega) hc
theorem lb_bor (w : W) : Bor (lb w) w := (lbF_bor w _).1
theorem lb_lt {w : W} (h : w ≠ []) : lb w < w.length := by
  have := (lbF_bor w (w.length - 1)).2
  have := List.length_pos_iff.mpr h
  unfold lb
  omega
theorem lb_max {w : W} {c : Nat} (h : c < w.length) (hc : Bor c w) : c ≤ lb w := lbF_max w _ c (by omega) hc
/-- a border of a border is a border; a shorter border is one of the longer -/
theorem bor_take {w : W} {b c : Nat} (hb : Bor b w) (hc : c ≤ b) : Bor c w ↔ Bor c (w.take b) := by
  have l : (w.take b).length = b := by rw [List.length_take]; have := hb.1; omega
  constructor
  · intro h
    refine ⟨by rw [l]; exact hc, fun i hi => ?_⟩
    rw [l, List.getElem?_take_of_lt (by omega), List.getElem?_take_of_lt (by omega), h.2 i hi, hb.2 (b - c + i) (by omega)]
    congr 1
    have := hb.1
    omega
  · intro h
    refine ⟨Nat.le_trans hc hb.1, fun i hi => ?_⟩
    have := h.2 i hi
    rw [l, List.getElem?_take_of_lt (by omega), List.getElem?_take_of_lt (by omega)] at this
    rw [this, hb.2 (b - c + i) (by omega)]
    congr 1
    have := hb.1
    omega
/-- a border, one letter longer -/
theorem bor_succ {w : W} {n b : Nat} (hn : n < w.length) (hb : b < n) : Bor (b + 1) (w.take (n + 1)) ↔ Bor b (w.take n) ∧ w[b]? = w[n]? := by
  have l1 : (w.take (n + 1)).length = n + 1 := by rw [List.length_take]; omega
  have l0 : (w.take n).length = n := by rw [List.length_take]; omega
  constructor
  · intro h
    refine ⟨⟨by omega, fun i hi => ?_⟩, ?_⟩
    · have := h.2 i (by omega)
      rw [l1, List.getElem?_take_of_lt (by omega), List.getElem?_take_of_lt (by omega)] at this
      rw [l0, List.getElem?_take_of_lt (by omega), List.getElem?_take_of_lt (by omega), this]
      congr 1
      omega
    · have := h.2 b (by omega)
      rw [l1, List.getElem?_take_of_lt (by omega), List.getElem?_take_of_lt (by omega)] at this
      rw [this]
      congr 1
      omega
  · rintro ⟨h, e⟩
    refine ⟨by omega, fun i hi => ?_⟩
    rw [l1, List.getElem?_take_of_lt (by omega), List.getElem?_take_of_lt (by omega)]
    by_cases z : i < b
    · have := h.2 i z
      rw [l0, List.getElem?_take_of_lt (by omega), List.getElem?_take_of_lt (by omega)] at this
      rw [this]
      congr 1
      omega
    · have e1 : i = b := by omega
      subst e1
      rw [e]
      congr 1
      omega
/-- the walk down the borders: the state at a turn of the inner loop -/
def Cand (w : W) (n s : Nat) : Prop := s < n ∧ Bor s (w.take n) ∧ ∀ b, b < n → Bor b (w.take n) → w[b]? = w[n]? → b ≤ s
theorem cand_start {w : W} {n : Nat} (hn : n ≤ w.length) (h0 : 0 < n) : Cand w n (lb (w.take n)) := by
  have l0 : (w.take n).length = n := by rw [List.length_take]; omega
  have ne : w.take n ≠ [] := fun z => by rw [z] at l0; simp at l0; omega
  refine ⟨by have := lb_lt ne; omega, lb_bor _, fun b hb h _ => lb_max (by omega) h⟩
theorem cand_down {w : W} {n s : Nat} (hn : n ≤ w.length) (h : Cand w n s) (hs : 0 < s) (hd : w[s]? ≠ w[n]?) : Cand w n (lb (w.take s)) := by
  obtain ⟨h1, h2, h3⟩ := h
  have ls : (w.take s).length = s := by rw [List.length_take]; omega
  have ne : w.take s ≠ [] := fun z => by rw [z] at ls; simp at ls; omega
  have lt := lb_lt ne
  have tt : (w.take n).take s = w.take s := by rw [List.take_take]; congr 1; omega
  have bs : Bor (lb (w.take s)) (w.take n) := by
    rw [bor_take h2 (by omega), tt]
    exact lb_bor _
  refine ⟨by omega, bs, fun b hb hB e => ?_⟩
  have le := h3 b hb hB e
  have ne2 : b ≠ s := fun z => hd (by rw [← z]; exact e)
  have : Bor b (w.take s) := by
    rw [← tt, ← bor_take h2 (by omega)]
    exact hB
  exact lb_max (by omega) this
theorem cand_hit {w : W} {n s : Nat} (hn : n < w.length) (h : Cand w n s) (e : w[s]? = w[n]?) : lb (w.take (n + 1)) = s + 1 := by
  obtain ⟨h1, h2, h3⟩ := h
  have l1 : (w.take (n + 1)).length = n + 1 := by rw [List.length_take]; omega
  have ne : w.take (n + 1) ≠ [] := fun z => by rw [z] at l1; simp at l1
  have hB : Bor (s + 1) (w.take (n + 1)) := (bor_succ hn h1).mpr ⟨h2, e⟩
  have le := lb_max (by omega) hB
  have lt := lb_lt ne
  have lB := lb_bor (w.take (n + 1))
  generalize lb (w.take (n + 1)) = x at le lt lB ⊢
  cases x with
  | zero => omega
  | succ x =>
    obtain ⟨a, b⟩ := (bor_succ hn (by omega)).mp lB
    have := h3 x (by omega) a b
    omega
theorem cand_miss {w : W} {n : Nat} (hn : n < w.length) (h : Cand w n 0) (e : w[0]? ≠ w[n]?) : lb (w.take (n + 1)) = 0 := by
  obtain ⟨h1, h2, h3⟩ := h
  have l1 : (w.take (n + 1)).length = n + 1 := by rw [List.length_take]; omega
  have ne : w.take (n + 1) ≠ [] := fun z => by rw [z] at l1; simp at l1
  have lt := lb_lt ne
  have lB := lb_bor (w.take (n + 1))
  generalize lb (w.take (n + 1)) = x at lt lB ⊢
  cases x with
  | zero => rfl
  | succ x =>
    obtain ⟨a, b⟩ := (bor_succ hn (by omega)).mp lB
    have := h3 x (by omega) a b
    have z : x = 0 := by omega
    subst z
    exact absurd b e
theorem lb_one {w : W} : lb (w.take 1) = 0 := by
  cases w with
  | nil => simp [lb, lbF]
  | cons x r => simp [lb, lbF]

/-! ### powers and roots -/
/-- w taken k times -/
def pw (w : W) (k : Nat) : W := (List.replicate k w).flatten
theorem pw_succ (w : W) (k : Nat) : pw w (k + 1) = w ++ pw w k := by unfold pw; rw [List.replicate_succ, List.flatten_cons]
theorem pw_zero (w : W) : pw w 0 = [] := rfl
theorem pw_len (w : W) : ∀ k, (pw w k).length = w.length * k
  | 0 => by simp [pw_zero]
  | k + 1 => by rw [pw_succ, List.length_append, pw_len w k, Nat.mul_succ, Nat.add_comm]
theorem pw_add (w : W) : ∀ a b, pw w (a + b) = pw w a ++ pw w b
  | 0, b => by rw [Nat.zero_add, pw_zero, List.nil_append]
  | a + 1, b => by rw [show a + 1 + b = a + b + 1 by omega, pw_succ, pw_add w a b, pw_succ, List.append_assoc]
theorem pw_get {w : W} (h : w ≠ []) : ∀ (k i : Nat), i < w.length * k → (pw w k)[i]? = w[i % w.length]?
  | 0, i, hi => by simp at hi
  | k + 1, i, hi => by
    have n0 := List.length_pos_iff.mpr h
    rw [pw_succ]
    by_cases z : i < w.length
    · rw [List.getElem?_append_left z, Nat.mod_eq_of_lt z]
    · have hm : w.length * (k + 1) = w.length * k + w.length := Nat.mul_succ ..
      rw [List.getElem?_append_right (by omega), pw_get h k _ (by omega), Nat.mod_eq_sub_mod (show i ≥ w.length by omega)]
/-- a word with a period that divides its length is a power -/
theorem per_pw {w : W} {d : Nat} (hd : 0 < d) (hp : Per d w) (hv : d ∣ w.length) : w = pw (w.take d) (w.length / d) := by
  obtain ⟨k, hk⟩ := hv
  by_cases k0 : k = 0
  · subst k0
    rw [Nat.mul_zero] at hk
    rw [List.length_eq_zero_iff.mp hk]
    simp [pw]
  have dl : d ≤ w.length := by rw [hk]; exact Nat.le_mul_of_pos_right d (by omega)
  have lt : (w.take d).length = d := by rw [List.length_take]; omega
  have ne : w.take d ≠ [] := fun z => by rw [z] at lt; simp at lt; omega
  have ek : w.length / d = k := by rw [hk]; exact Nat.mul_div_cancel_left k hd
  rw [ek]
  refine List.ext_getElem? fun i => ?_
  by_cases hi : i < w.length
  · rw [pw_get ne k i (by rw [lt, ← hk]; exact hi), lt, List.getElem?_take_of_lt (Nat.mod_lt i hd)]
    have := per_mul hp (i / d) (i % d) (by rw [Nat.mod_add_div]; exact hi)
    rw [this, Nat.mod_add_div]
  · rw [List.getElem?_eq_none (by omega), List.getElem?_eq_none (by rw [pw_len, lt, ← hk]; omega)]
theorem pw_per {u : W} (h : u ≠ []) (k : Nat) : Per u.length (pw u k) := fun i hi => by
  rw [pw_len] at hi
  rw [pw_get h k i (by omega), pw_get h k _ hi, Nat.add_mod_right]
/-- not empty, and no shorter word taken several times -/
def Prim (w : W) : Prop := w ≠ [] ∧ ∀ d, 0 < d → d ∣ w.length → Per d w → d = w.length
theorem prim_pw {w u : W} {k : Nat} (h : Prim w) (e : w = pw u k) : k = 1 ∧ u = w := by
  have une : u ≠ [] := fun z => by
    subst z
    apply h.1
    rw [e]
    simp [pw]
  have l : w.length = u.length * k := by rw [e, pw_len]
  have := h.2 u.length (List.length_pos_iff.mpr une) ⟨k, l⟩ (by rw [e]; exact pw_per une k)
  have n0 := List.length_pos_iff.mpr une
  have k1 : k = 1 := by
    rw [this] at l
    have : w.length * 1 = w.length * k := by omega
    exact (Nat.eq_of_mul_eq_mul_left (by omega) this).symm
  subst k1
  exact ⟨rfl, by rw [e, pw_succ, pw_zero, List.append_nil]⟩
/-- the root's length, as the program finds it -/
def rootN (w : W) : Nat := if w.length % (w.length - lb w) = 0 then w.length - lb w else w.length
theorem rootN_dvd (w : W) : rootN w ∣ w.length := by
  unfold rootN
  split
  · rename_i h
    exact Nat.dvd_of_mod_eq_zero h
  · exact Nat.dvd_refl _
theorem rootN_pos {w : W} (h : w ≠ []) : 0 < rootN w := by
  have := lb_lt h
  have := List.length_pos_iff.mpr h
  unfold rootN
  split <;> omega
theorem rootN_le {w : W} (h : w ≠ []) : rootN w ≤ w.length := Nat.le_of_dvd (List.length_pos_iff.mpr h) (rootN_dvd w)
theorem rootN_per (w : W) : Per (rootN w) w := by
  unfold rootN
  split
  · exact bor_per (lb_bor w)
  · exact per_len (Nat.le_refl _)
/-- no period is less than the program's step -/
theorem step_least {w : W} {p : Nat} (hp : 0 < p) (hl : p ≤ w.length) (h : Per p w) : w.length - lb w ≤ p := by
  have := lb_max (c := w.length - p) (by omega) (per_bor hl h)
  omega
/-- a period of the word that divides its length is a multiple of the root's -/
theorem root_div {w : W} (hw : w ≠ []) {d : Nat} (hd : 0 < d) (hv : d ∣ w.length) (h : Per d w) : rootN w ∣ d := by
  have n0 := List.length_pos_iff.mpr hw
  have dl := Nat.le_of_dvd n0 hv
  have lt := lb_lt hw
  have s := step_least hd dl h
  by_cases e : d = w.length
  · rw [e]
    exact rootN_dvd w
  · have two : d + d ≤ w.length := by
      obtain ⟨k, hk⟩ := hv
      have : k ≠ 0 := fun z => by subst z; omega
      have : k ≠ 1 := fun z => by subst z; omega
      have : d * 2 ≤ d * k := Nat.mul_le_mul_left d (by omega)
      omega
    have g := per_gcd (bor_per (lb_bor w)) h (by omega)
    have gp : 0 < Nat.gcd (w.length - lb w) d := Nat.gcd_pos_of_pos_right _ hd
    have g1 := step_least gp (Nat.le_trans (Nat.gcd_le_right _ hd) dl) g
    have g2 : Nat.gcd (w.length - lb w) d ∣ w.length - lb w := Nat.gcd_dvd_left _ _
    have g3 : Nat.gcd (w.length - lb w) d = w.length - lb w := Nat.le_antisymm (Nat.le_of_dvd (by omega) g2) g1
    have g4 : w.length - lb w ∣ d := by rw [← g3]; exact Nat.gcd_dvd_right _ _
    have : w.length % (w.length - lb w) = 0 := Nat.mod_eq_zero_of_dvd (Nat.dvd_trans g4 hv)
    unfold rootN
    rw [if_pos this]
    exact g4
theorem root_prim {w : W} (hw : w ≠ []) : Prim (w.take (rootN w)) := by
  have r0 := rootN_pos hw
  have rl := rootN_le hw
  have l : (w.take (rootN w)).length = rootN w := by rw [List.length_take]; omega
  refine ⟨fun z => by rw [z] at l; simp at l; omega, fun d hd hv h => ?_⟩
  rw [l] at hv ⊢
  -- a period of the root that divides it is one of the word
  have hw' : Per d w := fun i hi => by
    have mul : ∀ j, j < w.length → w[j]? = w[j % rootN w]? := fun j hj => by
      have := per_mul (rootN_per w) (j / rootN w) (j % rootN w) (by rw [Nat.mod_add_div]; exact hj)
      rw [Nat.mod_add_div] at this
      exact this.symm
    have inner : ∀ j, j < rootN w → w[j]? = w[j % d]? := fun j hj => by
      have := per_mul h (j / d) (j % d) (by rw [Nat.mod_add_div, l]; exact hj)
      rw [Nat.mod_add_div, List.getElem?_take_of_lt hj, List.getElem?_take_of_lt (by have := Nat.mod_le j d; omega)] at this
      exact this.symm
    rw [mul i (by omega), mul (i + d) hi, inner _ (Nat.mod_lt _ r0), inner ((i + d) % rootN w) (Nat.mod_lt _ r0)]
    congr 1
    rw [Nat.mod_mod_of_dvd _ hv, Nat.mod_mod_of_dvd _ hv, Nat.add_mod_right]
  exact Nat.dvd_antisymm hv (root_div hw hd (Nat.dvd_trans hv (rootN_dvd w)) hw')
theorem root_pw {w : W} (hw : w ≠ []) : w = pw (w.take (rootN w)) (w.length / rootN w) := per_pw (rootN_pos hw) (rootN_per w) (rootN_dvd w)
end WM

set_option Elab.async false
set_option linter.all false
set_option maxRecDepth 100000
set_option maxHeartbeats 4000000
namespace K49
open PySem PySem.Spec PyProof.Rows L2 CK SX
theorem len_line {w : List Nat} (h : w.length ≤ 1000000) : (S w).length ≤ sizeLine := by rw [S_len, sizeLine_eq]; omega
/-- the borders' sizes, up to the place i -/
def szL (z : List Nat) (i : Nat) : List Nat := (List.range z.length).map fun j => if j ≤ i then WM.lb (z.take (j + 1)) else 0
theorem szL_len (z : List Nat) (i : Nat) : (szL z i).length = z.length := by simp [szL]
theorem szL_get {z : List Nat} {i j : Nat} (h : j ≤ i) (hj : j < z.length) : (szL z i)[j]? = some (WM.lb (z.take (j + 1))) := by
  unfold szL
  rw [List.getElem?_map, List.getElem?_range hj]
  simp [h]
theorem szL_zero {z : List Nat} (h : z ≠ []) : szL z 0 = List.replicate z.length 0 := by
  refine List.ext_getElem? fun j => ?_
  unfold szL
  by_cases hj : j < z.length
  · rw [List.getElem?_map, List.getElem?_range hj, List.getElem?_replicate, if_pos hj]
    simp only [Option.map_some]
    split
    · rename_i e
      have : j = 0 := by omega
      subst this
      rw [WM.lb_one]
    · rfl
  · rw [List.getElem?_eq_none (by simp; omega), List.getElem?_eq_none (by simp; omega)]
theorem szL_set {z : List Nat} {i : Nat} (h : i + 1 < z.length) : (szL z i).set (i + 1) (WM.lb (z.take (i + 2))) = szL z (i + 1) := by
  refine List.ext_getElem? fun j => ?_
  by_cases hj : j < z.length
  · rw [List.getElem?_set]
    unfold szL
    by_cases e : i + 1 = j
    · subst e
      rw [if_pos rfl, if_pos (by simp; omega), List.getElem?_map, List.getElem?_range hj]
      simp
    · rw [if_neg e, List.getElem?_map, List.getElem?_map, List.getElem?_range hj]
      simp only [Option.map_some]
      congr 1
      by_cases a : j ≤ i
      · rw [if_pos a, if_pos (by omega)]
      · rw [if_neg a, if_neg (by omega)]
  · rw [List.getElem?_eq_none (by simp [szL]; omega), List.getElem?_eq_none (by simp [szL]; omega)]
def natsV (ns : List Nat) : List V := ns.map fun n : Nat => V.int (n : Nat)
theorem natsV_get {ns : List Nat} {i n : Nat} (h : ns[i]? = some n) : (natsV ns)[i]? = some (.int (n : Nat)) := by
  unfold natsV
  rw [List.getElem?_map, h]
  rfl
theorem natsV_set (ns : List Nat) (i n : Nat) : (natsV ns).set i (.int (n : Nat)) = natsV (ns.set i n) := by
  unfold natsV
  rw [List.map_set]
theorem natsV_len (ns : List Nat) : (natsV ns).length = ns.length := by simp [natsV]
section
variable {P : Program} {w : World} {K : PySem.W.Frag} {mg : Str → Option Value} {base : Heap} {E_InvalidNumber E_InvalidList E_InvalidWheel E_CountError : Addr}
def sp_border : Sp := fun vs H Q _ => ∃ (z : List Nat), vs = [.str (S z)] ∧ z ≠ [] ∧ z.length ≤ 1000000 ∧ ∀ p H', Same H H' → H p = none → H' p = some (.lst (natsV (szL z (z.length - 1)))) → Q (.ref p) H'
theorem c_border_sizes (T : Txt K mg E_InvalidNumber E_InvalidList E_InvalidWheel E_CountError) : C8.Cal P w K mg base 1 "border_sizes" sp_border [] := by
  refine calF T.d_border_sizes sc_border_sizes (fun vs H Q E h => ?_) (fun f cdv A outer s H vs Q E hr h => ?_)
  · obtain ⟨_, rfl, _⟩ := h; rfl
  · obtain ⟨z, rfl, ne, hz, q⟩ := h
    have n0 := List.length_pos_iff.mpr ne
    refine ⟨_, (pss_cons (ps_set (i := 1) sc_border_sizes.nd rfl (Or.inl rfl) (pe_op op_rep (pe_lst (pa_cons pe_int pa_nil)) (pe_callB call_len_str (by rfl) T.m_len (by decide +kernel) (pa_cons (pv 0) pa_nil))))
    (pss_cons (ps_set (i := 2) sc_border_sizes.nd rfl (Or.inl rfl) pe_int)
    (pss_cons (ps_for PassesOwn.never rfl (pi_range2 (by rfl) T.m_range (pa_cons pe_int (pa_cons (pe_callB call_len_str (by rfl) T.m_len (by decide +kernel) (pa_cons (pv 0) pa_nil)) pa_nil))) (pg_name (i := 3) sc_border_sizes.nd rfl (Or.inl rfl))
    (pss_cons (ps_while PassesOwn.never (PW.pt (pw_and (pt_truth (pv 2) (by intro _; rfl)) (pw_and1 (pt_cmpR op_ne (pe_ix ix_str (pv 0) (pv 3) (fun _ _ => rfl)) (pe_ix ix_str (pv 0) (pv 2) (fun _ _ => rfl)) (nomark _)))))
    (pss_one (ps_set (i := 2) sc_border_sizes.nd rfl (Or.inl rfl) (pe_ix ix_list (pv 1) (pe_op op_sub (pv 2) pe_int) (fun _ _ => rfl)))))
    (pss_cons (ps_if (pt_cmpR op_eq (pe_ix ix_str (pv 0) (pv 3) (fun _ _ => rfl)) (pe_ix ix_str (pv 0) (pv 2) (fun _ _ => rfl)) (nomark _))
    (pss_one (ps_aug (i := 2) sc_border_sizes.nd rfl (.inl rfl) pe_int ip_add))
    pss_nil)
    (pss_one (ps_asg (pv 2) (pg_sub (pv 1) (pv 3) set_list))))))
    (pss_one (ps_ret (pv 1)))))), ?_⟩
    refine ⟨by show 1 ≤ sizeLine; decide, fun L0 h0 => ⟨_, rfl, S z, rfl, len_line hz, L0, _, _, rfl, rfl, upd_same, by omega, by rw [S_len]; omega, by rw [S_len, sizeLine_eq]; simp; omega, fun p hp => ?_⟩⟩
    have s0 := (sameNew (o := .lst [V.int 0]) h0).trans (sameNew (o := .lst (List.replicate (((S z).length : Nat) : Int).toNat [V.int 0]).flatten) hp)
    have hp0 : H p = none := (sameNew (o := .lst [V.int 0]) h0).free hp
    have e0 : (List.replicate (((S z).length : Nat) : Int).toNat [V.int 0]).flatten = natsV (szL z 0) := by
      rw [S_len, Int.toNat_natCast, szL_zero ne]
      unfold natsV
      rw [List.map_replicate]
      generalize z.length = k
      induction k with
      | zero => rfl
      | succ k ih => rw [List.replicate_succ, List.flatten_cons, ih, List.replicate_succ]; rfl
    rw [e0] at s0 ⊢
    have hpl : (upd (upd H L0 (.lst [V.int 0])) p (.lst (natsV (szL z 0)))) p = some (.lst (natsV (szL z 0))) := upd_same
    generalize upd (upd H L0 (.lst [V.int 0])) p (.lst (natsV (szL z 0))) = H1 at s0 hpl
    refine ⟨_, rfl, S z, rfl, len_line hz, 1, _, rfl, ⟨by omega, by omega, by omega, by rw [S_len]; omega⟩, ?_⟩
    refine for_it walk_range (fun i σ H' => i ≤ z.length - 1 ∧ SameX p H1 H' ∧ H' p = some (.lst (natsV (szL z i))) ∧ ∃ (zs : Int) (y3 : Option V), σ = [some (.str (S z)), some (.ref p), some (.int zs), y3] ∧ zs = ((WM.lb (z.take (i + 1)) : Nat) : Int))
      ⟨by omega, .refl _ _, hpl, 0, none, rfl, by rw [WM.lb_one]; rfl⟩ (fun _ _ _ _ _ => True.intro) (fun i x σ H' H'' hi pI yy => ?_) fun σ H' pI => ?_
    · obtain ⟨_, s1, hl1, zs, y3, rfl, rfl⟩ := pI
      obtain ⟨rfl, rfl⟩ := yy
      have hi' : i + 1 < z.length := by
        have : i < ((((S z).length : Nat) : Int) - 1).toNat := hi
        rw [S_len] at this
        omega
      have zn : z[i + 1]? = some z[i + 1] := List.getElem?_eq_getElem hi'
      generalize z[i + 1] = cn at zn
      have cand0 : WM.Cand z (i + 1) (WM.lb (z.take (i + 1))) := WM.cand_start (by omega) (by omega)
      refine while_by (fun σ H2 => H2 = H'' ∧ ∃ (s' : Nat) (zs : Int), σ = [some (.str (S z)), some (.ref p), some (.int zs), some (.int (1 + (i : Int)))] ∧ zs = s' ∧ WM.Cand z (i + 1) s')
        (fun σ _ => match σ with | [_, _, some (.int zs), _] => zs.toNat | _ => 0) ⟨rfl, _, _, rfl, rfl, cand0⟩ (fun σ H2 pJ => ?_) ?_
      · obtain ⟨rfl, s', zs, rfl, rfl, cand⟩ := pJ
        have slt := cand.1
        have zk : z[s']? = some z[s'] := List.getElem?_eq_getElem (by omega)
        generalize z[s'] = ck at zk
        refine ⟨_, rfl, _, rfl, ?_⟩
        by_cases z0 : s' = 0
        · subst z0
          refine iteF ?_
          refine ⟨_, rfl, _, rfl, S z, 1 + (i : Int), cn, rfl, rfl, len_line hz, ?_, _, rfl, _, rfl, S z, ((0 : Nat) : Int), ck, rfl, rfl, len_line hz, atI_nat (xs := z) zk, rfl, _, rfl, ?_⟩
          · rw [show 1 + (i : Int) = ((i + 1 : Nat) : Int) by omega]
            exact atI_nat (xs := z) zn
          refine ite2 (fun e => ?_) (fun e => ?_)
          · have ec : cn = ck := by
              have := S_inj (a := [cn]) (b := [ck]) (V.str.inj (of_decide_eq_true e))
              simpa using this
            have hit := WM.cand_hit hi' cand (by rw [zk, zn, ec])
            refine ⟨_, rfl, _, _, rfl, rfl, _, rfl, _, rfl, _, rfl, p, _, 1 + (i : Int), i + 1, rfl, rfl, hl1, ?_, ?_⟩
            · unfold ixN
              rw [natsV_len, szL_len, if_pos (by omega), if_pos (by omega)]
              congr 1
              omega
            · refine ⟨by omega, fun b o hb e => by rw [upd_ne hb]; exact s1 b o hb e, ?_, _, _, rfl, by rw [show i + 1 + 1 = i + 2 by omega] at hit ⊢; rw [hit]; rfl⟩
              rw [upd_same]
              have := natsV_set (szL z i) (i + 1) (WM.lb (z.take (i + 2)))
              rw [szL_set hi', show i + 2 = i + 1 + 1 by omega, hit] at this
              rw [← this]
              rfl
          · have nc : z[0]? ≠ z[i + 1]? := by
              rw [zk, zn]
              intro y
              exact e (decide_eq_true (by rw [Option.some.inj y]))
            have miss := WM.cand_miss hi' cand nc
            refine ⟨_, rfl, _, rfl, _, rfl, p, _, 1 + (i : Int), i + 1, rfl, rfl, hl1, ?_, ?_⟩
            · unfold ixN
              rw [natsV_len, szL_len, if_pos (by omega), if_pos (by omega)]
              congr 1
              omega
            · refine ⟨by omega, fun b o hb e => by rw [upd_ne hb]; exact s1 b o hb e, ?_, _, _, rfl, by rw [miss]⟩
              rw [upd_same]
              have := natsV_set (szL z i) (i + 1) (WM.lb (z.take (i + 2)))
              rw [szL_set hi', show i + 2 = i + 1 + 1 by omega, miss] at this
              rw [← this]
        · have tz : ((((s' : Nat) : Int)) != 0) = true := by rw [bne_iff_ne]; omega
          rw [tz]
          refine iteT ?_
          refine ⟨_, rfl, _, rfl, S z, 1 + (i : Int), cn, rfl, rfl, len_line hz, ?_, _, rfl, _, rfl, S z, ((s' : Nat) : Int), ck, rfl, rfl, len_line hz, atI_nat (xs := z) zk, rfl, _, rfl, ?_⟩
          · rw [show 1 + (i : Int) = ((i + 1 : Nat) : Int) by omega]
            exact atI_nat (xs := z) zn
          by_cases ec : cn = ck
          · refine iteNS (by rw [ec]) ?_
            refine ⟨_, rfl, _, rfl, S z, 1 + (i : Int), cn, rfl, rfl, len_line hz, ?_, _, rfl, _, rfl, S z, ((s' : Nat) : Int), ck, rfl, rfl, len_line hz, atI_nat (xs := z) zk, rfl, _, rfl, ?_⟩
            · rw [show 1 + (i : Int) = ((i + 1 : Nat) : Int) by omega]
              exact atI_nat (xs := z) zn
            rw [ec, decide_eq_true rfl]
            have hit := WM.cand_hit hi' cand (by rw [zk, zn, ec])
            refine iteT ⟨_, rfl, _, _, rfl, rfl, _, rfl, _, rfl, _, rfl, p, _, 1 + (i : Int), i + 1, rfl, rfl, hl1, ?_, ?_⟩
            · unfold ixN
              rw [natsV_len, szL_len, if_pos (by omega), if_pos (by omega)]
              congr 1
              omega
            · refine ⟨by omega, fun b o hb e => by rw [upd_ne hb]; exact s1 b o hb e, ?_, _, _, rfl, by rw [show i + 1 + 1 = i + 2 by omega] at hit ⊢; rw [hit]; rfl⟩
              rw [upd_same]
              have := natsV_set (szL z i) (i + 1) (WM.lb (z.take (i + 2)))
              rw [szL_set hi', show i + 2 = i + 1 + 1 by omega, hit] at this
              rw [← this]
              rfl
          · have hd : z[s']? ≠ z[i + 1]? := by
              rw [zk, zn]
              intro y
              exact ec (Option.some.inj y).symm
            have down := WM.cand_down (by omega) cand (by omega) hd
            have : (!decide (V.str (S [cn]) = V.str (S [ck]))) = true := by
              rw [decide_eq_false (fun y => ec (by simpa using S_inj (a := [cn]) (b := [ck]) (V.str.inj y)))]
              rfl
            rw [show (⟨#[cn]⟩ : Str) = S [cn] from rfl, show (⟨#[ck]⟩ : Str) = S [ck] from rfl, this]
            have get := szL_get (z := z) (i := i) (j := s' - 1) (by omega) (by omega)
            rw [show s' - 1 + 1 = s' by omega] at get
            refine iteT ⟨_, rfl, _, rfl, _, _, rfl, rfl, p, _, _, .int ((WM.lb (z.take s') : Nat) : Int), rfl, rfl, .inl (.inl hl1), ?_, ⟨rfl, WM.lb (z.take s'), _, rfl, rfl, down⟩, ?_⟩
            · rw [show ((s' : Nat) : Int) - 1 = ((s' - 1 : Nat) : Int) by omega]
              exact atI_nat (natsV_get get)
            · show (((WM.lb (z.take s') : Nat) : Int)).toNat < (((s' : Nat) : Int)).toNat
              have := WM.lb_lt (w := z.take s') (fun y => by have := congrArg List.length y; rw [List.length_take, List.length_nil] at this; omega)
              rw [List.length_take] at this
              omega
      · intro σ H' Q1 Q2 hq h
        obtain ⟨a1, h1, k, h2, h⟩ := h
        refine ⟨a1, h1, k, h2, ?_⟩
        cases k with
        | false => exact hq _ _ h
        | true =>
          obtain ⟨a1, h1, a2, h2, a3, a4, a5, h3, h4, h5, h6, a6, h7, a7, h8, a8, a9, a10, h9, h10, h11, h12, h13, k, h14, h⟩ := h
          exact ⟨a1, h1, a2, h2, a3, a4, a5, h3, h4, h5, h6, a6, h7, a7, h8, a8, a9, a10, h9, h10, h11, h12, h13, k, h14, hq _ _ h⟩
    · obtain ⟨_, s1, hl1, zs, y3, rfl, rfl⟩ := pI
      have en : ((((S z).length : Nat) : Int) - 1).toNat = z.length - 1 := by rw [S_len]; omega
      rw [en] at hl1
      refine ⟨_, rfl, q p H' (fun b o e => ?_) hp0 hl1⟩
      have hb : b ≠ p := fun y => by rw [y, hp0] at e; cases e
      exact s1 _ _ hb (s0 _ _ e)
def sp_root : Sp := fun vs H Q _ => ∃ (z : List Nat), vs = [.str (S z)] ∧ z ≠ [] ∧ z.length ≤ 1000000 ∧ ∀ H', Same H H' → Q (.int (WM.rootN z : Nat)) H'
theorem c_root_size (T : Txt K mg E_InvalidNumber E_InvalidList E_InvalidWheel E_CountError) : C8.Cal P w K mg base 2 "root_size" sp_root [] := by
  refine calF T.d_root_size sc_root_size (fun vs H Q E h => ?_) (fun f cdv A outer s H vs Q E hr h => ?_)
  · obtain ⟨_, rfl, _⟩ := h; rfl
  · obtain ⟨z, rfl, ne, hz, q⟩ := h
    have n0 := List.length_pos_iff.mpr ne
    have lt := WM.lb_lt ne
    refine ⟨_, (pss_cons (ps_set (i := 1) sc_root_size.nd rfl (Or.inl rfl) (pe_op op_sub (pe_callB call_len_str (by rfl) T.m_len (by decide +kernel) (pa_cons (pv 0) pa_nil)) (pe_ix ix_list (C8.pe_c (c_border_sizes T) hr (by decide) (by rfl) (pa_cons (pv 0) pa_nil)) (pe_un un_neg pe_int) (fun _ _ => rfl))))
    (pss_one (ps_ret (pe_ifExp (pt_truth (pe_op op_modZ (pe_callB call_len_str (by rfl) T.m_len (by decide +kernel) (pa_cons (pv 0) pa_nil)) (pv 1)) (by intro _; rfl)) (pe_callB call_len_str (by rfl) T.m_len (by decide +kernel) (pa_cons (pv 0) pa_nil)) (pv 1))))), ?_⟩
    refine ⟨_, rfl, S z, rfl, len_line hz, _, rfl, z, rfl, ne, hz, fun p H1 s1 n1 hp => ?_⟩
    have get := szL_get (z := z) (i := z.length - 1) (j := z.length - 1) (Nat.le_refl _) (by omega)
    rw [show z.length - 1 + 1 = z.length by omega, List.take_length] at get
    have e1 : (((S z).length : Nat) : Int) - ((WM.lb z : Nat) : Int) = ((z.length - WM.lb z : Nat) : Int) := by rw [S_len]; omega
    refine ⟨1, rfl, p, _, -1, .int (WM.lb z : Nat), rfl, rfl, .inl (.inl hp), ?_, _, _, rfl, rfl, ?_⟩
    · unfold atI ixN
      rw [natsV_len, szL_len, if_neg (by omega), if_pos (by omega)]
      show (natsV (szL z (z.length - 1)))[((-1 : Int) + z.length).toNat]? = _
      rw [show ((-1 : Int) + z.length).toNat = z.length - 1 by omega]
      exact natsV_get get
    · refine ⟨_, rfl, S z, rfl, len_line hz, _, rfl, z.length, z.length - WM.lb z, congrArg (fun n : Nat => V.int n) (S_len z), congrArg V.int e1, by omega, _, rfl, ?_⟩
      unfold WM.rootN at q
      by_cases m0 : z.length % (z.length - WM.lb z) = 0
      · rw [if_pos m0] at q
        rw [show ((((z.length % (z.length - WM.lb z) : Nat) : Int)) != 0) = false by rw [m0]; rfl]
        refine iteF ⟨_, rfl, ?_⟩
        show Q (V.int ((((S z).length : Nat) : Int) - ((WM.lb z : Nat) : Int))) H1
        rw [e1]
        exact q H1 s1
      · rw [if_neg m0] at q
        rw [show ((((z.length % (z.length - WM.lb z) : Nat) : Int)) != 0) = true by rw [bne_iff_ne]; omega]
        refine iteT ⟨_, rfl, S z, rfl, len_line hz, ?_⟩
        show Q (V.int (((S z).length : Nat) : Int)) H1
        rw [S_len]
        exact q H1 s1
end
end K49

set_option Elab.async false
set_option linter.all false
set_option maxRecDepth 100000
set_option maxHeartbeats 2000000
/-! x or y by truth, within a comprehension -/
namespace CK
open PySem PySem.Spec PyProof.Rows L2
theorem pe_orTK {X : Cx} {a b : Expr} {ta tb : TE} {rest : List Expr} {pos : Pos} {K : PySem.W.Frag} (hK : X.K = K) (ha : PE X a ta) (hb : PE X (.BoolOp .Or (b :: rest) pos) tb) : PE X (.BoolOp .Or (a :: b :: rest) pos) (tOrT K ta tb) := hK ▸ pe_orT ha hb
end CK

set_option Elab.async false
set_option linter.all false
set_option maxRecDepth 100000
set_option maxHeartbeats 4000000
namespace K49
open PySem PySem.Spec PyProof.Rows L2 CK SX
/-! ### letters -/
def Low (w : List Nat) : Prop := ∀ c ∈ w, 97 ≤ c ∧ c ≤ 122
theorem low_cases {c : Nat} (h : 97 ≤ c ∧ c ≤ 122) : Unicode.isAlpha c = true ∧ Unicode.isLower c = true ∧ (Unicode.isUpper c || Unicode.isTitle c) = false := by
  have : c ∈ List.range' 97 26 := by
    rw [List.mem_range']
    exact ⟨c - 97, by omega, by omega⟩
  have all : (List.range' 97 26).all (fun c => Unicode.isAlpha c && Unicode.isLower c && !(Unicode.isUpper c || Unicode.isTitle c)) = true := by decide +kernel
  have := List.all_eq_true.mp all c this
  simp only [Bool.and_eq_true, Bool.not_eq_true'] at this
  exact ⟨this.1.1, this.1.2, this.2⟩
theorem low_ascii {w : List Nat} (h : Low w) : Txt.isascii (S w) = true := by
  unfold Txt.isascii
  rw [← Array.all_toList, List.all_eq_true]
  exact fun c hc => decide_eq_true (by have := h c hc; omega)
theorem low_alpha {w : List Nat} (h : Low w) (ne : w ≠ []) : Txt.isalpha (S w) = true := by
  unfold Txt.isalpha
  rw [← Array.all_toList, S_len, decide_eq_true (List.length_pos_iff.mpr ne), Bool.true_and, List.all_eq_true]
  exact fun c hc => (low_cases (h c hc)).1
theorem low_lower {w : List Nat} (h : Low w) (ne : w ≠ []) : Txt.islower (S w) = true := by
  unfold Txt.islower
  rw [← Array.any_toList, ← Array.any_toList, Bool.and_eq_true]
  constructor
  · obtain ⟨c, hc⟩ := List.exists_mem_of_ne_nil w ne
    exact List.any_eq_true.mpr ⟨c, hc, (low_cases (h c hc)).2.1⟩
  · rw [Bool.not_eq_true', List.any_eq_false]
    exact fun c hc => by rw [(low_cases (h c hc)).2.2]; exact Bool.false_ne_true
/-! ### items of wheels -/
def toW : PyData → Option Nat
  | .str s => s.cps.toList.head?
  | _ => none
def wv : Option Nat → V
  | none => .non
  | some c => .str (S [c])
def dW : Option Nat → PyData
  | none => .none
  | some c => .str (S [c])
def ItO (o : Option Nat) : Prop := ∀ c, o = some c → 97 ≤ c ∧ c ≤ 122
theorem wv_inj {a b : Option Nat} (h : wv a = wv b) : a = b := by
  cases a with
  | none => cases b with
    | none => rfl
    | some c => cases h
  | some a => cases b with
    | none => cases h
    | some c =>
      have := S_inj (V.str.inj h)
      rw [(List.cons.inj this).1]
theorem wv_dec (a b : Option Nat) : decide (wv a = wv b) = decide (a = b) := by
  by_cases h : a = b
  · rw [h, decide_eq_true rfl, decide_eq_true rfl]
  · rw [decide_eq_false h, decide_eq_false (fun z => h (wv_inj z))]
theorem scal_wv (a b : Option Nat) : scal (wv a) (wv b) = true := by cases a <;> cases b <;> rfl
theorem let_one {s : Str} (h : (isLt1 s && !decide (s = "")) = true) : ∃ c, s = S [c] ∧ 97 ≤ c ∧ c ≤ 122 := by
  obtain ⟨h1, h2⟩ := Bool.and_eq_true_iff.mp h
  obtain ⟨h3, h4⟩ := Bool.and_eq_true_iff.mp h1
  have ne : ¬ s = "" := by simpa using h2
  rw [decide_eq_false ne, Bool.false_or] at h4
  obtain ⟨h5, h6⟩ := Bool.and_eq_true_iff.mp h4
  obtain ⟨h6, h7⟩ := Bool.and_eq_true_iff.mp h6
  have hl : s.cps.toList.length ≤ 1 := by rw [Array.length_toList]; exact of_decide_eq_true h3
  have es : s = S s.cps.toList := by cases s; rfl
  match e : s.cps.toList, hl with
  | [], _ =>
    rw [e] at es
    exact absurd (es.trans (by decide +kernel)) ne
  | [c], _ =>
    rw [e] at es
    refine ⟨c, es, ?_⟩
    have a1 : c < 128 := by
      unfold Txt.isascii at h5
      rw [← Array.all_toList, List.all_eq_true, e] at h5
      exact of_decide_eq_true (h5 c List.mem_cons_self)
    have a2 : Unicode.isAlpha c = true := by
      unfold Txt.isalpha at h6
      rw [← Array.all_toList, e] at h6
      have := (Bool.and_eq_true_iff.mp h6).2
      rw [List.all_eq_true] at this
      exact this c List.mem_cons_self
    have a3 : Unicode.isLower c = true := by
      unfold Txt.islower at h7
      rw [← Array.any_toList, e] at h7
      have := (Bool.and_eq_true_iff.mp h7).1
      simpa using this
    have all : (List.range 128).all (fun c => !(Unicode.isAlpha c && Unicode.isLower c) || (decide (97 ≤ c) && decide (c ≤ 122))) = true := by decide +kernel
    have := List.all_eq_true.mp all c (List.mem_range.mpr a1)
    rw [a2, a3] at this
    simpa using this
theorem item_of {K : PySem.W.Frag} {H : Hp} {v : V} {d : PyData} (h : isItem d = true) (p : Dp K H v d) : v = wv (toW d) ∧ d = dW (toW d) ∧ ItO (toW d) := by
  cases p with
  | non => exact ⟨rfl, rfl, fun c e => nomatch e⟩
  | str s =>
    obtain ⟨c, rfl, hc⟩ := let_one (s := s) h
    refine ⟨rfl, rfl, fun c' e => ?_⟩
    cases e
    exact hc
  | _ => exact absurd h Bool.false_ne_true
theorem isItem_dW {o : Option Nat} (h : ItO o) : isItem (dW o) = true := by
  cases o with
  | none => rfl
  | some c =>
    have hc := h c rfl
    have lw : Low [c] := fun x hx => by rw [List.mem_singleton.mp hx]; exact hc
    show (isLt1 (S [c]) && !decide (S [c] = Str.ofString "")) = true
    have n0 : ¬ S [c] = Str.ofString "" := fun z => by
      have := congrArg Str.length z
      rw [S_len] at this
      have e1 : (Str.ofString "").length = 0 := by decide +kernel
      rw [e1] at this
      exact absurd this (by simp)
    have l1 : (S [c]).length ≤ 1 := by rw [S_len]; exact Nat.le_refl _
    unfold isLt1
    rw [decide_eq_true l1, decide_eq_false n0, low_ascii lw, low_alpha lw (by simp), low_lower lw (by simp)]
    rfl
theorem dp_wv {K : PySem.W.Frag} {H : Hp} (o : Option Nat) : Dp K H (wv o) (dW o) := by cases o <;> constructor
theorem dpAll_wv {K : PySem.W.Frag} {H : Hp} : ∀ xs : List (Option Nat), DpAll K H (xs.map wv) (xs.map dW)
  | [] => .nil
  | x :: xs => .cons (dp_wv x) (dpAll_wv xs)
theorem wl_of {K : PySem.W.Frag} {H : Hp} : ∀ {vs : List V} {ds : List PyData}, ds.all isItem = true → DpAll K H vs ds → ∃ xs : List (Option Nat), vs = xs.map wv ∧ ds = xs.map dW ∧ ∀ o ∈ xs, ItO o
  | _, _, _, .nil => ⟨[], rfl, rfl, fun o h => nomatch h⟩
  | _, _, h, .cons a t => by
    rw [List.all_cons, Bool.and_eq_true] at h
    obtain ⟨e1, e2, e3⟩ := item_of h.1 a
    obtain ⟨xs, r1, r2, r3⟩ := wl_of h.2 t
    refine ⟨_ :: xs, by rw [List.map_cons, ← e1, ← r1], by rw [List.map_cons, ← e2, ← r2], fun o ho => ?_⟩
    rcases List.mem_cons.mp ho with rfl | ho
    · exact e3
    · exact r3 o ho
theorem isWL_dW {xs : List (Option Nat)} (h : ∀ o ∈ xs, ItO o) : isWL (.list (xs.map dW)) = true := by
  show (xs.map dW).all isItem = true
  rw [List.all_map, List.all_eq_true]
  exact fun o ho => isItem_dW (h o ho)
theorem join_one : ∀ cs : List Nat, TL.joinL [] (cs.map fun c => [c]) = cs
  | [] => rfl
  | [c] => rfl
  | c :: d :: r => by
    show [c] ++ ([] ++ TL.joinL [] ((d :: r).map fun c => [c])) = _
    rw [join_one (d :: r)]
    rfl
theorem empty_S : (Str.ofString "" : Str) = S [] := by decide +kernel
theorem join_S1 (cs : List Nat) : Txt.join (Str.ofString "") (cs.map fun c => S [c]) = S cs := by
  rw [empty_S]
  have := join_S [] (cs.map fun c => [c])
  rw [List.map_map] at this
  rw [show (cs.map fun c => S [c]) = cs.map (S ∘ fun c => [c]) from rfl, this, join_one]
/-- the word of a turn -/
def zW (xs : List (Option Nat)) : List Nat := xs.map fun o => o.getD 45
theorem zW_len (xs : List (Option Nat)) : (zW xs).length = xs.length := List.length_map ..
section
variable {P : Program} {w : World} {K : PySem.W.Frag} {mg : Str → Option Value} {base : Heap} {E_InvalidNumber E_InvalidList E_InvalidWheel E_CountError : Addr}
def sp_turn_root (K : PySem.W.Frag) : Sp := fun vs H Q _ => ∃ (a : Addr) (xs : List (Option Nat)), vs = [.ref a] ∧ SqL K H a (xs.map wv) ∧ xs ≠ [] ∧ xs.length ≤ 1000 ∧ (∀ o ∈ xs, ItO o) ∧ ∀ H', Same H H' → Q (.int (WM.rootN (zW xs) : Nat)) H'
theorem c_turn_root (T : Txt K mg E_InvalidNumber E_InvalidList E_InvalidWheel E_CountError) : C8.Cal P w K mg base 3 "turn_root" (sp_turn_root K) [] := by
  refine calF T.d_turn_root sc_turn_root (fun vs H Q E h => ?_) (fun f cdv A outer s H vs Q E hr h => ?_)
  · obtain ⟨_, _, rfl, _⟩ := h; rfl
  · obtain ⟨a, xs, rfl, sq, ne, hl, it, q⟩ := h
    refine ⟨_, (pss_one (ps_ret (C8.pe_c (c_root_size T) hr (by decide) (by rfl) (pa_cons (pe_join pe_str (pe_lc (own := [("item", 1)]) (by rfl) sc_turn_root.nd (pi_list (pv 0)) (blkOk_by (N := ["turn", "item"]) (sc := C8.fnScope (topS 16)) (own := [("item", 1)]) (by decide +kernel)) (fun _ _ _ _ _ => (pg_name (i := 1) sc_turn_root.nd rfl (Or.inl rfl))) (fun _ _ _ _ _ => pts_nil) (fun _ _ _ _ _ => (pe_orTK (K := K) rfl (pv 1) (pe_one pe_str))))) pa_nil)))), ?_⟩
    refine ⟨⟨_, rfl⟩, _, rfl, a, rfl, ⟨_, sq⟩, fun D hD => lcS_map (fun i => V.str (S [(xs.getD i none).getD 45])) sq (by rw [List.length_map, sizeLine_eq]; omega) (fun i x H1 R hx s1 k => ⟨rfl, ?_⟩) hD fun H1 s1 hr => ?_⟩
    · rw [List.getElem?_map] at hx
      obtain ⟨o, ho, rfl⟩ := Option.map_eq_some_iff.mp hx
      have k := k H1 (Same.refl _)
      rw [List.getD_eq_getElem?_getD, ho] at k
      cases o with
      | none => exact ⟨_, rfl, false, rfl, k⟩
      | some c => exact ⟨_, rfl, true, ⟨by rw [S_len, sizeLine_eq]; show 1 ≤ _; decide, by rw [S_len]; rfl⟩, k⟩
    · have e : (List.range (xs.map wv).length).map (fun i => V.str (S [(xs.getD i none).getD 45])) = ((zW xs).map fun c => S [c]).map V.str := by
        rw [List.length_map]
        have := range_map_get xs (fun o => V.str (S [o.getD 45])) (fun i => V.str (S [(xs.getD i none).getD 45])) fun i x h => by rw [List.getD_eq_getElem?_getD, h]; rfl
        rw [this]
        unfold zW
        rw [List.map_map, List.map_map]
        rfl
      rw [e] at hr
      have ne' : zW xs ≠ [] := fun z => ne (List.map_eq_nil_iff.mp z)
      refine ⟨_, D, (zW xs).map fun c => S [c], rfl, rfl, .inl (.inl (.inl hr)), ?_, zW xs, ?_, ne', by rw [zW_len]; omega, fun H2 s2 => q H2 (s1.trans s2)⟩
      · have e1 : ∀ ys : List Nat, ((ys.map fun c => S [c]).map (fun x => x.length)).sum = ys.length := by
          intro ys
          induction ys with
          | nil => rfl
          | cons y ys ih => rw [List.map_cons, List.map_cons, List.sum_cons, ih, S_len]; show 1 + ys.length = ys.length + 1; omega
        have e0 : (Str.ofString "").length = 0 := by decide +kernel
        rw [e1, e0, zW_len]
        omega
      · show [V.str (Txt.join (Str.ofString "") ((zW xs).map fun c => S [c]))] ++ [] = _
        rw [join_S1]
        rfl
end
end K49

set_option Elab.async false
set_option linter.all false
set_option maxRecDepth 100000
set_option maxHeartbeats 4000000
namespace K49
open PySem PySem.Spec PyProof.Rows L2 CK SX
theorem tAnd_mono {t u : TT} (mt : ∀ σ H (Q Q' : Bool → Hp → Prop), (∀ b H1, Q b H1 → Q' b H1) → t σ H Q → t σ H Q') (mu : ∀ σ H (Q Q' : Bool → Hp → Prop), (∀ b H1, Q b H1 → Q' b H1) → u σ H Q → u σ H Q') : ∀ σ H (Q Q' : Bool → Hp → Prop), (∀ b H1, Q b H1 → Q' b H1) → tAnd t u σ H Q → tAnd t u σ H Q' := fun σ H Q Q' hq h => by
  refine mt _ _ _ _ (fun b H1 h1 => ?_) h
  cases b with
  | true => exact mu _ _ _ _ hq h1
  | false => exact hq _ _ h1
/-- what is none in a heap with one object more was none -/
theorem none_upd {H : Hp} {a b : Addr} {o : HO} (h : upd H a o b = none) : b ≠ a ∧ H b = none := by
  have : b ≠ a := fun z => by rw [z, upd_same] at h; cases h
  exact ⟨this, (upd_ne this).symm.trans h⟩
theorem none_back {H H1 : Hp} {b : Addr} (s : Same H H1) (h : H1 b = none) : H b = none := by
  cases e : H b with
  | none => rfl
  | some o => rw [s b o e] at h; cases h
theorem atI_neg {xs : List V} {i : Nat} {v : V} (hi : i < xs.length) (h : xs[xs.length - 1 - i]? = some v) : atI xs (-1 - (i : Int)) = some v := by
  unfold atI ixN
  rw [if_neg (by omega), if_pos (by omega)]
  show xs[(-1 - (i : Int) + xs.length).toNat]? = _
  rw [show (-1 - (i : Int) + xs.length).toNat = xs.length - 1 - i by omega]
  exact h
/-- how many going back are the turn's -/
def backN (xs ts : List (Option Nat)) : Nat → Nat
  | 0 => 0
  | f + 1 => if xs.getD f none = ts.getD (ts.length - 1 - (xs.length - 1 - f) % ts.length) none then backN xs ts f + 1 else 0
def back (xs ts : List (Option Nat)) : Nat := backN xs ts xs.length
theorem backN_le (xs ts : List (Option Nat)) : ∀ f, backN xs ts f ≤ f
  | 0 => Nat.le_refl _
  | f + 1 => by
    rw [backN]
    split
    · have := backN_le xs ts f; omega
    · omega
section
variable {P : Program} {w : World} {K : PySem.W.Frag} {mg : Str → Option Value} {base : Heap} {E_InvalidNumber E_InvalidList E_InvalidWheel E_CountError : Addr}
def sp_going_back (K : PySem.W.Frag) : Sp := fun vs H Q _ => ∃ (a b : Addr) (xs ts : List (Option Nat)), vs = [.ref a, .ref b] ∧ SqL K H a (xs.map wv) ∧ SqL K H b (ts.map wv) ∧ ts ≠ [] ∧ xs.length ≤ 1000 ∧ ts.length ≤ 1000 ∧ Q (.int (back xs ts : Nat)) H
theorem c_items_going_back (T : Txt K mg E_InvalidNumber E_InvalidList E_InvalidWheel E_CountError) : C8.Cal P w K mg base 1 "items_going_back" (sp_going_back K) [] := by
  refine calF T.d_items_going_back sc_items_going_back (fun vs H Q E h => ?_) (fun f cdv A outer s H vs Q E hr h => ?_)
  · obtain ⟨_, _, _, _, rfl, _⟩ := h; rfl
  · obtain ⟨a, b, xs, ts, rfl, sa, sb, ne, hl, hl2, q⟩ := h
    have n0 := List.length_pos_iff.mpr ne
    refine ⟨_, (pss_cons (ps_set (i := 2) sc_items_going_back.nd rfl (Or.inl rfl) pe_int)
    (pss_cons (ps_while PassesOwn.never (PW.pt (pw_and (pt_cmpR op_lt (pv 2) (pe_callB call_len_seq (by rfl) T.m_len (by decide +kernel) (pa_cons (pv 0) pa_nil)) (nomark _)) (pw_and1 (pt_cmpR op_eq (pe_ix ix_list (pv 0) (pe_op op_sub (pe_un un_neg pe_int) (pv 2)) (fun _ _ => rfl)) (pe_ix ix_list (pv 1) (pe_op op_sub (pe_un un_neg pe_int) (pe_op op_modN (pv 2) (pe_callB call_len_seq (by rfl) T.m_len (by decide +kernel) (pa_cons (pv 1) pa_nil)))) (fun _ _ => rfl)) (nomark _)))))
    (pss_one (ps_aug (i := 2) sc_items_going_back.nd rfl (.inl rfl) pe_int ip_add)))
    (pss_one (ps_ret (pv 2))))), ?_⟩
    refine while_by (fun σ H' => H' = H ∧ ∃ (many : Nat), σ = [some (.ref a), some (.ref b), some (.int (many : Nat))] ∧ many ≤ xs.length ∧ back xs ts = many + backN xs ts (xs.length - many))
      (fun σ _ => match σ with | [_, _, some (.int i)] => xs.length - i.toNat | _ => 0) ⟨rfl, 0, rfl, Nat.zero_le _, by rw [Nat.zero_add]; rfl⟩ (fun σ H' p => ?_) ?_
    · obtain ⟨rfl, many, rfl, hm, e⟩ := p
      refine ⟨_, rfl, _, rfl, a, _, rfl, .inl sa, (many : Int), _, rfl, rfl, _, rfl, ?_⟩
      rw [List.length_map]
      by_cases lt : many < xs.length
      · rw [decide_eq_true (by omega)]
        obtain ⟨x, hx⟩ : ∃ x, x = xs.getD (xs.length - 1 - many) none := ⟨_, rfl⟩
        obtain ⟨y, hy⟩ : ∃ y, y = ts.getD (ts.length - 1 - many % ts.length) none := ⟨_, rfl⟩
        have ml := Nat.mod_lt many n0
        have gx : (xs.map wv)[(xs.map wv).length - 1 - many]? = some (wv x) := by
          rw [List.getElem?_map, List.length_map, hx, List.getD_eq_getElem?_getD, List.getElem?_eq_getElem (by omega)]
          rfl
        have gy : (ts.map wv)[(ts.map wv).length - 1 - many % ts.length]? = some (wv y) := by
          rw [List.getElem?_map, List.length_map, hy, List.getD_eq_getElem?_getD, List.getElem?_eq_getElem (by omega)]
          rfl
        refine iteT ⟨_, rfl, 1, rfl, _, rfl, -1, (many : Int), rfl, rfl, a, _, _, wv x, rfl, rfl, sa, atI_neg (by rw [List.length_map]; omega) gx, _, rfl, 1, rfl, _, rfl, _, rfl, b, _, rfl, .inl sb, (many : Int), _, rfl, rfl, ?_⟩
        rw [List.length_map]
        refine ⟨by omega, -1, ((many % ts.length : Nat) : Int), rfl, by show V.int (Int.fmod (many : Int) (ts.length : Nat)) = _; rw [fmodN], b, _, _, wv y, rfl, rfl, sb, atI_neg (by rw [List.length_map]; omega) gy, scal_wv _ _, _, rfl, ?_⟩
        rw [wv_dec]
        have eb : backN xs ts (xs.length - many) = if x = y then backN xs ts (xs.length - (many + 1)) + 1 else 0 := by
          rw [show xs.length - many = (xs.length - (many + 1)) + 1 by omega, backN, hx, hy, show xs.length - 1 - (xs.length - (many + 1)) = many by omega, show xs.length - (many + 1) = xs.length - 1 - many by omega]
        by_cases exy : x = y
        · rw [if_pos exy] at eb
          rw [decide_eq_true exy]
          refine iteT ⟨_, rfl, (many : Int), 1, rfl, rfl, ⟨rfl, many + 1, rfl, by omega, by rw [e, eb]; omega⟩, ?_⟩
          show xs.length - ((many : Int) + 1).toNat < xs.length - ((many : Nat) : Int).toNat
          omega
        · rw [if_neg exy] at eb
          rw [decide_eq_false exy]
          rw [e, eb] at q
          exact iteF ⟨_, rfl, q⟩
      · rw [decide_eq_false (by omega)]
        have em : many = xs.length := by omega
        rw [e, em, Nat.sub_self] at q
        rw [← em] at q
        exact iteF (iteF ⟨_, rfl, q⟩)
    · refine tAnd_mono (fun σ H' Q1 Q2 hq h => ?_) (fun σ H' Q1 Q2 hq h => ?_)
      · obtain ⟨v1, h1, v2, h2, p, ys, e1, sq, i, j, e2, e3, k, e4, h⟩ := h
        exact ⟨v1, h1, v2, h2, p, ys, e1, sq, i, j, e2, e3, k, e4, hq _ _ h⟩
      · obtain ⟨a1,b1,i1,c1,a2,b2,i2,i3,c2,c3,p1,l1,i4,v1,c4,c5,s1,t1,a3,b3,i5,c6,a4,b4,a5,b5,p2,l2,c7,s2,i6,i7,c8,c9,c10,i8,i9,c11,c12,p3,l3,i10,v2,c13,c14,s3,t3,sc,k,ek,h⟩ := h
        exact ⟨a1,b1,i1,c1,a2,b2,i2,i3,c2,c3,p1,l1,i4,v1,c4,c5,s1,t1,a3,b3,i5,c6,a4,b4,a5,b5,p2,l2,c7,s2,i6,i7,c8,c9,c10,i8,i9,c11,c12,p3,l3,i10,v2,c13,c14,s3,t3,sc,k,ek,hq _ _ h⟩
end
end K49

set_option Elab.async false
set_option linter.all false
set_option maxRecDepth 100000
set_option maxHeartbeats 4000000
namespace K49
open PySem PySem.Spec PyProof.Rows L2 CK SX
def wheelOk : PyData → PyData → Bool
  | .list ds, .list es => !es.isEmpty && (decide (WM.rootN (zW (es.map toW)) = es.length) && decide (back (ds.map toW) (es.map toW) = 0))
  | _, _ => false
def isWheelD : PyData → Bool
  | .tuple [a, b] => isWL a && (isWL b && wheelOk a b)
  | _ => false
def SmW (d : PyData) : Prop := ∀ a b, d = .tuple [a, b] → SmL a ∧ SmL b
theorem len2 {α : Type} {l : List α} (h : l.length = 2) : ∃ a b, l = [a, b] := by
  match l, h with
  | [a, b], _ => exact ⟨a, b, rfl⟩
theorem dpAll2 {K : PySem.W.Frag} {H : Hp} {vs : List V} {a b : PyData} (h : DpAll K H vs [a, b]) : ∃ x y, vs = [x, y] ∧ Dp K H x a ∧ Dp K H y b := by
  cases h with
  | cons h1 t => cases t with
    | cons h2 t => cases t; exact ⟨_, _, rfl, h1, h2⟩
theorem wheel_len2 {ds : List PyData} (h : ¬ ds.length = 2) : isWheelD (.tuple ds) = false := by
  match ds, h with
  | [], _ => rfl
  | [_], _ => rfl
  | [_, _], h => exact absurd rfl h
  | _ :: _ :: _ :: _, _ => rfl
theorem isWL_of {d : PyData} (h : isWL d = true) : ∃ ds, d = .list ds := by
  cases d with
  | list ds => exact ⟨ds, rfl⟩
  | _ => exact absurd h Bool.false_ne_true
theorem toW_dW {o : Option Nat} : toW (dW o) = o := by cases o <;> rfl
theorem map_toW (xs : List (Option Nat)) : (xs.map dW).map toW = xs := by
  rw [List.map_map]
  conv => rhs; rw [← List.map_id xs]
  exact List.map_congr_left fun o _ => toW_dW
section
variable {P : Program} {w : World} {K : PySem.W.Frag} {mg : Str → Option Value} {base : Heap} {E_InvalidNumber E_InvalidList E_InvalidWheel E_CountError : Addr}
def sp_is_wheel (K : PySem.W.Frag) : Sp := fun vs H Q _ => ∃ v d, vs = [v] ∧ Dp K H v d ∧ SmW d ∧ ∀ H', Same H H' → Q (.bl (isWheelD d)) H'
abbrev FR (K : PySem.W.Frag) (f : Addr) (fd : FuncData) := FunD K "is_wheel" "is_wheel" (C8.fnArgs (topS 18)) (C8.fnBody (topS 18)) (C8.fnScope (topS 18)) [] [] f fd
theorem ok_is_wheel (T : Txt K mg E_InvalidNumber E_InvalidList E_InvalidWheel E_CountError) {f : Addr} {fd : FuncData} (F : FR K f fd) : FnOk P w K mg base C8.CX0 4 f fd ["value"] (sp_is_wheel K) := by
  refine C8.fn0 (fun_of F) sc_is_wheel (fun vs H Q E h => ?_) (fun cdv A outer s H vs Q E hr h => ?_)
  · obtain ⟨_, _, rfl, _⟩ := h; rfl
  · obtain ⟨v, d, rfl, dv, sm, q⟩ := h
    refine ⟨_, (pss_cons (ps_if (PW.pt (pw_or (pt_not (pt_val (pe_callB call_isD (by rfl) T.m_isinstance (by decide +kernel) (pa_cons (pv 0) (pa_cons (pe_bltn (v := .ty "tuple") (by rfl) T.m_tuple (by decide +kernel) rfl) pa_nil))))) (pw_or1 (pt_cmpR op_ne (pe_callB call_len_seq (by rfl) T.m_len (by decide +kernel) (pa_cons (pv 0) pa_nil)) pe_int (nomark _)))))
    (pss_one (ps_ret pe_bl))
    pss_nil)
    (pss_cons (ps_asg (pv 0) (pg_two (K := K) (i := 1) (j := 2) rfl rfl sc_is_wheel.nd rfl rfl (Or.inl rfl) (Or.inl rfl)))
    (pss_cons (ps_if (PW.pt (pw_or (pt_not (pt_val (C8.pe_c (c_is_wheel_list T) hr (by decide) (by rfl) (pa_cons (pv 1) pa_nil)))) (pw_or (pt_not (pt_val (C8.pe_c (c_is_wheel_list T) hr (by decide) (by rfl) (pa_cons (pv 2) pa_nil)))) (pw_or1 (pt_not (pt_truth (pv 2) (by intro _; rfl)))))))
    (pss_one (ps_ret pe_bl))
    pss_nil)
    (pss_one (ps_ret (pe_and (pe_cmpR op_eq (C8.pe_c (c_turn_root T) hr (by decide) (by rfl) (pa_cons (pv 2) pa_nil)) (pe_callB call_len_seq (by rfl) T.m_len (by decide +kernel) (pa_cons (pv 2) pa_nil)) (nomark _)) (pe_one (pe_notT (C8.pe_c (c_items_going_back T) hr (by decide) (by rfl) (pa_cons (pv 1) (pa_cons (pv 2) pa_nil))))))))))), ?_⟩
    refine ⟨_, rfl, v, d, _, _, rfl, dv, kitd_tuple d, _, rfl, ?_⟩
    cases dv with
    | tup sq da =>
      rename_i a xs ds
      have hl := dpAll_len da
      refine iteF ⟨_, rfl, a, xs, rfl, .inr sq, rfl, _, rfl, ?_⟩
      rw [hl]
      by_cases h3 : ds.length = 2
      · obtain ⟨d1, d2, rfl⟩ : ∃ d1 d2, ds = [d1, d2] := len2 h3
        obtain ⟨v1, v2, rfl, p1, p2⟩ := dpAll2 da
        obtain ⟨sm1, sm2⟩ := sm d1 d2 rfl
        refine iteF ⟨_, rfl, a, _, rfl, sq, rfl, v1, [v2], rfl, v2, [], rfl, rfl, ?_⟩
        have eq0 : isWheelD (.tuple [d1, d2]) = (isWL d1 && (isWL d2 && wheelOk d1 d2)) := rfl
        rw [eq0] at q
        refine ⟨_, rfl, v1, d1, rfl, p1, sm1, fun H1 s1 => ⟨_, rfl, ?_⟩⟩
        by_cases e1 : isWL d1 = true
        · rw [e1] at q ⊢
          refine iteF ⟨_, rfl, v2, d2, rfl, dp_same s1 _ _ p2, sm2, fun H2 s2 => ⟨_, rfl, ?_⟩⟩
          have s12 := s1.trans s2
          by_cases e2 : isWL d2 = true
          · rw [e2] at q ⊢
            refine iteF ?_
            obtain ⟨es1, rfl⟩ := isWL_of e1
            obtain ⟨es2, rfl⟩ := isWL_of e2
            cases p1 with
            | lst sq1 da1 =>
              cases p2 with
              | lst sq2 da2 =>
                rename_i b1 us1 b2 us2
                obtain ⟨xs, rfl, rfl, itx⟩ := wl_of e1 da1
                obtain ⟨ts, rfl, rfl, itt⟩ := wl_of e2 da2
                have lx := (sm1 _ rfl).1
                have lt := (sm2 _ rfl).1
                rw [List.length_map] at lx lt
                have eW : wheelOk (.list (xs.map dW)) (.list (ts.map dW)) = (!ts.isEmpty && (decide (WM.rootN (zW ts) = ts.length) && decide (back xs ts = 0))) := by
                  show (!(ts.map dW).isEmpty && (decide (WM.rootN (zW ((ts.map dW).map toW)) = (ts.map dW).length) && decide (back ((xs.map dW).map toW) ((ts.map dW).map toW) = 0))) = _
                  rw [map_toW, map_toW, List.length_map, List.isEmpty_map]
                rw [eW] at q
                refine ⟨_, rfl, !(ts.map wv).isEmpty, .inl ⟨_, sqL_same s12 sq2, rfl⟩, ?_⟩
                rw [List.isEmpty_map]
                cases et : ts.isEmpty with
                | true =>
                  rw [et] at q
                  exact iteT (q _ s12)
                | false =>
                  rw [et] at q
                  have ne : ts ≠ [] := fun z => by rw [z] at et; cases et
                  refine iteF ⟨_, rfl, b2, ts, rfl, sqL_same s12 sq2, ne, lt, itt, fun H3 s3 => ?_⟩
                  have s13 := s12.trans s3
                  refine ⟨_, rfl, b2, _, rfl, .inl (sqL_same s13 sq2), rfl, _, rfl, ?_⟩
                  rw [List.length_map]
                  by_cases e4 : WM.rootN (zW ts) = ts.length
                  · rw [decide_eq_true e4] at q
                    rw [decide_eq_true (by rw [e4])]
                    refine iteT ⟨_, rfl, _, rfl, b1, b2, xs, ts, rfl, sqL_same s13 sq1, sqL_same s13 sq2, ne, lx, lt, _, rfl, ?_⟩
                    have q := q _ s13
                    by_cases e5 : back xs ts = 0
                    · rw [decide_eq_true e5] at q
                      rw [e5]
                      exact q
                    · rw [decide_eq_false e5] at q
                      rw [show ((((back xs ts : Nat) : Int)) != 0) = true by rw [bne_iff_ne]; omega]
                      exact q
                  · rw [decide_eq_false e4] at q
                    rw [decide_eq_false (fun z => e4 (by have := V.int.inj z; omega))]
                    exact iteF (q _ s13)
          · rw [Bool.eq_false_iff.mpr e2] at q ⊢
            exact iteT (iteT (q _ s12))
        · rw [Bool.eq_false_iff.mpr e1] at q ⊢
          exact iteT (iteT (q _ s1))
      · rw [decide_eq_false (fun z => h3 (by have := V.int.inj z; omega))]
        refine iteT ?_
        rw [wheel_len2 h3] at q
        exact q _ (Same.refl _)
    | _ => exact iteT (iteT (q _ (Same.refl _)))
theorem c_is_wheel (T : Txt K mg E_InvalidNumber E_InvalidList E_InvalidWheel E_CountError) : C8.Cal P w K mg base 4 "is_wheel" (sp_is_wheel K) [] := by
  obtain ⟨f, fd, F, hm⟩ := T.d_is_wheel.ex
  refine ⟨f, fd, _, [], ok_is_wheel T F, hm, F.kp, F.bindsN fun kV doc pm an cdv ct us hl => ?_, .nil⟩
  match us, hl with
  | [u], _ => rfl
theorem c_is_wheel_K_value (T : Txt K mg E_InvalidNumber E_InvalidList E_InvalidWheel E_CountError) : CalN P w K mg base 4 "is_wheel" ["value"] (sp_is_wheel K) (fun vs zs => vs ++ zs) := by
  obtain ⟨f, fd, F, hm⟩ := T.d_is_wheel.ex
  refine ⟨f, fd, ["value"], _, ok_is_wheel T F, hm, F.kp, FunD.kbindsN F 0 ["value"] (fun us ws => us ++ ws) (fun r1 r2 => r1.append r2) fun kV doc pm an cdv ct us ws l1 l2 => ?_⟩
  match us, l1, ws, l2 with
  | [], _, [u], _ => rfl
end
end K49

set_option Elab.async false
set_option linter.all false
set_option maxRecDepth 100000
set_option maxHeartbeats 4000000
namespace K49
open PySem PySem.Spec PyProof.Rows L2 CK
section
variable {P : Program} {w : World} {K : PySem.W.Frag} {mg : Str → Option Value} {base : Heap} {E_InvalidNumber E_InvalidList E_InvalidWheel E_CountError : Addr}
/-! ### the law's own defs -/
theorem fm0 {i j : Int} (h : 0 < j) : 0 ≤ i.fmod j := Int.fmod_nonneg_of_pos i h
theorem fm1 {i j : Int} (h : 0 < j) : i.fmod j < j := Int.fmod_lt_of_pos i h
theorem ab {i : Int} {k : Nat} (h0 : 0 ≤ i) (h : i < 2 ^ k) : i.natAbs < 2 ^ k := by
  have e : ((2 ^ k : Nat) : Int) = 2 ^ k := by simp
  omega
def sp_hash : Sp := fun vs H Q _ => ∃ s i : Int, vs = [.int s, .int i] ∧ 0 ≤ s ∧ s < 2 ^ 31 ∧ 0 ≤ i ∧ i < 2 ^ 41 ∧ ∀ r : Int, 0 ≤ r → r < 2 ^ 31 → Q (.int r) H
theorem c_law_hash (T : Txt K mg E_InvalidNumber E_InvalidList E_InvalidWheel E_CountError) : C8.Cal P w K mg base 1 "_law_hash" sp_hash [] := by
  refine calF T.d_law_hash sc_law_hash (fun vs H Q E h => ?_) (fun f cdv A outer s H vs Q E hr h => ?_)
  · obtain ⟨_, _, rfl, _⟩ := h; rfl
  · obtain ⟨z, i, rfl, h0, h1, h2, h3, q⟩ := h
    refine ⟨_, (pss_cons (ps_set (i := 2) sc_law_hash.nd rfl (Or.inl rfl) (pe_op op_modN (pe_callTy call_int1 (by rfl) T.m_int (by decide +kernel) (pa_cons (pe_op op_add (pe_op op_add (pe_op op_add (pe_op op_mulW (pv 0) pe_int) (pe_op op_mulW (pe_op op_mulW pe_int (pv 1)) (pv 1))) (pe_op op_mulW pe_int (pv 1))) pe_int) pa_nil)) pe_int))
    (pss_cons (ps_set (i := 2) sc_law_hash.nd rfl (Or.inl rfl) (pe_op op_modN (pe_callTy call_int1 (by rfl) T.m_int (by decide +kernel) (pa_cons (pe_op op_add (pe_op op_add (pe_op op_mulW (pv 2) (pv 2)) (pe_op op_mulW pe_int (pv 1))) pe_int) pa_nil)) pe_int))
    (pss_one (ps_ret (pe_op op_modN (pe_callTy call_int1 (by rfl) T.m_int (by decide +kernel) (pa_cons (pe_op op_mulW (pv 2) pe_int) pa_nil)) pe_int))))), ?_⟩
    have a1 : z.natAbs < 2 ^ 100 := ab h0 (by omega)
    have a2 : i.natAbs < 2 ^ 100 := ab h2 (by omega)
    have a3 : ((104729 : Int)).natAbs < 2 ^ 100 := by decide
    have a4 := wide_lt a3 a2
    refine ⟨_, rfl, z, _, rfl, rfl, wide_mul a1 (show ((1299709 : Int)).natAbs < 2 ^ 100 by decide) (by decide) (by decide) (by decide), ?_⟩
    refine ⟨_, rfl, _, i, rfl, rfl, wide_mul a3 a2 (by decide) (by decide) (by decide), _, rfl, _, i, rfl, rfl, wide_mul a4 a2 (by decide) (by decide) (by decide), _, _, rfl, rfl, ?_⟩
    refine ⟨_, rfl, _, i, rfl, rfl, wide_mul (show ((31 : Int)).natAbs < 2 ^ 100 by decide) a2 (by decide) (by decide) (by decide), _, _, rfl, rfl, _, _, rfl, rfl, .inl ⟨_, rfl, _, _, rfl, rfl, (by decide : (2147483629 : Int) ≠ 0), ?_⟩⟩
    obtain ⟨m, hm⟩ : ∃ m, (z * 1299709 + 104729 * i * i + 31 * i + 7).fmod 2147483629 = m := ⟨_, rfl⟩
    have m0 : 0 ≤ m := by rw [← hm]; exact fm0 (by decide)
    have m1 : m < 2147483629 := by rw [← hm]; exact fm1 (by decide)
    have a5 : m.natAbs < 2 ^ 100 := ab m0 (by omega)
    refine ⟨_, rfl, _, rfl, m, m, congrArg V.int hm, congrArg V.int hm, wide_mul a5 a5 (by decide) (by decide) (by decide), ?_⟩
    refine ⟨_, rfl, _, i, rfl, rfl, wide_mul (show ((48271 : Int)).natAbs < 2 ^ 100 by decide) a2 (by decide) (by decide) (by decide), _, _, rfl, rfl, _, _, rfl, rfl, .inl ⟨_, rfl, _, _, rfl, rfl, (by decide : (2147483587 : Int) ≠ 0), ?_⟩⟩
    obtain ⟨k, hk⟩ : ∃ k, (m * m + 48271 * i + 15485863).fmod 2147483587 = k := ⟨_, rfl⟩
    have k0 : 0 ≤ k := by rw [← hk]; exact fm0 (by decide)
    have k1 : k < 2147483587 := by rw [← hk]; exact fm1 (by decide)
    have a6 : k.natAbs < 2 ^ 100 := ab k0 (by omega)
    refine ⟨_, rfl, k, _, congrArg V.int hk, rfl, wide_mul a6 (show ((69621 : Int)).natAbs < 2 ^ 100 by decide) (by decide) (by decide) (by decide), .inl ⟨_, rfl, _, _, rfl, rfl, (by decide : (2147483647 : Int) ≠ 0), ?_⟩⟩
    exact q _ (fm0 (by decide)) (Int.lt_trans (fm1 (by decide)) (by decide))
def sp_random : Sp := fun vs H Q _ => ∃ (g : Addr) (b : Int) (n : Nat), vs = [.ref g, .int b] ∧ Gn (n + 1) H g ∧ 1 ≤ b ∧ b < 2 ^ 200 ∧ ∀ (r : Int) H', SameX g H H' → Gn n H' g → 0 ≤ r → r < b → Q (.int r) H'
theorem pow32 (i : Nat) : (2 : Int) ^ (32 * (i + 1)) = 2 ^ (32 * i) * 4294967296 := by
  rw [Nat.mul_add, Int.pow_add]
  rfl
theorem pow_ge1 (i : Nat) : (1 : Int) ≤ 2 ^ i := by
  have := Int.pow_pos (n := 2) (m := i) (by decide)
  omega
theorem c_law_random (T : Txt K mg E_InvalidNumber E_InvalidList E_InvalidWheel E_CountError) : C8.Cal P w K mg base 2 "_law_random" sp_random [] := by
  refine calF T.d_law_random sc_law_random (fun vs H Q E h => ?_) (fun f cdv A outer s H vs Q E hr h => ?_)
  · obtain ⟨_, _, _, rfl, _⟩ := h; rfl
  · obtain ⟨g, b, n, rfl, G, hb, hb2, q⟩ := h
    refine ⟨_, (pss_cons (ps_if (pt_cmpR op_gt (pe_ix ix_list (pv 0) pe_int (fun _ _ => rfl)) pe_int (nomark _))
    (pss_cons (ps_set (i := 2) sc_law_random.nd rfl (Or.inl rfl) (pe_op op_modN (pe_callTy call_int1 (by rfl) T.m_int (by decide +kernel) (pa_cons (pe_ix ix_list (pv 0) pe_int (fun _ _ => rfl)) pa_nil)) (pv 1)))
    (pss_cons (ps_asg (pe_op op_fdivW (pe_ix ix_list (pv 0) pe_int (fun _ _ => rfl)) (pv 1)) (pg_sub (pv 0) pe_int set_list))
    (pss_one (ps_ret (pv 2)))))
    pss_nil)
    (pss_cons (ps_set (i := 2) sc_law_random.nd rfl (Or.inl rfl) pe_int)
    (pss_cons (ps_for PassesOwn.never rfl (pi_range1 (by rfl) T.m_range (pa_cons (pe_op op_add pe_int (pe_op op_fdivW (pe_bits (pv 1)) pe_int)) pa_nil)) (pg_name (i := 3) sc_law_random.nd rfl (Or.inl rfl))
    (pss_cons (ps_asg (pe_op op_add (pe_ix ix_list (pv 0) pe_int (fun _ _ => rfl)) pe_int) (pg_sub (pv 0) pe_int set_list))
    (pss_one (ps_set (i := 2) sc_law_random.nd rfl (Or.inl rfl) (pe_op op_add (pe_op op_mulW (pv 2) pe_int) (C8.pe_c (c_law_hash T) hr (by decide) (by rfl) (pa_cons (pe_ix ix_list (pv 0) pe_int (fun _ _ => rfl)) (pa_cons (pe_ix ix_list (pv 0) pe_int (fun _ _ => rfl)) pa_nil))))))))
    (pss_one (ps_ret (pe_op op_modN (pe_callTy call_int1 (by rfl) T.m_int (by decide +kernel) (pa_cons (pv 2) pa_nil)) (pv 1))))))), ?_⟩
    obtain ⟨x, y, c, hg, x0, y0, y1, c0, c1⟩ := G
    refine ⟨_, rfl, g, _, 0, .int x, rfl, rfl, .inl (.inl hg), atI_nat (j := 0) rfl, x, 0, rfl, rfl, _, rfl, ite2 (fun e => ?_) (fun e => ?_)⟩
    · -- a digit
      refine ⟨_, rfl, g, _, 0, .int x, rfl, rfl, .inl (.inl hg), atI_nat (j := 0) rfl, .inl ⟨x, rfl, _, rfl, x, b, rfl, rfl, by omega, ?_⟩⟩
      refine ⟨_, rfl, g, _, 0, .int x, rfl, rfl, .inl (.inl hg), atI_nat (j := 0) rfl, _, rfl, x, b, rfl, rfl, wide_div (b := 200) (by omega) (ab (by omega) hb2) (by decide) (by decide), _, rfl, g, _, 0, 0, rfl, rfl, hg, rfl, ?_⟩
      exact ⟨_, rfl, q _ _ sameX_upd ⟨x / b, y, c, upd_same, Int.ediv_nonneg x0 (by omega), y0, y1, c0, by omega⟩ (fm0 (by omega)) (fm1 (by omega))⟩
    · -- by the hash
      have ib : Builtin.Int.intBits b ≤ 200 := intBits_le (ab (by omega) hb2)
      have tn : (1 + ((Builtin.Int.intBits b : Nat) : Int) / 30).toNat ≤ 7 := by omega
      refine ⟨_, rfl, b, rfl, _, _, rfl, rfl, wide_div (b := 200) (by decide) (by decide) (by decide) (by decide), _, _, rfl, rfl, _, rfl, by omega, by omega, ?_⟩
      refine for_it walk_range (fun i σ H3 => ∃ (d : Int) (y3 : Option V) (c3 : Int), σ = [some (.ref g), some (.int b), some (.int d), y3] ∧ SameX g H H3 ∧ H3 g = some (.lst [.int x, .int y, .int c3]) ∧ c3 = c + i ∧ 0 ≤ d ∧ d < 2 ^ (32 * i) ∧ i ≤ 7)
        ⟨0, none, c, rfl, .refl _ _, hg, by simp, Int.le_refl _, by decide, by decide⟩ (fun _ _ _ _ _ => True.intro) (fun i v σ H3 H4 hi p yy => ?_) fun σ H3 p => ?_
      · obtain ⟨d, y3, c3, rfl, s3, g3, ec, d0, d1, i7⟩ := p
        obtain ⟨rfl, rfl⟩ := yy
        have i6 : i ≤ 6 := by omega
        have u1 : (upd H4 g (.lst [.int x, .int y, .int (c3 + 1)])) g = some (.lst [.int x, .int y, .int (c3 + 1)]) := upd_same
        refine ⟨_, rfl, g, _, 2, .int c3, rfl, rfl, .inl (.inl g3), atI_nat (j := 2) rfl, _, _, rfl, rfl, _, rfl, g, _, 2, 2, rfl, rfl, g3, rfl, ?_⟩
        have ad : d.natAbs < 2 ^ (32 * i + 1) := ab d0 (Int.lt_of_lt_of_le d1 (by rw [Int.pow_succ]; have := pow_ge1 (32 * i); omega))
        refine ⟨_, rfl, d, _, rfl, rfl, wide_mul ad (show ((2147483587 : Int)).natAbs < 2 ^ 100 by decide) (by omega) (by decide) (by omega), ?_⟩
        refine ⟨_, rfl, g, _, 1, .int y, rfl, rfl, .inl (.inl u1), atI_nat (j := 1) rfl, _, rfl, g, _, 2, .int (c3 + 1), rfl, rfl, .inl (.inl u1), atI_nat (j := 2) rfl, y, c3 + 1, rfl, y0, y1, by omega, by omega, fun r r0 r1 => ⟨_, _, rfl, rfl, ?_⟩⟩
        refine ⟨_, _, c3 + 1, rfl, fun z o nz e => by rw [upd_ne nz]; exact s3 z o nz e, u1, by omega, by have : 0 ≤ d * 2147483587 := Int.mul_nonneg d0 (by decide); omega, ?_, by omega⟩
        rw [pow32]
        have := pow_ge1 (32 * i)
        omega
      · obtain ⟨d, y3, c3, rfl, s3, g3, ec, d0, d1, i7⟩ := p
        refine ⟨_, rfl, .inl ⟨d, rfl, _, rfl, d, b, rfl, rfl, by omega, ?_⟩⟩
        exact q _ _ s3 ⟨x, y, c3, g3, x0, y0, y1, by omega, by omega⟩ (fm0 (by omega)) (fm1 (by omega))
def sp_generator (K : PySem.W.Frag) : Sp := fun vs H Q _ => ∃ (a : Addr) (ns : List Int) (i : Nat), vs = [.ref a, .int i] ∧ SqL K H a (ns.map V.int) ∧ i ≤ 10 ∧ ∀ g H1 H', Same H H1 → H1 g = none → Same H1 H' → Gn 100000 H' g → Q (.ref g) H'
theorem c_law_generator (T : Txt K mg E_InvalidNumber E_InvalidList E_InvalidWheel E_CountError) : C8.Cal P w K mg base 2 "_law_generator" (sp_generator K) [] := by
  refine calF T.d_law_generator sc_law_generator (fun vs H Q E h => ?_) (fun f cdv A outer s H vs Q E hr h => ?_)
  · obtain ⟨_, _, _, rfl, _⟩ := h; rfl
  · obtain ⟨a, ns, i, rfl, ha, hi, q⟩ := h
    refine ⟨_, (pss_cons (ps_set (i := 2) sc_law_generator.nd rfl (Or.inl rfl) (pe_ifExp (pt_cmpR op_lt (pv 1) (pe_callB call_len_seq (by rfl) T.m_len (by decide +kernel) (pa_cons (pv 0) pa_nil)) (nomark _)) (pe_ix ix_list (pv 0) (pv 1) (fun _ _ => rfl)) (pe_op op_modN (pe_callB (cr_sum rfl) (by rfl) T.m_sum (by decide +kernel) (pa_cons (pe_slice sl_list (pv 0) po_none (po_some pe_int)) pa_nil)) pe_int)))
    (pss_one (ps_ret (pe_lst (pa_cons (pe_op op_modN (pe_callTy call_int1 (by rfl) T.m_int (by decide +kernel) (pa_cons (pe_callB (call_max2 rfl) (by rfl) T.m_max (by decide +kernel) (pa_cons (pe_op op_sub (pv 2) (pe_op op_powB pe_int pe_int)) (pa_cons pe_int pa_nil))) pa_nil)) (pe_op op_powB (pe_op op_powB pe_int pe_int) pe_int)) (pa_cons (pe_op op_modN (pe_callTy call_int1 (by rfl) T.m_int (by decide +kernel) (pa_cons (pv 2) pa_nil)) pe_int) (pa_cons (pe_op op_mulW pe_int (pv 1)) pa_nil))))))), ?_⟩
    refine ⟨_, rfl, _, rfl, a, _, rfl, .inl ha, _, _, rfl, rfl, _, rfl, ite2 (fun e => ?_) (fun e => ?_)⟩
    · have e' := of_decide_eq_true e
      rw [List.length_map] at e'
      have hi' : i < ns.length := by omega
      obtain ⟨H1, s1, eH⟩ : ∃ H1, Same H H1 ∧ H1 = H := ⟨H, Same.refl _, rfl⟩
      refine ⟨_, rfl, _, rfl, a, _, i, .int ns[i], rfl, rfl, ha, atI_nat (by rw [List.getElem?_map, List.getElem?_eq_getElem hi']; rfl), ?_⟩
      rw [← eH]
      refine ⟨_, rfl, _, _, rfl, rfl, ⟨by decide, by decide⟩, _, _, rfl, rfl, _, _, rfl, .inl ⟨_, rfl, _, _, rfl, rfl, ⟨by decide, by decide⟩, _, _, rfl, rfl, ⟨by decide, by decide⟩, _, _, rfl, rfl, (by decide : ((10 : Int) ^ Int.toNat 60) ^ Int.toNat 10 ≠ 0), ?_⟩⟩
      refine ⟨_, rfl, .inl ⟨_, rfl, _, _, rfl, rfl, (by decide : (2147483647 : Int) ≠ 0), ?_⟩⟩
      refine ⟨_, rfl, _, _, rfl, rfl, wide_mul (show ((1000 : Int)).natAbs < 2 ^ 100 by decide) (show ((i : Int)).natAbs < 2 ^ 100 by omega) (by decide) (by decide) (by decide), by show 3 ≤ sizeLine; decide, fun g hg => ?_⟩
      refine q g H1 _ s1 hg (sameNew hg) ⟨_, _, _, upd_same, fm0 (by decide), fm0 (by decide), Int.lt_trans (fm1 (by decide)) (by decide), by omega, by omega⟩
    · refine ⟨_, rfl, 1, rfl, a, _, rfl, ha, fun p hp => ?_⟩
      refine ⟨p, ns.take 1, rfl, .inl (.inl (by rw [upd_same, show ((1 : Int)) = ((1 : Nat) : Int) from rfl, cutV_take, List.map_take])), _, _, rfl, rfl, (by decide : (1000003 : Int) ≠ 0), ?_⟩
      generalize eH : upd H p _ = H1
      have s1 : Same H H1 := by rw [← eH]; exact sameNew hp
      refine ⟨_, rfl, _, _, rfl, rfl, ⟨by decide, by decide⟩, _, _, rfl, rfl, _, _, rfl, .inl ⟨_, rfl, _, _, rfl, rfl, ⟨by decide, by decide⟩, _, _, rfl, rfl, ⟨by decide, by decide⟩, _, _, rfl, rfl, (by decide : ((10 : Int) ^ Int.toNat 60) ^ Int.toNat 10 ≠ 0), ?_⟩⟩
      refine ⟨_, rfl, .inl ⟨_, rfl, _, _, rfl, rfl, (by decide : (2147483647 : Int) ≠ 0), ?_⟩⟩
      refine ⟨_, rfl, _, _, rfl, rfl, wide_mul (show ((1000 : Int)).natAbs < 2 ^ 100 by decide) (show ((i : Int)).natAbs < 2 ^ 100 by omega) (by decide) (by decide) (by decide), by show 3 ≤ sizeLine; decide, fun g hg => ?_⟩
      refine q g H1 _ s1 hg (sameNew hg) ⟨_, _, _, upd_same, fm0 (by decide), fm0 (by decide), Int.lt_trans (fm1 (by decide)) (by decide), by omega, by omega⟩
end
end K49

set_option Elab.async false
set_option linter.all false
set_option maxRecDepth 100000
set_option maxHeartbeats 4000000
namespace K49
open PySem PySem.Spec PyProof.Rows L2 CK SX
/-- a turn's root, turned back -/
def rotW (ts : List (Option Nat)) (size b : Nat) : List (Option Nat) := (List.range size).map fun i : Nat => ts.getD (((i : Int) - (b : Nat)).fmod (size : Nat)).toNat none
/-- the value of a wheel at a count -/
def valW (xs ts : List (Option Nat)) (n : Nat) : Option Nat := if n < xs.length then xs.getD n none else ts.getD ((n - xs.length) % ts.length) none
/-- a wheel in the heap -/
def WhH (H : Hp) (r : Addr) (xs ts : List (Option Nat)) : Prop := ∃ l1 l2, H r = some (.tup [.ref l1, .ref l2]) ∧ H l1 = some (.lst (xs.map wv)) ∧ H l2 = some (.lst (ts.map wv))
theorem WhH.same {H H' : Hp} {r : Addr} {xs ts : List (Option Nat)} (h : WhH H r xs ts) (k : Same H H') : WhH H' r xs ts := by
  obtain ⟨l1, l2, h1, h2, h3⟩ := h
  exact ⟨l1, l2, k _ _ h1, k _ _ h2, k _ _ h3⟩
def isTL : PyData → Bool
  | .list ds => ds.all isItem && !ds.isEmpty
  | _ => false
def dWh (xs ts : List (Option Nat)) : PyData := .tuple [.list (xs.map dW), .list (ts.map dW)]
theorem WhH.dp {K : PySem.W.Frag} {H : Hp} {r : Addr} {xs ts : List (Option Nat)} (h : WhH H r xs ts) : Dp K H (.ref r) (dWh xs ts) := by
  obtain ⟨l1, l2, h1, h2, h3⟩ := h
  exact .tup (.inl (.inl h1)) (.cons (.lst (.inl (.inl h2)) (dpAll_wv xs)) (.cons (.lst (.inl (.inl h3)) (dpAll_wv ts)) .nil))
/-- what least_wheel gives -/
def lstW (xs ts : List (Option Nat)) : List (Option Nat) × List (Option Nat) := (xs.take (xs.length - back xs ts), rotW ts (WM.rootN (zW ts)) (back xs ts))
section
variable {P : Program} {w : World} {K : PySem.W.Frag} {mg : Str → Option Value} {base : Heap} {E_InvalidNumber E_InvalidList E_InvalidWheel E_CountError : Addr}
def sp_need_count (K : PySem.W.Frag) (E2 : Addr) : Sp := fun vs H Q E => ∃ v d, vs = [v] ∧ Dp K H v d ∧ if isCnt d = true then Q .non H else ∀ e, H e = none → E (.ref E2) (some e) (upd H e (.xd [("value", v)]))
theorem x_need_count (T : Txt K mg E_InvalidNumber E_InvalidList E_InvalidWheel E_CountError) : CalX P w K mg base 3 "need_count" (sp_need_count K E_InvalidNumber) := by
  refine calX T.d_need_count sc_need_count (fun vs H Q E h => ?_) (fun f cdv A outer s H vs Q E hr h => ?_)
  · obtain ⟨_, _, rfl, _⟩ := h; rfl
  · obtain ⟨v, d, rfl, dv, q⟩ := h
    refine ⟨_, (pss_one (ps_if (pt_not (pt_val (C8.pe_c (c_is_count T) hr (by decide) (by rfl) (pa_cons (pv 0) pa_nil))))
    (pss_one (ps_raiseE T.x_InvalidNumber rfl (takes_of rfl rfl rfl rfl) hr (by decide) (by rfl) (pv 0)))
    pss_nil)), ?_⟩
    refine ⟨_, rfl, v, d, rfl, dv, _, rfl, ?_⟩
    by_cases e : isCnt d = true
    · rw [e] at q ⊢
      exact iteF q
    · rw [Bool.eq_false_iff.mpr e] at q ⊢
      exact iteT ⟨_, rfl, fun e he => q e he⟩
def sp_least (K : PySem.W.Frag) (E1 : Addr) : Sp := fun vs H Q E => ∃ v1 v2 d1 d2, vs = [v1, v2] ∧ Dp K H v1 d1 ∧ Dp K H v2 d2 ∧ SmL d1 ∧ SmL d2 ∧
  ((isWL d1 = false ∧ ∀ H' x, Same H H' → H' x = some (.xd [("value", v1)]) → E (.ref E1) (some x) H') ∨
   (isWL d1 = true ∧ isTL d2 = false ∧ ∀ H' x, Same H H' → H' x = some (.xd [("value", v2)]) → E (.ref E1) (some x) H') ∨
   (∃ (a b : Addr) (xs ts : List (Option Nat)), v1 = .ref a ∧ v2 = .ref b ∧ d1 = .list (xs.map dW) ∧ d2 = .list (ts.map dW) ∧ H a = some (.lst (xs.map wv)) ∧ H b = some (.lst (ts.map wv)) ∧ ts ≠ [] ∧ (∀ o ∈ xs, ItO o) ∧ (∀ o ∈ ts, ItO o) ∧
     ∀ l1 l2 r H', Same H H' → H l1 = none → H l2 = none → H r = none → l1 ≠ l2 → H' r = some (.tup [.ref l1, .ref l2]) → H' l1 = some (.lst ((lstW xs ts).1.map wv)) → H' l2 = some (.lst ((lstW xs ts).2.map wv)) → Q (.ref r) H'))
abbrev FT (K : PySem.W.Frag) (f : Addr) (fd : FuncData) := FunD K "least_wheel" "least_wheel" (C8.fnArgs (topS 19)) (C8.fnBody (topS 19)) (C8.fnScope (topS 19)) [] [] f fd
theorem xk_least_wheel (T : Txt K mg E_InvalidNumber E_InvalidList E_InvalidWheel E_CountError) {f : Addr} {fd : FuncData} (F : FT K f fd) : FnOk P w K mg base (L2.CX P w) 4 f fd ["first", "turn"] (sp_least K E_InvalidList) := by
  refine fnX_of (fun_of F) sc_least_wheel (fun vs H Q E h => ?_) (fun cdv A outer s H vs Q E hr h => ?_)
  · obtain ⟨_, _, _, _, rfl, _⟩ := h; rfl
  · obtain ⟨v1, v2, d1, d2, rfl, p1, p2, sm1, sm2, q⟩ := h
    refine ⟨_, (pss_cons (ps_if (pt_not (pt_val (C8.pe_c (c_is_wheel_list T) hr (by decide) (by rfl) (pa_cons (pv 0) pa_nil))))
    (pss_one (ps_raiseE T.x_InvalidList rfl (takes_of rfl rfl rfl rfl) hr (by decide) (by rfl) (pv 0)))
    pss_nil)
    (pss_cons (ps_if (PW.pt (pw_or (pt_not (pt_val (C8.pe_c (c_is_wheel_list T) hr (by decide) (by rfl) (pa_cons (pv 1) pa_nil)))) (pw_or1 (pt_not (pt_truth (pv 1) (by intro _; rfl))))))
    (pss_one (ps_raiseE T.x_InvalidList rfl (takes_of rfl rfl rfl rfl) hr (by decide) (by rfl) (pv 1)))
    pss_nil)
    (pss_cons (ps_set (i := 2) sc_least_wheel.nd rfl (Or.inr rfl) (C8.pe_c (c_turn_root T) hr (by decide) (by rfl) (pa_cons (pv 1) pa_nil)))
    (pss_cons (ps_set (i := 3) sc_least_wheel.nd rfl (Or.inr rfl) (C8.pe_c (c_items_going_back T) hr (by decide) (by rfl) (pa_cons (pv 0) (pa_cons (pv 1) pa_nil))))
    (pss_one (ps_ret (pe_tup (pa_cons (pe_slice sl_list (pv 0) po_none (po_some (pe_op op_sub (pe_callB call_len_seq (by rfl) T.m_len (by decide +kernel) (pa_cons (pv 0) pa_nil)) (pv 3)))) (pa_cons (pe_lc (own := [("at", 4)]) (by rfl) sc_least_wheel.nd (pi_range1 (by rfl) T.m_range (pa_cons (pv 2) pa_nil)) (blkOk_by (N := ["first", "turn", "size", "back", "at"]) (sc := C8.fnScope (topS 19)) (own := [("at", 4)]) (by decide +kernel)) (fun _ _ _ _ _ => (pg_name (i := 4) sc_least_wheel.nd rfl (Or.inl rfl))) (fun _ _ _ _ _ => pts_nil) (fun _ _ _ _ _ => (pe_ix ix_listH (pv 1) (pe_op op_modN (pe_op op_sub (pv 4) (pv 3)) (pv 2)) (fun _ _ => rfl)))) pa_nil))))))))), ?_⟩
    refine ⟨_, rfl, v1, d1, rfl, p1, sm1, fun H1 s1 => ⟨_, rfl, ?_⟩⟩
    rcases q with ⟨e1, q⟩ | ⟨e1, e2, q⟩ | ⟨a, b, xs, ts, rfl, rfl, rfl, rfl, ha, hb, ne, itx, itt, q⟩
    · rw [e1]
      exact iteT ⟨_, rfl, fun x hx => q _ x (s1.trans (sameNew hx)) upd_same⟩
    · rw [e1]
      refine iteF ⟨_, rfl, v2, d2, rfl, dp_same s1 _ _ p2, sm2, fun H2 s2 => ⟨_, rfl, ?_⟩⟩
      have s12 := s1.trans s2
      by_cases e3 : isWL d2 = true
      · rw [e3]
        obtain ⟨es, rfl⟩ := isWL_of e3
        have e4 : es = [] := by
          have a1 : es.all isItem = true := e3
          have a2 : (es.all isItem && !es.isEmpty) = false := e2
          rw [a1, Bool.true_and, Bool.not_eq_false'] at a2
          exact List.isEmpty_iff.mp a2
        subst e4
        cases p2 with
        | lst sq da =>
          cases da
          exact iteF ⟨_, rfl, false, .inl ⟨[], sqL_same s12 sq, rfl⟩, iteT ⟨_, rfl, fun x hx => q _ x (s12.trans (sameNew hx)) upd_same⟩⟩
      · rw [Bool.eq_false_iff.mpr e3]
        exact iteT (iteT ⟨_, rfl, fun x hx => q _ x (s12.trans (sameNew hx)) upd_same⟩)
    · have sa : SqL K H a (xs.map wv) := .inl (.inl ha)
      have sb : SqL K H b (ts.map wv) := .inl (.inl hb)
      have lx := (sm1 _ rfl).1
      have lt := (sm2 _ rfl).1
      rw [List.length_map] at lx lt
      have n0 := List.length_pos_iff.mpr ne
      rw [isWL_dW itx]
      refine iteF ⟨_, rfl, _, _, rfl, dp_same s1 _ _ p2, sm2, fun H2 s2 => ⟨_, rfl, ?_⟩⟩
      have s12 := s1.trans s2
      rw [isWL_dW itt]
      refine iteF ⟨_, rfl, true, .inl ⟨_, sqL_same s12 sb, by cases ts with | nil => exact absurd rfl ne | cons _ _ => rfl⟩, iteF ?_⟩
      refine ⟨_, rfl, b, ts, rfl, sqL_same s12 sb, ne, lt, itt, fun H3 s3 => ?_⟩
      have s13 := s12.trans s3
      refine ⟨_, rfl, _, rfl, a, b, xs, ts, rfl, sqL_same s13 sa, sqL_same s13 sb, ne, lx, lt, ?_⟩
      have rp := WM.rootN_pos (w := zW ts) (fun z => ne (List.map_eq_nil_iff.mp z))
      have rl := WM.rootN_le (w := zW ts) (fun z => ne (List.map_eq_nil_iff.mp z))
      rw [zW_len] at rl
      have bl : back xs ts ≤ xs.length := backN_le xs ts _
      have q : ∀ (l1 l2 r : Addr) (H' : Hp) (us ws : List (Option Nat)), Same H H' → H l1 = none → H l2 = none → H r = none → l1 ≠ l2 → lstW xs ts = (us, ws) → H' r = some (.tup [.ref l1, .ref l2]) → H' l1 = some (.lst (us.map wv)) → H' l2 = some (.lst (ws.map wv)) → Q (.ref r) H' := fun l1 l2 r H' us ws a b c d e f g1 g2 g3 => q l1 l2 r H' a b c d e g1 (by rw [f]; exact g2) (by rw [f]; exact g3)
      generalize hsz : WM.rootN (zW ts) = sz at rp rl
      generalize hbk : back xs ts = bk at bl
      have eL : lstW xs ts = (xs.take (xs.length - bk), rotW ts sz bk) := by unfold lstW; rw [hsz, hbk]
      dsimp only
      refine ⟨_, rfl, _, rfl, a, _, rfl, .inl (.inl (.inl (s13 _ _ ha))), _, rfl, _, _, rfl, rfl, ?_⟩
      rw [List.length_map]
      refine ⟨((xs.length - bk : Nat) : Int), by show V.int ((xs.length : Int) - (bk : Nat)) = _; rw [show (xs.length : Int) - (bk : Nat) = ((xs.length - bk : Nat) : Int) by omega], a, _, rfl, .inl (.inl (s13 _ _ ha)), fun l1 nl1 => ?_⟩
      have s14 := sameNew (o := .lst ((xs.take (xs.length - bk)).map wv)) nl1
      have hl1 : upd H3 l1 (.lst ((xs.take (xs.length - bk)).map wv)) l1 = some (.lst ((xs.take (xs.length - bk)).map wv)) := upd_same
      rw [cutV_take, ← List.map_take]
      generalize upd H3 l1 (.lst ((xs.take (xs.length - bk)).map wv)) = H4 at s14 hl1 ⊢
      have s15 := s13.trans s14
      refine ⟨_, rfl, _, rfl, by omega, by omega, fun l2 nl2 => lcR_map (lo := 0) (n := sz) (fun i => wv (ts.getD (((i : Int) - (bk : Nat)).fmod (sz : Nat)).toNat none)) (by rw [sizeLine_eq]; omega) (fun i H5 R hi s5 q' => ?_) nl2 fun H5 s5 hL => ?_⟩
      · refine ⟨rfl, _, rfl, _, rfl, _, rfl, _, _, rfl, rfl, _, rfl, ?_⟩
        refine ⟨(i : Int) - (bk : Nat), (sz : Nat), by show V.int (0 + (i : Int) - (bk : Nat)) = _; rw [Int.zero_add], rfl, by omega, ?_⟩
        have b0 : 0 ≤ ((i : Int) - (bk : Nat)).fmod (sz : Nat) := Int.fmod_nonneg_of_pos _ (by omega)
        have b1 : ((i : Int) - (bk : Nat)).fmod (sz : Nat) < (sz : Nat) := Int.fmod_lt_of_pos _ (by omega)
        obtain ⟨j, hj⟩ : ∃ j : Nat, ((i : Int) - (bk : Nat)).fmod (sz : Nat) = j := ⟨_, (Int.toNat_of_nonneg b0).symm⟩
        have q' := q' H5 (Same.refl _)
        rw [hj] at b1 q'
        dsimp only
        rw [hj]
        refine ⟨b, _, _, _, rfl, rfl, s5 _ _ (s14 _ _ (s13 _ _ hb)), atI_nat (by rw [List.getElem?_map, List.getElem?_eq_getElem (show j < ts.length by omega)]; rfl), ?_⟩
        rw [show ((j : Nat) : Int).toNat = j from rfl, List.getD_eq_getElem?_getD, List.getElem?_eq_getElem (show j < ts.length by omega)] at q'
        exact q'
      · refine ⟨by show 2 ≤ sizeLine; decide, fun r nr => ?_⟩
        have s16 := s15.trans s5
        have hl1' := s5 _ _ hl1
        have l12 : l1 ≠ l2 := fun z => by rw [z, nl2] at hl1; cases hl1
        refine q l1 l2 r _ _ _ (s16.trans (sameNew nr)) (none_back s13 nl1) (none_back s15 nl2) (none_back s16 nr) l12 eL upd_same ((upd_ne (ne_of_none hl1' nr)).trans hl1') ?_
        rw [upd_ne (ne_of_none hL nr), hL]
        unfold rotW
        rw [List.map_map]
        rfl
theorem x_least_wheel (T : Txt K mg E_InvalidNumber E_InvalidList E_InvalidWheel E_CountError) : CalX P w K mg base 4 "least_wheel" (sp_least K E_InvalidList) := by
  obtain ⟨f, fd, F, hm⟩ := T.d_least_wheel.ex
  refine ⟨f, fd, _, xk_least_wheel T F, hm, F.kp, F.bindsN fun kV doc pm an cdv ct us hl => ?_⟩
  match us, hl with
  | [u, v], _ => rfl
theorem c_least_wheel (T : Txt K mg E_InvalidNumber E_InvalidList E_InvalidWheel E_CountError) : C8.Cal P w K mg base 4 "least_wheel" (fun vs H Q _ => sp_least K E_InvalidList vs H Q E0) [] := (x_least_wheel T).cal
theorem c_least_wheel_K_turn_first (T : Txt K mg E_InvalidNumber E_InvalidList E_InvalidWheel E_CountError) : CalN P w K mg base 4 "least_wheel" ["turn", "first"] (fun vs H Q _ => sp_least K E_InvalidList vs H Q E0) (fun vs zs => vs ++ ((zs.drop 1).take 1 ++ zs.take 1)) := by
  obtain ⟨f, fd, F, hm⟩ := T.d_least_wheel.ex
  refine ⟨f, fd, ["first", "turn"], _, calm_of (xk_least_wheel T F), hm, F.kp, FunD.kbindsN F 0 ["turn", "first"] (fun us ws => us ++ ((ws.drop 1).take 1 ++ ws.take 1)) (fun r1 r2 => r1.append (((r2.drop 1).take 1).append (r2.take 1))) fun kV doc pm an cdv ct us ws l1 l2 => ?_⟩
  match us, l1, ws, l2 with
  | [], _, [u, v], _ => rfl
def sp_value_of (K : PySem.W.Frag) (E2 E3 : Addr) : Sp := fun vs H Q E => ∃ v z d e, vs = [v, z] ∧ Dp K H v d ∧ SmW d ∧ Dp K H z e ∧
  ((isWheelD d = false ∧ ∀ H' x, Same H H' → H' x = some (.xd [("value", v)]) → E (.ref E3) (some x) H') ∨
   (isWheelD d = true ∧ isCnt e = false ∧ ∀ H' x, Same H H' → H' x = some (.xd [("value", z)]) → E (.ref E2) (some x) H') ∨
   (isWheelD d = true ∧ ∃ (r : Addr) (xs ts : List (Option Nat)) (n : Nat), v = .ref r ∧ z = .int n ∧ e = .int n ∧ WhH H r xs ts ∧ ts ≠ [] ∧ ∀ H', Same H H' → Q (wv (valW xs ts n)) H'))
abbrev FV (K : PySem.W.Frag) (f : Addr) (fd : FuncData) := FunD K "wheel_value" "wheel_value" (C8.fnArgs (topS 20)) (C8.fnBody (topS 20)) (C8.fnScope (topS 20)) [] [] f fd
theorem xk_wheel_value (T : Txt K mg E_InvalidNumber E_InvalidList E_InvalidWheel E_CountError) {f : Addr} {fd : FuncData} (F : FV K f fd) : FnOk P w K mg base (L2.CX P w) 6 f fd ["wheel", "number"] (sp_value_of K E_InvalidNumber E_InvalidWheel) := by
  refine fnX_of (fun_of F) sc_wheel_value (fun vs H Q E h => ?_) (fun cdv A outer s H vs Q E hr h => ?_)
  · obtain ⟨_, _, _, _, rfl, _⟩ := h; rfl
  · obtain ⟨v, z, d, e, rfl, dv, sm, dz, q⟩ := h
    refine ⟨_, (pss_cons (ps_if (pt_not (pt_val (C8.pe_c (c_is_wheel T) hr (by decide) (by rfl) (pa_cons (pv 0) pa_nil))))
    (pss_one (ps_raiseE T.x_InvalidWheel rfl (takes_of rfl rfl rfl rfl) hr (by decide) (by rfl) (pv 0)))
    pss_nil)
    (pss_cons (ps_expr (pe_x (x_need_count T) (takes_of rfl rfl rfl rfl) hr (by decide) (by rfl) (pa_cons (pv 1) pa_nil)))
    (pss_cons (ps_asg (pv 0) (pg_two (K := K) (i := 2) (j := 3) rfl rfl sc_wheel_value.nd rfl rfl (Or.inl rfl) (Or.inl rfl)))
    (pss_one (ps_ret (pe_ifExp (pt_cmpR op_lt (pv 1) (pe_callB call_len_seq (by rfl) T.m_len (by decide +kernel) (pa_cons (pv 2) pa_nil)) (nomark _)) (pe_ix ix_list (pv 2) (pv 1) (fun _ _ => rfl)) (pe_ix ix_list (pv 3) (pe_op op_modN (pe_op op_sub (pv 1) (pe_callB call_len_seq (by rfl) T.m_len (by decide +kernel) (pa_cons (pv 2) pa_nil))) (pe_callB call_len_seq (by rfl) T.m_len (by decide +kernel) (pa_cons (pv 3) pa_nil))) (fun _ _ => rfl)))))))), ?_⟩
    refine ⟨_, rfl, v, d, rfl, dv, sm, fun H1 s1 => ⟨_, rfl, ?_⟩⟩
    rcases q with ⟨e1, q⟩ | ⟨e1, e2, q⟩ | ⟨e1, r, xs, ts, n, rfl, rfl, rfl, rh, ne, q⟩
    · rw [e1]
      exact iteT ⟨_, rfl, fun x hx => q _ x (s1.trans (sameNew hx)) upd_same⟩
    · rw [e1]
      refine iteF ⟨_, rfl, z, e, rfl, dp_same s1 _ _ dz, ?_⟩
      rw [e2]
      exact iteF fun x hx => q _ x (s1.trans (sameNew hx)) upd_same
    · rw [e1]
      refine iteF ⟨_, rfl, _, _, rfl, dp_same s1 _ _ dz, ?_⟩
      rw [show isCnt (.int (n : Int)) = true by show decide (0 ≤ ((n : Nat) : Int)) = true; exact decide_eq_true (by omega)]
      have q := q _ s1
      obtain ⟨la, lb, h1, h2, h3⟩ := rh.same s1
      have n0 := List.length_pos_iff.mpr ne
      refine iteT ⟨_, rfl, r, _, rfl, .inl (.inl h1), rfl, .ref la, [.ref lb], rfl, .ref lb, [], rfl, rfl, ?_⟩
      refine ⟨_, rfl, _, rfl, la, _, rfl, .inl (.inl (.inl h2)), n, _, rfl, rfl, _, rfl, ?_⟩
      rw [List.length_map]
      by_cases c : n < xs.length
      · rw [decide_eq_true (by omega)]
        rw [show valW xs ts n = xs.getD n none from if_pos c] at q
        exact iteT ⟨_, rfl, _, rfl, la, _, _, wv (xs.getD n none), rfl, rfl, .inl (.inl h2), atI_nat (by rw [List.getElem?_map, List.getD_eq_getElem?_getD, List.getElem?_eq_getElem c]; rfl), q⟩
      · rw [decide_eq_false (by omega)]
        rw [show valW xs ts n = ts.getD ((n - xs.length) % ts.length) none from if_neg c] at q
        have ml := Nat.mod_lt (n - xs.length) n0
        refine iteF ⟨_, rfl, _, rfl, _, rfl, la, _, rfl, .inl (.inl (.inl h2)), (n : Int), _, rfl, rfl, _, rfl, lb, _, rfl, .inl (.inl (.inl h3)), ?_⟩
        rw [List.length_map, List.length_map]
        refine ⟨((n - xs.length : Nat) : Int), (ts.length : Nat), by show V.int ((n : Int) - (xs.length : Nat)) = _; rw [show (n : Int) - (xs.length : Nat) = ((n - xs.length : Nat) : Int) by omega], rfl, by omega, lb, _, (((n - xs.length) % ts.length : Nat) : Int), wv (ts.getD ((n - xs.length) % ts.length) none), rfl, ?_, .inl (.inl h3), atI_nat (by rw [List.getElem?_map, List.getD_eq_getElem?_getD, List.getElem?_eq_getElem ml]; rfl), q⟩
        dsimp only
        rw [fmodN]
theorem x_wheel_value (T : Txt K mg E_InvalidNumber E_InvalidList E_InvalidWheel E_CountError) : CalX P w K mg base 6 "wheel_value" (sp_value_of K E_InvalidNumber E_InvalidWheel) := by
  obtain ⟨f, fd, F, hm⟩ := T.d_wheel_value.ex
  refine ⟨f, fd, _, xk_wheel_value T F, hm, F.kp, F.bindsN fun kV doc pm an cdv ct us hl => ?_⟩
  match us, hl with
  | [u, v], _ => rfl
theorem c_wheel_value (T : Txt K mg E_InvalidNumber E_InvalidList E_InvalidWheel E_CountError) : C8.Cal P w K mg base 6 "wheel_value" (fun vs H Q _ => sp_value_of K E_InvalidNumber E_InvalidWheel vs H Q E0) [] := (x_wheel_value T).cal
theorem c_wheel_value_K_number_wheel (T : Txt K mg E_InvalidNumber E_InvalidList E_InvalidWheel E_CountError) : CalN P w K mg base 6 "wheel_value" ["number", "wheel"] (fun vs H Q _ => sp_value_of K E_InvalidNumber E_InvalidWheel vs H Q E0) (fun vs zs => vs ++ ((zs.drop 1).take 1 ++ zs.take 1)) := by
  obtain ⟨f, fd, F, hm⟩ := T.d_wheel_value.ex
  refine ⟨f, fd, ["wheel", "number"], _, calm_of (xk_wheel_value T F), hm, F.kp, FunD.kbindsN F 0 ["number", "wheel"] (fun us ws => us ++ ((ws.drop 1).take 1 ++ ws.take 1)) (fun r1 r2 => r1.append (((r2.drop 1).take 1).append (r2.take 1))) fun kV doc pm an cdv ct us ws l1 l2 => ?_⟩
  match us, l1, ws, l2 with
  | [], _, [u, v], _ => rfl
end
end K49

set_option Elab.async false
set_option linter.all false
set_option maxRecDepth 100000
set_option maxHeartbeats 4000000
namespace K49
open PySem PySem.Spec PyProof.Rows L2 CK SX
/-! ### the mathematics of wheels -/
/-- the turn's value at a count that may be negative -/
def gX (ts : List (Option Nat)) (r : Nat) (x : Int) : Option Nat := ts.getD (x % (r : Int)).toNat none
theorem gX_congr {ts : List (Option Nat)} {r : Nat} {x y : Int} (h : x % (r : Int) = y % (r : Int)) : gX ts r x = gX ts r y := by
  unfold gX; rw [h]
theorem gX_add {ts : List (Option Nat)} {r : Nat} (x k : Int) : gX ts r (x + (r : Int) * k) = gX ts r x := gX_congr (Int.add_mul_emod_self_left _ _ _)
theorem gX_dvd {ts : List (Option Nat)} {r : Nat} {x y : Int} (h : (r : Int) ∣ y - x) : gX ts r y = gX ts r x := by
  obtain ⟨k, hk⟩ := h
  rw [show y = x + (r : Int) * k by omega, gX_add]
/-- r is a root of ts -/
structure Rt (ts : List (Option Nat)) (r : Nat) : Prop where
  pos : 0 < r
  dvd : r ∣ ts.length
  per : ∀ i, i < ts.length → ts.getD i none = ts.getD (i % r) none
theorem Rt.nat {ts : List (Option Nat)} {r : Nat} (h : Rt ts r) {i : Nat} (hi : i < ts.length) : ts.getD i none = gX ts r i := by
  rw [h.per i hi]
  unfold gX
  rw [show ((i : Int) % (r : Int)).toNat = i % r by rw [← Int.natCast_emod, Int.toNat_natCast]]
theorem Rt.le {ts : List (Option Nat)} {r : Nat} (h : Rt ts r) (ne : ts ≠ []) : r ≤ ts.length := Nat.le_of_dvd (List.length_pos_iff.mpr ne) h.dvd
theorem it_inj {a b : Option Nat} (ha : ItO a) (hb : ItO b) (h : a.getD 45 = b.getD 45) : a = b := by
  cases a with
  | none => cases b with
    | none => rfl
    | some c =>
      have := hb c rfl
      have h : 45 = c := h
      omega
  | some a => cases b with
    | none =>
      have := ha a rfl
      have h : a = 45 := h
      omega
    | some c => rw [show a = c from h]
theorem zW_get (xs : List (Option Nat)) (i : Nat) : (zW xs)[i]? = xs[i]?.map fun o => o.getD 45 := List.getElem?_map
theorem it_get {xs : List (Option Nat)} (h : ∀ o ∈ xs, ItO o) (i : Nat) : ItO (xs.getD i none) := by
  rw [List.getD_eq_getElem?_getD]
  cases e : xs[i]? with
  | none => exact fun c h => nomatch h
  | some o => exact h o (List.mem_of_getElem? e)
theorem rt_root {ts : List (Option Nat)} (ne : ts ≠ []) (it : ∀ o ∈ ts, ItO o) : Rt ts (WM.rootN (zW ts)) := by
  have nz : zW ts ≠ [] := fun z => ne (List.map_eq_nil_iff.mp z)
  have pos := WM.rootN_pos nz
  refine ⟨pos, by have := WM.rootN_dvd (zW ts); rwa [zW_len] at this, fun i hi => ?_⟩
  have p := WM.per_mul (WM.rootN_per (zW ts)) (i / WM.rootN (zW ts)) (i % WM.rootN (zW ts)) (by rw [Nat.mod_add_div, zW_len]; exact hi)
  rw [Nat.mod_add_div, zW_get, zW_get] at p
  have l2 : i % WM.rootN (zW ts) < ts.length := Nat.lt_of_le_of_lt (Nat.mod_le _ _) hi
  refine it_inj (it_get it _) (it_get it _) ?_
  rw [List.getElem?_eq_getElem hi, List.getElem?_eq_getElem l2] at p
  rw [List.getD_eq_getElem?_getD, List.getD_eq_getElem?_getD, List.getElem?_eq_getElem hi, List.getElem?_eq_getElem l2]
  exact (Option.some.inj p).symm
theorem rotW_len (ts : List (Option Nat)) (r b : Nat) : (rotW ts r b).length = r := by unfold rotW; rw [List.length_map, List.length_range]
theorem rotW_get {ts : List (Option Nat)} {r b i : Nat} (h : i < r) : (rotW ts r b).getD i none = gX ts r ((i : Int) - (b : Nat)) := by
  unfold rotW gX
  rw [List.getD_eq_getElem?_getD, List.getElem?_map, List.getElem?_range h]
  show ts.getD (((i : Int) - (b : Nat)).fmod (r : Nat)).toNat none = _
  rw [Int.fmod_eq_emod_of_nonneg _ (by omega)]
theorem mem_getD {xs : List (Option Nat)} {o : Option Nat} (h : o ∈ xs) : ∃ i, i < xs.length ∧ o = xs.getD i none := by
  obtain ⟨i, hi, e⟩ := List.getElem_of_mem h
  exact ⟨i, hi, by rw [List.getD_eq_getElem?_getD, List.getElem?_eq_getElem hi, e]; rfl⟩
theorem rotW_it {ts : List (Option Nat)} {r b : Nat} (h : ∀ o ∈ ts, ItO o) : ∀ o ∈ rotW ts r b, ItO o := fun o ho => by
  obtain ⟨i, hi, rfl⟩ := mem_getD ho
  rw [rotW_len] at hi
  rw [rotW_get hi]
  exact it_get h _
theorem take_get {xs : List (Option Nat)} {k i : Nat} (h : i < k) : (xs.take k).getD i none = xs.getD i none := by
  rw [List.getD_eq_getElem?_getD, List.getD_eq_getElem?_getD, List.getElem?_take, if_pos h]
/-! going back -/
theorem back_spec (xs ts : List (Option Nat)) : ∀ f, (∀ i, f - backN xs ts f ≤ i → i < f → xs.getD i none = ts.getD (ts.length - 1 - (xs.length - 1 - i) % ts.length) none) ∧
    (backN xs ts f = f ∨ xs.getD (f - 1 - backN xs ts f) none ≠ ts.getD (ts.length - 1 - (xs.length - 1 - (f - 1 - backN xs ts f)) % ts.length) none)
  | 0 => ⟨fun i h1 h2 => absurd h2 (Nat.not_lt_zero _), .inl rfl⟩
  | f + 1 => by
    rw [backN]
    split
    · rename_i e
      obtain ⟨a, b⟩ := back_spec xs ts f
      refine ⟨fun i h1 h2 => ?_, ?_⟩
      · by_cases h : i = f
        · rw [h]; exact e
        · exact a i (by omega) (by omega)
      · rcases b with b | b
        · exact .inl (by omega)
        · right
          rw [show f + 1 - 1 - (backN xs ts f + 1) = f - 1 - backN xs ts f by omega]
          exact b
    · rename_i e
      exact ⟨fun i h1 h2 => by omega, .inr e⟩
theorem back_idx {xs ts : List (Option Nat)} {r i : Nat} (R : Rt ts r) (ne : ts ≠ []) (hi : i < xs.length) : ts.getD (ts.length - 1 - (xs.length - 1 - i) % ts.length) none = gX ts r ((i : Int) - (xs.length : Nat)) := by
  have n0 := List.length_pos_iff.mpr ne
  have ml := Nat.mod_lt (xs.length - 1 - i) n0
  rw [R.nat (by omega)]
  refine gX_dvd ?_
  obtain ⟨k, hk⟩ := R.dvd
  have e := Nat.mod_add_div (xs.length - 1 - i) ts.length
  obtain ⟨q, hq⟩ : ∃ q, q = (xs.length - 1 - i) / ts.length := ⟨_, rfl⟩
  obtain ⟨j, hj⟩ : ∃ j, j = (xs.length - 1 - i) % ts.length := ⟨_, rfl⟩
  rw [← hq, ← hj] at e
  rw [← hj]
  refine ⟨(k : Int) * ((q : Int) + 1), ?_⟩
  have e2 : ((r : Int) * ((k : Int) * ((q : Int) + 1))) = (ts.length : Int) * (q : Int) + ts.length := by
    rw [hk, Int.natCast_mul, ← Int.mul_assoc, Int.mul_add, Int.mul_one]
  rw [e2]
  have e3 : ((ts.length * q : Nat) : Int) = (ts.length : Int) * (q : Int) := Int.natCast_mul _ _
  rw [← hj] at ml
  generalize ts.length * q = tq at e e3
  rw [← e3]
  omega
/-- the values stay -/
theorem val_lst {xs ts : List (Option Nat)} (ne : ts ≠ []) (it : ∀ o ∈ ts, ItO o) (n : Nat) : valW (lstW xs ts).1 (lstW xs ts).2 n = valW xs ts n := by
  have R := rt_root ne it
  obtain ⟨b1, _⟩ := back_spec xs ts xs.length
  have bl : back xs ts ≤ xs.length := backN_le xs ts _
  have n0 := List.length_pos_iff.mpr ne
  unfold lstW
  dsimp only
  change ∀ i, xs.length - back xs ts ≤ i → _ at b1
  generalize WM.rootN (zW ts) = r at R ⊢
  generalize back xs ts = b at b1 bl ⊢
  have rp := R.pos
  have lt : (xs.take (xs.length - b)).length = xs.length - b := by rw [List.length_take]; omega
  unfold valW
  rw [lt, rotW_len]
  by_cases c1 : n < xs.length - b
  · rw [if_pos c1, if_pos (by omega), take_get c1]
  · rw [if_neg c1, rotW_get (Nat.mod_lt _ rp)]
    have e1 : gX ts r (((n - (xs.length - b)) % r : Nat) - (b : Nat)) = gX ts r ((n : Int) - (xs.length : Nat)) := by
      refine (gX_dvd ?_).symm
      have e := Nat.mod_add_div (n - (xs.length - b)) r
      refine ⟨((n - (xs.length - b)) / r : Nat), ?_⟩
      have e3 : ((r * ((n - (xs.length - b)) / r) : Nat) : Int) = (r : Int) * ((n - (xs.length - b)) / r : Nat) := Int.natCast_mul _ _
      rw [← e3]
      generalize r * ((n - (xs.length - b)) / r) = tq at e ⊢
      generalize (n - (xs.length - b)) % r = tm at e ⊢
      omega
    rw [e1]
    by_cases c2 : n < xs.length
    · rw [if_pos c2, b1 n (by omega) c2, back_idx R ne c2]
    · rw [if_neg c2, R.nat (Nat.mod_lt _ n0)]
      refine gX_dvd ?_
      have e := Nat.mod_add_div (n - xs.length) ts.length
      obtain ⟨k, hk⟩ := R.dvd
      refine ⟨(k : Int) * ((n - xs.length) / ts.length : Nat), ?_⟩
      have e2 : ((r : Int) * ((k : Int) * ((n - xs.length) / ts.length : Nat))) = ((ts.length * ((n - xs.length) / ts.length) : Nat) : Int) := by
        rw [Int.natCast_mul, ← Int.mul_assoc]
        conv => rhs; rw [hk]
        rw [Int.natCast_mul, ← hk]
      rw [e2]
      generalize ts.length * ((n - xs.length) / ts.length) = tq at e ⊢
      generalize (n - xs.length) % ts.length = tm at e ⊢
      omega
end K49

set_option Elab.async false
set_option linter.all false
set_option maxRecDepth 100000
set_option maxHeartbeats 4000000
namespace K49
open PySem PySem.Spec PyProof.Rows L2 CK SX
def noRotB (ts : List (Option Nat)) : Bool := (List.range (ts.length - 1)).all fun i => !decide (ts.drop (i + 1) ++ ts.take (i + 1) = ts)
def lastEq (xs ts : List (Option Nat)) : Bool := decide (xs.drop (xs.length - 1) = ts.drop (ts.length - 1))
def leastB (xs ts : List (Option Nat)) : Bool := noRotB ts && (!ts.isEmpty && !lastEq xs ts)
def wheelB (xs ts : List (Option Nat)) : Bool := !ts.isEmpty && (decide (WM.rootN (zW ts) = ts.length) && decide (back xs ts = 0))
theorem isWheel_dWh {xs ts : List (Option Nat)} (hx : ∀ o ∈ xs, ItO o) (ht : ∀ o ∈ ts, ItO o) : isWheelD (dWh xs ts) = wheelB xs ts := by
  show (isWL (.list (xs.map dW)) && (isWL (.list (ts.map dW)) && wheelOk (.list (xs.map dW)) (.list (ts.map dW)))) = _
  rw [isWL_dW hx, isWL_dW ht, Bool.true_and, Bool.true_and]
  show (!(ts.map dW).isEmpty && (decide (WM.rootN (zW ((ts.map dW).map toW)) = (ts.map dW).length) && decide (back ((xs.map dW).map toW) ((ts.map dW).map toW) = 0))) = _
  rw [map_toW, map_toW, List.length_map, List.isEmpty_map]
  rfl
theorem rot_get {α : Type} {l : List α} {m i : Nat} (hm : m ≤ l.length) (hi : i < l.length) : (l.drop m ++ l.take m)[i]? = l[(i + m) % l.length]? := by
  by_cases c : i < l.length - m
  · rw [List.getElem?_append_left (by rw [List.length_drop]; exact c), List.getElem?_drop, Nat.mod_eq_of_lt (by omega), Nat.add_comm]
  · rw [List.getElem?_append_right (by rw [List.length_drop]; omega), List.length_drop, List.getElem?_take, if_pos (by omega)]
    congr 1
    rw [Nat.mod_eq_sub_mod (by omega), Nat.mod_eq_of_lt (by omega)]
    omega
theorem rot_per {w : List Nat} {m : Nat} (hm : m < w.length) (e : w.drop m ++ w.take m = w) : WM.Per (Nat.gcd m w.length) w := by
  have n0 : 0 < w.length := by omega
  have dbl : ∀ j, j < 2 * w.length → (w ++ w)[j]? = w[j % w.length]? := fun j hj => by
    by_cases c : j < w.length
    · rw [List.getElem?_append_left c, Nat.mod_eq_of_lt c]
    · rw [List.getElem?_append_right (by omega), Nat.mod_eq_sub_mod (by omega), Nat.mod_eq_of_lt (by omega)]
  have pn : WM.Per w.length (w ++ w) := fun i hi => by
    rw [List.length_append] at hi
    rw [dbl i (by omega), dbl (i + w.length) (by omega), Nat.add_mod_right]
  have pm : WM.Per m (w ++ w) := fun i hi => by
    rw [List.length_append] at hi
    rw [dbl i (by omega), dbl (i + m) (by omega)]
    have ml := Nat.mod_lt i n0
    have := rot_get (l := w) (m := m) (i := i % w.length) (by omega) ml
    rw [e] at this
    rw [this, Nat.mod_add_mod]
  have pg := WM.per_gcd pm pn (by rw [List.length_append]; omega)
  have := WM.per_take (k := w.length) pg
  rw [List.take_left] at this
  exact this
theorem zW_drop (ts : List (Option Nat)) (m : Nat) : zW (ts.drop m ++ ts.take m) = (zW ts).drop m ++ (zW ts).take m := by
  unfold zW
  rw [List.map_append, List.map_drop, List.map_take]
theorem root_noRot {ts : List (Option Nat)} (ne : ts ≠ []) (it : ∀ o ∈ ts, ItO o) : decide (WM.rootN (zW ts) = ts.length) = noRotB ts := by
  have nz : zW ts ≠ [] := fun z => ne (List.map_eq_nil_iff.mp z)
  have n0 := List.length_pos_iff.mpr ne
  have R := rt_root ne it
  by_cases c : WM.rootN (zW ts) = ts.length
  · rw [decide_eq_true c]
    symm
    unfold noRotB
    rw [List.all_eq_true]
    intro i hi
    have hi := List.mem_range.mp hi
    rw [Bool.not_eq_true', decide_eq_false_iff_not]
    intro e
    have e2 := congrArg zW e
    rw [zW_drop] at e2
    have p := rot_per (by rw [zW_len]; omega) e2
    rw [zW_len] at p
    have g1 := Nat.gcd_dvd_left (i + 1) ts.length
    have g2 := Nat.gcd_dvd_right (i + 1) ts.length
    have gp : 0 < Nat.gcd (i + 1) ts.length := Nat.gcd_pos_of_pos_right _ n0
    have := WM.root_div nz gp (by rw [zW_len]; exact g2) p
    have l1 := Nat.le_of_dvd gp this
    have l2 := Nat.le_of_dvd (by omega) g1
    omega
  · rw [decide_eq_false c]
    symm
    have rl := R.le ne
    have rp := R.pos
    generalize WM.rootN (zW ts) = r at R c rl rp
    unfold noRotB
    rw [List.all_eq_false]
    refine ⟨r - 1, List.mem_range.mpr (by omega), ?_⟩
    rw [show r - 1 + 1 = r by omega]
    have e : ts.drop r ++ ts.take r = ts := by
      refine List.ext_getElem? fun i => ?_
      by_cases hi : i < ts.length
      · have ml := Nat.mod_lt (i + r) n0
        rw [rot_get (by omega) hi, List.getElem?_eq_getElem hi, List.getElem?_eq_getElem ml]
        have e1 := R.per i hi
        have e2 := R.per _ ml
        rw [Nat.mod_mod_of_dvd _ R.dvd, Nat.add_mod_right] at e2
        rw [List.getD_eq_getElem?_getD, List.getElem?_eq_getElem hi] at e1
        rw [List.getD_eq_getElem?_getD, List.getElem?_eq_getElem ml] at e2
        exact congrArg some (e2.trans e1.symm)
      · rw [List.getElem?_eq_none (by rw [List.length_append, List.length_drop, List.length_take]; omega), List.getElem?_eq_none (by omega)]
    rw [decide_eq_true e]
    decide
theorem drop_last (xs : List (Option Nat)) (ne : xs ≠ []) : xs.drop (xs.length - 1) = [xs.getD (xs.length - 1) none] := by
  have n0 := List.length_pos_iff.mpr ne
  rw [List.drop_eq_getElem_cons (by omega), List.getD_eq_getElem?_getD, List.getElem?_eq_getElem (by omega), List.drop_eq_nil_of_le (by omega)]
  rfl
theorem back_last {xs ts : List (Option Nat)} (ne : ts ≠ []) : decide (back xs ts = 0) = !lastEq xs ts := by
  have n0 := List.length_pos_iff.mpr ne
  unfold lastEq back
  rw [drop_last ts ne]
  by_cases e : xs = []
  · subst e
    rfl
  · have l0 := List.length_pos_iff.mpr e
    rw [drop_last xs e]
    obtain ⟨f, hf⟩ : ∃ f, xs.length = f + 1 := ⟨xs.length - 1, by omega⟩
    have eb : backN xs ts xs.length = if xs.getD f none = ts.getD (ts.length - 1) none then backN xs ts f + 1 else 0 := by
      conv => lhs; rw [hf]
      rw [backN, show xs.length - 1 - f = 0 by omega, Nat.zero_mod, Nat.sub_zero]
    rw [eb, show xs.length - 1 = f by omega]
    by_cases c : xs.getD f none = ts.getD (ts.length - 1) none
    · rw [if_pos c, c, decide_eq_true rfl, decide_eq_false (by omega)]
      rfl
    · rw [if_neg c, decide_eq_true rfl, decide_eq_false (fun z => c (List.cons.inj z).1)]
      rfl
theorem wheel_least {xs ts : List (Option Nat)} (it : ∀ o ∈ ts, ItO o) : wheelB xs ts = leastB xs ts := by
  unfold wheelB leastB
  by_cases ne : ts = []
  · subst ne
    rfl
  · rw [root_noRot ne it, back_last ne]
    cases h : ts.isEmpty with
    | true => exact absurd (List.isEmpty_iff.mp h) ne
    | false => rfl
/-- what least_wheel gives is a wheel -/
theorem lst_wheel {xs ts : List (Option Nat)} (ne : ts ≠ []) (it : ∀ o ∈ ts, ItO o) : wheelB (lstW xs ts).1 (lstW xs ts).2 = true := by
  have nz : zW ts ≠ [] := fun z => ne (List.map_eq_nil_iff.mp z)
  have n0 := List.length_pos_iff.mpr ne
  have R := rt_root ne it
  have rd := fun d h1 h2 h3 => WM.root_div nz (d := d) h1 h2 h3
  obtain ⟨_, b2⟩ := back_spec xs ts xs.length
  change back xs ts = xs.length ∨ xs.getD (xs.length - 1 - back xs ts) none ≠ ts.getD (ts.length - 1 - (xs.length - 1 - (xs.length - 1 - back xs ts)) % ts.length) none at b2
  have bl : back xs ts ≤ xs.length := backN_le xs ts _
  unfold lstW
  dsimp only
  generalize WM.rootN (zW ts) = r at R rd ⊢
  generalize back xs ts = b at b2 bl ⊢
  have rp := R.pos
  have ul : (rotW ts r b).length = r := rotW_len ts r b
  have une : rotW ts r b ≠ [] := fun z => by rw [z] at ul; simp at ul; omega
  have uit := rotW_it (r := r) (b := b) it
  have R2 := rt_root une uit
  have eU : (rotW ts r b).isEmpty = false := by
    cases h : (rotW ts r b).isEmpty with
    | true => exact absurd (List.isEmpty_iff.mp h) une
    | false => rfl
  -- the root of the turned root is whole
  have eR : WM.rootN (zW (rotW ts r b)) = (rotW ts r b).length := by
    have d2 := R2.dvd
    have p2 := R2.pos
    have pr := R2.per
    rw [ul] at d2 pr ⊢
    generalize WM.rootN (zW (rotW ts r b)) = r2 at d2 p2 pr ⊢
    have val : ∀ i, i < ts.length → ts.getD i none = (rotW ts r b).getD ((i + b) % r2) none := fun i hi => by
      have ml := Nat.mod_lt (i + b) rp
      have e1 := pr _ ml
      rw [Nat.mod_mod_of_dvd _ d2] at e1
      rw [← e1, rotW_get ml, R.nat hi]
      refine gX_dvd ?_
      have e := Nat.mod_add_div (i + b) r
      refine ⟨((i + b) / r : Nat), ?_⟩
      have e3 : ((r * ((i + b) / r) : Nat) : Int) = (r : Int) * ((i + b) / r : Nat) := Int.natCast_mul _ _
      rw [← e3]
      generalize r * ((i + b) / r) = tq at e ⊢
      generalize (i + b) % r = tm at e ⊢
      omega
    have p : WM.Per r2 (zW ts) := fun i hi => by
      rw [zW_len] at hi
      have a1 := val i (by omega)
      have a2 := val (i + r2) hi
      rw [show i + r2 + b = i + b + r2 by omega, Nat.add_mod_right, ← a1] at a2
      rw [zW_get, zW_get, List.getElem?_eq_getElem hi, List.getElem?_eq_getElem (show i < ts.length by omega)]
      rw [List.getD_eq_getElem?_getD, List.getD_eq_getElem?_getD, List.getElem?_eq_getElem hi, List.getElem?_eq_getElem (show i < ts.length by omega)] at a2
      show some (Option.getD _ 45) = some (Option.getD _ 45)
      rw [show ts[i + r2] = ts[i] from a2]
    have := rd r2 p2 (by rw [zW_len]; exact Nat.dvd_trans d2 R.dvd) p
    exact Nat.dvd_antisymm d2 this
  unfold wheelB
  rw [eU, decide_eq_true eR]
  -- nothing goes back any more
  have eB : back (xs.take (xs.length - b)) (rotW ts r b) = 0 := by
    have lt : (xs.take (xs.length - b)).length = xs.length - b := by rw [List.length_take]; omega
    unfold back
    rw [lt]
    rcases b2 with h | h
    · rw [h, Nat.sub_self]
      rfl
    · by_cases hb : b = xs.length
      · rw [hb, Nat.sub_self]
        rfl
      · rw [back_idx R ne (by omega)] at h
        obtain ⟨f, hf⟩ : ∃ f, xs.length - b = f + 1 := ⟨xs.length - b - 1, by omega⟩
        rw [hf, backN]
        rw [show (xs.take (f + 1)).length - 1 - f = 0 by rw [List.length_take]; omega, Nat.zero_mod, Nat.sub_zero, ul, rotW_get (by omega), take_get (Nat.lt_succ_self f)]
        rw [show xs.length - 1 - b = f by omega] at h
        have eg : gX ts r (((r - 1 : Nat) : Int) - (b : Nat)) = gX ts r ((f : Int) - (xs.length : Nat)) := by
          refine gX_dvd ⟨1, ?_⟩
          omega
        rw [eg, if_neg h]
  rw [decide_eq_true eB]
  rfl
end K49

set_option Elab.async false
set_option linter.all false
set_option maxRecDepth 100000
set_option maxHeartbeats 4000000
namespace K49
open PySem PySem.Spec PyProof.Rows L2 CK SX
theorem small1000 {n : Nat} (h : n ≤ 1000) : n < sizeLine := by rw [sizeLine_eq]; omega
theorem lcC_draw {lo : Int} {g : Addr} {n cnt j : Nat} (c : Nat) (Pz : V → Prop) {te : TE} {vs : List Nat} {σ : L2.St} {H1 : Hp} {D : Addr} {Qd : Hp → Prop} (hc : cnt < sizeLine) (hD : H1 D = none) (hg : Gn (n + c * cnt) H1 g)
    (hs : ∀ (i : Nat) (H : Hp) (R : VK), i < cnt → SameX g H1 H → Gn (n + c * (cnt - (i + 1)) + c) H g → (∀ (r : V) H', SameX g H H' → Gn (n + c * (cnt - (i + 1))) H' g → Pz r → R r H') →
      wipe ((wipe σ vs).set j (some (.int (lo + i)))) vs = wipe σ vs ∧ te ((wipe σ vs).set j (some (.int (lo + i)))) H R)
    (hd : ∀ (H : Hp) (ns : List V), SameX g H1 H → Gn n H g → H D = some (.lst ns) → ns.length = cnt → (∀ x ∈ ns, Pz x) → Qd H) :
    ∃ W : Nat → Nat → Hp → Prop, (∃ m, W 0 m (L2.upd H1 D (.lst []))) ∧ ∀ i m H, W i m H →
      ((Itr lo cnt).stop i H ∧ Qd H) ∨ ((Itr lo cnt).go i H ∧ ∃ Nx : Hp → Prop, (∀ H', Nx H' → ∃ m', m' < m ∧ W (i + 1) m' H') ∧ ∀ x H', (Itr lo cnt).yld i H x H' → gName j x (wipe σ vs) H' fun σ2 H2 => wipe σ2 vs = wipe σ vs ∧ tYes σ2 H2 fun b H3 =>
        if b = true then te σ2 H3 fun y H4 => ∃ acc, H4 D = some (.lst acc) ∧ acc.length < sizeLine ∧ Nx (L2.upd H4 D (.lst (acc ++ [y]))) else Nx H3) := by
  have hDg := hg.ne hD
  refine lc_range (fun i H => SameX g H1 H ∧ Gn (n + c * (cnt - i)) H g ∧ i ≤ cnt ∧ ∃ ns : List V, H D = some (.lst ns) ∧ ns.length = i ∧ ∀ x ∈ ns, Pz x)
    ⟨sameX_new hD, hg.upd hDg, Nat.zero_le _, [], upd_same, rfl, fun x h => absurd h List.not_mem_nil⟩ (fun i H hi p => ?_) fun H p => ?_
  · obtain ⟨s, G, _, ns, hL, hl, hb⟩ := p
    have G1 : Gn (n + c * (cnt - (i + 1)) + c) H g := by
      have e : n + c * (cnt - (i + 1)) + c = n + c * (cnt - i) := by
        have hi' : i < cnt := hi
        rw [show cnt - i = (cnt - (i + 1)) + 1 by omega, Nat.mul_succ]
        omega
      rw [e]
      exact G
    refine hs i H _ hi s G1 fun r H' s' G' h0 => ⟨_, s' D _ hDg hL, by omega, (s.trans s').upd2 hD, G'.upd hDg, hi, ns ++ [r], upd_same, ?_, fun x hx => ?_⟩
    · rw [List.length_append, hl]
      rfl
    · rcases List.mem_append.mp hx with z | z
      · exact hb x z
      · rw [List.mem_singleton.mp z]
        exact h0
  · obtain ⟨s, G, _, ns, hL, hl, hb⟩ := p
    rw [Nat.sub_self, Nat.mul_zero] at G
    exact hd H ns s G hL hl hb
theorem seq_asg {te : TE} {g : TG} {u : TS} {D : Ends} {σ : L2.St} {H : Hp} (h : te σ H fun x H1 => g x σ H1 (u D)) : tSeq (tAsg te g) u D σ H := h
theorem tnext_eq (D : Ends) (σ : L2.St) (H : Hp) : tNext D σ H = D.nx σ H := rfl
/-- a sign that is drawn -/
def Sg (o : Option Nat) : Prop := o = none ∨ o = some 97 ∨ o = some 98 ∨ o = some 122
theorem Sg.it {o : Option Nat} (h : Sg o) : ItO o := fun c e => by
  rcases h with h | h | h | h <;> rw [h] at e <;> cases e <;> omega
theorem wvs_of : ∀ {vs : List V}, (∀ v ∈ vs, ∃ o, v = wv o ∧ Sg o) → ∃ xs : List (Option Nat), vs = xs.map wv ∧ ∀ x ∈ xs, Sg x
  | [], _ => ⟨[], rfl, fun x h => nomatch h⟩
  | v :: vs, h => by
    obtain ⟨w, rfl, hw⟩ := h v List.mem_cons_self
    obtain ⟨fs, rfl, hfs⟩ := wvs_of fun x hx => h x (List.mem_cons_of_mem _ hx)
    refine ⟨w :: fs, rfl, fun x hx => ?_⟩
    rcases List.mem_cons.mp hx with rfl | hx
    · exact hw
    · exact hfs x hx
/-- a wheel whose lists are not the generator -/
def WhG (H : Hp) (g r : Addr) (xs ts : List (Option Nat)) : Prop := ∃ l1 l2, H r = some (.tup [.ref l1, .ref l2]) ∧ H l1 = some (.lst (xs.map wv)) ∧ H l2 = some (.lst (ts.map wv)) ∧ l1 ≠ g ∧ l2 ≠ g
theorem WhG.wh {H : Hp} {g r : Addr} {xs ts : List (Option Nat)} (h : WhG H g r xs ts) : WhH H r xs ts := by
  obtain ⟨a, b, c, d, e, _⟩ := h
  exact ⟨a, b, c, d, e⟩
theorem WhG.x {H H' : Hp} {g r : Addr} {xs ts : List (Option Nat)} {n : Nat} (h : WhG H g r xs ts) (G : Gn n H g) (s : SameX g H H') : WhG H' g r xs ts := by
  obtain ⟨a, b, c, d, e, f1, f2⟩ := h
  have rg : r ≠ g := fun z => by obtain ⟨_, _, _, e, _⟩ := G; rw [z, e] at c; cases c
  exact ⟨a, b, s _ _ rg c, s _ _ f1 d, s _ _ f2 e, f1, f2⟩
section
variable {P : Program} {w : World} {K : PySem.W.Frag} {mg : Str → Option Value} {base : Heap} {E_InvalidNumber E_InvalidList E_InvalidWheel E_CountError : Addr}
def sp_sign : Sp := fun vs H Q _ => ∃ (g : Addr) (n : Nat), vs = [.ref g] ∧ Gn (n + 1) H g ∧ ∀ o H', SameX g H H' → Gn n H' g → Sg o → Q (wv o) H'
theorem c_law_sign (T : Txt K mg E_InvalidNumber E_InvalidList E_InvalidWheel E_CountError) : C8.Cal P w K mg base 3 "_law_sign" sp_sign [] := by
  refine calF T.d_law_sign sc_law_sign (fun vs H Q E h => ?_) (fun f cdv A outer s H vs Q E hr h => ?_)
  · obtain ⟨_, _, rfl, _⟩ := h; rfl
  · obtain ⟨g, n, rfl, G, q⟩ := h
    refine ⟨_, (pss_one (ps_ret (pe_ix ix_list (pe_lst (pa_cons pe_non (pa_cons pe_str (pa_cons pe_str (pa_cons pe_str (pa_cons pe_str pa_nil)))))) (C8.pe_c (c_law_random T) hr (by decide) (by rfl) (pa_cons (pv 0) (pa_cons pe_int pa_nil))) (fun _ _ => rfl)))), ?_⟩
    refine ⟨by show 5 ≤ sizeLine; decide, fun p np => ?_⟩
    have s1 := sameNew (o := .lst [.non, .str (Str.ofString "a"), .str (Str.ofString "b"), .str (Str.ofString "a"), .str (Str.ofString "z")]) np
    have hp : upd H p (.lst [.non, .str (Str.ofString "a"), .str (Str.ofString "b"), .str (Str.ofString "a"), .str (Str.ofString "z")]) p = some (.lst [.non, .str (Str.ofString "a"), .str (Str.ofString "b"), .str (Str.ofString "a"), .str (Str.ofString "z")]) := upd_same
    generalize upd H p (.lst [.non, .str (Str.ofString "a"), .str (Str.ofString "b"), .str (Str.ofString "a"), .str (Str.ofString "z")]) = H1 at s1 hp
    have pg := Gn.ne G np
    refine ⟨_, rfl, g, 5, n, rfl, G.same s1, by decide, by decide, fun r H2 s2 G2 r0 r1 => ?_⟩
    have ea : Str.ofString "a" = S [97] := by decide +kernel
    have eb : Str.ofString "b" = S [98] := by decide +kernel
    have ez : Str.ofString "z" = S [122] := by decide +kernel
    have hp2 := s2 _ _ pg hp
    have sx := (SameX.of s1).trans s2
    have rr : r = 0 ∨ r = 1 ∨ r = 2 ∨ r = 3 ∨ r = 4 := by omega
    rw [ea, eb, ez] at hp2
    have fin : ∀ (k : Nat) (o : Option Nat), ([V.non, .str (S [97]), .str (S [98]), .str (S [97]), .str (S [122])])[k]? = some (wv o) → Sg o → rIxL K (V.ref p) (V.int (k : Nat)) H2 Q := fun k o h hs => ⟨p, _, _, wv o, rfl, rfl, .inl (.inl hp2), atI_nat h, q o H2 sx G2 hs⟩
    rcases rr with rfl | rfl | rfl | rfl | rfl
    · exact fin 0 none rfl (.inl rfl)
    · exact fin 1 (some 97) rfl (.inr (.inl rfl))
    · exact fin 2 (some 98) rfl (.inr (.inr (.inl rfl)))
    · exact fin 3 (some 97) rfl (.inr (.inl rfl))
    · exact fin 4 (some 122) rfl (.inr (.inr (.inr rfl)))
def sp_raw : Sp := fun vs H Q _ => ∃ (g : Addr) (n : Nat), vs = [.ref g] ∧ Gn (n + 30) H g ∧ ∀ (r : Addr) (xs ts : List (Option Nat)) H', SameX g H H' → Gn n H' g → WhG H' g r xs ts → xs.length ≤ 20 → ts.length ≤ 20 → ts ≠ [] → (∀ o ∈ xs, Sg o) → (∀ o ∈ ts, Sg o) → Q (.ref r) H'
theorem c_law_raw_wheel (T : Txt K mg E_InvalidNumber E_InvalidList E_InvalidWheel E_CountError) : C8.Cal P w K mg base 4 "_law_raw_wheel" sp_raw [] := by
  refine calF T.d_law_raw_wheel sc_law_raw_wheel (fun vs H Q E h => ?_) (fun f cdv A outer s H vs Q E hr h => ?_)
  · obtain ⟨_, _, rfl, _⟩ := h; rfl
  · obtain ⟨g, n, rfl, G, q⟩ := h
    refine ⟨_, (pss_cons (ps_setLc (i := 1) (own := [("_law_turn", 2)]) rfl sc_law_raw_wheel.nd rfl rfl (sw_true rfl rfl rfl (by decide +kernel)) (pi_range1 (by rfl) T.m_range (pa_cons (pe_op op_add (C8.pe_c (c_law_random T) hr (by decide) (by rfl) (pa_cons (pv 0) (pa_cons pe_int pa_nil))) pe_int) pa_nil)) (blkOk_by (N := ["_law_generator_here", "_law_part", "_law_turn", "_law_many", "_law_first", "_law_spot", "_law_behind"]) (sc := C8.fnScope (topS 26)) (own := [("_law_turn", 2)]) (by decide +kernel)) (fun _ _ _ _ _ => (pg_name (i := 2) sc_law_raw_wheel.nd rfl (Or.inl rfl))) (fun _ _ _ _ _ => pts_nil) (fun _ _ _ _ _ => (C8.pe_c (c_law_sign T) hr (by decide) (by rfl) (pa_cons (pv 0) pa_nil))))
    (pss_cons (ps_asg (pe_tup (pa_cons (pe_op op_rep (pv 1) (pe_op op_add (C8.pe_c (c_law_random T) hr (by decide) (by rfl) (pa_cons (pv 0) (pa_cons pe_int pa_nil))) pe_int)) (pa_cons (C8.pe_c (c_law_random T) hr (by decide) (by rfl) (pa_cons (pv 0) (pa_cons pe_int pa_nil))) pa_nil))) (pg_two (K := K) (i := 2) (j := 3) rfl rfl sc_law_raw_wheel.nd rfl rfl (Or.inr rfl) (Or.inr rfl)))
    (pss_cons (ps_setLc (i := 4) (own := [("_law_spot", 5)]) rfl sc_law_raw_wheel.nd rfl rfl (sw_true rfl rfl rfl (by decide +kernel)) (pi_range1 (by rfl) T.m_range (pa_cons (C8.pe_c (c_law_random T) hr (by decide) (by rfl) (pa_cons (pv 0) (pa_cons pe_int pa_nil))) pa_nil)) (blkOk_by (N := ["_law_generator_here", "_law_part", "_law_turn", "_law_many", "_law_first", "_law_spot", "_law_behind"]) (sc := C8.fnScope (topS 26)) (own := [("_law_spot", 5)]) (by decide +kernel)) (fun _ _ _ _ _ => (pg_name (i := 5) sc_law_raw_wheel.nd rfl (Or.inl rfl))) (fun _ _ _ _ _ => pts_nil) (fun _ _ _ _ _ => (C8.pe_c (c_law_sign T) hr (by decide) (by rfl) (pa_cons (pv 0) pa_nil))))
    (pss_cons (ps_setLc (i := 6) (own := [("_law_spot", 5)]) rfl sc_law_raw_wheel.nd rfl rfl (sw_true rfl rfl rfl (by decide +kernel)) (pi_range1 (by rfl) T.m_range (pa_cons (pv 3) pa_nil)) (blkOk_by (N := ["_law_generator_here", "_law_part", "_law_turn", "_law_many", "_law_first", "_law_spot", "_law_behind"]) (sc := C8.fnScope (topS 26)) (own := [("_law_spot", 5)]) (by decide +kernel)) (fun _ _ _ _ _ => (pg_name (i := 5) sc_law_raw_wheel.nd rfl (Or.inl rfl))) (fun _ _ _ _ _ => pts_nil) (fun _ _ _ _ _ => (pe_ix ix_listH (pv 2) (pe_op op_modN (pe_callTy call_int1 (by rfl) T.m_int (by decide +kernel) (pa_cons (pe_op op_sub (pv 5) (pv 3)) pa_nil)) (pe_callB call_lenH (by rfl) T.m_len (by decide +kernel) (pa_cons (pv 2) pa_nil))) (fun _ _ => rfl))))
    (pss_one (ps_ret (pe_tup (pa_cons (pe_op op_cat (pv 4) (pv 6)) (pa_cons (pv 2) pa_nil))))))))), ?_⟩
    refine ⟨_, rfl, g, 5, n + 29, rfl, G, by decide, by decide, fun c H1 s1 G1 c0 c1 => ⟨c, 1, rfl, rfl, _, rfl, by omega, by omega, fun D hD => ?_⟩⟩
    refine lcC_draw 1 (lo := 0) (g := g) (n := n + 10) (cnt := (c + 1).toNat) (fun v => ∃ o, v = wv o ∧ Sg o) (small1000 (by omega)) hD (G1.le (by omega)) (fun i H6 R hi s6 G6 q' => ?_) fun H7 ns s7 G7 hL hln hP => ?_
    · exact ⟨rfl, _, rfl, g, _, rfl, G6, fun o H8 s8 G8 wo => q' _ H8 s8 G8 ⟨o, rfl, wo⟩⟩
    obtain ⟨ps, rfl, hps⟩ := wvs_of hP
    rw [List.length_map] at hln
    have Dg := Gn.ne G1 hD
    dsimp only
    refine ⟨_, rfl, _, rfl, g, 3, n + 9, rfl, G7, by decide, by decide, fun k H2 s2 G2 k0 k1 => ⟨k, 1, rfl, rfl, ?_⟩⟩
    have hL2 := s2 _ _ Dg hL
    obtain ⟨kn, rfl⟩ : ∃ kn : Nat, k = kn := ⟨k.toNat, by omega⟩
    refine ⟨D, _, _, rfl, rfl, hL2, by omega, by omega, by rw [List.length_map, hln, sizeLine_eq]; exact Nat.le_trans (Nat.mul_le_mul (show (c + 1).toNat ≤ 5 by omega) (show ((kn : Int) + 1).toNat ≤ 5 by omega)) (by decide), fun p np => ?_⟩
    obtain ⟨ts, hts⟩ : ∃ ts, ts = (List.replicate (kn + 1) ps).flatten := ⟨_, rfl⟩
    have lts : ts.length = ps.length * (kn + 1) := by rw [hts, List.length_flatten, List.map_replicate, List.sum_replicate_nat, Nat.mul_comm]
    have ltb : ps.length * (kn + 1) ≤ 5 * 4 := Nat.mul_le_mul (by omega) (by omega)
    have ltp : 1 * 1 ≤ ps.length * (kn + 1) := Nat.mul_le_mul (by omega) (by omega)
    have its : ∀ o ∈ ts, Sg o := fun o ho => by
      rw [hts] at ho
      obtain ⟨l, hl, ho⟩ := List.mem_flatten.mp ho
      rw [(List.mem_replicate.mp hl).2] at ho
      exact hps o ho
    have evs : (List.replicate ((kn : Int) + 1).toNat (ps.map wv)).flatten = ts.map wv := by
      rw [hts, List.map_flatten, List.map_replicate]
      rfl
    rw [evs]
    have s23 := sameNew (o := .lst (ts.map wv)) np
    have hp3 : upd H2 p (.lst (ts.map wv)) p = some (.lst (ts.map wv)) := upd_same
    have pg := Gn.ne G2 np
    have tne : ts ≠ [] := fun z => by rw [z] at lts; simp only [List.length_nil] at lts; omega
    generalize upd H2 p (.lst (ts.map wv)) = H3 at s23 hp3 ⊢
    have s03 := s1.trans (s7.trans (s2.trans (.of s23)))
    refine ⟨_, rfl, g, 6, n + 8, rfl, (G2.same s23).le (by omega), by decide, by decide, fun mn H4 s4 G4 m0 m1 => ⟨by show 2 ≤ sizeLine; decide, fun tp ntp => ⟨tp, _, rfl, .inl (.inl upd_same), rfl, _, _, rfl, _, _, rfl, rfl, ?_⟩⟩⟩
    obtain ⟨mm, rfl⟩ : ∃ mm : Nat, mn = mm := ⟨mn.toNat, by omega⟩
    have s45 := sameNew (o := .tup [.ref p, .int (mm : Nat)]) ntp
    have hp5 := s45 _ _ (s4 _ _ pg hp3)
    have s05 := s03.trans (s4.trans (.of s45))
    have G5 := G4.same s45
    generalize upd H4 tp (.tup [.ref p, .int (mm : Nat)]) = H5 at s45 hp5 s05 G5 ⊢
    refine ⟨_, rfl, g, 5, n + 7, rfl, G5.le (by omega), by decide, by decide, fun c2 H6 s6 G6 d0 d1 => ⟨c2, rfl, by omega, by omega, fun D2 hD2 => ?_⟩⟩
    have pg6 := s6 _ _ pg hp5
    refine lcC_draw 1 (lo := 0) (g := g) (n := n) (cnt := c2.toNat) (fun v => ∃ o, v = wv o ∧ Sg o) (small1000 (by omega)) hD2 (G6.le (by omega)) (fun i H8 R hi s8 G8 q' => ?_) fun H8 ns s8 G8 hL8 hln8 hP8 => ?_
    · exact ⟨rfl, _, rfl, g, _, rfl, G8, fun o H9 s9 G9 wo => q' _ H9 s9 G9 ⟨o, rfl, wo⟩⟩
    obtain ⟨fs, rfl, hfs⟩ := wvs_of hP8
    rw [List.length_map] at hln8
    have D2g := Gn.ne G6 hD2
    have hp8 := s8 _ _ pg pg6
    have s08 := s05.trans (s6.trans s8)
    dsimp only
    refine ⟨_, rfl, _, rfl, by omega, by omega, fun D3 hD3 => ?_⟩
    refine lcR_map (lo := 0) (n := mm) (fun i => wv (ts.getD (((i : Int) - (mm : Nat)).fmod (ts.length : Nat)).toNat none)) (small1000 (by omega)) (fun i H9 R hi s9 q' => ?_) hD3 fun H9 s9 hL9 => ?_
    · have hp9 := s9 _ _ hp8
      have b0 : 0 ≤ ((i : Int) - (mm : Nat)).fmod (ts.length : Nat) := Int.fmod_nonneg_of_pos _ (by omega)
      have b1 : ((i : Int) - (mm : Nat)).fmod (ts.length : Nat) < (ts.length : Nat) := Int.fmod_lt_of_pos _ (by omega)
      obtain ⟨j, hj⟩ : ∃ j : Nat, ((i : Int) - (mm : Nat)).fmod (ts.length : Nat) = j := ⟨_, (Int.toNat_of_nonneg b0).symm⟩
      have q' := q' H9 (Same.refl _)
      rw [hj] at b1 q'
      refine ⟨rfl, _, rfl, _, rfl, _, rfl, (i : Int), (mm : Int), by rw [Int.zero_add], rfl, .inl ⟨_, rfl, _, rfl, p, _, rfl, hp9, ?_⟩⟩
      rw [List.length_map]
      refine ⟨_, _, rfl, rfl, by omega, ?_⟩
      dsimp only
      rw [hj]
      refine ⟨p, _, _, wv (ts.getD j none), rfl, rfl, hp9, atI_nat (by rw [List.getElem?_map, List.getD_eq_getElem?_getD, List.getElem?_eq_getElem (show j < ts.length by omega)]; rfl), q'⟩
    · obtain ⟨bs, hbs⟩ : ∃ bs, bs = (List.range mm).map fun i : Nat => ts.getD (((i : Int) - (mm : Nat)).fmod (ts.length : Nat)).toNat none := ⟨_, rfl⟩
      have ebs : (List.range mm).map (fun i : Nat => wv (ts.getD (((i : Int) - (mm : Nat)).fmod (ts.length : Nat)).toNat none)) = bs.map wv := by rw [hbs, List.map_map]; rfl
      have lbs : bs.length = mm := by rw [hbs, List.length_map, List.length_range]
      have ibs : ∀ o ∈ bs, Sg o := fun o ho => by
        rw [hbs] at ho
        obtain ⟨i, _, rfl⟩ := List.mem_map.mp ho
        rw [List.getD_eq_getElem?_getD]
        cases e : ts[(((i : Int) - (mm : Nat)).fmod (ts.length : Nat)).toNat]? with
        | none => exact .inl rfl
        | some x => exact its x (List.mem_of_getElem? e)
      rw [ebs] at hL9
      have hL8' := s9 _ _ hL8
      refine ⟨_, rfl, _, rfl, D2, D3, _, _, rfl, rfl, hL8', hL9, by rw [List.length_map, List.length_map, sizeLine_eq]; omega, fun l1 nl1 => ⟨_, rfl, by show 2 ≤ sizeLine; decide, fun r nr => ?_⟩⟩
      rw [← List.map_append] at nr ⊢
      have z1 := sameNew (o := .lst ((fs ++ bs).map wv)) nl1
      have hl1 : upd H9 l1 (.lst ((fs ++ bs).map wv)) l1 = some (.lst ((fs ++ bs).map wv)) := upd_same
      generalize upd H9 l1 (.lst ((fs ++ bs).map wv)) = HA at z1 hl1 nr ⊢
      have G9 := G8.same s9
      have z2 := sameNew (o := .tup [.ref l1, .ref p]) nr
      refine q r (fs ++ bs) ts _ (s08.trans (.of (s9.trans (z1.trans z2)))) ((G9.same (z1.trans z2)).le (by omega)) ⟨l1, p, upd_same, z2 _ _ hl1, z2 _ _ (z1 _ _ (s9 _ _ hp8)), Gn.ne G9 nl1, pg⟩ (by rw [List.length_append]; omega) (by omega) tne (fun o ho => ?_) its
      rcases List.mem_append.mp ho with ho | ho
      · exact hfs o ho
      · exact ibs o ho
def sp_at : Sp := fun vs H Q _ => ∃ (r : Addr) (xs ts : List (Option Nat)) (n : Nat), vs = [.ref r, .int n] ∧ WhH H r xs ts ∧ ts ≠ [] ∧ Q (wv (valW xs ts n)) H
theorem c_law_value (T : Txt K mg E_InvalidNumber E_InvalidList E_InvalidWheel E_CountError) : C8.Cal P w K mg base 1 "_law_value" sp_at [] := by
  refine calF T.d_law_value sc_law_value (fun vs H Q E h => ?_) (fun f cdv A outer s H vs Q E hr h => ?_)
  · obtain ⟨_, _, _, _, rfl, _⟩ := h; rfl
  · obtain ⟨r, xs, ts, n, rfl, ⟨la, lb, h1, h2, h3⟩, ne, q⟩ := h
    have n0 := List.length_pos_iff.mpr ne
    refine ⟨_, (pss_cons (ps_if (pt_cmpR op_lt (pv 1) (pe_callB call_len_seq (by rfl) T.m_len (by decide +kernel) (pa_cons (pe_ix ix_tup (pv 0) pe_int (fun _ _ => rfl)) pa_nil)) (nomark _))
    (pss_one (ps_ret (pe_ix ix_list (pe_ix ix_tup (pv 0) pe_int (fun _ _ => rfl)) (pv 1) (fun _ _ => rfl))))
    pss_nil)
    (pss_one (ps_ret (pe_ix ix_list (pe_ix ix_tup (pv 0) pe_int (fun _ _ => rfl)) (pe_op op_modN (pe_callTy call_int1 (by rfl) T.m_int (by decide +kernel) (pa_cons (pe_op op_sub (pv 1) (pe_callB call_len_seq (by rfl) T.m_len (by decide +kernel) (pa_cons (pe_ix ix_tup (pv 0) pe_int (fun _ _ => rfl)) pa_nil))) pa_nil)) (pe_callB call_len_seq (by rfl) T.m_len (by decide +kernel) (pa_cons (pe_ix ix_tup (pv 0) pe_int (fun _ _ => rfl)) pa_nil))) (fun _ _ => rfl))))), ?_⟩
    refine ⟨_, rfl, _, rfl, r, _, 0, .ref la, rfl, rfl, .inl (.inl h1), rfl, la, _, rfl, .inl (.inl (.inl h2)), n, _, rfl, rfl, _, rfl, ?_⟩
    rw [List.length_map]
    by_cases c : n < xs.length
    · rw [decide_eq_true (by omega)]
      rw [show valW xs ts n = xs.getD n none from if_pos c] at q
      exact iteT ⟨_, rfl, r, _, 0, .ref la, rfl, rfl, .inl (.inl h1), rfl, _, rfl, la, _, _, wv (xs.getD n none), rfl, rfl, .inl (.inl h2), atI_nat (by rw [List.getElem?_map, List.getD_eq_getElem?_getD, List.getElem?_eq_getElem c]; rfl), q⟩
    · rw [decide_eq_false (by omega)]
      rw [show valW xs ts n = ts.getD ((n - xs.length) % ts.length) none from if_neg c] at q
      have ml := Nat.mod_lt (n - xs.length) n0
      refine iteF ⟨_, rfl, r, _, 1, .ref lb, rfl, rfl, .inl (.inl h1), rfl, ?_⟩
      refine ⟨_, rfl, _, rfl, r, _, 0, .ref la, rfl, rfl, .inl (.inl h1), rfl, la, _, rfl, .inl (.inl (.inl h2)), (n : Int), _, rfl, rfl, .inl ⟨_, rfl, _, rfl, r, _, 1, .ref lb, rfl, rfl, .inl (.inl h1), rfl, lb, _, rfl, .inl (.inl (.inl h3)), ?_⟩⟩
      rw [List.length_map, List.length_map]
      refine ⟨((n - xs.length : Nat) : Int), (ts.length : Nat), by rw [show (n : Int) - (xs.length : Nat) = ((n - xs.length : Nat) : Int) by omega], rfl, by omega, lb, _, (((n - xs.length) % ts.length : Nat) : Int), wv (ts.getD ((n - xs.length) % ts.length) none), rfl, ?_, .inl (.inl h3), atI_nat (by rw [List.getElem?_map, List.getD_eq_getElem?_getD, List.getElem?_eq_getElem ml]; rfl), q⟩
      dsimp only
      rw [fmodN]
end
end K49

set_option Elab.async false
set_option linter.all false
set_option maxRecDepth 100000
set_option maxHeartbeats 4000000
namespace K49
open PySem PySem.Spec PyProof.Rows L2 CK SX
theorem eqv_dW (a b : Option Nat) : PyData.eqv (dW a) (dW b) = decide (a = b) := by
  cases a with
  | none => cases b <;> simp [dW, PyData.eqv]
  | some a => cases b with
    | none => simp [dW, PyData.eqv]
    | some b =>
      simp only [dW, PyData.eqv, Bool.beq_eq_decide_eq]
      by_cases h : a = b
      · rw [h, decide_eq_true rfl, decide_eq_true rfl]
      · rw [decide_eq_false (fun z => h (Option.some.inj z)), decide_eq_false (fun z => h (List.cons.inj (S_inj z)).1)]
theorem eqvAll_dW : ∀ f g : List (Option Nat), PyData.eqvAll (f.map dW) (g.map dW) = decide (f = g)
  | [], [] => by simp [PyData.eqvAll]
  | [], _ :: _ => by simp [PyData.eqvAll]
  | _ :: _, [] => by simp [PyData.eqvAll]
  | x :: f, y :: g => by
    rw [List.map_cons, List.map_cons, PyData.eqvAll, eqvAll_dW f g, eqv_dW]
    simp
theorem eqv_dWl (f g : List (Option Nat)) : PyData.eqv (.list (f.map dW)) (.list (g.map dW)) = decide (f = g) := by
  simp only [PyData.eqv, eqvAll_dW]
theorem ok_it {o : Option Nat} (h : ItO o) : PyData.canLay0 (dW o) = true := by
  cases o with
  | none => simp [dW, PyData.canLay0]
  | some c =>
    have := h c rfl
    simp only [dW, PyData.canLay0, PyData.strOk]
    rw [← Array.all_toList]
    show [c].all _ = true
    rw [List.all_cons, List.all_nil, Bool.and_true]
    exact decide_eq_true (by omega)
theorem lay_dW : ∀ xs : List (Option Nat), (∀ o ∈ xs, ItO o) → PyData.canLayAll0 (xs.map dW) = true
  | [], _ => by simp [PyData.canLayAll0]
  | x :: xs, h => by
    rw [List.map_cons, PyData.canLayAll0, lay_dW xs fun o ho => h o (List.mem_cons_of_mem _ ho), ok_it (h x List.mem_cons_self)]
    rfl
theorem deep_dW : ∀ xs : List (Option Nat), PyData.depthAll (xs.map dW) = 0
  | [] => by simp [PyData.depthAll]
  | x :: xs => by
    rw [List.map_cons, PyData.depthAll, deep_dW xs]
    cases x <;> simp [dW, PyData.depth]
theorem shaped_dWl {xs : List (Option Nat)} (h : ∀ o ∈ xs, ItO o) : SeqAt.shaped (.list (xs.map dW)) = true := by
  unfold SeqAt.shaped
  rw [PyData.canLay0, lay_dW xs h, PyData.depth, deep_dW]
  rfl
theorem cut_last (xs : List V) : cutV xs (some (-1)) none = xs.drop (xs.length - 1) := by
  unfold cutV
  have e : HT.sIx xs.length 0 (some (-1)) = xs.length - 1 := by
    unfold HT.sIx
    simp
    omega
  rw [e, HT.sIx_none, List.take_of_length_le (by rw [List.length_drop]; exact Nat.le_refl _)]
section
variable {P : Program} {w : World} {K : PySem.W.Frag} {mg : Str → Option Value} {base : Heap} {E_InvalidNumber E_InvalidList E_InvalidWheel E_CountError : Addr}
def sp_signs : Sp := fun vs H Q _ => ∃ (a : Addr) (xs : List (Option Nat)), vs = [.ref a] ∧ H a = some (.lst (xs.map wv)) ∧ (∀ o ∈ xs, Sg o) ∧ ∀ H', Same H H' → Q (.bl true) H'
theorem c_law_signs (T : Txt K mg E_InvalidNumber E_InvalidList E_InvalidWheel E_CountError) : C8.Cal P w K mg base 1 "_law_signs" sp_signs [] := by
  refine calF T.d_law_signs sc_law_signs (fun vs H Q E h => ?_) (fun f cdv A outer s H vs Q E hr h => ?_)
  · obtain ⟨_, _, rfl, _⟩ := h; rfl
  · obtain ⟨a, xs, rfl, ha, hs, q⟩ := h
    refine ⟨_, (pss_cons (ps_if (pt_not (pt_val (pe_callB call_isK (by rfl) T.m_isinstance (by decide +kernel) (pa_cons (pv 0) (pa_cons (pe_bltn (v := .ty "list") (by rfl) T.m_list (by decide +kernel) rfl) pa_nil)))))
    (pss_one (ps_ret pe_bl))
    pss_nil)
    (pss_cons (ps_for PassesOwn.never rfl (pi_list (pv 0)) (pg_name (i := 1) sc_law_signs.nd rfl (Or.inl rfl))
    (pss_one (ps_if (PW.pt (pw_and (pt_cmpR op_notN (pv 1) pe_non (nomark _)) (pw_and1 (pt_cmpR op_notIn_seq (pv 1) (pe_lst (pa_cons pe_str (pa_cons pe_str (pa_cons pe_str pa_nil)))) (by rfl)))))
    (pss_one (ps_ret pe_bl))
    pss_nil)))
    (pss_one (ps_ret pe_bl)))), ?_⟩
    refine ⟨_, rfl, _, "list", true, rfl, .lst ha, by rw [tnm_lst ha]; decide +kernel, _, rfl, iteF ⟨_, rfl, a, rfl, ⟨_, .inl (.inl ha)⟩, ?_⟩⟩
    refine for_list (K := K) (D := { nx := _, rt := Q, bk := fun _ _ => False, ct := fun _ _ => False }) (a := a) (xs := xs.map wv) (fun i σ H' => Same H H' ∧ ∃ y1, σ = [some (.ref a), y1]) ⟨Same.refl _, none, rfl⟩ (fun i σ H' _ p => .inl (.inl (p.1 _ _ ha))) (fun i v σ H' hi p => ?_) (fun σ H' p => ?_)
    · obtain ⟨s1, y1, rfl⟩ := p
      rw [List.getElem?_map] at hi
      obtain ⟨o, ho, rfl⟩ := Option.map_eq_some_iff.mp hi
      have hso := hs o (List.mem_of_getElem? ho)
      refine ⟨_, rfl, rfl, _, rfl, ?_⟩
      cases o with
      | none => exact iteF (iteF ⟨s1, _, rfl⟩)
      | some c =>
        refine iteT ⟨_, rfl, by show 3 ≤ sizeLine; decide, fun p np => ⟨p, _, rfl, .inl (.inl (.inl upd_same)), rfl, rfl, ?_⟩⟩
        have eF : (!inV (wv (some c)) [.str (Str.ofString "a"), .str (Str.ofString "b"), .str (Str.ofString "z")]) = false := by
          rcases hso with h | h | h | h <;> cases h <;> decide +kernel
        rw [if_pos rfl, eF]
        exact ⟨_, rfl, iteF ⟨s1.trans (sameNew np), _, rfl⟩⟩
    · obtain ⟨s1, y1, rfl⟩ := p
      exact q _ s1
def sp_is_least : Sp := fun vs H Q _ => ∃ (r : Addr) (xs ts : List (Option Nat)), vs = [.ref r] ∧ WhH H r xs ts ∧ xs.length ≤ 100 ∧ ts.length ≤ 100 ∧ (∀ o ∈ xs, Sg o) ∧ (∀ o ∈ ts, Sg o) ∧ ∀ H', Same H H' → Q (.bl (leastB xs ts)) H'
theorem c_law_is_least (T : Txt K mg E_InvalidNumber E_InvalidList E_InvalidWheel E_CountError) : C8.Cal P w K mg base 2 "_law_is_least" sp_is_least [] := by
  refine calF T.d_law_is_least sc_law_is_least (fun vs H Q E h => ?_) (fun f cdv A outer s H vs Q E hr h => ?_)
  · obtain ⟨_, _, _, rfl, _⟩ := h; rfl
  · obtain ⟨r, xs, ts, rfl, ⟨la, lb, h1, h2, h3⟩, lx, lt, sx, st, q⟩ := h
    have ix : ∀ o ∈ xs, ItO o := fun o ho => (sx o ho).it
    have it : ∀ o ∈ ts, ItO o := fun o ho => (st o ho).it
    refine ⟨_, (pss_cons (ps_if (PW.pt (pw_or (pt_not (pt_val (pe_callB call_isK (by rfl) T.m_isinstance (by decide +kernel) (pa_cons (pv 0) (pa_cons (pe_bltn (v := .ty "tuple") (by rfl) T.m_tuple (by decide +kernel) rfl) pa_nil))))) (pw_or (pt_cmpR op_ne (pe_callB call_len_seq (by rfl) T.m_len (by decide +kernel) (pa_cons (pv 0) pa_nil)) pe_int (nomark _)) (pw_or (pt_not (pt_val (C8.pe_c (c_law_signs T) hr (by decide) (by rfl) (pa_cons (pe_ix ix_tup (pv 0) pe_int (fun _ _ => rfl)) pa_nil)))) (pw_or1 (pt_not (pt_val (C8.pe_c (c_law_signs T) hr (by decide) (by rfl) (pa_cons (pe_ix ix_tup (pv 0) pe_int (fun _ _ => rfl)) pa_nil)))))))))
    (pss_one (ps_ret pe_bl))
    pss_nil)
    (pss_cons (ps_set (i := 1) sc_law_is_least.nd rfl (Or.inl rfl) (pe_ix ix_tup (pv 0) pe_int (fun _ _ => rfl)))
    (pss_cons (ps_for PassesOwn.never rfl (pi_range2 (by rfl) T.m_range (pa_cons pe_int (pa_cons (pe_callB call_len_seq (by rfl) T.m_len (by decide +kernel) (pa_cons (pv 1) pa_nil)) pa_nil))) (pg_name (i := 2) sc_law_is_least.nd rfl (Or.inl rfl))
    (pss_one (ps_if (pt_cmpR (op_eqD hr.units) (pe_op op_cat (pe_slice sl_list (pv 1) (po_some (pv 2)) po_none) (pe_slice sl_list (pv 1) po_none (po_some (pv 2)))) (pv 1) (nomark _))
    (pss_one (ps_ret pe_bl))
    pss_nil)))
    (pss_one (ps_ret (pe_and (pe_cmpR (op_neD hr.units) (pv 1) (pe_lst pa_nil) (nomark _)) (pe_one (pe_cmpR (op_neD hr.units) (pe_slice sl_list (pe_ix ix_tup (pv 0) pe_int (fun _ _ => rfl)) (po_some (pe_un un_neg pe_int)) po_none) (pe_slice sl_list (pv 1) (po_some (pe_un un_neg pe_int)) po_none) (nomark _))))))))), ?_⟩
    refine ⟨_, rfl, _, "tuple", true, rfl, .tup h1, by rw [tnm_tup h1]; decide +kernel, _, rfl, iteF ⟨_, rfl, r, _, rfl, .inr (.inl (.inl h1)), rfl, _, rfl, iteF ?_⟩⟩
    refine ⟨_, rfl, r, _, 0, .ref la, rfl, rfl, .inl (.inl h1), rfl, la, xs, rfl, h2, sx, fun H1 s1 => ⟨_, rfl, iteF ?_⟩⟩
    refine ⟨_, rfl, r, _, 1, .ref lb, rfl, rfl, .inl (.inl (s1 _ _ h1)), rfl, lb, ts, rfl, s1 _ _ h3, st, fun H2 s2 => ⟨_, rfl, iteF ?_⟩⟩
    have s12 := s1.trans s2
    refine ⟨_, rfl, r, _, 1, .ref lb, rfl, rfl, .inl (.inl (s12 _ _ h1)), rfl, ?_⟩
    refine ⟨_, rfl, lb, _, rfl, .inl (.inl (.inl (s12 _ _ h3))), ?_⟩
    rw [List.length_map]
    refine ⟨1, (ts.length : Nat), rfl, ⟨by omega, by omega, by omega, by omega⟩, ?_⟩
    refine for_it walk_range (fun i σ H' => Same H H' ∧ (∃ y2, σ = [some (.ref r), some (.ref lb), y2]) ∧ ∀ j, j < i → j < ts.length - 1 → ¬ ts.drop (j + 1) ++ ts.take (j + 1) = ts) ⟨s12, ⟨none, rfl⟩, fun j h => absurd h (Nat.not_lt_zero _)⟩ (fun _ _ _ _ _ => True.intro) (fun i x σ H' H'' hi p yy => ?_) fun σ H' p => ?_
    · obtain ⟨s3, ⟨y2, rfl⟩, nr⟩ := p
      obtain ⟨rfl, rfl⟩ := yy
      have hi' : i < ts.length - 1 := by have h : i < ((ts.length : Int) - 1).toNat := hi; omega
      have ei : V.int (1 + (i : Int)) = V.int ((i + 1 : Nat) : Int) := by rw [show 1 + (i : Int) = ((i + 1 : Nat) : Int) by omega]
      refine ⟨_, rfl, _, rfl, (i + 1 : Nat), ei, lb, _, rfl, .inl (.inl (s3 _ _ h3)), fun p1 np1 => ?_⟩
      rw [cutV_drop, ← List.map_drop]
      have z1 := sameNew (o := .lst ((ts.drop (i + 1)).map wv)) np1
      have hp1 : upd H'' p1 (.lst ((ts.drop (i + 1)).map wv)) p1 = some (.lst ((ts.drop (i + 1)).map wv)) := upd_same
      generalize upd H'' p1 (.lst ((ts.drop (i + 1)).map wv)) = J1 at z1 hp1 ⊢
      refine ⟨_, rfl, _, rfl, (i + 1 : Nat), ei, lb, _, rfl, .inl (.inl (z1 _ _ (s3 _ _ h3))), fun p2 np2 => ?_⟩
      rw [cutV_take, ← List.map_take]
      have z2 := sameNew (o := .lst ((ts.take (i + 1)).map wv)) np2
      have hp2 : upd J1 p2 (.lst ((ts.take (i + 1)).map wv)) p2 = some (.lst ((ts.take (i + 1)).map wv)) := upd_same
      generalize upd J1 p2 (.lst ((ts.take (i + 1)).map wv)) = J2 at z2 hp2 ⊢
      refine ⟨p1, p2, _, _, rfl, rfl, z2 _ _ hp1, hp2, by rw [List.length_map, List.length_map, List.length_drop, List.length_take, sizeLine_eq]; omega, fun p3 np3 => ?_⟩
      rw [← List.map_append]
      have z3 := sameNew (o := .lst ((ts.drop (i + 1) ++ ts.take (i + 1)).map wv)) np3
      have hp3 : upd J2 p3 (.lst ((ts.drop (i + 1) ++ ts.take (i + 1)).map wv)) p3 = some (.lst ((ts.drop (i + 1) ++ ts.take (i + 1)).map wv)) := upd_same
      generalize upd J2 p3 (.lst ((ts.drop (i + 1) ++ ts.take (i + 1)).map wv)) = J3 at z3 hp3 ⊢
      have s5 := s3.trans (z1.trans (z2.trans z3))
      have ir : ∀ o ∈ ts.drop (i + 1) ++ ts.take (i + 1), ItO o := fun o ho => by
        rcases List.mem_append.mp ho with ho | ho
        · exact it o (List.mem_of_mem_drop ho)
        · exact it o (List.mem_of_mem_take ho)
      refine ⟨_, rfl, _, _, .lst (.inl (.inl hp3)) (dpAll_wv _), .lst (.inl (.inl (s5 _ _ h3))) (dpAll_wv _), shaped_dWl ir, shaped_dWl it, _, rfl, ?_⟩
      rw [eqv_dWl]
      by_cases c : ts.drop (i + 1) ++ ts.take (i + 1) = ts
      · rw [decide_eq_true c]
        have eq : leastB xs ts = false := by
          have : noRotB ts = false := by
            unfold noRotB
            rw [List.all_eq_false]
            exact ⟨i, List.mem_range.mpr hi', by rw [decide_eq_true c]; decide⟩
          unfold leastB
          rw [this]
          rfl
        rw [eq] at q
        exact iteT (q _ s5)
      · rw [decide_eq_false c]
        refine iteF ⟨s5, ⟨_, rfl⟩, fun j h1 h2 => ?_⟩
        by_cases h : j = i
        · rw [h]; exact c
        · exact nr j (by omega) h2
    · obtain ⟨s3, ⟨y2, rfl⟩, nr⟩ := p
      have eN : noRotB ts = true := by
        unfold noRotB
        rw [List.all_eq_true]
        intro j hj
        have hj := List.mem_range.mp hj
        rw [decide_eq_false (nr j (by show j < ((ts.length : Int) - 1).toNat; omega) hj)]
        rfl
      have eL : leastB xs ts = (!ts.isEmpty && !lastEq xs ts) := by unfold leastB; rw [eN, Bool.true_and]
      rw [eL] at q
      refine ⟨_, rfl, by show 0 ≤ sizeLine; decide, fun e ne => ?_⟩
      have z0 := sameNew (o := .lst []) ne
      have he : upd H' e (.lst []) e = some (.lst (([] : List (Option Nat)).map wv)) := upd_same
      generalize upd H' e (.lst []) = J0 at z0 he ⊢
      have s4 := s3.trans z0
      refine ⟨_, _, .lst (.inl (.inl (s4 _ _ h3))) (dpAll_wv _), .lst (.inl (.inl he)) (dpAll_wv _), shaped_dWl it, shaped_dWl (fun o h => nomatch h), ?_⟩
      rw [eqv_dWl]
      by_cases c : ts = []
      · rw [decide_eq_true c]
        rw [c] at q
        exact ⟨_, rfl, iteF (q _ s4)⟩
      · rw [decide_eq_false c]
        have ce : ts.isEmpty = false := by
          cases h : ts.isEmpty with
          | true => exact absurd (List.isEmpty_iff.mp h) c
          | false => rfl
        rw [ce] at q
        refine ⟨_, rfl, iteT ⟨_, rfl, r, _, 0, .ref la, rfl, rfl, .inl (.inl (s4 _ _ h1)), rfl, 1, rfl, _, rfl, la, _, rfl, .inl (.inl (s4 _ _ h2)), fun p1 np1 => ?_⟩⟩
        rw [cut_last, List.length_map, ← List.map_drop]
        have z1 := sameNew (o := .lst ((xs.drop (xs.length - 1)).map wv)) np1
        have hp1 : upd J0 p1 (.lst ((xs.drop (xs.length - 1)).map wv)) p1 = some (.lst ((xs.drop (xs.length - 1)).map wv)) := upd_same
        generalize upd J0 p1 (.lst ((xs.drop (xs.length - 1)).map wv)) = J1 at z1 hp1 ⊢
        refine ⟨_, rfl, 1, rfl, _, rfl, lb, _, rfl, .inl (.inl (z1 _ _ (s4 _ _ h3))), fun p2 np2 => ?_⟩
        rw [cut_last, List.length_map, ← List.map_drop]
        have z2 := sameNew (o := .lst ((ts.drop (ts.length - 1)).map wv)) np2
        have hp2 : upd J1 p2 (.lst ((ts.drop (ts.length - 1)).map wv)) p2 = some (.lst ((ts.drop (ts.length - 1)).map wv)) := upd_same
        generalize upd J1 p2 (.lst ((ts.drop (ts.length - 1)).map wv)) = J2 at z2 hp2 ⊢
        refine ⟨_, _, .lst (.inl (.inl (z2 _ _ hp1))) (dpAll_wv _), .lst (.inl (.inl hp2)) (dpAll_wv _), shaped_dWl (fun o h => ix o (List.mem_of_mem_drop h)), shaped_dWl (fun o h => it o (List.mem_of_mem_drop h)), ?_⟩
        rw [eqv_dWl]
        exact q _ (s4.trans (z1.trans z2))
end
end K49

set_option Elab.async false
set_option linter.all false
set_option maxRecDepth 100000
set_option maxHeartbeats 4000000
namespace K49
open PySem PySem.Spec PyProof.Rows L2 CK SX
theorem ne_no (a : V) : (!decide (a = a)) = false := by rw [decide_eq_true rfl]; rfl
theorem fine_b (b : Bool) : Fine (.bool b) := fine_of rfl (by simp [PyData.depth]) (by show 8 ≤ 16000000; decide)
theorem okD_it {o : Option Nat} (h : ItO o) : okD (dW o) = true ∧ bndD (dW o) ≤ 12 := by
  cases o with
  | none => exact ⟨rfl, by decide⟩
  | some c =>
    have hc := h c rfl
    refine ⟨?_, ?_⟩
    · show [c].all (fun c => decide (c < 16 ^ 8)) = true
      rw [List.all_cons, List.all_nil, Bool.and_true]
      exact decide_eq_true (by omega)
    · show 10 * (S [c]).length + 2 ≤ 12
      rw [S_len]
      exact Nat.le_refl _
theorem okDs_it : ∀ xs : List (Option Nat), (∀ o ∈ xs, ItO o) → okDs (xs.map dW) = true ∧ bndDs (xs.map dW) ≤ xs.length * 14
  | [], _ => ⟨rfl, Nat.le_refl _⟩
  | x :: xs, h => by
    obtain ⟨a, b⟩ := okD_it (h x List.mem_cons_self)
    obtain ⟨c, d⟩ := okDs_it xs fun o ho => h o (List.mem_cons_of_mem _ ho)
    refine ⟨?_, ?_⟩
    · show (okD (dW x) && okDs (xs.map dW)) = true
      rw [a, c]; rfl
    · show bndD (dW x) + 2 + bndDs (xs.map dW) ≤ (xs.length + 1) * 14
      omega
theorem fine_it {o : Option Nat} (h : ItO o) : Fine (dW o) := by
  obtain ⟨a, b⟩ := okD_it h
  refine fine_of a ?_ (by omega)
  cases o <;> simp [dW, PyData.depth]
theorem fine_wh {xs ts : List (Option Nat)} (hx : ∀ o ∈ xs, ItO o) (ht : ∀ o ∈ ts, ItO o) (lx : xs.length ≤ 1000) (lt : ts.length ≤ 1000) : Fine (dWh xs ts) := by
  obtain ⟨a, b⟩ := okDs_it xs hx
  obtain ⟨c, d⟩ := okDs_it ts ht
  refine fine_of ?_ ?_ ?_
  · show (okDs (xs.map dW) && (okDs (ts.map dW) && true)) = true
    rw [a, c]; rfl
  · unfold dWh
    rw [PyData.depth, PyData.depthAll, PyData.depthAll, PyData.depthAll, PyData.depth, PyData.depth, deep_dW, deep_dW]
    simp
  · show bndDs (xs.map dW) + 3 + 2 + (bndDs (ts.map dW) + 3 + 2 + 0) + 3 ≤ _
    omega
theorem sml_it {xs : List (Option Nat)} (h : ∀ o ∈ xs, ItO o) (l : xs.length ≤ 1000) : SmL (.list (xs.map dW)) := fun ds e => by
  have e := PyData.list.inj e
  subst e
  refine ⟨by rw [List.length_map]; exact l, fun d hd s es => ?_⟩
  obtain ⟨o, ho, rfl⟩ := List.mem_map.mp hd
  cases o with
  | none => cases es
  | some c =>
    have := PyData.str.inj es
    rw [← this, S_len]
    show 1 ≤ 1000
    decide
theorem smw_it {xs ts : List (Option Nat)} (hx : ∀ o ∈ xs, ItO o) (ht : ∀ o ∈ ts, ItO o) (lx : xs.length ≤ 1000) (lt : ts.length ≤ 1000) : SmW (dWh xs ts) := fun a b e => by
  have e := PyData.tuple.inj e
  obtain ⟨e1, e2⟩ := List.cons.inj e
  obtain ⟨e2, _⟩ := List.cons.inj e2
  rw [← e1, ← e2]
  exact ⟨sml_it hx lx, sml_it ht lt⟩
theorem cut_init (xs : List V) (v : V) : cutV (xs ++ [v]) none (some (-1)) = xs := by
  unfold cutV
  have e : HT.sIx (xs ++ [v]).length (xs ++ [v]).length (some (-1)) = xs.length := by
    unfold HT.sIx
    simp
    omega
  have e0 : HT.sIx (xs ++ [v]).length 0 none = 0 := rfl
  rw [e, e0, List.drop_zero, Nat.sub_zero, List.take_left]
theorem shaped_pair {xs ts : List (Option Nat)} (hx : ∀ o ∈ xs, ItO o) (ht : ∀ o ∈ ts, ItO o) : SeqAt.shaped (.list [.list (xs.map dW), .list (ts.map dW)]) = true := by
  unfold SeqAt.shaped
  rw [PyData.canLay0, PyData.canLayAll0, PyData.canLayAll0, PyData.canLayAll0, PyData.canLay0, PyData.canLay0, lay_dW xs hx, lay_dW ts ht, PyData.depth, PyData.depthAll, PyData.depthAll, PyData.depthAll, PyData.depth, PyData.depth, deep_dW, deep_dW]
  rfl
section
variable {P : Program} {w : World} {K : PySem.W.Frag} {mg : Str → Option Value} {base : Heap} {E_InvalidNumber E_InvalidList E_InvalidWheel E_CountError : Addr}
theorem good_tail (T : Txt K mg E_InvalidNumber E_InvalidList E_InvalidWheel E_CountError) (f0 : Addr) (cdv : Value) (A : Around) (outer : List Env) (s0 : Shared) (H0 : Hp) (E : XK) (hr : Room 6 (A.deeper (envOfC "_law_good" (C8.fnScope (topS 30)) s0.heap.objs.size f0 cdv))) (gd : A.guards = some []) :
    ∃ u, PSs (cxOf C8.CX0 P w K mg base ["_law_generator_here", "_law_raw", "_law_given", "_law_found", "_law_number", "_law_again", "_law_kept"] "_law_good" (C8.fnScope (topS 30)) f0 cdv A outer s0 H0 E).nox ((C8.fnBody (topS 30)).drop 4) u ∧
      ∀ (Dn : Ends) (H : Hp) (g r gl fr la lb ga gb fa fb : Addr) (xs ts us ws : List (Option Nat)) (v4 v5 v6 : Option V),
        H r = some (.tup [.ref la, .ref lb]) → H la = some (.lst (xs.map wv)) → H lb = some (.lst (ts.map wv)) → H fr = some (.tup [.ref fa, .ref fb]) → H fa = some (.lst (us.map wv)) → H fb = some (.lst (ws.map wv)) →
        H gl = some (.lst [.ref ga, .ref gb]) → H ga = some (.lst (xs.map wv)) → H gb = some (.lst (ts.map wv)) → lstW xs ts = (us, ws) → xs.length ≤ 20 → ts.length ≤ 20 → ts ≠ [] → (∀ o ∈ xs, Sg o) → (∀ o ∈ ts, Sg o) →
        (∀ H', Same H H' → Dn.rt (.bl true) H') → u Dn [some (.ref g), some (.ref r), some (.ref gl), some (.ref fr), v4, v5, v6] H := by
  refine ⟨_, (pss_cons (ps_if (pt_cmpR op_ne (pe_callB (call_reprF hr gd) (by rfl) T.m_repr (by decide +kernel) (pa_cons (C8.pe_c (c_is_wheel T) hr (by decide) (by rfl) (pa_cons (pv 1) pa_nil)) pa_nil)) (pe_callB (call_reprF hr gd) (by rfl) T.m_repr (by decide +kernel) (pa_cons (C8.pe_c (c_law_is_least T) hr (by decide) (by rfl) (pa_cons (pv 1) pa_nil)) pa_nil)) (nomark _))
    (pss_one (ps_ret pe_bl))
    pss_nil)
    (pss_cons (ps_par (i := 5) (j := 6) (by rfl) sc_law_good.nd rfl rfl (by decide) rfl rfl (pa_cons (pe_cN (c_least_wheel_K_turn_first T) hr (by decide) (by rfl) (pk_cons (pe_ix ix_tup (pv 1) pe_int (fun _ _ => rfl)) (pk_cons (pe_ix ix_tup (pv 1) pe_int (fun _ _ => rfl)) pk_nil))) (pa_cons (pe_callB (call_reprF hr gd) (by rfl) T.m_repr (by decide +kernel) (pa_cons (pv 3) pa_nil)) pa_nil)) (by rfl))
    (pss_cons (ps_expr (pe_bm PySem.F.plainAttrs_list PySem.F.slot_list_append PySem.F.type_list_append mt_append (pe_ix ix_tup (pv 5) pe_int (fun _ _ => rfl)) (pa_cons pe_str pa_nil)))
    (pss_cons (ps_expr (pe_bm PySem.F.plainAttrs_list PySem.F.slot_list_append PySem.F.type_list_append mt_append (pe_ix ix_tup (pv 5) pe_int (fun _ _ => rfl)) (pa_cons pe_str pa_nil)))
    (pss_one (ps_ret (pe_and (pe_cmpR op_eq (pe_callB (call_reprF hr gd) (by rfl) T.m_repr (by decide +kernel) (pa_cons (pv 3) pa_nil)) (pv 6) (nomark _)) (pe_and (pe_cmpR (op_eqD hr.units) (pe_lst (pa_cons (pe_ix ix_tup (pv 1) pe_int (fun _ _ => rfl)) (pa_cons (pe_ix ix_tup (pv 1) pe_int (fun _ _ => rfl)) pa_nil))) (pv 2) (nomark _)) (pe_one (pe_cmpR op_eq (pe_callB (call_reprF hr gd) (by rfl) T.m_repr (by decide +kernel) (pa_cons (pe_tup (pa_cons (pe_slice sl_list (pe_ix ix_tup (pv 5) pe_int (fun _ _ => rfl)) po_none (po_some (pe_un un_neg pe_int))) (pa_cons (pe_slice sl_list (pe_ix ix_tup (pv 5) pe_int (fun _ _ => rfl)) po_none (po_some (pe_un un_neg pe_int))) pa_nil))) pa_nil)) (pv 6) (nomark _))))))))))), ?_⟩
  intro Dn H g r gl fr la lb ga gb fa fb xs ts us ws v4 v5 v6 h1 h2 h3 f1 f2 f3 k1 k2 k3 eL lx lt tne sx st q
  have ix : ∀ o ∈ xs, ItO o := fun o ho => (sx o ho).it
  have it : ∀ o ∈ ts, ItO o := fun o ho => (st o ho).it
  have sW := smw_it ix it (by omega) (by omega)
  have wh : WhH H r xs ts := ⟨la, lb, h1, h2, h3⟩
  have fh : WhH H fr us ws := ⟨fa, fb, f1, f2, f3⟩
  have e1 : us = xs.take (xs.length - back xs ts) := (Prod.mk.inj eL).1.symm
  have e2 : ws = rotW ts (WM.rootN (zW ts)) (back xs ts) := (Prod.mk.inj eL).2.symm
  have lu : us.length ≤ 20 := by rw [e1, List.length_take]; omega
  have lw : ws.length ≤ 20 := by rw [e2, rotW_len]; have := (rt_root tne it).le tne; omega
  have iu : ∀ o ∈ us, ItO o := fun o ho => by rw [e1] at ho; exact ix o (List.mem_of_mem_take ho)
  have iw : ∀ o ∈ ws, ItO o := fun o ho => by rw [e2] at ho; exact rotW_it it o ho
  have fF := fine_wh iu iw (by omega) (by omega)
  refine ⟨_, rfl, .ref r, dWh xs ts, rfl, wh.dp, sW, fun J1 s1 => ⟨_, .bool _, rfl, .bl _, fine_b _, _, rfl, r, xs, ts, rfl, wh.same s1, by omega, by omega, sx, st, fun J2 s2 => ⟨_, .bool _, rfl, .bl _, fine_b _, rfl, ?_⟩⟩⟩
  rw [isWheel_dWh ix it, wheel_least it]
  refine ⟨false, congrArg V.bl (ne_no _), iteF ?_⟩
  have s12 := s1.trans s2
  refine ⟨_, rfl, r, _, 1, .ref lb, rfl, rfl, .inl (.inl (s12 _ _ h1)), rfl, _, rfl, r, _, 0, .ref la, rfl, rfl, .inl (.inl (s12 _ _ h1)), rfl, rfl, rfl, .ref la, .ref lb, .list (xs.map dW), .list (ts.map dW), rfl, .lst (.inl (.inl (s12 _ _ h2))) (dpAll_wv _), .lst (.inl (.inl (s12 _ _ h3))) (dpAll_wv _), sml_it ix (by omega), sml_it it (by omega), .inr (.inr ⟨la, lb, xs, ts, rfl, rfl, rfl, rfl, s12 _ _ h2, s12 _ _ h3, tne, ix, it, fun l1 l2 ar J3 s3 n1 n2 n3 n12 g1 g2 g3 => ?_⟩)⟩
  rw [eL] at g2 g3
  have s13 := s12.trans s3
  refine ⟨_, rfl, .ref fr, _, rfl, (fh.same s13).dp, fF, _, _, rfl, ?_⟩
  have nl1 := none_back s12 n1
  have nl2 := none_back s12 n2
  have nar := none_back s12 n3
  -- what stands ahead of the call is kept
  have keep : ∀ b o, H b = some o → b ≠ l1 ∧ b ≠ l2 := fun b o e => ⟨fun z => (by rw [z, nl1] at e; cases e), fun z => (by rw [z, nl2] at e; cases e)⟩
  refine ⟨_, rfl, ar, _, 0, .ref l1, rfl, rfl, .inl (.inl g1), rfl, .inl ⟨rfl, _, .inl (.inl g2)⟩, l1, _, _, rfl, rfl, g2, by rw [List.length_map, sizeLine_eq]; show us.length < _; omega, ?_⟩
  have a1 : ar ≠ l1 := fun z => by rw [z, g2] at g1; cases g1
  have a2 : ar ≠ l2 := fun z => by rw [z, g3] at g1; cases g1
  have g15 := (upd_ne (o := .lst (us.map wv ++ [.str (Str.ofString "q")])) a1).trans g1
  have g35 := (upd_ne (o := .lst (us.map wv ++ [.str (Str.ofString "q")])) (Ne.symm n12)).trans g3
  have g25 : upd J3 l1 (.lst (us.map wv ++ [.str (Str.ofString "q")])) l1 = some (.lst (us.map wv ++ [.str (Str.ofString "q")])) := upd_same
  have kx5 : Same H (upd J3 l1 (.lst (us.map wv ++ [.str (Str.ofString "q")]))) := fun b o e => (upd_ne (keep b o e).1).trans (s13 _ _ e)
  generalize upd J3 l1 (.lst (us.map wv ++ [.str (Str.ofString "q")])) = J5 at g15 g25 g35 kx5 ⊢
  refine ⟨_, rfl, ar, _, 1, .ref l2, rfl, rfl, .inl (.inl g15), rfl, .inl ⟨rfl, _, .inl (.inl g35)⟩, l2, _, _, rfl, rfl, g35, by rw [List.length_map, sizeLine_eq]; show ws.length < _; omega, ?_⟩
  have g16 := (upd_ne (o := .lst (ws.map wv ++ [.str (Str.ofString "q")])) a2).trans g15
  have g26 := (upd_ne (o := .lst (ws.map wv ++ [.str (Str.ofString "q")])) n12).trans g25
  have g36 : upd J5 l2 (.lst (ws.map wv ++ [.str (Str.ofString "q")])) l2 = some (.lst (ws.map wv ++ [.str (Str.ofString "q")])) := upd_same
  have kx6 : Same H (upd J5 l2 (.lst (ws.map wv ++ [.str (Str.ofString "q")]))) := fun b o e => (upd_ne (keep b o e).2).trans (kx5 _ _ e)
  generalize upd J5 l2 (.lst (ws.map wv ++ [.str (Str.ofString "q")])) = J6 at g16 g26 g36 kx6 ⊢
  refine ⟨_, rfl, .ref fr, _, rfl, (fh.same kx6).dp, fF, _, rfl, rfl, true, congrArg V.bl (decide_eq_true rfl), iteT ?_⟩
  refine ⟨_, rfl, r, _, 0, .ref la, rfl, rfl, .inl (.inl (kx6 _ _ h1)), rfl, _, rfl, r, _, 1, .ref lb, rfl, rfl, .inl (.inl (kx6 _ _ h1)), rfl, by show 2 ≤ sizeLine; decide, fun p np => ?_⟩
  have z7 := sameNew (o := .lst [.ref la, .ref lb]) np
  have hp7 : upd J6 p (.lst [.ref la, .ref lb]) p = some (.lst [.ref la, .ref lb]) := upd_same
  have kx7 := kx6.trans z7
  have g17 := z7 _ _ g16
  have g27 := z7 _ _ g26
  have g37 := z7 _ _ g36
  generalize upd J6 p (.lst [.ref la, .ref lb]) = J7 at hp7 kx7 g17 g27 g37 ⊢
  have shP := shaped_pair ix it
  refine ⟨_, rfl, .list [.list (xs.map dW), .list (ts.map dW)], .list [.list (xs.map dW), .list (ts.map dW)], .lst (.inl (.inl hp7)) (.cons (.lst (.inl (.inl (kx7 _ _ h2))) (dpAll_wv _)) (.cons (.lst (.inl (.inl (kx7 _ _ h3))) (dpAll_wv _)) .nil)), .lst (.inl (.inl (kx7 _ _ k1))) (.cons (.lst (.inl (.inl (kx7 _ _ k2))) (dpAll_wv _)) (.cons (.lst (.inl (.inl (kx7 _ _ k3))) (dpAll_wv _)) .nil)), shP, shP, ?_⟩
  rw [SeqAt.eqv_refl _ (SeqAt.canLay_of_shaped shP)]
  refine ⟨true, rfl, iteT ?_⟩
  refine ⟨_, rfl, ar, _, 0, .ref l1, rfl, rfl, .inl (.inl g17), rfl, 1, rfl, _, rfl, l1, _, rfl, .inl (.inl g27), fun q1 nq1 => ?_⟩
  rw [cut_init]
  have z8 := sameNew (o := .lst (us.map wv)) nq1
  have hq1 : upd J7 q1 (.lst (us.map wv)) q1 = some (.lst (us.map wv)) := upd_same
  generalize upd J7 q1 (.lst (us.map wv)) = J8 at z8 hq1 ⊢
  refine ⟨_, rfl, ar, _, 1, .ref l2, rfl, rfl, .inl (.inl (z8 _ _ g17)), rfl, 1, rfl, _, rfl, l2, _, rfl, .inl (.inl (z8 _ _ g37)), fun q2 nq2 => ?_⟩
  rw [cut_init]
  have z9 := sameNew (o := .lst (ws.map wv)) nq2
  have hq2 : upd J8 q2 (.lst (ws.map wv)) q2 = some (.lst (ws.map wv)) := upd_same
  generalize upd J8 q2 (.lst (ws.map wv)) = J9 at z9 hq2 ⊢
  refine ⟨by show 2 ≤ sizeLine; decide, fun q3 nq3 => ?_⟩
  have zA := sameNew (o := .tup [.ref q1, .ref q2]) nq3
  have hA : WhH (upd J9 q3 (.tup [.ref q1, .ref q2])) q3 us ws := ⟨q1, q2, upd_same, zA _ _ (z9 _ _ hq1), zA _ _ hq2⟩
  refine ⟨_, _, rfl, hA.dp, fF, _, rfl, rfl, ?_⟩
  rw [decide_eq_true rfl]
  exact q _ (kx7.trans (z8.trans (z9.trans zA)))
end
end K49

set_option Elab.async false
set_option linter.all false
set_option maxRecDepth 100000
set_option maxHeartbeats 4000000
namespace K49
open PySem PySem.Spec PyProof.Rows L2 CK SX
theorem rotW_sg {ts : List (Option Nat)} {r b : Nat} (h : ∀ o ∈ ts, Sg o) : ∀ o ∈ rotW ts r b, Sg o := fun o ho => by
  obtain ⟨i, hi, rfl⟩ := mem_getD ho
  rw [rotW_len] at hi
  rw [rotW_get hi]
  unfold gX
  rw [List.getD_eq_getElem?_getD]
  cases e : ts[(((i : Int) - (b : Nat)) % (r : Int)).toNat]? with
  | none => exact .inl rfl
  | some o => exact h o (List.mem_of_getElem? e)
section
variable {P : Program} {w : World} {K : PySem.W.Frag} {mg : Str → Option Value} {base : Heap} {E_InvalidNumber E_InvalidList E_InvalidWheel E_CountError : Addr}
def sp_good : Sp := fun vs H Q _ => ∃ (g r : Addr) (xs ts : List (Option Nat)) (n : Nat), vs = [.ref g, .ref r] ∧ Gn (n + 1) H g ∧ WhG H g r xs ts ∧ xs.length ≤ 20 ∧ ts.length ≤ 20 ∧ ts ≠ [] ∧ (∀ o ∈ xs, Sg o) ∧ (∀ o ∈ ts, Sg o) ∧ ∀ H', SameX g H H' → Gn n H' g → Q (.bl true) H'
theorem c_law_good (T : Txt K mg E_InvalidNumber E_InvalidList E_InvalidWheel E_CountError) : CalG P w K mg base 7 "_law_good" sp_good := by
  refine calG T.d_law_good sc_law_good (fun vs H Q E h => ?_) (fun f cdv A outer z H vs Q E hr gd h => ?_)
  · obtain ⟨_, _, _, _, _, rfl, _⟩ := h; rfl
  · obtain ⟨g, r, xs, ts, n, rfl, G, wg, lx, lt, tne, sx, st, q⟩ := h
    obtain ⟨u, hu, tail⟩ := good_tail (P := P) (w := w) (base := base) T f cdv A outer z H E hr gd
    refine ⟨_, (pss_cons (ps_set (i := 2) sc_law_good.nd rfl (Or.inl rfl) (pe_lst (pa_cons (pe_callTy call_list_of (by rfl) T.m_list (by decide +kernel) (pa_cons (pe_ix ix_tup (pv 1) pe_int (fun _ _ => rfl)) pa_nil)) (pa_cons (pe_callTy call_list_of (by rfl) T.m_list (by decide +kernel) (pa_cons (pe_ix ix_tup (pv 1) pe_int (fun _ _ => rfl)) pa_nil)) pa_nil))))
    (pss_cons (ps_set (i := 3) sc_law_good.nd rfl (Or.inl rfl) (C8.pe_c (c_least_wheel T) hr (by decide) (by rfl) (pa_cons (pe_ix ix_list (pv 2) pe_int (fun _ _ => rfl)) (pa_cons (pe_ix ix_list (pv 2) pe_int (fun _ _ => rfl)) pa_nil))))
    (pss_cons (ps_if (PW.pt (pw_or (pt_cmpR (op_neSame hr.units) (pv 2) (pe_lst (pa_cons (pe_ix ix_tup (pv 1) pe_int (fun _ _ => rfl)) (pa_cons (pe_ix ix_tup (pv 1) pe_int (fun _ _ => rfl)) pa_nil))) (nomark _)) (pw_or (pt_not (pt_val (C8.pe_c (c_law_is_least T) hr (by decide) (by rfl) (pa_cons (pv 3) pa_nil)))) (pw_or1 (pt_cmpR op_notBl (C8.pe_c (c_is_wheel T) hr (by decide) (by rfl) (pa_cons (pv 3) pa_nil)) pe_bl (nomark _))))))
    (pss_one (ps_ret pe_bl))
    pss_nil)
    (pss_cons (ps_for PassesOwn.never rfl (pi_list (pe_op op_cat (pe_listRg rfl (by rfl) T.m_list (prg_1 (by rfl) T.m_range (pe_op op_add (pe_op op_add (pe_callB call_len_seq (by rfl) T.m_len (by decide +kernel) (pa_cons (pe_ix ix_tup (pv 1) pe_int (fun _ _ => rfl)) pa_nil)) (pe_op op_mulW pe_int (pe_callB call_len_seq (by rfl) T.m_len (by decide +kernel) (pa_cons (pe_ix ix_tup (pv 1) pe_int (fun _ _ => rfl)) pa_nil)))) pe_int))) (pe_lst (pa_cons (C8.pe_c (c_law_random T) hr (by decide) (by rfl) (pa_cons (pv 0) (pa_cons (pe_op op_powB pe_int pe_int) pa_nil))) pa_nil)))) (pg_name (i := 4) sc_law_good.nd rfl (Or.inl rfl))
    (pss_cons (ps_if (pt_cmpR op_ne (pe_callB (call_reprF hr gd) (by rfl) T.m_repr (by decide +kernel) (pa_cons (C8.pe_c (c_law_value T) hr (by decide) (by rfl) (pa_cons (pv 3) (pa_cons (pv 4) pa_nil))) pa_nil)) (pe_callB (call_reprF hr gd) (by rfl) T.m_repr (by decide +kernel) (pa_cons (C8.pe_c (c_law_value T) hr (by decide) (by rfl) (pa_cons (pv 1) (pa_cons (pv 4) pa_nil))) pa_nil)) (nomark _))
    (pss_one (ps_ret pe_bl))
    pss_nil)
    (pss_one (ps_if (pt_cmpR op_ne (pe_callB (call_reprF hr gd) (by rfl) T.m_repr (by decide +kernel) (pa_cons (C8.pe_c (c_wheel_value T) hr (by decide) (by rfl) (pa_cons (pv 3) (pa_cons (pv 4) pa_nil))) pa_nil)) (pe_callB (call_reprF hr gd) (by rfl) T.m_repr (by decide +kernel) (pa_cons (C8.pe_c (c_law_value T) hr (by decide) (by rfl) (pa_cons (pv 1) (pa_cons (pv 4) pa_nil))) pa_nil)) (nomark _))
    (pss_one (ps_ret pe_bl))
    pss_nil))))
    hu)))), ?_⟩
    obtain ⟨la, lb, h1, h2, h3, ag, bg⟩ := id wg
    have ix : ∀ o ∈ xs, ItO o := fun o ho => (sx o ho).it
    have it : ∀ o ∈ ts, ItO o := fun o ho => (st o ho).it
    refine ⟨_, rfl, r, _, 0, .ref la, rfl, rfl, .inl (.inl h1), rfl, la, _, rfl, .inl (.inl (.inl h2)), fun ga nga => ?_⟩
    have z1 := sameNew (o := .lst (xs.map wv)) nga
    have k2 : upd H ga (.lst (xs.map wv)) ga = some (.lst (xs.map wv)) := upd_same
    have gag := Gn.ne G nga
    generalize upd H ga (.lst (xs.map wv)) = H1 at z1 k2 ⊢
    refine ⟨_, rfl, r, _, 1, .ref lb, rfl, rfl, .inl (.inl (z1 _ _ h1)), rfl, lb, _, rfl, .inl (.inl (.inl (z1 _ _ h3))), fun gb ngb => ?_⟩
    have z2 := sameNew (o := .lst (ts.map wv)) ngb
    have k3 : upd H1 gb (.lst (ts.map wv)) gb = some (.lst (ts.map wv)) := upd_same
    have gbg := Gn.ne (G.same z1) ngb
    generalize upd H1 gb (.lst (ts.map wv)) = H2 at z2 k3 ⊢
    refine ⟨by show 2 ≤ sizeLine; decide, fun gl ngl => ?_⟩
    have z3 := sameNew (o := .lst [.ref ga, .ref gb]) ngl
    have k1 : upd H2 gl (.lst [.ref ga, .ref gb]) gl = some (.lst [.ref ga, .ref gb]) := upd_same
    have glg := Gn.ne (G.same (z1.trans z2)) ngl
    generalize upd H2 gl (.lst [.ref ga, .ref gb]) = H3 at z3 k1 ⊢
    have z03 := z1.trans (z2.trans z3)
    have k2 := z3 _ _ (z2 _ _ k2)
    have k3 := z3 _ _ k3
    obtain ⟨us, ws, eL⟩ : ∃ us ws, lstW xs ts = (us, ws) := ⟨_, _, rfl⟩
    refine ⟨_, rfl, gl, _, 0, .ref ga, rfl, rfl, .inl (.inl k1), rfl, _, rfl, gl, _, 1, .ref gb, rfl, rfl, .inl (.inl k1), rfl, .ref ga, .ref gb, .list (xs.map dW), .list (ts.map dW), rfl, .lst (.inl (.inl k2)) (dpAll_wv _), .lst (.inl (.inl k3)) (dpAll_wv _), sml_it ix (by omega), sml_it it (by omega), .inr (.inr ⟨ga, gb, xs, ts, rfl, rfl, rfl, rfl, k2, k3, tne, ix, it, fun fa fb fr H4 s4 n1 n2 n3 n12 f1 f2 f3 => ?_⟩)⟩
    rw [eL] at f2 f3
    have f2 : H4 fa = some (.lst (us.map wv)) := f2
    have f3 : H4 fb = some (.lst (ws.map wv)) := f3
    have G3 := G.same z03
    have frg := Gn.ne G3 n3
    have fag := Gn.ne G3 n1
    have fbg := Gn.ne G3 n2
    have z04 := z03.trans s4
    have shP := shaped_pair ix it
    refine ⟨_, rfl, _, rfl, r, _, 0, .ref la, rfl, rfl, .inl (.inl (z04 _ _ h1)), rfl, _, rfl, r, _, 1, .ref lb, rfl, rfl, .inl (.inl (z04 _ _ h1)), rfl, by show 2 ≤ sizeLine; decide, fun p np => ?_⟩
    have z5 := sameNew (o := .lst [.ref la, .ref lb]) np
    have hp5 : upd H4 p (.lst [.ref la, .ref lb]) p = some (.lst [.ref la, .ref lb]) := upd_same
    generalize upd H4 p (.lst [.ref la, .ref lb]) = H5 at z5 hp5 ⊢
    have z05 := z04.trans z5
    have z35 := s4.trans z5
    refine ⟨.list [.list (xs.map dW), .list (ts.map dW)], .lst (.inl (.inl (z35 _ _ k1))) (.cons (.lst (.inl (.inl (z35 _ _ k2))) (dpAll_wv _)) (.cons (.lst (.inl (.inl (z35 _ _ k3))) (dpAll_wv _)) .nil)), .lst (.inl (.inl hp5)) (.cons (.lst (.inl (.inl (z05 _ _ h2))) (dpAll_wv _)) (.cons (.lst (.inl (.inl (z05 _ _ h3))) (dpAll_wv _)) .nil)), shP, false, rfl, iteF ?_⟩
    have e1 : us = xs.take (xs.length - back xs ts) := (Prod.mk.inj eL).1.symm
    have e2 : ws = rotW ts (WM.rootN (zW ts)) (back xs ts) := (Prod.mk.inj eL).2.symm
    have lu : us.length ≤ 20 := by rw [e1, List.length_take]; omega
    have lw : ws.length ≤ 20 := by rw [e2, rotW_len]; have := (rt_root tne it).le tne; omega
    have su : ∀ o ∈ us, Sg o := fun o ho => by rw [e1] at ho; exact sx o (List.mem_of_mem_take ho)
    have sw : ∀ o ∈ ws, Sg o := fun o ho => by rw [e2] at ho; exact rotW_sg st o ho
    have iu : ∀ o ∈ us, ItO o := fun o ho => (su o ho).it
    have iw : ∀ o ∈ ws, ItO o := fun o ho => (sw o ho).it
    have wB : wheelB us ws = true := by
      have := lst_wheel (xs := xs) tne it
      rw [eL] at this
      exact this
    have lB : leastB us ws = true := by rw [← wheel_least iw]; exact wB
    have wD : isWheelD (dWh us ws) = true := by rw [isWheel_dWh iu iw]; exact wB
    have wne : ws ≠ [] := fun z => by rw [z] at wB; cases wB
    have vals : ∀ i, valW us ws i = valW xs ts i := fun i => by
      have := val_lst (xs := xs) tne it i
      rw [eL] at this
      exact this
    have sWf := smw_it iu iw (by omega) (by omega)
    have f15 := z5 _ _ f1
    have f25 := z5 _ _ f2
    have f35 := z5 _ _ f3
    have fh5 : WhH H5 fr us ws := ⟨fa, fb, f15, f25, f35⟩
    refine ⟨_, rfl, fr, us, ws, rfl, fh5, by omega, by omega, su, sw, fun H6 s6 => ⟨_, rfl, ?_⟩⟩
    rw [lB]
    refine iteF ⟨_, rfl, .ref fr, dWh us ws, rfl, (fh5.same s6).dp, sWf, fun H7 s7 => ?_⟩
    rw [wD]
    refine ⟨true, true, rfl, rfl, _, rfl, iteF ?_⟩
    have s57 := s6.trans s7
    have z07 := z05.trans s57
    have h17 := z07 _ _ h1
    have h27 := z07 _ _ h2
    have h37 := z07 _ _ h3
    refine ⟨_, rfl, r, _, 0, .ref la, rfl, rfl, .inl (.inl h17), rfl, la, _, rfl, .inl (.inl (.inl h27)), _, rfl, r, _, 1, .ref lb, rfl, rfl, .inl (.inl h17), rfl, lb, _, rfl, .inl (.inl (.inl h37)), ?_⟩
    rw [List.length_map, List.length_map]
    obtain ⟨N, hN⟩ : ∃ N : Nat, (xs.length : Int) + 2 * (ts.length : Nat) + 1 = N := ⟨xs.length + 2 * ts.length + 1, by omega⟩
    have N61 : N ≤ 61 := by omega
    refine ⟨2, (ts.length : Nat), rfl, rfl, wide_mul (show ((2 : Int)).natAbs < 2 ^ 100 by decide) (show ((ts.length : Nat) : Int).natAbs < 2 ^ 100 by omega) (by decide) (by decide) (by decide), (xs.length : Nat), 2 * (ts.length : Nat), rfl, rfl, _, 1, rfl, rfl, (N : Int), by rw [← hN], RgOk.of_le (Int.le_refl _) (by omega) (by decide) (by omega), fun p1 np1 => ?_⟩
    have lrg : (rgV 0 (N : Int)).length = N := by rw [rgV_length]; omega
    have t1 := sameNew (o := .lst (rgV 0 (N : Int))) np1
    have hp1 : upd H7 p1 (.lst (rgV 0 (N : Int))) p1 = some (.lst (rgV 0 (N : Int))) := upd_same
    generalize upd H7 p1 (.lst (rgV 0 (N : Int))) = J1 at t1 hp1 ⊢
    have u1 := z07.trans t1
    have GJ1 := G.same u1
    have p1g : p1 ≠ g := Gn.ne (G.same z07) np1
    refine ⟨_, rfl, 10, 30, rfl, rfl, ⟨by decide, by decide⟩, g, _, n, rfl, GJ1, by decide, by decide, fun rn J3 t3 GJ3 rn0 rn1 => ⟨by show 1 ≤ sizeLine; decide, fun p3 np3 => ?_⟩⟩
    have t4 := sameNew (o := .lst [.int rn]) np3
    have hp3' : upd J3 p3 (.lst [.int rn]) p3 = some (.lst [.int rn]) := upd_same
    generalize upd J3 p3 (.lst [.int rn]) = J4 at t4 hp3' ⊢
    have hp14 := t4 _ _ (t3 _ _ p1g hp1)
    refine ⟨p1, p3, _, _, rfl, rfl, hp14, hp3', by rw [lrg, sizeLine_eq]; show N + 1 ≤ _; omega, fun p4 np4 => ?_⟩
    have t5 := sameNew (o := .lst (rgV 0 (N : Int) ++ [.int rn])) np4
    have hp4 : upd J4 p4 (.lst (rgV 0 (N : Int) ++ [.int rn])) p4 = some (.lst (rgV 0 (N : Int) ++ [.int rn])) := upd_same
    generalize upd J4 p4 (.lst (rgV 0 (N : Int) ++ [.int rn])) = J5 at t5 hp4 ⊢
    have t35 := t4.trans t5
    have GJ5 := GJ3.same t35
    have x5 : SameX g H J5 := (SameX.of u1).trans (t3.trans (.of t35))
    have kX : ∀ b o, H7 b = some o → b ≠ g → J5 b = some o := fun b o e nb => t35 _ _ (t3 _ _ nb (t1 _ _ e))
    have rg : r ≠ g := fun z => by obtain ⟨_, _, _, e, _⟩ := G; rw [z, e] at h1; cases h1
    have c1 := kX _ _ h17 rg
    have c2 := kX _ _ h27 ag
    have c3 := kX _ _ h37 bg
    have d1 := kX _ _ (s57 _ _ f15) frg
    have d2 := kX _ _ (s57 _ _ f25) fag
    have d3 := kX _ _ (s57 _ _ f35) fbg
    have w1 := kX _ _ (s57 _ _ (z35 _ _ k1)) glg
    have w2 := kX _ _ (s57 _ _ (z35 _ _ k2)) gag
    have w3 := kX _ _ (s57 _ _ (z35 _ _ k3)) gbg
    have whJ : WhH J5 r xs ts := ⟨la, lb, c1, c2, c3⟩
    have fhJ : WhH J5 fr us ws := ⟨fa, fb, d1, d2, d3⟩
    clear h1 h2 h3 h17 h27 h37 f1 f2 f3 f15 f25 f35 k1 k2 k3 fh5 wg
    refine ⟨p4, rfl, ⟨_, .inl (.inl hp4)⟩, ?_⟩
    refine for_list (K := K) (D := { nx := _, rt := Q, bk := fun _ _ => False, ct := fun _ _ => False }) (a := p4) (xs := rgV 0 (N : Int) ++ [.int rn]) (fun i σ H' => Same J5 H' ∧ ∃ y4, σ = [some (.ref g), some (.ref r), some (.ref gl), some (.ref fr), y4, none, none]) ⟨Same.refl _, none, rfl⟩ (fun i σ H' _ p => .inl (.inl (p.1 _ _ hp4))) (fun i v σ H' hi p => ?_) (fun σ H' p => ?_)
    · obtain ⟨sJ, y4, rfl⟩ := p
      obtain ⟨iz, rfl⟩ : ∃ iz : Nat, v = .int iz := by
        have hm := List.mem_of_getElem? hi
        rcases List.mem_append.mp hm with hm | hm
        · unfold rgV at hm
          obtain ⟨i, hi', rfl⟩ := List.mem_map.mp hm
          exact ⟨i, by rw [Int.zero_add]⟩
        · rw [List.mem_singleton.mp hm]
          exact ⟨rn.toNat, by rw [Int.toNat_of_nonneg rn0]⟩
      have wj := whJ.same sJ
      have fj := fhJ.same sJ
      have itv : ItO (valW xs ts iz) := by
        unfold valW
        split
        · exact it_get ix _
        · exact it_get it _
      have ev := vals iz
      have fv := fine_it itv
      refine ⟨_, rfl, _, rfl, fr, us, ws, iz, rfl, fj, wne, ?_⟩
      rw [ev]
      refine ⟨_, _, rfl, dp_wv _, fv, _, rfl, _, rfl, r, xs, ts, iz, rfl, wj, tne, _, _, rfl, dp_wv _, fv, rfl, false, congrArg V.bl (ne_no _), iteF ?_⟩
      refine ⟨_, rfl, _, rfl, .ref fr, .int (iz : Nat), dWh us ws, .int (iz : Nat), rfl, fj.dp, sWf, .int _, .inr (.inr ⟨wD, fr, us, ws, iz, rfl, rfl, rfl, fj, wne, fun H8 s8 => ?_⟩)⟩
      rw [ev]
      refine ⟨_, _, rfl, dp_wv _, fv, _, rfl, _, rfl, r, xs, ts, iz, rfl, wj.same s8, tne, _, _, rfl, dp_wv _, fv, rfl, false, congrArg V.bl (ne_no _), iteF ?_⟩
      exact ⟨sJ.trans s8, _, rfl⟩
    · obtain ⟨sJ, y4, rfl⟩ := p
      exact tail _ H' g r gl fr la lb ga gb fa fb xs ts us ws _ _ _ (sJ _ _ c1) (sJ _ _ c2) (sJ _ _ c3) (sJ _ _ d1) (sJ _ _ d2) (sJ _ _ d3) (sJ _ _ w1) (sJ _ _ w2) (sJ _ _ w3) eL lx lt tne sx st fun H'' s'' => q _ (x5.trans (.of (sJ.trans s''))) (GJ5.same (sJ.trans s''))
end
end K49

set_option Elab.async false
set_option linter.all false
set_option maxRecDepth 100000
set_option maxHeartbeats 4000000
set_option exponentiation.threshold 3000
namespace K49
open PySem PySem.Spec PyProof.Rows L2 CK SX
/-- what is refused: by which error, with which value -/
def Ref0 (K : PySem.W.Frag) (H : Hp) (items : List V) (nm : Str) (v : V) (d : PyData) : Prop := ∃ v1 v2 d1 d2, items = [v1, v2] ∧ Dp K H v1 d1 ∧ Dp K H v2 d2 ∧ SmL d1 ∧ SmL d2 ∧
  ((isWL d1 = false ∧ nm = "list" ∧ v = v1 ∧ d = d1) ∨ (isWL d1 = true ∧ isTL d2 = false ∧ nm = "list" ∧ v = v2 ∧ d = d2))
def Ref1 (K : PySem.W.Frag) (H : Hp) (items : List V) (nm : Str) (v : V) (d : PyData) : Prop := ∃ v1 v2 d1 d2, items = [v1, v2] ∧ Dp K H v1 d1 ∧ SmW d1 ∧ Dp K H v2 d2 ∧
  ((isWheelD d1 = false ∧ nm = "wheel" ∧ v = v1 ∧ d = d1) ∨ (isWheelD d1 = true ∧ isCnt d2 = false ∧ nm = "number" ∧ v = v2 ∧ d = d2))
section
variable {P : Program} {w : World} {K : PySem.W.Frag} {mg : Str → Option Value} {base : Heap} {E_InvalidNumber E_InvalidList E_InvalidWheel E_CountError : Addr}
def sp_caught (K : PySem.W.Frag) : Sp := fun vs H Q _ => ∃ (i : Int) (gl : Addr) (items : List V) (nm : Str) (v : V) (d : PyData), vs = [.int i, .ref gl] ∧ H gl = some (.lst items) ∧ ((i = 0 ∧ Ref0 K H items nm v d) ∨ (i = 1 ∧ Ref1 K H items nm v d)) ∧ Fine d ∧
  ∀ r H', Same H H' → H r = none → H' r = some (.lst [.str nm, .str d.shown]) → Q (.ref r) H'
theorem caught_tail (T : Txt K mg E_InvalidNumber E_InvalidList E_InvalidWheel E_CountError) (f0 : Addr) (cdv : Value) (A : Around) (outer : List Env) (s0 : Shared) (H0 : Hp) (E : XK) (hr : Room 6 (A.deeper (envOfC "_law_caught" (C8.fnScope (topS 31)) s0.heap.objs.size f0 cdv))) (gd : A.guards = some []) :
    ∃ u, PSs (cxOf C8.CX0 P w K mg base ["_law_which", "_law_given", "_law_error", "e"] "_law_caught" (C8.fnScope (topS 31)) f0 cdv A outer s0 H0 E).nox ((C8.fnBody (topS 31)).drop 2) u ∧
      ∀ (Dn : Ends) (H : Hp) (a dx C : Addr) (nm : Str) (v : V) (d : PyData) (v0 v1 : Option V), ((C = E_InvalidList ∧ nm = "list") ∨ (C = E_InvalidNumber ∧ nm = "number") ∨ (C = E_InvalidWheel ∧ nm = "wheel")) →
        H a = some (ExV a (.ref C) (some dx)) → H dx = some (.xd [("value", v)]) → Dp K H v d → Fine d → (∀ r H', Same H H' → H r = none → H' r = some (.lst [.str nm, .str d.shown]) → Dn.rt (.ref r) H') → u Dn [v0, v1, some (.ref a), none] H := by
  refine ⟨_, (pss_cons (ps_if (PW.pt (pw_and (pt_val (pe_callB call_isE (by rfl) T.m_isinstance (by decide +kernel) (pa_cons (pv 2) (pa_cons (C8.pe_gc (v := .ref E_InvalidList) (by rfl) ⟨_, T.x_InvalidList.gC, rfl⟩) pa_nil)))) (pw_and1 (pt_not (pt_val (pe_callB call_isEt (by rfl) T.m_isinstance (by decide +kernel) (pa_cons (pv 2) (pa_cons (pe_tup (pa_cons (C8.pe_gc (v := .ref E_InvalidNumber) (by rfl) ⟨_, T.x_InvalidNumber.gC, rfl⟩) (pa_cons (C8.pe_gc (v := .ref E_InvalidWheel) (by rfl) ⟨_, T.x_InvalidWheel.gC, rfl⟩) pa_nil))) pa_nil))))))))
    (pss_one (ps_ret (pe_lst (pa_cons pe_str (pa_cons (pe_callB (call_reprF hr gd) (by rfl) T.m_repr (by decide +kernel) (pa_cons (pe_fldE (pv 2)) pa_nil)) pa_nil)))))
    pss_nil)
    (pss_cons (ps_if (PW.pt (pw_and (pt_val (pe_callB call_isE (by rfl) T.m_isinstance (by decide +kernel) (pa_cons (pv 2) (pa_cons (C8.pe_gc (v := .ref E_InvalidNumber) (by rfl) ⟨_, T.x_InvalidNumber.gC, rfl⟩) pa_nil)))) (pw_and1 (pt_not (pt_val (pe_callB call_isEt (by rfl) T.m_isinstance (by decide +kernel) (pa_cons (pv 2) (pa_cons (pe_tup (pa_cons (C8.pe_gc (v := .ref E_InvalidList) (by rfl) ⟨_, T.x_InvalidList.gC, rfl⟩) (pa_cons (C8.pe_gc (v := .ref E_InvalidWheel) (by rfl) ⟨_, T.x_InvalidWheel.gC, rfl⟩) pa_nil))) pa_nil))))))))
    (pss_one (ps_ret (pe_lst (pa_cons pe_str (pa_cons (pe_callB (call_reprF hr gd) (by rfl) T.m_repr (by decide +kernel) (pa_cons (pe_fldE (pv 2)) pa_nil)) pa_nil)))))
    pss_nil)
    (pss_cons (ps_if (PW.pt (pw_and (pt_val (pe_callB call_isE (by rfl) T.m_isinstance (by decide +kernel) (pa_cons (pv 2) (pa_cons (C8.pe_gc (v := .ref E_InvalidWheel) (by rfl) ⟨_, T.x_InvalidWheel.gC, rfl⟩) pa_nil)))) (pw_and1 (pt_not (pt_val (pe_callB call_isEt (by rfl) T.m_isinstance (by decide +kernel) (pa_cons (pv 2) (pa_cons (pe_tup (pa_cons (C8.pe_gc (v := .ref E_InvalidList) (by rfl) ⟨_, T.x_InvalidList.gC, rfl⟩) (pa_cons (C8.pe_gc (v := .ref E_InvalidNumber) (by rfl) ⟨_, T.x_InvalidNumber.gC, rfl⟩) pa_nil))) pa_nil))))))))
    (pss_one (ps_ret (pe_lst (pa_cons pe_str (pa_cons (pe_callB (call_reprF hr gd) (by rfl) T.m_repr (by decide +kernel) (pa_cons (pe_fldE (pv 2)) pa_nil)) pa_nil)))))
    pss_nil)
    (pss_one (ps_ret (pe_lst (pa_cons pe_str (pa_cons pe_str pa_nil)))))))), ?_⟩
  intro Dn H a dx C nm v d v0 v1 hC ea ed dv fd q
  have one : ∀ {H' : Hp} {D : Addr} {x : Str} {b : Bool}, Same H H' → ExcC K C → (PySem.W.clsIn K C).isSome = true → ErrF K mg x "value" D → PySem.W.subIn K (.ref C) (.ref D) = some b → TyE K H' (.ref a) (.ref C) ∧ PySem.W.kitOne K (.ref C) (.ref D) = some b := fun s xc cl xD h => ⟨.exc xc cl (s _ _ ea) (s _ _ ed), kit_err xD h⟩
  rcases hC with ⟨eC, rfl⟩ | ⟨eC, rfl⟩ | ⟨eC, rfl⟩ <;> rw [eC] at ea one
  · skip
    obtain ⟨t1, k1⟩ := one (Same.refl _) T.x_InvalidList.xc T.x_InvalidList.cl T.x_InvalidList T.s_InvalidList_InvalidList
    refine ⟨_, rfl, _, _, _, _, true, rfl, .own _, t1, k1, _, rfl, iteT ?_⟩
    refine ⟨_, rfl, by show 2 ≤ sizeLine; decide, fun tp ntp => ?_⟩
    have sT := sameNew (o := .tup [.ref E_InvalidNumber, .ref E_InvalidWheel]) ntp
    obtain ⟨t2, k2⟩ := one sT T.x_InvalidList.xc T.x_InvalidList.cl T.x_InvalidNumber T.s_InvalidList_InvalidNumber
    obtain ⟨t3, k3⟩ := one sT T.x_InvalidList.xc T.x_InvalidList.cl T.x_InvalidWheel T.s_InvalidList_InvalidWheel
    refine ⟨_, tp, _, _, _, false, rfl, upd_same, .cons (.own _) (.cons (.own _) .nil), t2, kitAny_cons k2 (fun _ => kitAny_cons k3 (fun _ => kitAny_nil) (fun z => nomatch z)) (fun z => nomatch z), _, rfl, iteT ?_⟩
    refine ⟨_, rfl, a, _, dx, _, v, rfl, T.x_InvalidList.xf, T.x_InvalidList.no, sT _ _ ea, sT _ _ ed, rfl, v, d, rfl, dp_same sT _ _ dv, fd, by show 2 ≤ sizeLine; decide, fun r nr => ?_⟩
    exact q r _ (same_upd2 (none_upd nr).2 sT) (none_upd nr).2 upd_same
  · skip
    obtain ⟨t1, k1⟩ := one (Same.refl _) T.x_InvalidNumber.xc T.x_InvalidNumber.cl T.x_InvalidList T.s_InvalidNumber_InvalidList
    refine ⟨_, rfl, _, _, _, _, false, rfl, .own _, t1, k1, _, rfl, iteF (iteF ?_)⟩
    clear t1 k1
    obtain ⟨t1, k1⟩ := one (Same.refl _) T.x_InvalidNumber.xc T.x_InvalidNumber.cl T.x_InvalidNumber T.s_InvalidNumber_InvalidNumber
    refine ⟨_, rfl, _, _, _, _, true, rfl, .own _, t1, k1, _, rfl, iteT ?_⟩
    refine ⟨_, rfl, by show 2 ≤ sizeLine; decide, fun tp ntp => ?_⟩
    have sT := sameNew (o := .tup [.ref E_InvalidList, .ref E_InvalidWheel]) ntp
    obtain ⟨t2, k2⟩ := one sT T.x_InvalidNumber.xc T.x_InvalidNumber.cl T.x_InvalidList T.s_InvalidNumber_InvalidList
    obtain ⟨t3, k3⟩ := one sT T.x_InvalidNumber.xc T.x_InvalidNumber.cl T.x_InvalidWheel T.s_InvalidNumber_InvalidWheel
    refine ⟨_, tp, _, _, _, false, rfl, upd_same, .cons (.own _) (.cons (.own _) .nil), t2, kitAny_cons k2 (fun _ => kitAny_cons k3 (fun _ => kitAny_nil) (fun z => nomatch z)) (fun z => nomatch z), _, rfl, iteT ?_⟩
    refine ⟨_, rfl, a, _, dx, _, v, rfl, T.x_InvalidNumber.xf, T.x_InvalidNumber.no, sT _ _ ea, sT _ _ ed, rfl, v, d, rfl, dp_same sT _ _ dv, fd, by show 2 ≤ sizeLine; decide, fun r nr => ?_⟩
    exact q r _ (same_upd2 (none_upd nr).2 sT) (none_upd nr).2 upd_same
  · skip
    obtain ⟨t1, k1⟩ := one (Same.refl _) T.x_InvalidWheel.xc T.x_InvalidWheel.cl T.x_InvalidList T.s_InvalidWheel_InvalidList
    refine ⟨_, rfl, _, _, _, _, false, rfl, .own _, t1, k1, _, rfl, iteF (iteF ?_)⟩
    clear t1 k1
    obtain ⟨t1, k1⟩ := one (Same.refl _) T.x_InvalidWheel.xc T.x_InvalidWheel.cl T.x_InvalidNumber T.s_InvalidWheel_InvalidNumber
    refine ⟨_, rfl, _, _, _, _, false, rfl, .own _, t1, k1, _, rfl, iteF (iteF ?_)⟩
    clear t1 k1
    obtain ⟨t1, k1⟩ := one (Same.refl _) T.x_InvalidWheel.xc T.x_InvalidWheel.cl T.x_InvalidWheel T.s_InvalidWheel_InvalidWheel
    refine ⟨_, rfl, _, _, _, _, true, rfl, .own _, t1, k1, _, rfl, iteT ?_⟩
    refine ⟨_, rfl, by show 2 ≤ sizeLine; decide, fun tp ntp => ?_⟩
    have sT := sameNew (o := .tup [.ref E_InvalidList, .ref E_InvalidNumber]) ntp
    obtain ⟨t2, k2⟩ := one sT T.x_InvalidWheel.xc T.x_InvalidWheel.cl T.x_InvalidList T.s_InvalidWheel_InvalidList
    obtain ⟨t3, k3⟩ := one sT T.x_InvalidWheel.xc T.x_InvalidWheel.cl T.x_InvalidNumber T.s_InvalidWheel_InvalidNumber
    refine ⟨_, tp, _, _, _, false, rfl, upd_same, .cons (.own _) (.cons (.own _) .nil), t2, kitAny_cons k2 (fun _ => kitAny_cons k3 (fun _ => kitAny_nil) (fun z => nomatch z)) (fun z => nomatch z), _, rfl, iteT ?_⟩
    refine ⟨_, rfl, a, _, dx, _, v, rfl, T.x_InvalidWheel.xf, T.x_InvalidWheel.no, sT _ _ ea, sT _ _ ed, rfl, v, d, rfl, dp_same sT _ _ dv, fd, by show 2 ≤ sizeLine; decide, fun r nr => ?_⟩
    exact q r _ (same_upd2 (none_upd nr).2 sT) (none_upd nr).2 upd_same
theorem c_law_caught (T : Txt K mg E_InvalidNumber E_InvalidList E_InvalidWheel E_CountError) : CalG P w K mg base 7 "_law_caught" (sp_caught K) := by
  refine calG T.d_law_caught sc_law_caught (fun vs H Q E h => ?_) (fun f cdv A outer z H vs Q E hr gd h => ?_)
  · obtain ⟨_, _, _, _, _, _, rfl, _⟩ := h; rfl
  · obtain ⟨i, gl, items, nm, v, d, rfl, hgl, hc, fd, q⟩ := h
    obtain ⟨u, hu, tail⟩ := caught_tail (P := P) (w := w) (base := base) T f cdv A outer z H E hr gd
    refine ⟨_, (pss_cons (ps_set (i := 2) sc_law_caught.nd rfl (Or.inl rfl) pe_non)
    (pss_cons (ps_try_keep (i := 3) rfl rfl sc_law_caught.nd rfl rfl (by rfl) (by decide) T.x_CountError.gC (fun W pn xe tk => (pss_one (ps_if (pt_cmpR op_eq (pv 0) pe_int (nomark _))
    (pss_one (ps_expr (pe_x (x_least_wheel T) (tk) hr (by decide) (by rfl) (pa_cons (pe_ix ix_listH (pv 1) pe_int (fun _ _ => rfl)) (pa_cons (pe_ix ix_listH (pv 1) pe_int (fun _ _ => rfl)) pa_nil)))))
    (pss_one (ps_expr (pe_x (x_wheel_value T) (tk) hr (by decide) (by rfl) (pa_cons (pe_ix ix_listH (pv 1) pe_int (fun _ _ => rfl)) (pa_cons (pe_ix ix_listH (pv 1) pe_int (fun _ _ => rfl)) pa_nil))))))))
    (fun a pn => (pss_one (ps_set (i := 2) sc_law_caught.nd rfl (Or.inl rfl) (pv 3)))))
    hu)), ?_⟩
    have fin : ∀ (H' : Hp) (x a C : Addr) (nm' : Str), Same H H' → H' x = some (.xd [("value", v)]) → H' a = none → nm' = nm → ((C = E_InvalidList ∧ nm' = "list") ∨ (C = E_InvalidNumber ∧ nm' = "number") ∨ (C = E_InvalidWheel ∧ nm' = "wheel")) →
        u { nx := fun _ H' => Q .non H', rt := Q } [some (.int i), some (.ref gl), some (.ref a), none] (upd H' a (ExV a (.ref C) (some x))) := fun H' x a C nm' s' ex na e hC => by
      subst e
      have sN := s'.trans (sameNew (o := ExV a (.ref C) (some x)) na)
      exact tail _ _ a x C nm' v d _ _ hC upd_same ((upd_ne (ne_of_none ex na)).trans ex) (dp_same sN _ _ (by rcases hc with ⟨_, v1, v2, d1, d2, _, p1, p2, _, _, ⟨_, _, rfl, rfl⟩ | ⟨_, _, _, rfl, rfl⟩⟩ | ⟨_, v1, v2, d1, d2, _, p1, _, p2, ⟨_, _, rfl, rfl⟩ | ⟨_, _, _, rfl, rfl⟩⟩ <;> assumption)) fd (fun r H2 s2 nr hr2 => q r H2 (sN.trans s2) (none_back sN nr) hr2)
    rcases hc with ⟨rfl, v1, v2, d1, d2, rfl, p1, p2, m1, m2, hc⟩ | ⟨rfl, v1, v2, d1, d2, rfl, p1, sm, p2, hc⟩
    · refine ⟨_, rfl, rfl, _, rfl, iteT ?_⟩
      refine ⟨_, rfl, gl, _, 0, v1, rfl, rfl, hgl, rfl, _, rfl, gl, _, 1, v2, rfl, rfl, hgl, rfl, v1, v2, d1, d2, rfl, p1, p2, m1, m2, ?_⟩
      rcases hc with ⟨e1, rfl, rfl, rfl⟩ | ⟨e1, e2, rfl, rfl, rfl⟩
      · exact .inl ⟨e1, fun H' x s' ex => ⟨exm_err T.x_CountError T.s_InvalidList_CountError, fun a na => ⟨_, rfl, fin H' x a _ _ s' ex na rfl (.inl ⟨rfl, rfl⟩)⟩⟩⟩
      · exact .inr (.inl ⟨e1, e2, fun H' x s' ex => ⟨exm_err T.x_CountError T.s_InvalidList_CountError, fun a na => ⟨_, rfl, fin H' x a _ _ s' ex na rfl (.inl ⟨rfl, rfl⟩)⟩⟩⟩)
    · refine ⟨_, rfl, rfl, _, rfl, iteF ?_⟩
      refine ⟨_, rfl, gl, _, 0, v1, rfl, rfl, hgl, rfl, _, rfl, gl, _, 1, v2, rfl, rfl, hgl, rfl, v1, v2, d1, d2, rfl, p1, sm, p2, ?_⟩
      rcases hc with ⟨e1, rfl, rfl, rfl⟩ | ⟨e1, e2, rfl, rfl, rfl⟩
      · exact .inl ⟨e1, fun H' x s' ex => ⟨exm_err T.x_CountError T.s_InvalidWheel_CountError, fun a na => ⟨_, rfl, fin H' x a _ _ s' ex na rfl (.inr (.inr ⟨rfl, rfl⟩))⟩⟩⟩
      · exact .inr (.inl ⟨e1, e2, fun H' x s' ex => ⟨exm_err T.x_CountError T.s_InvalidNumber_CountError, fun a na => ⟨_, rfl, fin H' x a _ _ s' ex na rfl (.inr (.inl ⟨rfl, rfl⟩))⟩⟩⟩)
end
end K49

set_option Elab.async false
set_option linter.all false
set_option maxRecDepth 100000
set_option maxHeartbeats 8000000
set_option exponentiation.threshold 3000
namespace K49
open PySem PySem.Spec PyProof.Rows L2 CK SX
def smsB : PyData → Bool
  | .str s => decide (s.length ≤ 1000)
  | _ => true
theorem smsB_ok {d : PyData} (h : smsB d = true) : SmS d := fun s e => by
  rw [e] at h
  exact of_decide_eq_true h
def smlB : PyData → Bool
  | .list ds => decide (ds.length ≤ 1000) && ds.all smsB
  | _ => true
theorem smlB_ok {d : PyData} (h : smlB d = true) : SmL d := fun ds e => by
  rw [e] at h
  obtain ⟨a, b⟩ := Bool.and_eq_true_iff.mp h
  exact ⟨of_decide_eq_true a, fun x hx => smsB_ok (List.all_eq_true.mp b x hx)⟩
def smwB : PyData → Bool
  | .tuple [a, b] => smlB a && smlB b
  | _ => true
theorem smwB_ok {d : PyData} (h : smwB d = true) : SmW d := fun a b e => by
  rw [e] at h
  obtain ⟨h1, h2⟩ := Bool.and_eq_true_iff.mp h
  exact ⟨smlB_ok h1, smlB_ok h2⟩
theorem smw_two {a b : PyData} (h1 : SmL a) (h2 : SmL b) : SmW (.tuple [a, b]) := fun x y e => by
  have e := PyData.tuple.inj e
  obtain ⟨e1, e2⟩ := List.cons.inj e
  obtain ⟨e2, _⟩ := List.cons.inj e2
  rw [← e1, ← e2]
  exact ⟨h1, h2⟩
theorem wheel_l {a b : PyData} (h : isWL a = false) : isWheelD (.tuple [a, b]) = false := by
  show (isWL a && _) = false
  rw [h, Bool.false_and]
theorem wheel_r {a b : PyData} (h : isWL b = false) : isWheelD (.tuple [a, b]) = false := by
  show (isWL a && (isWL b && _)) = false
  rw [h, Bool.false_and, Bool.and_false]
theorem tl_of {d : PyData} (h : isWL d = false) : isTL d = false := by
  cases d with
  | list ds =>
    show (ds.all isItem && _) = false
    rw [show ds.all isItem = false from h, Bool.false_and]
  | _ => rfl
section
variable {P : Program} {w : World} {K : PySem.W.Frag} {mg : Str → Option Value} {base : Heap} {E_InvalidNumber E_InvalidList E_InvalidWheel E_CountError : Addr}
theorem ref_4 (T : Txt K mg E_InvalidNumber E_InvalidList E_InvalidWheel E_CountError) (f0 : Addr) (cdv : Value) (A : Around) (outer : List Env) (s0 : Shared) (H0 : Hp) (E : XK) (hr : Room 7 (A.deeper (envOfC "_law_refused" (C8.fnScope (topS 32)) s0.heap.objs.size f0 cdv))) (gd : A.guards = some []) :
    ∃ u, PSs (cxOf C8.CX0 P w K mg base ["_law_bad"] "_law_refused" (C8.fnScope (topS 32)) f0 cdv A outer s0 H0 E).nox ((C8.fnBody (topS 32)).drop 4) u ∧
      ∀ (Dn : Ends) (H : Hp) (v0 : Option V), (∀ H', Dn.rt (.bl true) H') → u Dn [v0] H := by
  refine ⟨_, (pss_one (ps_ret pe_bl)), ?_⟩
  intro Dn H v0 q
  exact q _
theorem ref_3 (T : Txt K mg E_InvalidNumber E_InvalidList E_InvalidWheel E_CountError) (f0 : Addr) (cdv : Value) (A : Around) (outer : List Env) (s0 : Shared) (H0 : Hp) (E : XK) (hr : Room 7 (A.deeper (envOfC "_law_refused" (C8.fnScope (topS 32)) s0.heap.objs.size f0 cdv))) (gd : A.guards = some []) :
    ∃ u, PSs (cxOf C8.CX0 P w K mg base ["_law_bad"] "_law_refused" (C8.fnScope (topS 32)) f0 cdv A outer s0 H0 E).nox ((C8.fnBody (topS 32)).drop 3) u ∧
      ∀ (Dn : Ends) (H : Hp) (v0 : Option V), (∀ H', Dn.rt (.bl true) H') → u Dn [v0] H := by
  obtain ⟨u, hu, tail⟩ := ref_4 (P := P) (w := w) (base := base) T f0 cdv A outer s0 H0 E hr gd
  refine ⟨_, (pss_cons (ps_for PassesOwn.never rfl (pi_list (pe_lst (pa_cons pe_non (pa_cons (pe_un un_neg pe_int) (pa_cons pe_bl (pa_cons pe_str (pa_cons (pe_lst (pa_cons pe_int pa_nil)) pa_nil))))))) (pg_name (i := 0) sc_law_refused.nd rfl (Or.inl rfl))
    (pss_one (ps_if (pt_cmpR (op_neSame hr.units) (pe_cG (c_law_caught T) hr gd (by decide) (by rfl) (pa_cons pe_int (pa_cons (pe_lst (pa_cons (pe_tup (pa_cons (pe_lst (pa_cons pe_str pa_nil)) (pa_cons (pe_lst (pa_cons pe_str pa_nil)) pa_nil))) (pa_cons (pv 0) pa_nil))) pa_nil))) (pe_lst (pa_cons pe_str (pa_cons (pe_callB (call_reprF hr gd) (by rfl) T.m_repr (by decide +kernel) (pa_cons (pv 0) pa_nil)) pa_nil))) (nomark _))
    (pss_one (ps_ret pe_bl))
    pss_nil)))
    hu), ?_⟩
  intro Dn H v0 q
  have sB : Same H H := Same.refl _
  refine ⟨1, rfl, ?_⟩
  refine ⟨by show 1 ≤ sizeLine; decide, fun a1 n1 => ?_⟩
  have s1 := sameNew (o := .lst [(.int 0)]) n1
  have h1 : upd H a1 (.lst [(.int 0)]) a1 = some (.lst [(.int 0)]) := upd_same
  generalize upd H a1 (.lst [(.int 0)]) = H1 at s1 h1 ⊢
  replace sB := sB.trans s1
  have d_1 : Dp K H1 (.ref a1) (.list [(.int 0)]) := .lst (.inl (.inl h1)) (.cons (.int _) .nil)
  refine ⟨by show 5 ≤ sizeLine; decide, fun a2 n2 => ?_⟩
  have s2 := sameNew (o := .lst [.non, (.int (-1)), (.bl true), (.str "0"), (.ref a1)]) n2
  have hL : upd H1 a2 (.lst [.non, (.int (-1)), (.bl true), (.str "0"), (.ref a1)]) a2 = some (.lst [.non, (.int (-1)), (.bl true), (.str "0"), (.ref a1)]) := upd_same
  generalize upd H1 a2 (.lst [.non, (.int (-1)), (.bl true), (.str "0"), (.ref a1)]) = HL at s2 hL ⊢
  replace d_1 := dp_same s2 _ _ d_1
  have da : DpAll K HL [.non, (.int (-1)), (.bl true), (.str "0"), (.ref a1)] [.none, (.int (-1)), (.bool true), (.str "0"), (.list [(.int 0)])] := (.cons .non (.cons (.int _) (.cons (.bl _) (.cons (.str _) (.cons d_1 .nil)))))
  have aP : ([.none, (.int (-1)), (.bool true), (.str "0"), (.list [(.int 0)])] : List PyData).all (fun d => !isCnt d && (finB d && true)) = true := by decide +kernel
  refine ⟨a2, rfl, ⟨_, .inl (.inl hL)⟩, for_list (K := K) (a := a2) (xs := [.non, (.int (-1)), (.bl true), (.str "0"), (.ref a1)]) (fun i σ H' => Same HL H' ∧ ∃ y0, σ = [y0]) ⟨Same.refl _, v0, rfl⟩ (fun i σ H' _ p => .inl (.inl (p.1 _ _ hL))) (fun i y σ H' hi p => ?_) (fun σ H' p => ?_)⟩
  · obtain ⟨sL, y0, rfl⟩ := p
    obtain ⟨dy, hdy, d_y⟩ := dpAll_get da hi
    have pP := List.all_eq_true.mp aP dy (List.mem_of_getElem? hdy)
    obtain ⟨p1, pP⟩ := Bool.and_eq_true_iff.mp pP
    obtain ⟨p2, p3⟩ := Bool.and_eq_true_iff.mp pP
    have p1 := not_true p1
    replace d_y := dp_same sL _ _ d_y
    have sB : Same H' H' := Same.refl _
    refine ⟨by show 1 ≤ sizeLine; decide, fun a3 n3 => ?_⟩
    have s3 := sameNew (o := .lst [(.str "a")]) n3
    have h3 : upd H' a3 (.lst [(.str "a")]) a3 = some (.lst [(.str "a")]) := upd_same
    generalize upd H' a3 (.lst [(.str "a")]) = H3 at s3 h3 ⊢
    replace d_y := dp_same s3 _ _ d_y
    replace sB := sB.trans s3
    have d_3 : Dp K H3 (.ref a3) (.list [(.str "a")]) := .lst (.inl (.inl h3)) (.cons (.str _) .nil)
    refine ⟨by show 1 ≤ sizeLine; decide, fun a4 n4 => ?_⟩
    have s4 := sameNew (o := .lst [(.str "b")]) n4
    have h4 : upd H3 a4 (.lst [(.str "b")]) a4 = some (.lst [(.str "b")]) := upd_same
    generalize upd H3 a4 (.lst [(.str "b")]) = H4 at s4 h4 ⊢
    replace d_y := dp_same s4 _ _ d_y
    replace d_3 := dp_same s4 _ _ d_3
    replace sB := sB.trans s4
    have d_4 : Dp K H4 (.ref a4) (.list [(.str "b")]) := .lst (.inl (.inl h4)) (.cons (.str _) .nil)
    refine ⟨by show 2 ≤ sizeLine; decide, fun a5 n5 => ?_⟩
    have s5 := sameNew (o := .tup [(.ref a3), (.ref a4)]) n5
    have h5 : upd H4 a5 (.tup [(.ref a3), (.ref a4)]) a5 = some (.tup [(.ref a3), (.ref a4)]) := upd_same
    generalize upd H4 a5 (.tup [(.ref a3), (.ref a4)]) = H5 at s5 h5 ⊢
    replace d_y := dp_same s5 _ _ d_y
    replace d_3 := dp_same s5 _ _ d_3
    replace d_4 := dp_same s5 _ _ d_4
    replace sB := sB.trans s5
    have d_5 : Dp K H5 (.ref a5) (.tuple [(.list [(.str "a")]), (.list [(.str "b")])]) := .tup (.inl (.inl h5)) (.cons d_3 (.cons d_4 .nil))
    refine ⟨_, rfl, ?_⟩
    refine ⟨by show 2 ≤ sizeLine; decide, fun a6 n6 => ?_⟩
    have s6 := sameNew (o := .lst [(.ref a5), y]) n6
    have hT6 : upd H5 a6 (.lst [(.ref a5), y]) a6 = some (.lst [(.ref a5), y]) := upd_same
    generalize upd H5 a6 (.lst [(.ref a5), y]) = H6 at s6 hT6 ⊢
    replace d_y := dp_same s6 _ _ d_y
    replace d_5 := dp_same s6 _ _ d_5
    replace sB := sB.trans s6
    refine ⟨1, a6, _, "number", y, dy, rfl, hT6, .inr ⟨rfl, (.ref a5), y, (.tuple [(.list [(.str "a")]), (.list [(.str "b")])]), dy, rfl, d_5, smwB_ok (by decide +kernel), d_y, .inr ⟨by decide +kernel, p1, rfl, rfl, rfl⟩⟩, finB_ok p2, fun r6 R6 sr6 nr6 hr6 => ?_⟩
    refine ⟨_, rfl, y, dy, rfl, dp_same sr6 _ _ d_y, finB_ok p2, by show 2 ≤ sizeLine; decide, fun t6 nt6 => ?_⟩
    refine ⟨.list [.str "number", .str dy.shown], .lst (.inl (.inl ((upd_ne (ne_of_none hr6 nt6)).trans hr6))) (.cons (.str _) (.cons (.str _) .nil)), .lst (.inl (.inl upd_same)) (.cons (.str _) (.cons (.str _) .nil)), shaped_texts (by decide +kernel) (finB_str p2), _, rfl, iteF ?_⟩
    have q6 := sameNew (o := .lst [.str "number", .str dy.shown]) nt6
    replace sB := sB.trans (sr6.trans q6)
    generalize upd R6 t6 (.lst [.str "number", .str dy.shown]) = G6 at q6 sB ⊢
    replace d_y := dp_same (sr6.trans q6) _ _ d_y
    clear hT6 hr6
    exact ⟨sL.trans sB, _, rfl⟩
  · obtain ⟨sL, y0, rfl⟩ := p
    exact tail Dn H' y0 q
theorem ref_2 (T : Txt K mg E_InvalidNumber E_InvalidList E_InvalidWheel E_CountError) (f0 : Addr) (cdv : Value) (A : Around) (outer : List Env) (s0 : Shared) (H0 : Hp) (E : XK) (hr : Room 7 (A.deeper (envOfC "_law_refused" (C8.fnScope (topS 32)) s0.heap.objs.size f0 cdv))) (gd : A.guards = some []) :
    ∃ u, PSs (cxOf C8.CX0 P w K mg base ["_law_bad"] "_law_refused" (C8.fnScope (topS 32)) f0 cdv A outer s0 H0 E).nox ((C8.fnBody (topS 32)).drop 2) u ∧
      ∀ (Dn : Ends) (H : Hp) (v0 : Option V), (∀ H', Dn.rt (.bl true) H') → u Dn [v0] H := by
  obtain ⟨u, hu, tail⟩ := ref_3 (P := P) (w := w) (base := base) T f0 cdv A outer s0 H0 E hr gd
  refine ⟨_, (pss_cons (ps_for PassesOwn.never rfl (pi_list (pe_lst (pa_cons pe_non (pa_cons pe_int (pa_cons (pe_lst (pa_cons (pe_lst pa_nil) (pa_cons (pe_lst (pa_cons pe_str pa_nil)) pa_nil))) (pa_cons (pe_tup (pa_cons (pe_lst pa_nil) pa_nil)) (pa_cons (pe_tup (pa_cons (pe_lst pa_nil) (pa_cons (pe_lst pa_nil) pa_nil))) (pa_cons (pe_tup (pa_cons (pe_lst pa_nil) (pa_cons (pe_lst (pa_cons pe_str pa_nil)) (pa_cons pe_int pa_nil)))) (pa_cons (pe_tup (pa_cons (pe_lst pa_nil) (pa_cons (pe_lst (pa_cons pe_str (pa_cons pe_str pa_nil))) pa_nil))) (pa_cons (pe_tup (pa_cons (pe_lst (pa_cons pe_str pa_nil)) (pa_cons (pe_lst (pa_cons pe_str (pa_cons pe_str pa_nil))) pa_nil))) (pa_cons (pe_tup (pa_cons (pe_lst (pa_cons pe_non pa_nil)) (pa_cons (pe_lst (pa_cons pe_non pa_nil)) pa_nil))) pa_nil))))))))))) (pg_name (i := 0) sc_law_refused.nd rfl (Or.inl rfl))
    (pss_one (ps_if (PW.pt (pw_or (pt_cmpR op_notBl (C8.pe_c (c_is_wheel T) hr (by decide) (by rfl) (pa_cons (pv 0) pa_nil)) pe_bl (nomark _)) (pw_or1 (pt_cmpR (op_neSame hr.units) (pe_cG (c_law_caught T) hr gd (by decide) (by rfl) (pa_cons pe_int (pa_cons (pe_lst (pa_cons (pv 0) (pa_cons pe_non pa_nil))) pa_nil))) (pe_lst (pa_cons pe_str (pa_cons (pe_callB (call_reprF hr gd) (by rfl) T.m_repr (by decide +kernel) (pa_cons (pv 0) pa_nil)) pa_nil))) (nomark _)))))
    (pss_one (ps_ret pe_bl))
    pss_nil)))
    hu), ?_⟩
  intro Dn H v0 q
  have sB : Same H H := Same.refl _
  refine ⟨by show 0 ≤ sizeLine; decide, fun a7 n7 => ?_⟩
  have s7 := sameNew (o := .lst []) n7
  have h7 : upd H a7 (.lst []) a7 = some (.lst []) := upd_same
  generalize upd H a7 (.lst []) = H7 at s7 h7 ⊢
  replace sB := sB.trans s7
  have d_7 : Dp K H7 (.ref a7) (.list []) := .lst (.inl (.inl h7)) .nil
  refine ⟨by show 1 ≤ sizeLine; decide, fun a8 n8 => ?_⟩
  have s8 := sameNew (o := .lst [(.str "a")]) n8
  have h8 : upd H7 a8 (.lst [(.str "a")]) a8 = some (.lst [(.str "a")]) := upd_same
  generalize upd H7 a8 (.lst [(.str "a")]) = H8 at s8 h8 ⊢
  replace d_7 := dp_same s8 _ _ d_7
  replace sB := sB.trans s8
  have d_8 : Dp K H8 (.ref a8) (.list [(.str "a")]) := .lst (.inl (.inl h8)) (.cons (.str _) .nil)
  refine ⟨by show 2 ≤ sizeLine; decide, fun a9 n9 => ?_⟩
  have s9 := sameNew (o := .lst [(.ref a7), (.ref a8)]) n9
  have h9 : upd H8 a9 (.lst [(.ref a7), (.ref a8)]) a9 = some (.lst [(.ref a7), (.ref a8)]) := upd_same
  generalize upd H8 a9 (.lst [(.ref a7), (.ref a8)]) = H9 at s9 h9 ⊢
  replace d_7 := dp_same s9 _ _ d_7
  replace d_8 := dp_same s9 _ _ d_8
  replace sB := sB.trans s9
  have d_9 : Dp K H9 (.ref a9) (.list [(.list []), (.list [(.str "a")])]) := .lst (.inl (.inl h9)) (.cons d_7 (.cons d_8 .nil))
  refine ⟨by show 0 ≤ sizeLine; decide, fun a10 n10 => ?_⟩
  have s10 := sameNew (o := .lst []) n10
  have h10 : upd H9 a10 (.lst []) a10 = some (.lst []) := upd_same
  generalize upd H9 a10 (.lst []) = H10 at s10 h10 ⊢
  replace d_9 := dp_same s10 _ _ d_9
  replace sB := sB.trans s10
  have d_10 : Dp K H10 (.ref a10) (.list []) := .lst (.inl (.inl h10)) .nil
  refine ⟨by show 1 ≤ sizeLine; decide, fun a11 n11 => ?_⟩
  have s11 := sameNew (o := .tup [(.ref a10)]) n11
  have h11 : upd H10 a11 (.tup [(.ref a10)]) a11 = some (.tup [(.ref a10)]) := upd_same
  generalize upd H10 a11 (.tup [(.ref a10)]) = H11 at s11 h11 ⊢
  replace d_9 := dp_same s11 _ _ d_9
  replace d_10 := dp_same s11 _ _ d_10
  replace sB := sB.trans s11
  have d_11 : Dp K H11 (.ref a11) (.tuple [(.list [])]) := .tup (.inl (.inl h11)) (.cons d_10 .nil)
  refine ⟨by show 0 ≤ sizeLine; decide, fun a12 n12 => ?_⟩
  have s12 := sameNew (o := .lst []) n12
  have h12 : upd H11 a12 (.lst []) a12 = some (.lst []) := upd_same
  generalize upd H11 a12 (.lst []) = H12 at s12 h12 ⊢
  replace d_9 := dp_same s12 _ _ d_9
  replace d_11 := dp_same s12 _ _ d_11
  replace sB := sB.trans s12
  have d_12 : Dp K H12 (.ref a12) (.list []) := .lst (.inl (.inl h12)) .nil
  refine ⟨by show 0 ≤ sizeLine; decide, fun a13 n13 => ?_⟩
  have s13 := sameNew (o := .lst []) n13
  have h13 : upd H12 a13 (.lst []) a13 = some (.lst []) := upd_same
  generalize upd H12 a13 (.lst []) = H13 at s13 h13 ⊢
  replace d_9 := dp_same s13 _ _ d_9
  replace d_11 := dp_same s13 _ _ d_11
  replace d_12 := dp_same s13 _ _ d_12
  replace sB := sB.trans s13
  have d_13 : Dp K H13 (.ref a13) (.list []) := .lst (.inl (.inl h13)) .nil
  refine ⟨by show 2 ≤ sizeLine; decide, fun a14 n14 => ?_⟩
  have s14 := sameNew (o := .tup [(.ref a12), (.ref a13)]) n14
  have h14 : upd H13 a14 (.tup [(.ref a12), (.ref a13)]) a14 = some (.tup [(.ref a12), (.ref a13)]) := upd_same
  generalize upd H13 a14 (.tup [(.ref a12), (.ref a13)]) = H14 at s14 h14 ⊢
  replace d_9 := dp_same s14 _ _ d_9
  replace d_11 := dp_same s14 _ _ d_11
  replace d_12 := dp_same s14 _ _ d_12
  replace d_13 := dp_same s14 _ _ d_13
  replace sB := sB.trans s14
  have d_14 : Dp K H14 (.ref a14) (.tuple [(.list []), (.list [])]) := .tup (.inl (.inl h14)) (.cons d_12 (.cons d_13 .nil))
  refine ⟨by show 0 ≤ sizeLine; decide, fun a15 n15 => ?_⟩
  have s15 := sameNew (o := .lst []) n15
  have h15 : upd H14 a15 (.lst []) a15 = some (.lst []) := upd_same
  generalize upd H14 a15 (.lst []) = H15 at s15 h15 ⊢
  replace d_9 := dp_same s15 _ _ d_9
  replace d_11 := dp_same s15 _ _ d_11
  replace d_14 := dp_same s15 _ _ d_14
  replace sB := sB.trans s15
  have d_15 : Dp K H15 (.ref a15) (.list []) := .lst (.inl (.inl h15)) .nil
  refine ⟨by show 1 ≤ sizeLine; decide, fun a16 n16 => ?_⟩
  have s16 := sameNew (o := .lst [(.str "a")]) n16
  have h16 : upd H15 a16 (.lst [(.str "a")]) a16 = some (.lst [(.str "a")]) := upd_same
  generalize upd H15 a16 (.lst [(.str "a")]) = H16 at s16 h16 ⊢
  replace d_9 := dp_same s16 _ _ d_9
  replace d_11 := dp_same s16 _ _ d_11
  replace d_14 := dp_same s16 _ _ d_14
  replace d_15 := dp_same s16 _ _ d_15
  replace sB := sB.trans s16
  have d_16 : Dp K H16 (.ref a16) (.list [(.str "a")]) := .lst (.inl (.inl h16)) (.cons (.str _) .nil)
  refine ⟨by show 3 ≤ sizeLine; decide, fun a17 n17 => ?_⟩
  have s17 := sameNew (o := .tup [(.ref a15), (.ref a16), (.int 0)]) n17
  have h17 : upd H16 a17 (.tup [(.ref a15), (.ref a16), (.int 0)]) a17 = some (.tup [(.ref a15), (.ref a16), (.int 0)]) := upd_same
  generalize upd H16 a17 (.tup [(.ref a15), (.ref a16), (.int 0)]) = H17 at s17 h17 ⊢
  replace d_9 := dp_same s17 _ _ d_9
  replace d_11 := dp_same s17 _ _ d_11
  replace d_14 := dp_same s17 _ _ d_14
  replace d_15 := dp_same s17 _ _ d_15
  replace d_16 := dp_same s17 _ _ d_16
  replace sB := sB.trans s17
  have d_17 : Dp K H17 (.ref a17) (.tuple [(.list []), (.list [(.str "a")]), (.int 0)]) := .tup (.inl (.inl h17)) (.cons d_15 (.cons d_16 (.cons (.int _) .nil)))
  refine ⟨by show 0 ≤ sizeLine; decide, fun a18 n18 => ?_⟩
  have s18 := sameNew (o := .lst []) n18
  have h18 : upd H17 a18 (.lst []) a18 = some (.lst []) := upd_same
  generalize upd H17 a18 (.lst []) = H18 at s18 h18 ⊢
  replace d_9 := dp_same s18 _ _ d_9
  replace d_11 := dp_same s18 _ _ d_11
  replace d_14 := dp_same s18 _ _ d_14
  replace d_17 := dp_same s18 _ _ d_17
  replace sB := sB.trans s18
  have d_18 : Dp K H18 (.ref a18) (.list []) := .lst (.inl (.inl h18)) .nil
  refine ⟨by show 2 ≤ sizeLine; decide, fun a19 n19 => ?_⟩
  have s19 := sameNew (o := .lst [(.str "a"), (.str "a")]) n19
  have h19 : upd H18 a19 (.lst [(.str "a"), (.str "a")]) a19 = some (.lst [(.str "a"), (.str "a")]) := upd_same
  generalize upd H18 a19 (.lst [(.str "a"), (.str "a")]) = H19 at s19 h19 ⊢
  replace d_9 := dp_same s19 _ _ d_9
  replace d_11 := dp_same s19 _ _ d_11
  replace d_14 := dp_same s19 _ _ d_14
  replace d_17 := dp_same s19 _ _ d_17
  replace d_18 := dp_same s19 _ _ d_18
  replace sB := sB.trans s19
  have d_19 : Dp K H19 (.ref a19) (.list [(.str "a"), (.str "a")]) := .lst (.inl (.inl h19)) (.cons (.str _) (.cons (.str _) .nil))
  refine ⟨by show 2 ≤ sizeLine; decide, fun a20 n20 => ?_⟩
  have s20 := sameNew (o := .tup [(.ref a18), (.ref a19)]) n20
  have h20 : upd H19 a20 (.tup [(.ref a18), (.ref a19)]) a20 = some (.tup [(.ref a18), (.ref a19)]) := upd_same
  generalize upd H19 a20 (.tup [(.ref a18), (.ref a19)]) = H20 at s20 h20 ⊢
  replace d_9 := dp_same s20 _ _ d_9
  replace d_11 := dp_same s20 _ _ d_11
  replace d_14 := dp_same s20 _ _ d_14
  replace d_17 := dp_same s20 _ _ d_17
  replace d_18 := dp_same s20 _ _ d_18
  replace d_19 := dp_same s20 _ _ d_19
  replace sB := sB.trans s20
  have d_20 : Dp K H20 (.ref a20) (.tuple [(.list []), (.list [(.str "a"), (.str "a")])]) := .tup (.inl (.inl h20)) (.cons d_18 (.cons d_19 .nil))
  refine ⟨by show 1 ≤ sizeLine; decide, fun a21 n21 => ?_⟩
  have s21 := sameNew (o := .lst [(.str "a")]) n21
  have h21 : upd H20 a21 (.lst [(.str "a")]) a21 = some (.lst [(.str "a")]) := upd_same
  generalize upd H20 a21 (.lst [(.str "a")]) = H21 at s21 h21 ⊢
  replace d_9 := dp_same s21 _ _ d_9
  replace d_11 := dp_same s21 _ _ d_11
  replace d_14 := dp_same s21 _ _ d_14
  replace d_17 := dp_same s21 _ _ d_17
  replace d_20 := dp_same s21 _ _ d_20
  replace sB := sB.trans s21
  have d_21 : Dp K H21 (.ref a21) (.list [(.str "a")]) := .lst (.inl (.inl h21)) (.cons (.str _) .nil)
  refine ⟨by show 2 ≤ sizeLine; decide, fun a22 n22 => ?_⟩
  have s22 := sameNew (o := .lst [(.str "b"), (.str "a")]) n22
  have h22 : upd H21 a22 (.lst [(.str "b"), (.str "a")]) a22 = some (.lst [(.str "b"), (.str "a")]) := upd_same
  generalize upd H21 a22 (.lst [(.str "b"), (.str "a")]) = H22 at s22 h22 ⊢
  replace d_9 := dp_same s22 _ _ d_9
  replace d_11 := dp_same s22 _ _ d_11
  replace d_14 := dp_same s22 _ _ d_14
  replace d_17 := dp_same s22 _ _ d_17
  replace d_20 := dp_same s22 _ _ d_20
  replace d_21 := dp_same s22 _ _ d_21
  replace sB := sB.trans s22
  have d_22 : Dp K H22 (.ref a22) (.list [(.str "b"), (.str "a")]) := .lst (.inl (.inl h22)) (.cons (.str _) (.cons (.str _) .nil))
  refine ⟨by show 2 ≤ sizeLine; decide, fun a23 n23 => ?_⟩
  have s23 := sameNew (o := .tup [(.ref a21), (.ref a22)]) n23
  have h23 : upd H22 a23 (.tup [(.ref a21), (.ref a22)]) a23 = some (.tup [(.ref a21), (.ref a22)]) := upd_same
  generalize upd H22 a23 (.tup [(.ref a21), (.ref a22)]) = H23 at s23 h23 ⊢
  replace d_9 := dp_same s23 _ _ d_9
  replace d_11 := dp_same s23 _ _ d_11
  replace d_14 := dp_same s23 _ _ d_14
  replace d_17 := dp_same s23 _ _ d_17
  replace d_20 := dp_same s23 _ _ d_20
  replace d_21 := dp_same s23 _ _ d_21
  replace d_22 := dp_same s23 _ _ d_22
  replace sB := sB.trans s23
  have d_23 : Dp K H23 (.ref a23) (.tuple [(.list [(.str "a")]), (.list [(.str "b"), (.str "a")])]) := .tup (.inl (.inl h23)) (.cons d_21 (.cons d_22 .nil))
  refine ⟨by show 1 ≤ sizeLine; decide, fun a24 n24 => ?_⟩
  have s24 := sameNew (o := .lst [.non]) n24
  have h24 : upd H23 a24 (.lst [.non]) a24 = some (.lst [.non]) := upd_same
  generalize upd H23 a24 (.lst [.non]) = H24 at s24 h24 ⊢
  replace d_9 := dp_same s24 _ _ d_9
  replace d_11 := dp_same s24 _ _ d_11
  replace d_14 := dp_same s24 _ _ d_14
  replace d_17 := dp_same s24 _ _ d_17
  replace d_20 := dp_same s24 _ _ d_20
  replace d_23 := dp_same s24 _ _ d_23
  replace sB := sB.trans s24
  have d_24 : Dp K H24 (.ref a24) (.list [.none]) := .lst (.inl (.inl h24)) (.cons .non .nil)
  refine ⟨by show 1 ≤ sizeLine; decide, fun a25 n25 => ?_⟩
  have s25 := sameNew (o := .lst [.non]) n25
  have h25 : upd H24 a25 (.lst [.non]) a25 = some (.lst [.non]) := upd_same
  generalize upd H24 a25 (.lst [.non]) = H25 at s25 h25 ⊢
  replace d_9 := dp_same s25 _ _ d_9
  replace d_11 := dp_same s25 _ _ d_11
  replace d_14 := dp_same s25 _ _ d_14
  replace d_17 := dp_same s25 _ _ d_17
  replace d_20 := dp_same s25 _ _ d_20
  replace d_23 := dp_same s25 _ _ d_23
  replace d_24 := dp_same s25 _ _ d_24
  replace sB := sB.trans s25
  have d_25 : Dp K H25 (.ref a25) (.list [.none]) := .lst (.inl (.inl h25)) (.cons .non .nil)
  refine ⟨by show 2 ≤ sizeLine; decide, fun a26 n26 => ?_⟩
  have s26 := sameNew (o := .tup [(.ref a24), (.ref a25)]) n26
  have h26 : upd H25 a26 (.tup [(.ref a24), (.ref a25)]) a26 = some (.tup [(.ref a24), (.ref a25)]) := upd_same
  generalize upd H25 a26 (.tup [(.ref a24), (.ref a25)]) = H26 at s26 h26 ⊢
  replace d_9 := dp_same s26 _ _ d_9
  replace d_11 := dp_same s26 _ _ d_11
  replace d_14 := dp_same s26 _ _ d_14
  replace d_17 := dp_same s26 _ _ d_17
  replace d_20 := dp_same s26 _ _ d_20
  replace d_23 := dp_same s26 _ _ d_23
  replace d_24 := dp_same s26 _ _ d_24
  replace d_25 := dp_same s26 _ _ d_25
  replace sB := sB.trans s26
  have d_26 : Dp K H26 (.ref a26) (.tuple [(.list [.none]), (.list [.none])]) := .tup (.inl (.inl h26)) (.cons d_24 (.cons d_25 .nil))
  refine ⟨by show 9 ≤ sizeLine; decide, fun a27 n27 => ?_⟩
  have s27 := sameNew (o := .lst [.non, (.int 3), (.ref a9), (.ref a11), (.ref a14), (.ref a17), (.ref a20), (.ref a23), (.ref a26)]) n27
  have hL : upd H26 a27 (.lst [.non, (.int 3), (.ref a9), (.ref a11), (.ref a14), (.ref a17), (.ref a20), (.ref a23), (.ref a26)]) a27 = some (.lst [.non, (.int 3), (.ref a9), (.ref a11), (.ref a14), (.ref a17), (.ref a20), (.ref a23), (.ref a26)]) := upd_same
  generalize upd H26 a27 (.lst [.non, (.int 3), (.ref a9), (.ref a11), (.ref a14), (.ref a17), (.ref a20), (.ref a23), (.ref a26)]) = HL at s27 hL ⊢
  replace d_9 := dp_same s27 _ _ d_9
  replace d_11 := dp_same s27 _ _ d_11
  replace d_14 := dp_same s27 _ _ d_14
  replace d_17 := dp_same s27 _ _ d_17
  replace d_20 := dp_same s27 _ _ d_20
  replace d_23 := dp_same s27 _ _ d_23
  replace d_26 := dp_same s27 _ _ d_26
  have da : DpAll K HL [.non, (.int 3), (.ref a9), (.ref a11), (.ref a14), (.ref a17), (.ref a20), (.ref a23), (.ref a26)] [.none, (.int 3), (.list [(.list []), (.list [(.str "a")])]), (.tuple [(.list [])]), (.tuple [(.list []), (.list [])]), (.tuple [(.list []), (.list [(.str "a")]), (.int 0)]), (.tuple [(.list []), (.list [(.str "a"), (.str "a")])]), (.tuple [(.list [(.str "a")]), (.list [(.str "b"), (.str "a")])]), (.tuple [(.list [.none]), (.list [.none])])] := (.cons .non (.cons (.int _) (.cons d_9 (.cons d_11 (.cons d_14 (.cons d_17 (.cons d_20 (.cons d_23 (.cons d_26 .nil)))))))))
  have aP : ([.none, (.int 3), (.list [(.list []), (.list [(.str "a")])]), (.tuple [(.list [])]), (.tuple [(.list []), (.list [])]), (.tuple [(.list []), (.list [(.str "a")]), (.int 0)]), (.tuple [(.list []), (.list [(.str "a"), (.str "a")])]), (.tuple [(.list [(.str "a")]), (.list [(.str "b"), (.str "a")])]), (.tuple [(.list [.none]), (.list [.none])])] : List PyData).all (fun d => !isWheelD d && (finB d && smwB d)) = true := by decide +kernel
  refine ⟨a27, rfl, ⟨_, .inl (.inl hL)⟩, for_list (K := K) (a := a27) (xs := [.non, (.int 3), (.ref a9), (.ref a11), (.ref a14), (.ref a17), (.ref a20), (.ref a23), (.ref a26)]) (fun i σ H' => Same HL H' ∧ ∃ y0, σ = [y0]) ⟨Same.refl _, v0, rfl⟩ (fun i σ H' _ p => .inl (.inl (p.1 _ _ hL))) (fun i y σ H' hi p => ?_) (fun σ H' p => ?_)⟩
  · obtain ⟨sL, y0, rfl⟩ := p
    obtain ⟨dy, hdy, d_y⟩ := dpAll_get da hi
    have pP := List.all_eq_true.mp aP dy (List.mem_of_getElem? hdy)
    obtain ⟨p1, pP⟩ := Bool.and_eq_true_iff.mp pP
    obtain ⟨p2, p3⟩ := Bool.and_eq_true_iff.mp pP
    have p1 := not_true p1
    replace d_y := dp_same sL _ _ d_y
    have sB : Same H' H' := Same.refl _
    refine ⟨_, rfl, y, dy, rfl, d_y, smwB_ok p3, fun K0 k0 => ?_⟩
    rw [p1]
    replace d_y := dp_same k0 _ _ d_y
    replace sB := sB.trans k0
    refine ⟨false, false, rfl, rfl, false, rfl, iteF ?_⟩
    refine ⟨_, rfl, ?_⟩
    refine ⟨by show 2 ≤ sizeLine; decide, fun a28 n28 => ?_⟩
    have s28 := sameNew (o := .lst [y, .non]) n28
    have hT28 : upd K0 a28 (.lst [y, .non]) a28 = some (.lst [y, .non]) := upd_same
    generalize upd K0 a28 (.lst [y, .non]) = H28 at s28 hT28 ⊢
    replace d_y := dp_same s28 _ _ d_y
    replace sB := sB.trans s28
    refine ⟨1, a28, _, "wheel", y, dy, rfl, hT28, .inr ⟨rfl, y, .non, dy, .none, rfl, d_y, smwB_ok p3, .non, .inl ⟨p1, rfl, rfl, rfl⟩⟩, finB_ok p2, fun r28 R28 sr28 nr28 hr28 => ?_⟩
    refine ⟨_, rfl, y, dy, rfl, dp_same sr28 _ _ d_y, finB_ok p2, by show 2 ≤ sizeLine; decide, fun t28 nt28 => ?_⟩
    refine ⟨.list [.str "wheel", .str dy.shown], .lst (.inl (.inl ((upd_ne (ne_of_none hr28 nt28)).trans hr28))) (.cons (.str _) (.cons (.str _) .nil)), .lst (.inl (.inl upd_same)) (.cons (.str _) (.cons (.str _) .nil)), shaped_texts (by decide +kernel) (finB_str p2), _, rfl, iteF ?_⟩
    have q28 := sameNew (o := .lst [.str "wheel", .str dy.shown]) nt28
    replace sB := sB.trans (sr28.trans q28)
    generalize upd R28 t28 (.lst [.str "wheel", .str dy.shown]) = G28 at q28 sB ⊢
    replace d_y := dp_same (sr28.trans q28) _ _ d_y
    clear hT28 hr28
    exact ⟨sL.trans sB, _, rfl⟩
  · obtain ⟨sL, y0, rfl⟩ := p
    exact tail Dn H' y0 q
theorem ref_1 (T : Txt K mg E_InvalidNumber E_InvalidList E_InvalidWheel E_CountError) (f0 : Addr) (cdv : Value) (A : Around) (outer : List Env) (s0 : Shared) (H0 : Hp) (E : XK) (hr : Room 7 (A.deeper (envOfC "_law_refused" (C8.fnScope (topS 32)) s0.heap.objs.size f0 cdv))) (gd : A.guards = some []) :
    ∃ u, PSs (cxOf C8.CX0 P w K mg base ["_law_bad"] "_law_refused" (C8.fnScope (topS 32)) f0 cdv A outer s0 H0 E).nox ((C8.fnBody (topS 32)).drop 1) u ∧
      ∀ (Dn : Ends) (H : Hp) (v0 : Option V), (∀ H', Dn.rt (.bl true) H') → u Dn [v0] H := by
  obtain ⟨u, hu, tail⟩ := ref_2 (P := P) (w := w) (base := base) T f0 cdv A outer s0 H0 E hr gd
  refine ⟨_, (pss_cons (ps_if (pt_cmpR (op_neSame hr.units) (pe_cG (c_law_caught T) hr gd (by decide) (by rfl) (pa_cons pe_int (pa_cons (pe_lst (pa_cons (pe_lst (pa_cons pe_str pa_nil)) (pa_cons (pe_lst pa_nil) pa_nil))) pa_nil))) (pe_lst (pa_cons pe_str (pa_cons pe_str pa_nil))) (nomark _))
    (pss_one (ps_ret pe_bl))
    pss_nil)
    hu), ?_⟩
  intro Dn H v0 q
  have sB : Same H H := Same.refl _
  refine ⟨by show 1 ≤ sizeLine; decide, fun a29 n29 => ?_⟩
  have s29 := sameNew (o := .lst [(.str "a")]) n29
  have h29 : upd H a29 (.lst [(.str "a")]) a29 = some (.lst [(.str "a")]) := upd_same
  generalize upd H a29 (.lst [(.str "a")]) = H29 at s29 h29 ⊢
  replace sB := sB.trans s29
  have d_29 : Dp K H29 (.ref a29) (.list [(.str "a")]) := .lst (.inl (.inl h29)) (.cons (.str _) .nil)
  refine ⟨by show 0 ≤ sizeLine; decide, fun a30 n30 => ?_⟩
  have s30 := sameNew (o := .lst []) n30
  have h30 : upd H29 a30 (.lst []) a30 = some (.lst []) := upd_same
  generalize upd H29 a30 (.lst []) = H30 at s30 h30 ⊢
  replace d_29 := dp_same s30 _ _ d_29
  replace sB := sB.trans s30
  have d_30 : Dp K H30 (.ref a30) (.list []) := .lst (.inl (.inl h30)) .nil
  refine ⟨by show 2 ≤ sizeLine; decide, fun a31 n31 => ?_⟩
  have s31 := sameNew (o := .lst [(.ref a29), (.ref a30)]) n31
  have hT31 : upd H30 a31 (.lst [(.ref a29), (.ref a30)]) a31 = some (.lst [(.ref a29), (.ref a30)]) := upd_same
  generalize upd H30 a31 (.lst [(.ref a29), (.ref a30)]) = H31 at s31 hT31 ⊢
  replace d_29 := dp_same s31 _ _ d_29
  replace d_30 := dp_same s31 _ _ d_30
  replace sB := sB.trans s31
  refine ⟨0, a31, _, "list", (.ref a30), (.list []), rfl, hT31, .inl ⟨rfl, (.ref a29), (.ref a30), (.list [(.str "a")]), (.list []), rfl, d_29, d_30, smlB_ok (by decide +kernel), smlB_ok (by decide +kernel), .inr ⟨by decide +kernel, by decide +kernel, rfl, rfl, rfl⟩⟩, finB_ok (by decide +kernel), fun r31 R31 sr31 nr31 hr31 => ?_⟩
  rw [show (PyData.shown (.list [])) = Str.ofString "[]" by decide +kernel] at hr31
  refine ⟨by show 2 ≤ sizeLine; decide, fun t31 nt31 => ?_⟩
  refine ⟨.list [.str "list", .str (Str.ofString "[]")], .lst (.inl (.inl ((upd_ne (ne_of_none hr31 nt31)).trans hr31))) (.cons (.str _) (.cons (.str _) .nil)), .lst (.inl (.inl upd_same)) (.cons (.str _) (.cons (.str _) .nil)), shaped_texts (by decide +kernel) (ok_of _), _, rfl, iteF ?_⟩
  have q31 := sameNew (o := .lst [.str "list", .str (Str.ofString "[]")]) nt31
  replace sB := sB.trans (sr31.trans q31)
  generalize upd R31 t31 (.lst [.str "list", .str (Str.ofString "[]")]) = G31 at q31 sB ⊢
  clear hT31 hr31
  exact tail Dn _ _ q
theorem ref_0 (T : Txt K mg E_InvalidNumber E_InvalidList E_InvalidWheel E_CountError) (f0 : Addr) (cdv : Value) (A : Around) (outer : List Env) (s0 : Shared) (H0 : Hp) (E : XK) (hr : Room 7 (A.deeper (envOfC "_law_refused" (C8.fnScope (topS 32)) s0.heap.objs.size f0 cdv))) (gd : A.guards = some []) :
    ∃ u, PSs (cxOf C8.CX0 P w K mg base ["_law_bad"] "_law_refused" (C8.fnScope (topS 32)) f0 cdv A outer s0 H0 E).nox ((C8.fnBody (topS 32)).drop 0) u ∧
      ∀ (Dn : Ends) (H : Hp) (v0 : Option V), (∀ H', Dn.rt (.bl true) H') → u Dn [v0] H := by
  obtain ⟨u, hu, tail⟩ := ref_1 (P := P) (w := w) (base := base) T f0 cdv A outer s0 H0 E hr gd
  refine ⟨_, (pss_cons (ps_for PassesOwn.never rfl (pi_list (pe_lst (pa_cons pe_non (pa_cons (pe_tup pa_nil) (pa_cons (pe_tup (pa_cons pe_str pa_nil)) (pa_cons pe_str (pa_cons (pe_lst (pa_cons pe_str pa_nil)) (pa_cons (pe_lst (pa_cons pe_str pa_nil)) (pa_cons (pe_lst (pa_cons pe_str pa_nil)) (pa_cons (pe_lst (pa_cons pe_int pa_nil)) (pa_cons (pe_lst (pa_cons pe_str (pa_cons pe_non (pa_cons pe_bl pa_nil)))) (pa_cons (pe_lst (pa_cons pe_str (pa_cons (pe_lst (pa_cons pe_non pa_nil)) pa_nil))) pa_nil)))))))))))) (pg_name (i := 0) sc_law_refused.nd rfl (Or.inl rfl))
    (pss_cons (ps_if (PW.pt (pw_or (pt_cmpR (op_neSame hr.units) (pe_cG (c_law_caught T) hr gd (by decide) (by rfl) (pa_cons pe_int (pa_cons (pe_lst (pa_cons (pv 0) (pa_cons pe_int pa_nil))) pa_nil))) (pe_lst (pa_cons pe_str (pa_cons (pe_callB (call_reprF hr gd) (by rfl) T.m_repr (by decide +kernel) (pa_cons (pv 0) pa_nil)) pa_nil))) (nomark _)) (pw_or1 (pt_cmpR (op_neSame hr.units) (pe_cG (c_law_caught T) hr gd (by decide) (by rfl) (pa_cons pe_int (pa_cons (pe_lst (pa_cons (pe_lst (pa_cons pe_str (pa_cons pe_non pa_nil))) (pa_cons (pv 0) pa_nil))) pa_nil))) (pe_lst (pa_cons pe_str (pa_cons (pe_callB (call_reprF hr gd) (by rfl) T.m_repr (by decide +kernel) (pa_cons (pv 0) pa_nil)) pa_nil))) (nomark _)))))
    (pss_one (ps_ret pe_bl))
    pss_nil)
    (pss_one (ps_if (PW.pt (pw_or (pt_cmpR op_notBl (C8.pe_c (c_is_wheel T) hr (by decide) (by rfl) (pa_cons (pe_tup (pa_cons (pv 0) (pa_cons (pe_lst (pa_cons pe_str pa_nil)) pa_nil))) pa_nil)) pe_bl (nomark _)) (pw_or1 (pt_cmpR op_notBl (C8.pe_c (c_is_wheel T) hr (by decide) (by rfl) (pa_cons (pe_tup (pa_cons (pe_lst (pa_cons pe_str pa_nil)) (pa_cons (pv 0) pa_nil))) pa_nil)) pe_bl (nomark _)))))
    (pss_one (ps_ret pe_bl))
    pss_nil))))
    hu), ?_⟩
  intro Dn H v0 q
  have sB : Same H H := Same.refl _
  refine ⟨by show 0 ≤ sizeLine; decide, fun a32 n32 => ?_⟩
  have s32 := sameNew (o := .tup []) n32
  have h32 : upd H a32 (.tup []) a32 = some (.tup []) := upd_same
  generalize upd H a32 (.tup []) = H32 at s32 h32 ⊢
  replace sB := sB.trans s32
  have d_32 : Dp K H32 (.ref a32) (.tuple []) := .tup (.inl (.inl h32)) .nil
  refine ⟨by show 1 ≤ sizeLine; decide, fun a33 n33 => ?_⟩
  have s33 := sameNew (o := .tup [(.str "a")]) n33
  have h33 : upd H32 a33 (.tup [(.str "a")]) a33 = some (.tup [(.str "a")]) := upd_same
  generalize upd H32 a33 (.tup [(.str "a")]) = H33 at s33 h33 ⊢
  replace d_32 := dp_same s33 _ _ d_32
  replace sB := sB.trans s33
  have d_33 : Dp K H33 (.ref a33) (.tuple [(.str "a")]) := .tup (.inl (.inl h33)) (.cons (.str _) .nil)
  refine ⟨by show 1 ≤ sizeLine; decide, fun a34 n34 => ?_⟩
  have s34 := sameNew (o := .lst [(.str "ab")]) n34
  have h34 : upd H33 a34 (.lst [(.str "ab")]) a34 = some (.lst [(.str "ab")]) := upd_same
  generalize upd H33 a34 (.lst [(.str "ab")]) = H34 at s34 h34 ⊢
  replace d_32 := dp_same s34 _ _ d_32
  replace d_33 := dp_same s34 _ _ d_33
  replace sB := sB.trans s34
  have d_34 : Dp K H34 (.ref a34) (.list [(.str "ab")]) := .lst (.inl (.inl h34)) (.cons (.str _) .nil)
  refine ⟨by show 1 ≤ sizeLine; decide, fun a35 n35 => ?_⟩
  have s35 := sameNew (o := .lst [(.str "")]) n35
  have h35 : upd H34 a35 (.lst [(.str "")]) a35 = some (.lst [(.str "")]) := upd_same
  generalize upd H34 a35 (.lst [(.str "")]) = H35 at s35 h35 ⊢
  replace d_32 := dp_same s35 _ _ d_32
  replace d_33 := dp_same s35 _ _ d_33
  replace d_34 := dp_same s35 _ _ d_34
  replace sB := sB.trans s35
  have d_35 : Dp K H35 (.ref a35) (.list [(.str "")]) := .lst (.inl (.inl h35)) (.cons (.str _) .nil)
  refine ⟨by show 1 ≤ sizeLine; decide, fun a36 n36 => ?_⟩
  have s36 := sameNew (o := .lst [(.str "A")]) n36
  have h36 : upd H35 a36 (.lst [(.str "A")]) a36 = some (.lst [(.str "A")]) := upd_same
  generalize upd H35 a36 (.lst [(.str "A")]) = H36 at s36 h36 ⊢
  replace d_32 := dp_same s36 _ _ d_32
  replace d_33 := dp_same s36 _ _ d_33
  replace d_34 := dp_same s36 _ _ d_34
  replace d_35 := dp_same s36 _ _ d_35
  replace sB := sB.trans s36
  have d_36 : Dp K H36 (.ref a36) (.list [(.str "A")]) := .lst (.inl (.inl h36)) (.cons (.str _) .nil)
  refine ⟨by show 1 ≤ sizeLine; decide, fun a37 n37 => ?_⟩
  have s37 := sameNew (o := .lst [(.int 1)]) n37
  have h37 : upd H36 a37 (.lst [(.int 1)]) a37 = some (.lst [(.int 1)]) := upd_same
  generalize upd H36 a37 (.lst [(.int 1)]) = H37 at s37 h37 ⊢
  replace d_32 := dp_same s37 _ _ d_32
  replace d_33 := dp_same s37 _ _ d_33
  replace d_34 := dp_same s37 _ _ d_34
  replace d_35 := dp_same s37 _ _ d_35
  replace d_36 := dp_same s37 _ _ d_36
  replace sB := sB.trans s37
  have d_37 : Dp K H37 (.ref a37) (.list [(.int 1)]) := .lst (.inl (.inl h37)) (.cons (.int _) .nil)
  refine ⟨by show 3 ≤ sizeLine; decide, fun a38 n38 => ?_⟩
  have s38 := sameNew (o := .lst [(.str "a"), .non, (.bl true)]) n38
  have h38 : upd H37 a38 (.lst [(.str "a"), .non, (.bl true)]) a38 = some (.lst [(.str "a"), .non, (.bl true)]) := upd_same
  generalize upd H37 a38 (.lst [(.str "a"), .non, (.bl true)]) = H38 at s38 h38 ⊢
  replace d_32 := dp_same s38 _ _ d_32
  replace d_33 := dp_same s38 _ _ d_33
  replace d_34 := dp_same s38 _ _ d_34
  replace d_35 := dp_same s38 _ _ d_35
  replace d_36 := dp_same s38 _ _ d_36
  replace d_37 := dp_same s38 _ _ d_37
  replace sB := sB.trans s38
  have d_38 : Dp K H38 (.ref a38) (.list [(.str "a"), .none, (.bool true)]) := .lst (.inl (.inl h38)) (.cons (.str _) (.cons .non (.cons (.bl _) .nil)))
  refine ⟨by show 1 ≤ sizeLine; decide, fun a39 n39 => ?_⟩
  have s39 := sameNew (o := .lst [.non]) n39
  have h39 : upd H38 a39 (.lst [.non]) a39 = some (.lst [.non]) := upd_same
  generalize upd H38 a39 (.lst [.non]) = H39 at s39 h39 ⊢
  replace d_32 := dp_same s39 _ _ d_32
  replace d_33 := dp_same s39 _ _ d_33
  replace d_34 := dp_same s39 _ _ d_34
  replace d_35 := dp_same s39 _ _ d_35
  replace d_36 := dp_same s39 _ _ d_36
  replace d_37 := dp_same s39 _ _ d_37
  replace d_38 := dp_same s39 _ _ d_38
  replace sB := sB.trans s39
  have d_39 : Dp K H39 (.ref a39) (.list [.none]) := .lst (.inl (.inl h39)) (.cons .non .nil)
  refine ⟨by show 2 ≤ sizeLine; decide, fun a40 n40 => ?_⟩
  have s40 := sameNew (o := .lst [(.str "a"), (.ref a39)]) n40
  have h40 : upd H39 a40 (.lst [(.str "a"), (.ref a39)]) a40 = some (.lst [(.str "a"), (.ref a39)]) := upd_same
  generalize upd H39 a40 (.lst [(.str "a"), (.ref a39)]) = H40 at s40 h40 ⊢
  replace d_32 := dp_same s40 _ _ d_32
  replace d_33 := dp_same s40 _ _ d_33
  replace d_34 := dp_same s40 _ _ d_34
  replace d_35 := dp_same s40 _ _ d_35
  replace d_36 := dp_same s40 _ _ d_36
  replace d_37 := dp_same s40 _ _ d_37
  replace d_38 := dp_same s40 _ _ d_38
  replace d_39 := dp_same s40 _ _ d_39
  replace sB := sB.trans s40
  have d_40 : Dp K H40 (.ref a40) (.list [(.str "a"), (.list [.none])]) := .lst (.inl (.inl h40)) (.cons (.str _) (.cons d_39 .nil))
  refine ⟨by show 10 ≤ sizeLine; decide, fun a41 n41 => ?_⟩
  have s41 := sameNew (o := .lst [.non, (.ref a32), (.ref a33), (.str "a"), (.ref a34), (.ref a35), (.ref a36), (.ref a37), (.ref a38), (.ref a40)]) n41
  have hL : upd H40 a41 (.lst [.non, (.ref a32), (.ref a33), (.str "a"), (.ref a34), (.ref a35), (.ref a36), (.ref a37), (.ref a38), (.ref a40)]) a41 = some (.lst [.non, (.ref a32), (.ref a33), (.str "a"), (.ref a34), (.ref a35), (.ref a36), (.ref a37), (.ref a38), (.ref a40)]) := upd_same
  generalize upd H40 a41 (.lst [.non, (.ref a32), (.ref a33), (.str "a"), (.ref a34), (.ref a35), (.ref a36), (.ref a37), (.ref a38), (.ref a40)]) = HL at s41 hL ⊢
  replace d_32 := dp_same s41 _ _ d_32
  replace d_33 := dp_same s41 _ _ d_33
  replace d_34 := dp_same s41 _ _ d_34
  replace d_35 := dp_same s41 _ _ d_35
  replace d_36 := dp_same s41 _ _ d_36
  replace d_37 := dp_same s41 _ _ d_37
  replace d_38 := dp_same s41 _ _ d_38
  replace d_40 := dp_same s41 _ _ d_40
  have da : DpAll K HL [.non, (.ref a32), (.ref a33), (.str "a"), (.ref a34), (.ref a35), (.ref a36), (.ref a37), (.ref a38), (.ref a40)] [.none, (.tuple []), (.tuple [(.str "a")]), (.str "a"), (.list [(.str "ab")]), (.list [(.str "")]), (.list [(.str "A")]), (.list [(.int 1)]), (.list [(.str "a"), .none, (.bool true)]), (.list [(.str "a"), (.list [.none])])] := (.cons .non (.cons d_32 (.cons d_33 (.cons (.str _) (.cons d_34 (.cons d_35 (.cons d_36 (.cons d_37 (.cons d_38 (.cons d_40 .nil))))))))))
  have aP : ([.none, (.tuple []), (.tuple [(.str "a")]), (.str "a"), (.list [(.str "ab")]), (.list [(.str "")]), (.list [(.str "A")]), (.list [(.int 1)]), (.list [(.str "a"), .none, (.bool true)]), (.list [(.str "a"), (.list [.none])])] : List PyData).all (fun d => !isWL d && (finB d && smlB d)) = true := by decide +kernel
  refine ⟨a41, rfl, ⟨_, .inl (.inl hL)⟩, for_list (K := K) (a := a41) (xs := [.non, (.ref a32), (.ref a33), (.str "a"), (.ref a34), (.ref a35), (.ref a36), (.ref a37), (.ref a38), (.ref a40)]) (fun i σ H' => Same HL H' ∧ ∃ y0, σ = [y0]) ⟨Same.refl _, v0, rfl⟩ (fun i σ H' _ p => .inl (.inl (p.1 _ _ hL))) (fun i y σ H' hi p => ?_) (fun σ H' p => ?_)⟩
  · obtain ⟨sL, y0, rfl⟩ := p
    obtain ⟨dy, hdy, d_y⟩ := dpAll_get da hi
    have pP := List.all_eq_true.mp aP dy (List.mem_of_getElem? hdy)
    obtain ⟨p1, pP⟩ := Bool.and_eq_true_iff.mp pP
    obtain ⟨p2, p3⟩ := Bool.and_eq_true_iff.mp pP
    have p1 := not_true p1
    replace d_y := dp_same sL _ _ d_y
    have sB : Same H' H' := Same.refl _
    refine ⟨_, rfl, ?_⟩
    refine ⟨by show 2 ≤ sizeLine; decide, fun a42 n42 => ?_⟩
    have s42 := sameNew (o := .lst [y, (.int 5)]) n42
    have hT42 : upd H' a42 (.lst [y, (.int 5)]) a42 = some (.lst [y, (.int 5)]) := upd_same
    generalize upd H' a42 (.lst [y, (.int 5)]) = H42 at s42 hT42 ⊢
    replace d_y := dp_same s42 _ _ d_y
    replace sB := sB.trans s42
    refine ⟨0, a42, _, "list", y, dy, rfl, hT42, .inl ⟨rfl, y, (.int 5), dy, (.int 5), rfl, d_y, (.int _), smlB_ok p3, smlB_ok (by decide +kernel), .inl ⟨p1, rfl, rfl, rfl⟩⟩, finB_ok p2, fun r42 R42 sr42 nr42 hr42 => ?_⟩
    refine ⟨_, rfl, y, dy, rfl, dp_same sr42 _ _ d_y, finB_ok p2, by show 2 ≤ sizeLine; decide, fun t42 nt42 => ?_⟩
    refine ⟨.list [.str "list", .str dy.shown], .lst (.inl (.inl ((upd_ne (ne_of_none hr42 nt42)).trans hr42))) (.cons (.str _) (.cons (.str _) .nil)), .lst (.inl (.inl upd_same)) (.cons (.str _) (.cons (.str _) .nil)), shaped_texts (by decide +kernel) (finB_str p2), _, rfl, iteF ?_⟩
    have q42 := sameNew (o := .lst [.str "list", .str dy.shown]) nt42
    replace sB := sB.trans (sr42.trans q42)
    generalize upd R42 t42 (.lst [.str "list", .str dy.shown]) = G42 at q42 sB ⊢
    replace d_y := dp_same (sr42.trans q42) _ _ d_y
    clear hT42 hr42
    refine ⟨by show 2 ≤ sizeLine; decide, fun a43 n43 => ?_⟩
    have s43 := sameNew (o := .lst [(.str "a"), .non]) n43
    have h43 : upd G42 a43 (.lst [(.str "a"), .non]) a43 = some (.lst [(.str "a"), .non]) := upd_same
    generalize upd G42 a43 (.lst [(.str "a"), .non]) = H43 at s43 h43 ⊢
    replace d_y := dp_same s43 _ _ d_y
    replace sB := sB.trans s43
    have d_43 : Dp K H43 (.ref a43) (.list [(.str "a"), .none]) := .lst (.inl (.inl h43)) (.cons (.str _) (.cons .non .nil))
    refine ⟨_, rfl, ?_⟩
    refine ⟨by show 2 ≤ sizeLine; decide, fun a44 n44 => ?_⟩
    have s44 := sameNew (o := .lst [(.ref a43), y]) n44
    have hT44 : upd H43 a44 (.lst [(.ref a43), y]) a44 = some (.lst [(.ref a43), y]) := upd_same
    generalize upd H43 a44 (.lst [(.ref a43), y]) = H44 at s44 hT44 ⊢
    replace d_y := dp_same s44 _ _ d_y
    replace d_43 := dp_same s44 _ _ d_43
    replace sB := sB.trans s44
    refine ⟨0, a44, _, "list", y, dy, rfl, hT44, .inl ⟨rfl, (.ref a43), y, (.list [(.str "a"), .none]), dy, rfl, d_43, d_y, smlB_ok (by decide +kernel), smlB_ok p3, .inr ⟨by decide +kernel, tl_of p1, rfl, rfl, rfl⟩⟩, finB_ok p2, fun r44 R44 sr44 nr44 hr44 => ?_⟩
    refine ⟨_, rfl, y, dy, rfl, dp_same sr44 _ _ d_y, finB_ok p2, by show 2 ≤ sizeLine; decide, fun t44 nt44 => ?_⟩
    refine ⟨.list [.str "list", .str dy.shown], .lst (.inl (.inl ((upd_ne (ne_of_none hr44 nt44)).trans hr44))) (.cons (.str _) (.cons (.str _) .nil)), .lst (.inl (.inl upd_same)) (.cons (.str _) (.cons (.str _) .nil)), shaped_texts (by decide +kernel) (finB_str p2), _, rfl, iteF ?_⟩
    have q44 := sameNew (o := .lst [.str "list", .str dy.shown]) nt44
    replace sB := sB.trans (sr44.trans q44)
    generalize upd R44 t44 (.lst [.str "list", .str dy.shown]) = G44 at q44 sB ⊢
    replace d_y := dp_same (sr44.trans q44) _ _ d_y
    clear hT44 hr44
    refine ⟨_, rfl, ?_⟩
    refine ⟨by show 1 ≤ sizeLine; decide, fun a45 n45 => ?_⟩
    have s45 := sameNew (o := .lst [(.str "a")]) n45
    have h45 : upd G44 a45 (.lst [(.str "a")]) a45 = some (.lst [(.str "a")]) := upd_same
    generalize upd G44 a45 (.lst [(.str "a")]) = H45 at s45 h45 ⊢
    replace d_y := dp_same s45 _ _ d_y
    replace sB := sB.trans s45
    have d_45 : Dp K H45 (.ref a45) (.list [(.str "a")]) := .lst (.inl (.inl h45)) (.cons (.str _) .nil)
    refine ⟨by show 2 ≤ sizeLine; decide, fun a46 n46 => ?_⟩
    have s46 := sameNew (o := .tup [y, (.ref a45)]) n46
    have h46 : upd H45 a46 (.tup [y, (.ref a45)]) a46 = some (.tup [y, (.ref a45)]) := upd_same
    generalize upd H45 a46 (.tup [y, (.ref a45)]) = H46 at s46 h46 ⊢
    replace d_y := dp_same s46 _ _ d_y
    replace d_45 := dp_same s46 _ _ d_45
    replace sB := sB.trans s46
    have d_46 : Dp K H46 (.ref a46) (.tuple [dy, (.list [(.str "a")])]) := .tup (.inl (.inl h46)) (.cons d_y (.cons d_45 .nil))
    refine ⟨(.ref a46), (.tuple [dy, (.list [(.str "a")])]), rfl, d_46, smw_two (smlB_ok p3) (smlB_ok (by decide +kernel)), fun K47 k47 => ?_⟩
    rw [show isWheelD (.tuple [dy, (.list [(.str "a")])]) = false from wheel_l p1]
    replace d_y := dp_same k47 _ _ d_y
    replace sB := sB.trans k47
    refine ⟨false, false, rfl, rfl, false, rfl, iteF ?_⟩
    refine ⟨by show 1 ≤ sizeLine; decide, fun a48 n48 => ?_⟩
    have s48 := sameNew (o := .lst [(.str "b")]) n48
    have h48 : upd K47 a48 (.lst [(.str "b")]) a48 = some (.lst [(.str "b")]) := upd_same
    generalize upd K47 a48 (.lst [(.str "b")]) = H48 at s48 h48 ⊢
    replace d_y := dp_same s48 _ _ d_y
    replace sB := sB.trans s48
    have d_48 : Dp K H48 (.ref a48) (.list [(.str "b")]) := .lst (.inl (.inl h48)) (.cons (.str _) .nil)
    refine ⟨_, rfl, ?_⟩
    refine ⟨by show 2 ≤ sizeLine; decide, fun a49 n49 => ?_⟩
    have s49 := sameNew (o := .tup [(.ref a48), y]) n49
    have h49 : upd H48 a49 (.tup [(.ref a48), y]) a49 = some (.tup [(.ref a48), y]) := upd_same
    generalize upd H48 a49 (.tup [(.ref a48), y]) = H49 at s49 h49 ⊢
    replace d_y := dp_same s49 _ _ d_y
    replace d_48 := dp_same s49 _ _ d_48
    replace sB := sB.trans s49
    have d_49 : Dp K H49 (.ref a49) (.tuple [(.list [(.str "b")]), dy]) := .tup (.inl (.inl h49)) (.cons d_48 (.cons d_y .nil))
    refine ⟨(.ref a49), (.tuple [(.list [(.str "b")]), dy]), rfl, d_49, smw_two (smlB_ok (by decide +kernel)) (smlB_ok p3), fun K50 k50 => ?_⟩
    rw [show isWheelD (.tuple [(.list [(.str "b")]), dy]) = false from wheel_r p1]
    replace d_y := dp_same k50 _ _ d_y
    replace sB := sB.trans k50
    refine ⟨false, false, rfl, rfl, false, rfl, iteF ?_⟩
    exact ⟨sL.trans sB, _, rfl⟩
  · obtain ⟨sL, y0, rfl⟩ := p
    exact tail Dn H' y0 q
def sp_refused : Sp := fun vs _ Q _ => vs = [] ∧ ∀ H', Q (.bl true) H'
theorem c_law_refused (T : Txt K mg E_InvalidNumber E_InvalidList E_InvalidWheel E_CountError) : CalG P w K mg base 8 "_law_refused" sp_refused := by
  refine calG T.d_law_refused sc_law_refused (fun vs H Q E h => ?_) (fun f cdv A outer z H vs Q E hr gd h => ?_)
  · obtain ⟨rfl, _⟩ := h; rfl
  · obtain ⟨rfl, q⟩ := h
    obtain ⟨u, hu, tail⟩ := ref_0 (P := P) (w := w) (base := base) T f cdv A outer z H E hr gd
    exact ⟨u, hu, tail _ _ _ q⟩
end
end K49

set_option Elab.async false
set_option linter.all false
set_option maxRecDepth 100000
set_option maxHeartbeats 8000000
set_option exponentiation.threshold 3000
namespace K49
open PySem PySem.Spec PyProof.Rows L2 CK SX
def itB (xs : List (Option Nat)) : Bool := xs.all fun o => match o with | none => true | some c => decide (97 ≤ c) && decide (c ≤ 122)
theorem it_ok {xs : List (Option Nat)} (h : itB xs = true) : ∀ o ∈ xs, ItO o := fun o ho c e => by
  have := List.all_eq_true.mp h o ho
  rw [e] at this
  obtain ⟨a, b⟩ := Bool.and_eq_true_iff.mp this
  exact ⟨of_decide_eq_true a, of_decide_eq_true b⟩
section
variable {P : Program} {w : World} {K : PySem.W.Frag} {mg : Str → Option Value} {base : Heap} {E_InvalidNumber E_InvalidList E_InvalidWheel E_CountError : Addr}
theorem law_told (T : Txt K mg E_InvalidNumber E_InvalidList E_InvalidWheel E_CountError) (f0 : Addr) (cdv : Value) (A : Around) (outer : List Env) (s0 : Shared) (H0 : Hp) (E : XK) (hr : Room 8 (A.deeper (envOfC "law" (C8.fnScope (topS 33)) s0.heap.objs.size f0 cdv))) (gd : A.guards = some []) :
    ∃ u, PSs (cxOf C8.CX0 P w K mg base ["_law_script", "_law_index", "_law_generator_here", "_law_told"] "law" (C8.fnScope (topS 33)) f0 cdv A outer s0 H0 E).nox ((C8.fnBody (topS 33)).drop 1) u ∧
      ∀ (Dn : Ends) (H : Hp) (v0 v1 v2 v3 : Option V), (∀ H', Dn.rt (.bl true) H') → u Dn [v0, v1, v2, v3] H := by
  refine ⟨_, (pss_cons (ps_set (i := 3) sc_law.nd rfl (Or.inl rfl) (pe_lst (pa_cons (C8.pe_c (c_least_wheel T) hr (by decide) (by rfl) (pa_cons (pe_lst (pa_cons pe_str (pa_cons pe_str pa_nil))) (pa_cons (pe_lst (pa_cons pe_str (pa_cons pe_str (pa_cons pe_str (pa_cons pe_str pa_nil))))) pa_nil))) (pa_cons (C8.pe_c (c_least_wheel T) hr (by decide) (by rfl) (pa_cons (pe_lst (pa_cons pe_non (pa_cons pe_non pa_nil))) (pa_cons (pe_lst (pa_cons pe_non pa_nil)) pa_nil))) (pa_cons (C8.pe_c (c_least_wheel T) hr (by decide) (by rfl) (pa_cons (pe_lst pa_nil) (pa_cons (pe_lst (pa_cons pe_str (pa_cons pe_non pa_nil))) pa_nil))) pa_nil)))))
    (pss_cons (ps_if (pt_cmpR op_ne (pe_callB (call_reprF hr gd) (by rfl) T.m_repr (by decide +kernel) (pa_cons (pv 3) pa_nil)) (pe_callB (call_reprF hr gd) (by rfl) T.m_repr (by decide +kernel) (pa_cons (pe_lst (pa_cons (pe_tup (pa_cons (pe_lst (pa_cons pe_str pa_nil)) (pa_cons (pe_lst (pa_cons pe_str (pa_cons pe_str pa_nil))) pa_nil))) (pa_cons (pe_tup (pa_cons (pe_lst pa_nil) (pa_cons (pe_lst (pa_cons pe_non pa_nil)) pa_nil))) (pa_cons (pe_tup (pa_cons (pe_lst pa_nil) (pa_cons (pe_lst (pa_cons pe_str (pa_cons pe_non pa_nil))) pa_nil))) pa_nil)))) pa_nil)) (nomark _))
    (pss_one (ps_ret pe_bl))
    pss_nil)
    (pss_one (ps_ret (pe_and (pe_cmpR op_isBl (pe_cN (c_is_wheel_K_value T) hr (by decide) (by rfl) (pk_cons (pe_tup (pa_cons (pe_lst (pa_cons pe_str pa_nil)) (pa_cons (pe_lst (pa_cons pe_str (pa_cons pe_str pa_nil))) pa_nil))) pk_nil)) pe_bl (nomark _)) (pe_and (pe_cmpR op_eq (pe_cN (c_wheel_value_K_number_wheel T) hr (by decide) (by rfl) (pk_cons (pe_op op_powB pe_int pe_int) (pk_cons (pe_tup (pa_cons (pe_lst (pa_cons pe_str pa_nil)) (pa_cons (pe_lst (pa_cons pe_str (pa_cons pe_str pa_nil))) pa_nil))) pk_nil))) pe_str (nomark _)) (pe_one (pe_cG0 (c_law_refused T) hr gd (by decide) (by rfl))))))))), ?_⟩
  intro Dn H v0 v1 v2 v3 q
  have sB : Same H H := Same.refl _
  have ea : Str.ofString "a" = S [97] := by decide +kernel
  have eb : Str.ofString "b" = S [98] := by decide +kernel
  have ec : Str.ofString "c" = S [99] := by decide +kernel
  have ey : Str.ofString "y" = S [121] := by decide +kernel
  rw [ea, eb, ec, ey]
  refine ⟨by show 2 ≤ sizeLine; decide, fun a51 n51 => ?_⟩
  have s51 := sameNew (o := .lst [(.str (S [99])), (.str (S [98]))]) n51
  have h51 : upd H a51 (.lst [(.str (S [99])), (.str (S [98]))]) a51 = some (.lst [(.str (S [99])), (.str (S [98]))]) := upd_same
  generalize upd H a51 (.lst [(.str (S [99])), (.str (S [98]))]) = H51 at s51 h51 ⊢
  replace sB := sB.trans s51
  have d_51 : Dp K H51 (.ref a51) (.list [(.str (S [99])), (.str (S [98]))]) := .lst (.inl (.inl h51)) (.cons (.str _) (.cons (.str _) .nil))
  refine ⟨by show 4 ≤ sizeLine; decide, fun a52 n52 => ?_⟩
  have s52 := sameNew (o := .lst [(.str (S [97])), (.str (S [98])), (.str (S [97])), (.str (S [98]))]) n52
  have h52 : upd H51 a52 (.lst [(.str (S [97])), (.str (S [98])), (.str (S [97])), (.str (S [98]))]) a52 = some (.lst [(.str (S [97])), (.str (S [98])), (.str (S [97])), (.str (S [98]))]) := upd_same
  generalize upd H51 a52 (.lst [(.str (S [97])), (.str (S [98])), (.str (S [97])), (.str (S [98]))]) = H52 at s52 h52 ⊢
  replace d_51 := dp_same s52 _ _ d_51
  replace h51 := s52 _ _ h51
  replace sB := sB.trans s52
  have d_52 : Dp K H52 (.ref a52) (.list [(.str (S [97])), (.str (S [98])), (.str (S [97])), (.str (S [98]))]) := .lst (.inl (.inl h52)) (.cons (.str _) (.cons (.str _) (.cons (.str _) (.cons (.str _) .nil))))
  have lw0 : lstW ([some 99, some 98] : List (Option Nat)) ([some 97, some 98, some 97, some 98] : List (Option Nat)) = (([some 99] : List (Option Nat)), ([some 98, some 97] : List (Option Nat))) := by decide +kernel
  refine ⟨.ref a51, .ref a52, _, _, rfl, d_51, d_52, smlB_ok (by decide +kernel), smlB_ok (by decide +kernel), .inr (.inr ⟨a51, a52, ([some 99, some 98] : List (Option Nat)), ([some 97, some 98, some 97, some 98] : List (Option Nat)), rfl, rfl, rfl, rfl, h51, h52, by decide, it_ok (by decide +kernel), it_ok (by decide +kernel), fun l0 m0 r0 R0 sR0 na0 nb0 nc0 nd0 g0 ga0 gb0 => ?_⟩)⟩
  rw [lw0] at ga0 gb0
  have e_0 : Dp K R0 (.ref r0) (.tuple [(.list [(.str (S [99]))]), (.list [(.str (S [98])), (.str (S [97]))])]) := WhH.dp (xs := ([some 99] : List (Option Nat))) (ts := ([some 98, some 97] : List (Option Nat))) ⟨l0, m0, g0, ga0, gb0⟩
  clear h51 h52 d_51 d_52
  replace sB := sB.trans sR0
  refine ⟨by show 2 ≤ sizeLine; decide, fun a53 n53 => ?_⟩
  have s53 := sameNew (o := .lst [.non, .non]) n53
  have h53 : upd R0 a53 (.lst [.non, .non]) a53 = some (.lst [.non, .non]) := upd_same
  generalize upd R0 a53 (.lst [.non, .non]) = H53 at s53 h53 ⊢
  replace e_0 := dp_same s53 _ _ e_0
  replace sB := sB.trans s53
  have d_53 : Dp K H53 (.ref a53) (.list [.none, .none]) := .lst (.inl (.inl h53)) (.cons .non (.cons .non .nil))
  refine ⟨by show 1 ≤ sizeLine; decide, fun a54 n54 => ?_⟩
  have s54 := sameNew (o := .lst [.non]) n54
  have h54 : upd H53 a54 (.lst [.non]) a54 = some (.lst [.non]) := upd_same
  generalize upd H53 a54 (.lst [.non]) = H54 at s54 h54 ⊢
  replace e_0 := dp_same s54 _ _ e_0
  replace d_53 := dp_same s54 _ _ d_53
  replace h53 := s54 _ _ h53
  replace sB := sB.trans s54
  have d_54 : Dp K H54 (.ref a54) (.list [.none]) := .lst (.inl (.inl h54)) (.cons .non .nil)
  have lw1 : lstW ([none, none] : List (Option Nat)) ([none] : List (Option Nat)) = (([] : List (Option Nat)), ([none] : List (Option Nat))) := by decide +kernel
  refine ⟨.ref a53, .ref a54, _, _, rfl, d_53, d_54, smlB_ok (by decide +kernel), smlB_ok (by decide +kernel), .inr (.inr ⟨a53, a54, ([none, none] : List (Option Nat)), ([none] : List (Option Nat)), rfl, rfl, rfl, rfl, h53, h54, by decide, it_ok (by decide +kernel), it_ok (by decide +kernel), fun l1 m1 r1 R1 sR1 na1 nb1 nc1 nd1 g1 ga1 gb1 => ?_⟩)⟩
  rw [lw1] at ga1 gb1
  have e_1 : Dp K R1 (.ref r1) (.tuple [(.list []), (.list [.none])]) := WhH.dp (xs := ([] : List (Option Nat))) (ts := ([none] : List (Option Nat))) ⟨l1, m1, g1, ga1, gb1⟩
  clear h53 h54 d_53 d_54
  replace e_0 := dp_same sR1 _ _ e_0
  replace sB := sB.trans sR1
  refine ⟨by show 0 ≤ sizeLine; decide, fun a55 n55 => ?_⟩
  have s55 := sameNew (o := .lst []) n55
  have h55 : upd R1 a55 (.lst []) a55 = some (.lst []) := upd_same
  generalize upd R1 a55 (.lst []) = H55 at s55 h55 ⊢
  replace e_0 := dp_same s55 _ _ e_0
  replace e_1 := dp_same s55 _ _ e_1
  replace sB := sB.trans s55
  have d_55 : Dp K H55 (.ref a55) (.list []) := .lst (.inl (.inl h55)) .nil
  refine ⟨by show 2 ≤ sizeLine; decide, fun a56 n56 => ?_⟩
  have s56 := sameNew (o := .lst [(.str (S [121])), .non]) n56
  have h56 : upd H55 a56 (.lst [(.str (S [121])), .non]) a56 = some (.lst [(.str (S [121])), .non]) := upd_same
  generalize upd H55 a56 (.lst [(.str (S [121])), .non]) = H56 at s56 h56 ⊢
  replace e_0 := dp_same s56 _ _ e_0
  replace e_1 := dp_same s56 _ _ e_1
  replace d_55 := dp_same s56 _ _ d_55
  replace h55 := s56 _ _ h55
  replace sB := sB.trans s56
  have d_56 : Dp K H56 (.ref a56) (.list [(.str (S [121])), .none]) := .lst (.inl (.inl h56)) (.cons (.str _) (.cons .non .nil))
  have lw2 : lstW ([] : List (Option Nat)) ([some 121, none] : List (Option Nat)) = (([] : List (Option Nat)), ([some 121, none] : List (Option Nat))) := by decide +kernel
  refine ⟨.ref a55, .ref a56, _, _, rfl, d_55, d_56, smlB_ok (by decide +kernel), smlB_ok (by decide +kernel), .inr (.inr ⟨a55, a56, ([] : List (Option Nat)), ([some 121, none] : List (Option Nat)), rfl, rfl, rfl, rfl, h55, h56, by decide, it_ok (by decide +kernel), it_ok (by decide +kernel), fun l2 m2 r2 R2 sR2 na2 nb2 nc2 nd2 g2 ga2 gb2 => ?_⟩)⟩
  rw [lw2] at ga2 gb2
  have e_2 : Dp K R2 (.ref r2) (.tuple [(.list []), (.list [(.str (S [121])), .none])]) := WhH.dp (xs := ([] : List (Option Nat))) (ts := ([some 121, none] : List (Option Nat))) ⟨l2, m2, g2, ga2, gb2⟩
  clear h55 h56 d_55 d_56
  replace e_0 := dp_same sR2 _ _ e_0
  replace e_1 := dp_same sR2 _ _ e_1
  replace sB := sB.trans sR2
  refine ⟨by show 3 ≤ sizeLine; decide, fun aT nT => ?_⟩
  have sT := sameNew (o := .lst [.ref r0, .ref r1, .ref r2]) nT
  have hT : upd R2 aT (.lst [.ref r0, .ref r1, .ref r2]) aT = some (.lst [.ref r0, .ref r1, .ref r2]) := upd_same
  generalize upd R2 aT (.lst [.ref r0, .ref r1, .ref r2]) = HT at sT hT ⊢
  replace e_0 := dp_same sT _ _ e_0
  replace e_1 := dp_same sT _ _ e_1
  replace e_2 := dp_same sT _ _ e_2
  have d_T : Dp K HT (.ref aT) (.list [(.tuple [(.list [(.str (S [99]))]), (.list [(.str (S [98])), (.str (S [97]))])]), (.tuple [(.list []), (.list [.none])]), (.tuple [(.list []), (.list [(.str (S [121])), .none])])]) := .lst (.inl (.inl hT)) (.cons e_0 (.cons e_1 (.cons e_2 .nil)))
  have fT : Fine (.list [(.tuple [(.list [(.str (S [99]))]), (.list [(.str (S [98])), (.str (S [97]))])]), (.tuple [(.list []), (.list [.none])]), (.tuple [(.list []), (.list [(.str (S [121])), .none])])]) := finB_ok (by decide +kernel)
  refine ⟨_, rfl, _, _, rfl, d_T, fT, ?_⟩
  clear e_0 e_1 e_2 d_T hT
  replace sB := sB.trans sT
  refine ⟨by show 1 ≤ sizeLine; decide, fun a57 n57 => ?_⟩
  have s57 := sameNew (o := .lst [(.str (S [99]))]) n57
  have h57 : upd HT a57 (.lst [(.str (S [99]))]) a57 = some (.lst [(.str (S [99]))]) := upd_same
  generalize upd HT a57 (.lst [(.str (S [99]))]) = H57 at s57 h57 ⊢
  replace sB := sB.trans s57
  have d_57 : Dp K H57 (.ref a57) (.list [(.str (S [99]))]) := .lst (.inl (.inl h57)) (.cons (.str _) .nil)
  refine ⟨by show 2 ≤ sizeLine; decide, fun a58 n58 => ?_⟩
  have s58 := sameNew (o := .lst [(.str (S [98])), (.str (S [97]))]) n58
  have h58 : upd H57 a58 (.lst [(.str (S [98])), (.str (S [97]))]) a58 = some (.lst [(.str (S [98])), (.str (S [97]))]) := upd_same
  generalize upd H57 a58 (.lst [(.str (S [98])), (.str (S [97]))]) = H58 at s58 h58 ⊢
  replace d_57 := dp_same s58 _ _ d_57
  replace sB := sB.trans s58
  have d_58 : Dp K H58 (.ref a58) (.list [(.str (S [98])), (.str (S [97]))]) := .lst (.inl (.inl h58)) (.cons (.str _) (.cons (.str _) .nil))
  refine ⟨by show 2 ≤ sizeLine; decide, fun a59 n59 => ?_⟩
  have s59 := sameNew (o := .tup [(.ref a57), (.ref a58)]) n59
  have h59 : upd H58 a59 (.tup [(.ref a57), (.ref a58)]) a59 = some (.tup [(.ref a57), (.ref a58)]) := upd_same
  generalize upd H58 a59 (.tup [(.ref a57), (.ref a58)]) = H59 at s59 h59 ⊢
  replace d_57 := dp_same s59 _ _ d_57
  replace d_58 := dp_same s59 _ _ d_58
  replace sB := sB.trans s59
  have d_59 : Dp K H59 (.ref a59) (.tuple [(.list [(.str (S [99]))]), (.list [(.str (S [98])), (.str (S [97]))])]) := .tup (.inl (.inl h59)) (.cons d_57 (.cons d_58 .nil))
  refine ⟨by show 0 ≤ sizeLine; decide, fun a60 n60 => ?_⟩
  have s60 := sameNew (o := .lst []) n60
  have h60 : upd H59 a60 (.lst []) a60 = some (.lst []) := upd_same
  generalize upd H59 a60 (.lst []) = H60 at s60 h60 ⊢
  replace d_59 := dp_same s60 _ _ d_59
  replace sB := sB.trans s60
  have d_60 : Dp K H60 (.ref a60) (.list []) := .lst (.inl (.inl h60)) .nil
  refine ⟨by show 1 ≤ sizeLine; decide, fun a61 n61 => ?_⟩
  have s61 := sameNew (o := .lst [.non]) n61
  have h61 : upd H60 a61 (.lst [.non]) a61 = some (.lst [.non]) := upd_same
  generalize upd H60 a61 (.lst [.non]) = H61 at s61 h61 ⊢
  replace d_59 := dp_same s61 _ _ d_59
  replace d_60 := dp_same s61 _ _ d_60
  replace sB := sB.trans s61
  have d_61 : Dp K H61 (.ref a61) (.list [.none]) := .lst (.inl (.inl h61)) (.cons .non .nil)
  refine ⟨by show 2 ≤ sizeLine; decide, fun a62 n62 => ?_⟩
  have s62 := sameNew (o := .tup [(.ref a60), (.ref a61)]) n62
  have h62 : upd H61 a62 (.tup [(.ref a60), (.ref a61)]) a62 = some (.tup [(.ref a60), (.ref a61)]) := upd_same
  generalize upd H61 a62 (.tup [(.ref a60), (.ref a61)]) = H62 at s62 h62 ⊢
  replace d_59 := dp_same s62 _ _ d_59
  replace d_60 := dp_same s62 _ _ d_60
  replace d_61 := dp_same s62 _ _ d_61
  replace sB := sB.trans s62
  have d_62 : Dp K H62 (.ref a62) (.tuple [(.list []), (.list [.none])]) := .tup (.inl (.inl h62)) (.cons d_60 (.cons d_61 .nil))
  refine ⟨by show 0 ≤ sizeLine; decide, fun a63 n63 => ?_⟩
  have s63 := sameNew (o := .lst []) n63
  have h63 : upd H62 a63 (.lst []) a63 = some (.lst []) := upd_same
  generalize upd H62 a63 (.lst []) = H63 at s63 h63 ⊢
  replace d_59 := dp_same s63 _ _ d_59
  replace d_62 := dp_same s63 _ _ d_62
  replace sB := sB.trans s63
  have d_63 : Dp K H63 (.ref a63) (.list []) := .lst (.inl (.inl h63)) .nil
  refine ⟨by show 2 ≤ sizeLine; decide, fun a64 n64 => ?_⟩
  have s64 := sameNew (o := .lst [(.str (S [121])), .non]) n64
  have h64 : upd H63 a64 (.lst [(.str (S [121])), .non]) a64 = some (.lst [(.str (S [121])), .non]) := upd_same
  generalize upd H63 a64 (.lst [(.str (S [121])), .non]) = H64 at s64 h64 ⊢
  replace d_59 := dp_same s64 _ _ d_59
  replace d_62 := dp_same s64 _ _ d_62
  replace d_63 := dp_same s64 _ _ d_63
  replace sB := sB.trans s64
  have d_64 : Dp K H64 (.ref a64) (.list [(.str (S [121])), .none]) := .lst (.inl (.inl h64)) (.cons (.str _) (.cons .non .nil))
  refine ⟨by show 2 ≤ sizeLine; decide, fun a65 n65 => ?_⟩
  have s65 := sameNew (o := .tup [(.ref a63), (.ref a64)]) n65
  have h65 : upd H64 a65 (.tup [(.ref a63), (.ref a64)]) a65 = some (.tup [(.ref a63), (.ref a64)]) := upd_same
  generalize upd H64 a65 (.tup [(.ref a63), (.ref a64)]) = H65 at s65 h65 ⊢
  replace d_59 := dp_same s65 _ _ d_59
  replace d_62 := dp_same s65 _ _ d_62
  replace d_63 := dp_same s65 _ _ d_63
  replace d_64 := dp_same s65 _ _ d_64
  replace sB := sB.trans s65
  have d_65 : Dp K H65 (.ref a65) (.tuple [(.list []), (.list [(.str (S [121])), .none])]) := .tup (.inl (.inl h65)) (.cons d_63 (.cons d_64 .nil))
  refine ⟨by show 3 ≤ sizeLine; decide, fun a66 n66 => ?_⟩
  have s66 := sameNew (o := .lst [(.ref a59), (.ref a62), (.ref a65)]) n66
  have h66 : upd H65 a66 (.lst [(.ref a59), (.ref a62), (.ref a65)]) a66 = some (.lst [(.ref a59), (.ref a62), (.ref a65)]) := upd_same
  generalize upd H65 a66 (.lst [(.ref a59), (.ref a62), (.ref a65)]) = H66 at s66 h66 ⊢
  replace d_59 := dp_same s66 _ _ d_59
  replace d_62 := dp_same s66 _ _ d_62
  replace d_65 := dp_same s66 _ _ d_65
  replace sB := sB.trans s66
  have d_66 : Dp K H66 (.ref a66) (.list [(.tuple [(.list [(.str (S [99]))]), (.list [(.str (S [98])), (.str (S [97]))])]), (.tuple [(.list []), (.list [.none])]), (.tuple [(.list []), (.list [(.str (S [121])), .none])])]) := .lst (.inl (.inl h66)) (.cons d_59 (.cons d_62 (.cons d_65 .nil)))
  refine ⟨_, _, rfl, d_66, fT, rfl, false, congrArg V.bl (ne_no _), iteF ?_⟩
  refine ⟨by show 1 ≤ sizeLine; decide, fun a67 n67 => ?_⟩
  have s67 := sameNew (o := .lst [(.str (S [97]))]) n67
  have h67 : upd H66 a67 (.lst [(.str (S [97]))]) a67 = some (.lst [(.str (S [97]))]) := upd_same
  generalize upd H66 a67 (.lst [(.str (S [97]))]) = H67 at s67 h67 ⊢
  replace sB := sB.trans s67
  have d_67 : Dp K H67 (.ref a67) (.list [(.str (S [97]))]) := .lst (.inl (.inl h67)) (.cons (.str _) .nil)
  refine ⟨by show 2 ≤ sizeLine; decide, fun a68 n68 => ?_⟩
  have s68 := sameNew (o := .lst [(.str (S [97])), (.str (S [98]))]) n68
  have h68 : upd H67 a68 (.lst [(.str (S [97])), (.str (S [98]))]) a68 = some (.lst [(.str (S [97])), (.str (S [98]))]) := upd_same
  generalize upd H67 a68 (.lst [(.str (S [97])), (.str (S [98]))]) = H68 at s68 h68 ⊢
  replace d_67 := dp_same s68 _ _ d_67
  replace sB := sB.trans s68
  have d_68 : Dp K H68 (.ref a68) (.list [(.str (S [97])), (.str (S [98]))]) := .lst (.inl (.inl h68)) (.cons (.str _) (.cons (.str _) .nil))
  refine ⟨by show 2 ≤ sizeLine; decide, fun a69 n69 => ?_⟩
  have s69 := sameNew (o := .tup [(.ref a67), (.ref a68)]) n69
  have h69 : upd H68 a69 (.tup [(.ref a67), (.ref a68)]) a69 = some (.tup [(.ref a67), (.ref a68)]) := upd_same
  generalize upd H68 a69 (.tup [(.ref a67), (.ref a68)]) = H69 at s69 h69 ⊢
  replace d_67 := dp_same s69 _ _ d_67
  replace d_68 := dp_same s69 _ _ d_68
  replace sB := sB.trans s69
  have d_69 : Dp K H69 (.ref a69) (.tuple [(.list [(.str (S [97]))]), (.list [(.str (S [97])), (.str (S [98]))])]) := .tup (.inl (.inl h69)) (.cons d_67 (.cons d_68 .nil))
  refine ⟨rfl, rfl, (.ref a69), _, rfl, d_69, smwB_ok (by decide +kernel), fun I1 sI1 => ?_⟩
  rw [show isWheelD (.tuple [(.list [(.str (S [97]))]), (.list [(.str (S [97])), (.str (S [98]))])]) = true by decide +kernel]
  refine ⟨true, true, rfl, rfl, true, rfl, iteT ?_⟩
  replace sB := sB.trans sI1
  refine ⟨10, 20, rfl, rfl, ⟨by decide, by decide⟩, ?_⟩
  refine ⟨by show 1 ≤ sizeLine; decide, fun a70 n70 => ?_⟩
  have s70 := sameNew (o := .lst [(.str (S [99]))]) n70
  have h70 : upd I1 a70 (.lst [(.str (S [99]))]) a70 = some (.lst [(.str (S [99]))]) := upd_same
  generalize upd I1 a70 (.lst [(.str (S [99]))]) = H70 at s70 h70 ⊢
  replace sB := sB.trans s70
  have d_70 : Dp K H70 (.ref a70) (.list [(.str (S [99]))]) := .lst (.inl (.inl h70)) (.cons (.str _) .nil)
  refine ⟨by show 2 ≤ sizeLine; decide, fun a71 n71 => ?_⟩
  have s71 := sameNew (o := .lst [(.str (S [98])), (.str (S [97]))]) n71
  have h71 : upd H70 a71 (.lst [(.str (S [98])), (.str (S [97]))]) a71 = some (.lst [(.str (S [98])), (.str (S [97]))]) := upd_same
  generalize upd H70 a71 (.lst [(.str (S [98])), (.str (S [97]))]) = H71 at s71 h71 ⊢
  replace d_70 := dp_same s71 _ _ d_70
  replace h70 := s71 _ _ h70
  replace sB := sB.trans s71
  have d_71 : Dp K H71 (.ref a71) (.list [(.str (S [98])), (.str (S [97]))]) := .lst (.inl (.inl h71)) (.cons (.str _) (.cons (.str _) .nil))
  refine ⟨by show 2 ≤ sizeLine; decide, fun a72 n72 => ?_⟩
  have s72 := sameNew (o := .tup [(.ref a70), (.ref a71)]) n72
  have h72 : upd H71 a72 (.tup [(.ref a70), (.ref a71)]) a72 = some (.tup [(.ref a70), (.ref a71)]) := upd_same
  generalize upd H71 a72 (.tup [(.ref a70), (.ref a71)]) = H72 at s72 h72 ⊢
  replace h70 := s72 _ _ h70
  replace h71 := s72 _ _ h71
  have wf : WhH H72 a72 ([some 99] : List (Option Nat)) ([some 98, some 97] : List (Option Nat)) := ⟨a70, a71, h72, h70, h71⟩
  have vv : valW ([some 99] : List (Option Nat)) ([some 98, some 97] : List (Option Nat)) 100000000000000000000 = some 97 := by decide +kernel
  refine ⟨rfl, rfl, .ref a72, .int ((100000000000000000000 : Nat) : Int), _, .int ((100000000000000000000 : Nat) : Int), rfl, wf.dp, smwB_ok (by decide +kernel), .int _, .inr (.inr ⟨by decide +kernel, a72, _, _, 100000000000000000000, rfl, rfl, rfl, wf, by decide, fun I2 sI2 => ?_⟩)⟩
  rw [vv]
  refine ⟨rfl, true, congrArg V.bl (decide_eq_true rfl), iteT ⟨rfl, q⟩⟩
end
end K49

set_option Elab.async false
set_option linter.all false
set_option maxRecDepth 100000
set_option maxHeartbeats 4000000
namespace K49
open PySem PySem.Spec PyProof.Rows L2 CK SX
def sp_law (K : PySem.W.Frag) : Sp := fun vs H Q _ => ∃ (a : Addr) (ns : List Int), vs = [.ref a] ∧ SqL K H a (ns.map V.int) ∧ ns.length ≤ 63 ∧ ∀ H', Q (.bl true) H'
theorem law_end {l : PySem.W.OpenLaw} {w : World} {K : PySem.W.Frag} {mg : Str → Option Value} {fa E_InvalidNumber E_InvalidList E_InvalidWheel E_CountError : Addr} (T : Txt K mg E_InvalidNumber E_InvalidList E_InvalidWheel E_CountError) (hfa : mg "law" = some (.ref fa)) :
    ∃ fd : FuncData, (∀ (s : Shared) (v : Value), BindsTo s fd ⟨[v], []⟩ [("_law_script", v)]) ∧ ∀ base : Heap, K.In base → base.Ns mainGlobals mg → FnG l.prog w K mg base 9 fa fd ["_law_script"] (sp_law K) := by
  obtain ⟨f, fd, hm, hb, hF⟩ := T.d_law.oneG
  have e := hfa.symm.trans hm
  cases e
  refine ⟨fd, hb, fun base _ _ => hF sc_law (fun vs H Q E h => ?_) (fun cdv A outer s H vs Q E hr gd0 h => ?_)⟩
  · obtain ⟨_, _, rfl, _⟩ := h; rfl
  · obtain ⟨sa, ns, rfl, hS, hl, q⟩ := h
    have gd : (A.deeper (envOfC "law" (C8.fnScope (topS 33)) s.heap.objs.size fa cdv)).guards = some [] := gd0
    obtain ⟨u, hu, tail⟩ := law_told T fa cdv A outer s H E hr gd0
    refine ⟨_, (pss_cons (ps_for PassesOwn.never rfl (pi_range1 (by rfl) T.m_range (pa_cons pe_int pa_nil)) (pg_name (i := 1) sc_law.nd rfl (Or.inl rfl))
    (pss_cons (ps_set (i := 2) sc_law.nd rfl (Or.inl rfl) (C8.pe_c (c_law_generator T) hr (by decide) (by rfl) (pa_cons (pv 0) (pa_cons (pv 1) pa_nil))))
    (pss_one (ps_if (pt_not (pt_val (pe_cG (c_law_good T) hr gd (by decide) (by rfl) (pa_cons (pv 2) (pa_cons (C8.pe_c (c_law_raw_wheel T) hr (by decide) (by rfl) (pa_cons (pv 2) pa_nil)) pa_nil)))))
    (pss_one (ps_ret pe_bl))
    pss_nil))))
    hu), ?_⟩
    refine ⟨6, rfl, by decide, by decide, ?_⟩
    refine for_it walk_range (fun i σ H' => Same H H' ∧ ∃ y1 y2, σ = [some (.ref sa), y1, y2, none]) ⟨Same.refl _, none, none, rfl⟩ (fun _ _ _ _ _ => True.intro) (fun i x σ H' H'' hi p y => ?_) fun σ H' p => ?_
    · obtain ⟨s0, y1, y2, rfl⟩ := p
      obtain ⟨rfl, rfl⟩ := y
      have i6 : i < 6 := hi
      refine ⟨_, rfl, _, rfl, sa, ns, i, by show [V.ref sa, V.int (0 + (i : Int))] = _; rw [Int.zero_add], s0.seq hS, by omega, fun g H1 H2 s1 n1 s2 G2 => ?_⟩
      refine ⟨_, rfl, _, rfl, g, 99900, rfl, G2.le (by omega), fun r xs ts H3 sx G3 wg lx lt ne sgx sgt => ?_⟩
      refine ⟨g, r, xs, ts, 99899, rfl, G3.le (by omega), wg, lx, lt, ne, sgx, sgt, fun H4 s4 G4 => ⟨true, rfl, iteF ?_⟩⟩
      refine ⟨fun b o e => ?_, _, _, rfl⟩
      have e1 := s1 _ _ (s0 _ _ e)
      have nb : b ≠ g := ne_of_none e1 n1
      exact s4 _ _ nb (sx _ _ nb (s2 _ _ e1))
    · obtain ⟨s0, y1, y2, rfl⟩ := p
      exact tail _ H' _ _ _ _ fun H'' => q H''
end K49

open PySem PySem.W PyProof.Rows
set_option maxHeartbeats 0 in
theorem PySem.Challenge.cw_countscribe_k49_least_wheels_holds : PySem.Challenge.rw_countscribe_k49_least_wheels.Holds := by
  w_on; o_law; k_head; (case hw => w_witness2)
  k_fill
  refine CK.walkG (l := PySem.Challenge.rw_countscribe_k49_least_wheels) (n := 63) (k := 9) (x := "_law_script") (sp := fun w => K49.sp_law _) rfl (by decide) rfl ⟨rfl, by decide, by decide⟩ (fun w h Y => PySem.W.kIn_of Y) ?F (fun _ _ a ns hl _ hS => ⟨a, ns, rfl, hS, hl, fun _ => rfl⟩)
  case F =>
    intro w mg fa h KX G hmg
    refine' CK.with_err KX "InvalidNumber" "value" (L2.inClass (K49.topS 2) 0) (CK.errF_mk KX G "InvalidNumber.__init__" (L2.inClass (K49.topS 2) 0) ?a ?lk ?bm ?sa ?eC ?tC ?kp ?ga ?gg ?hd ?hcl ?hn ?ht ?hm ?no ?rf ?ii ?it ?il ?ic ?ik ?dl ?dm ?dr ?bd ?sc ?l1 ?l2 ?n1 ?n2 ?by_) fun x_InvalidNumber => ?_
    (case a => k_is); (case lk => k_is); (case bm => decide +kernel); (case sa => k_is); (case eC => k_is); (case tC => k_is); (case kp => k_is); (case ga => k_is); (case gg => k_is); (case hd => k_is); (case hcl => k_is); (case hn => k_is); (case ht => k_is); (case hm => k_is); (case no => k_is); (case rf => first | rfl | k_is); (case ii => k_is); (case it => k_is); (case il => k_is); (case ic => k_is); (case ik => k_is); (case dl => k_is); (case dm => rfl); (case dr => first | rfl | exact ⟨_, rfl⟩)
    (case bd => exact fun _ _ _ _ _ _ _ us its h1 h2 => match us, its, h1, h2 with | [_, _], [_], _, _ => ⟨_, rfl, rfl⟩); (case sc => exact C8.fnScope_by (by decide +kernel)); (case l1 => rfl); (case l2 => rfl); (case n1 => decide); (case n2 => decide); (case by_ => exact ⟨_, _, _, _, rfl⟩)
    refine' CK.with_err KX "InvalidList" "value" (L2.inClass (K49.topS 3) 0) (CK.errF_mk KX G "InvalidList.__init__" (L2.inClass (K49.topS 3) 0) ?a ?lk ?bm ?sa ?eC ?tC ?kp ?ga ?gg ?hd ?hcl ?hn ?ht ?hm ?no ?rf ?ii ?it ?il ?ic ?ik ?dl ?dm ?dr ?bd ?sc ?l1 ?l2 ?n1 ?n2 ?by_) fun x_InvalidList => ?_
    (case a => k_is); (case lk => k_is); (case bm => decide +kernel); (case sa => k_is); (case eC => k_is); (case tC => k_is); (case kp => k_is); (case ga => k_is); (case gg => k_is); (case hd => k_is); (case hcl => k_is); (case hn => k_is); (case ht => k_is); (case hm => k_is); (case no => k_is); (case rf => first | rfl | k_is); (case ii => k_is); (case it => k_is); (case il => k_is); (case ic => k_is); (case ik => k_is); (case dl => k_is); (case dm => rfl); (case dr => first | rfl | exact ⟨_, rfl⟩)
    (case bd => exact fun _ _ _ _ _ _ _ us its h1 h2 => match us, its, h1, h2 with | [_, _], [_], _, _ => ⟨_, rfl, rfl⟩); (case sc => exact C8.fnScope_by (by decide +kernel)); (case l1 => rfl); (case l2 => rfl); (case n1 => decide); (case n2 => decide); (case by_ => exact ⟨_, _, _, _, rfl⟩)
    refine' CK.with_err KX "InvalidWheel" "value" (L2.inClass (K49.topS 4) 0) (CK.errF_mk KX G "InvalidWheel.__init__" (L2.inClass (K49.topS 4) 0) ?a ?lk ?bm ?sa ?eC ?tC ?kp ?ga ?gg ?hd ?hcl ?hn ?ht ?hm ?no ?rf ?ii ?it ?il ?ic ?ik ?dl ?dm ?dr ?bd ?sc ?l1 ?l2 ?n1 ?n2 ?by_) fun x_InvalidWheel => ?_
    (case a => k_is); (case lk => k_is); (case bm => decide +kernel); (case sa => k_is); (case eC => k_is); (case tC => k_is); (case kp => k_is); (case ga => k_is); (case gg => k_is); (case hd => k_is); (case hcl => k_is); (case hn => k_is); (case ht => k_is); (case hm => k_is); (case no => k_is); (case rf => first | rfl | k_is); (case ii => k_is); (case it => k_is); (case il => k_is); (case ic => k_is); (case ik => k_is); (case dl => k_is); (case dm => rfl); (case dr => first | rfl | exact ⟨_, rfl⟩)
    (case bd => exact fun _ _ _ _ _ _ _ us its h1 h2 => match us, its, h1, h2 with | [_, _], [_], _, _ => ⟨_, rfl, rfl⟩); (case sc => exact C8.fnScope_by (by decide +kernel)); (case l1 => rfl); (case l2 => rfl); (case n1 => decide); (case n2 => decide); (case by_ => exact ⟨_, _, _, _, rfl⟩)
    refine' CK.with_base KX "CountError" (CK.baseE_mk KX G ?ba ?bb ?bc ?bd_) fun x_CountError => ?_
    (case ba => k_is); (case bb => k_is); (case bc => k_is); (case bd_ => k_is)
    refine' CK.with_sub x_InvalidNumber x_InvalidNumber.gC true ?z fun s_InvalidNumber_InvalidNumber => ?_; (case z => first | rfl | k_is)
    refine' CK.with_sub x_InvalidNumber x_InvalidList.gC false ?z fun s_InvalidNumber_InvalidList => ?_; (case z => first | rfl | k_is)
    refine' CK.with_sub x_InvalidNumber x_InvalidWheel.gC false ?z fun s_InvalidNumber_InvalidWheel => ?_; (case z => first | rfl | k_is)
    refine' CK.with_sub x_InvalidNumber x_CountError.gC true ?z fun s_InvalidNumber_CountError => ?_; (case z => first | rfl | k_is)
    refine' CK.with_sub x_InvalidList x_InvalidNumber.gC false ?z fun s_InvalidList_InvalidNumber => ?_; (case z => first | rfl | k_is)
    refine' CK.with_sub x_InvalidList x_InvalidList.gC true ?z fun s_InvalidList_InvalidList => ?_; (case z => first | rfl | k_is)
    refine' CK.with_sub x_InvalidList x_InvalidWheel.gC false ?z fun s_InvalidList_InvalidWheel => ?_; (case z => first | rfl | k_is)
    refine' CK.with_sub x_InvalidList x_CountError.gC true ?z fun s_InvalidList_CountError => ?_; (case z => first | rfl | k_is)
    refine' CK.with_sub x_InvalidWheel x_InvalidNumber.gC false ?z fun s_InvalidWheel_InvalidNumber => ?_; (case z => first | rfl | k_is)
    refine' CK.with_sub x_InvalidWheel x_InvalidList.gC false ?z fun s_InvalidWheel_InvalidList => ?_; (case z => first | rfl | k_is)
    refine' CK.with_sub x_InvalidWheel x_InvalidWheel.gC true ?z fun s_InvalidWheel_InvalidWheel => ?_; (case z => first | rfl | k_is)
    refine' CK.with_sub x_InvalidWheel x_CountError.gC true ?z fun s_InvalidWheel_CountError => ?_; (case z => first | rfl | k_is)
    refine' CK.with_def KX "is_whole" (K49.topS 6) ["value"] (CK.defF_mk KX G ?a ?l ?c ?k fun _ _ _ _ _ _ us hl => match us, hl with | [_], _ => rfl) fun d_is_whole => ?_
    (case a => k_is); (case l => k_is); (case c => k_is); (case k => k_is)
    refine' CK.with_def KX "is_count" (K49.topS 7) ["value"] (CK.defF_mk KX G ?a ?l ?c ?k fun _ _ _ _ _ _ us hl => match us, hl with | [_], _ => rfl) fun d_is_count => ?_
    (case a => k_is); (case l => k_is); (case c => k_is); (case k => k_is)
    refine' CK.with_def KX "is_lettered" (K49.topS 8) ["value", "most"] (CK.defF_mk KX G ?a ?l ?c ?k fun _ _ _ _ _ _ us hl => match us, hl with | [_, _], _ => rfl) fun d_is_lettered => ?_
    (case a => k_is); (case l => k_is); (case c => k_is); (case k => k_is)
    refine' CK.with_def KX "is_letter" (K49.topS 9) ["value"] (CK.defF_mk KX G ?a ?l ?c ?k fun _ _ _ _ _ _ us hl => match us, hl with | [_], _ => rfl) fun d_is_letter => ?_
    (case a => k_is); (case l => k_is); (case c => k_is); (case k => k_is)
    refine' CK.with_def KX "need_count" (K49.topS 10) ["value"] (CK.defF_mk KX G ?a ?l ?c ?k fun _ _ _ _ _ _ us hl => match us, hl with | [_], _ => rfl) fun d_need_count => ?_
    (case a => k_is); (case l => k_is); (case c => k_is); (case k => k_is)
    refine' CK.with_def KX "border_sizes" (K49.topS 12) ["word"] (CK.defF_mk KX G ?a ?l ?c ?k fun _ _ _ _ _ _ us hl => match us, hl with | [_], _ => rfl) fun d_border_sizes => ?_
    (case a => k_is); (case l => k_is); (case c => k_is); (case k => k_is)
    refine' CK.with_def KX "root_size" (K49.topS 13) ["word"] (CK.defF_mk KX G ?a ?l ?c ?k fun _ _ _ _ _ _ us hl => match us, hl with | [_], _ => rfl) fun d_root_size => ?_
    (case a => k_is); (case l => k_is); (case c => k_is); (case k => k_is)
    refine' CK.with_def KX "is_wheel_list" (K49.topS 15) ["value"] (CK.defF_mk KX G ?a ?l ?c ?k fun _ _ _ _ _ _ us hl => match us, hl with | [_], _ => rfl) fun d_is_wheel_list => ?_
    (case a => k_is); (case l => k_is); (case c => k_is); (case k => k_is)
    refine' CK.with_def KX "turn_root" (K49.topS 16) ["turn"] (CK.defF_mk KX G ?a ?l ?c ?k fun _ _ _ _ _ _ us hl => match us, hl with | [_], _ => rfl) fun d_turn_root => ?_
    (case a => k_is); (case l => k_is); (case c => k_is); (case k => k_is)
    refine' CK.with_def KX "items_going_back" (K49.topS 17) ["first", "turn"] (CK.defF_mk KX G ?a ?l ?c ?k fun _ _ _ _ _ _ us hl => match us, hl with | [_, _], _ => rfl) fun d_items_going_back => ?_
    (case a => k_is); (case l => k_is); (case c => k_is); (case k => k_is)
    refine' CK.with_defD KX "is_wheel" (K49.topS 18) [] [] (CK.defD_mk _ _ _ _ KX G ?a ?l ?c ?k ?dd ?kk) fun d_is_wheel => ?_
    (case a => k_is); (case l => k_is); (case c => k_is); (case k => k_is); (case dd => exact CK.dfl_nil); (case kk => exact CK.kwd_nil)
    refine' CK.with_defD KX "least_wheel" (K49.topS 19) [] [] (CK.defD_mk _ _ _ _ KX G ?a ?l ?c ?k ?dd ?kk) fun d_least_wheel => ?_
    (case a => k_is); (case l => k_is); (case c => k_is); (case k => k_is); (case dd => exact CK.dfl_nil); (case kk => exact CK.kwd_nil)
    refine' CK.with_defD KX "wheel_value" (K49.topS 20) [] [] (CK.defD_mk _ _ _ _ KX G ?a ?l ?c ?k ?dd ?kk) fun d_wheel_value => ?_
    (case a => k_is); (case l => k_is); (case c => k_is); (case k => k_is); (case dd => exact CK.dfl_nil); (case kk => exact CK.kwd_nil)
    refine' CK.with_def KX "_law_hash" (K49.topS 22) ["_law_seed", "_law_index"] (CK.defF_mk KX G ?a ?l ?c ?k fun _ _ _ _ _ _ us hl => match us, hl with | [_, _], _ => rfl) fun d_law_hash => ?_
    (case a => k_is); (case l => k_is); (case c => k_is); (case k => k_is)
    refine' CK.with_def KX "_law_generator" (K49.topS 23) ["_law_script", "_law_index"] (CK.defF_mk KX G ?a ?l ?c ?k fun _ _ _ _ _ _ us hl => match us, hl with | [_, _], _ => rfl) fun d_law_generator => ?_
    (case a => k_is); (case l => k_is); (case c => k_is); (case k => k_is)
    refine' CK.with_def KX "_law_random" (K49.topS 24) ["_law_generator_here", "_law_bound"] (CK.defF_mk KX G ?a ?l ?c ?k fun _ _ _ _ _ _ us hl => match us, hl with | [_, _], _ => rfl) fun d_law_random => ?_
    (case a => k_is); (case l => k_is); (case c => k_is); (case k => k_is)
    refine' CK.with_def KX "_law_sign" (K49.topS 25) ["_law_generator_here"] (CK.defF_mk KX G ?a ?l ?c ?k fun _ _ _ _ _ _ us hl => match us, hl with | [_], _ => rfl) fun d_law_sign => ?_
    (case a => k_is); (case l => k_is); (case c => k_is); (case k => k_is)
    refine' CK.with_def KX "_law_raw_wheel" (K49.topS 26) ["_law_generator_here"] (CK.defF_mk KX G ?a ?l ?c ?k fun _ _ _ _ _ _ us hl => match us, hl with | [_], _ => rfl) fun d_law_raw_wheel => ?_
    (case a => k_is); (case l => k_is); (case c => k_is); (case k => k_is)
    refine' CK.with_def KX "_law_value" (K49.topS 27) ["_law_wheel", "_law_number"] (CK.defF_mk KX G ?a ?l ?c ?k fun _ _ _ _ _ _ us hl => match us, hl with | [_, _], _ => rfl) fun d_law_value => ?_
    (case a => k_is); (case l => k_is); (case c => k_is); (case k => k_is)
    refine' CK.with_def KX "_law_signs" (K49.topS 28) ["_law_value_here"] (CK.defF_mk KX G ?a ?l ?c ?k fun _ _ _ _ _ _ us hl => match us, hl with | [_], _ => rfl) fun d_law_signs => ?_
    (case a => k_is); (case l => k_is); (case c => k_is); (case k => k_is)
    refine' CK.with_def KX "_law_is_least" (K49.topS 29) ["_law_wheel"] (CK.defF_mk KX G ?a ?l ?c ?k fun _ _ _ _ _ _ us hl => match us, hl with | [_], _ => rfl) fun d_law_is_least => ?_
    (case a => k_is); (case l => k_is); (case c => k_is); (case k => k_is)
    refine' CK.with_def KX "_law_good" (K49.topS 30) ["_law_generator_here", "_law_raw"] (CK.defF_mk KX G ?a ?l ?c ?k fun _ _ _ _ _ _ us hl => match us, hl with | [_, _], _ => rfl) fun d_law_good => ?_
    (case a => k_is); (case l => k_is); (case c => k_is); (case k => k_is)
    refine' CK.with_def KX "_law_caught" (K49.topS 31) ["_law_which", "_law_given"] (CK.defF_mk KX G ?a ?l ?c ?k fun _ _ _ _ _ _ us hl => match us, hl with | [_, _], _ => rfl) fun d_law_caught => ?_
    (case a => k_is); (case l => k_is); (case c => k_is); (case k => k_is)
    refine' CK.with_def KX "_law_refused" (K49.topS 32) [] (CK.defF_mk KX G ?a ?l ?c ?k fun _ _ _ _ _ _ us hl => match us, hl with | [], _ => rfl) fun d_law_refused => ?_
    (case a => k_is); (case l => k_is); (case c => k_is); (case k => k_is)
    refine' CK.with_def KX "law" (K49.topS 33) ["_law_script"] (CK.defF_mk KX G ?a ?l ?c ?k fun _ _ _ _ _ _ us hl => match us, hl with | [_], _ => rfl) fun d_law => ?_
    (case a => k_is); (case l => k_is); (case c => k_is); (case k => k_is)
    have m_all : mg "all" = none := by
      refine' PySem.W.mg_none_of KX G ?z
      (case z => k_is)
    have m_bool : mg "bool" = none := by
      refine' PySem.W.mg_none_of KX G ?z
      (case z => k_is)
    have m_int : mg "int" = none := by
      refine' PySem.W.mg_none_of KX G ?z
      (case z => k_is)
    have m_isinstance : mg "isinstance" = none := by
      refine' PySem.W.mg_none_of KX G ?z
      (case z => k_is)
    have m_len : mg "len" = none := by
      refine' PySem.W.mg_none_of KX G ?z
      (case z => k_is)
    have m_list : mg "list" = none := by
      refine' PySem.W.mg_none_of KX G ?z
      (case z => k_is)
    have m_max : mg "max" = none := by
      refine' PySem.W.mg_none_of KX G ?z
      (case z => k_is)
    have m_range : mg "range" = none := by
      refine' PySem.W.mg_none_of KX G ?z
      (case z => k_is)
    have m_repr : mg "repr" = none := by
      refine' PySem.W.mg_none_of KX G ?z
      (case z => k_is)
    have m_str : mg "str" = none := by
      refine' PySem.W.mg_none_of KX G ?z
      (case z => k_is)
    have m_sum : mg "sum" = none := by
      refine' PySem.W.mg_none_of KX G ?z
      (case z => k_is)
    have m_tuple : mg "tuple" = none := by
      refine' PySem.W.mg_none_of KX G ?z
      (case z => k_is)
    have T : K49.Txt _ mg _ _ _ _ := ⟨x_InvalidNumber, x_InvalidList, x_InvalidWheel, x_CountError, s_InvalidNumber_InvalidNumber, s_InvalidNumber_InvalidList, s_InvalidNumber_InvalidWheel, s_InvalidNumber_CountError, s_InvalidList_InvalidNumber, s_InvalidList_InvalidList, s_InvalidList_InvalidWheel, s_InvalidList_CountError, s_InvalidWheel_InvalidNumber, s_InvalidWheel_InvalidList, s_InvalidWheel_InvalidWheel, s_InvalidWheel_CountError, d_is_whole, d_is_count, d_is_lettered, d_is_letter, d_need_count, d_border_sizes, d_root_size, d_is_wheel_list, d_turn_root, d_items_going_back, d_is_wheel, d_least_wheel, d_wheel_value, d_law_hash, d_law_generator, d_law_random, d_law_sign, d_law_raw_wheel, d_law_value, d_law_signs, d_law_is_least, d_law_good, d_law_caught, d_law_refused, d_law, m_all, m_bool, m_int, m_isinstance, m_len, m_list, m_max, m_range, m_repr, m_str, m_sum, m_tuple⟩
    exact K49.law_end T hmg
