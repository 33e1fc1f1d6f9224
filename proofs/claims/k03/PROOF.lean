import PyProof.Rows.All
import Wide.All
import OpenK.AllK
import Wide.FinOn
import HandS.ForMost
import HandS.Wide
import HandS.WideBits
import HandS.TupAny
import HandS.TupMul
import HandS.IsInst
import HandS.Walk
import HandS.Style
import KE.GoesZip
import KE.GoesMore
import KE.GoesEnum
import HandS.Codes
import HandS.FStrTup
import PyProof.ListMulRoad
import PyProof.FactsAll.tuple_2
import PyProof.ReprLoop
import PyProof.ReprHeadsTuple
import PyProof.StrHeap
import PyProof.CallStr
import HandS.StrMore
import HandS.SortInts
import PyProof.Rows.StrRev
import PyProof.StrOps2
import PySem.Challenge.RW_countscribe_k03_kept_words_of_any_length
set_option Elab.async false
set_option linter.all false
set_option maxRecDepth 100000
set_option maxHeartbeats 2000000
/-! rules that the layer lacks: a power of great numbers, zip over a list and a tuple in any mix -/
namespace CK
open PySem PySem.Spec PyProof.Rows L2

section
variable {X : Cx}
theorem op_powB : OpR X (binaryOp .Pow) (rI (fun i j => 0 ≤ j ∧ (Builtin.Int.intBits i : Int) * j ≤ 2 ^ 27) fun i j => .int (i ^ j.toNat)) :=
  opI fun _ _ _ _ _ _ _ c q => pow_int c.1 c.2 q
end

/-- a list, or a tuple -/
inductive Kd | L | T
def SqB (K : PySem.W.Frag) : Kd → Hp → Addr → List V → Prop
  | .L, H, a, xs => SqL K H a xs
  | .T, H, a, xs => SqT K H a xs
def HasB : Kd → Heap → Addr → Array Value → Prop
  | .L, h, a, xs => h.IsList a xs
  | .T, h, a, xs => h.IsTuple a xs
def IterB : Kd → Heap → Addr → Addr → Nat → Prop
  | .L, h, it, a, i => h.IsListIter it a i
  | .T, h, it, a, i => h.IsTupleIter it a i
def objB : Kd → Addr → Obj
  | .L, a => { cls := .type "list_iterator", data := .fields #[.ref a, .int 0 0] }
  | .T, a => { cls := .type "tuple_iterator", data := .fields #[.ref a, .int 0 0] }
theorem drawsB (k : Kd) {prog : Program} {w : World} {A : Around} (hh : A.handled = none) (it t : Addr) (ne : t ≠ it) (zs : Array Value) :
    Draws prog w A it [it, t] zs.size (fun i v => zs[i]? = some v) (fun i h => IterB k h it t i ∧ HasB k h t zs) := by
  cases k with
  | L => exact Draws.list hh it t ne zs
  | T => exact Draws.tuple hh it t ne zs
theorem beginsB (k : Kd) (t : Addr) (zs : Array Value) : Begins (.ref t) (objB k t) fun h => HasB k h t zs := by
  cases k with
  | L => exact begins_list t zs
  | T => exact begins_tuple t zs
theorem IterB.at {k : Kd} {h h' : Heap} {it a : Addr} {i : Nat} (x : IterB k h it a i) (e : ∀ o, h.get? it = some o → h'.get? it = some o) : IterB k h' it a i := by
  cases k with
  | L => exact Heap.IsListIter.at x e
  | T => exact Heap.IsTupleIter.at x e
theorem IterB.there {k : Kd} {h : Heap} {it a : Addr} {i : Nat} (x : IterB k h it a i) : ∃ o, h.get? it = some o ∧ ∀ v, o.data ≠ .cell v := by
  cases k with
  | L =>
    obtain ⟨o, e, _, d⟩ := x
    exact ⟨o, e, fun v z => by rw [d] at z; cases z⟩
  | T =>
    obtain ⟨o, e, _, d⟩ := x
    exact ⟨o, e, fun v z => by rw [d] at z; cases z⟩
theorem IterB.new {k : Kd} {h : Heap} {it a : Addr} (e : h.get? it = some (objB k a)) : IterB k h it a 0 := by
  cases k with
  | L => exact ⟨_, e, rfl, rfl⟩
  | T => exact ⟨_, e, rfl, rfl⟩
theorem SqB.get {X : Cx} {pins : List (Addr × Obj)} {σ : L2.St} {H : Hp} {s : Shared} {k : Kd} {a : Addr} {xs : List V} (I : Inv X pins σ H s) (h : SqB X.K k H a xs) :
    ∃ zs : List Value, Vals xs zs ∧ HasB k s.heap a zs.toArray ∧ a < s.heap.objs.size := by
  cases k with
  | L =>
    obtain ⟨zs, r, p, _⟩ := I.list h
    exact ⟨zs, r, p.isList, p.lt⟩
  | T =>
    obtain ⟨zs, r, p, _⟩ := I.tuple h
    exact ⟨zs, r, p, p.lt⟩
theorem SqB.inj {X : Cx} {pins : List (Addr × Obj)} {σ : L2.St} {H : Hp} {s : Shared} {k : Kd} {a : Addr} {xs ys : List V} (I : Inv X pins σ H s) (h : SqB X.K k H a xs) (h' : SqB X.K k H a ys) : xs = ys := by
  cases k with
  | L => exact I.list_inj h h'
  | T => exact I.tuple_inj h h'

/-- both as they stand at each turn, the items in new pairs -/
def ItB (K : PySem.W.Frag) (k k' : Kd) (a b : Addr) : It :=
  ⟨fun i H => ∃ (xs ys : List V) (x y : V), SqB K k H a xs ∧ SqB K k' H b ys ∧ xs[i]? = some x ∧ ys[i]? = some y,
    fun i H v H' => ∃ T x y, v = .ref T ∧ H T = none ∧ H' = upd H T (.tup [x, y]) ∧ (∀ xs, SqB K k H a xs → xs[i]? = some x) ∧ ∀ ys, SqB K k' H b ys → ys[i]? = some y,
    fun i H => ∃ xs ys : List V, SqB K k H a xs ∧ SqB K k' H b ys ∧ i ≤ xs.length ∧ i ≤ ys.length ∧ (i = xs.length ∨ i = ys.length)⟩
theorem five {z TI TO i1 i2 c : Addr} (h : c ∈ [z, TI, TO, i1, i2]) : c = z ∨ c = TI ∨ c = TO ∨ c = i1 ∨ c = i2 := by simpa using h
theorem turnB {P : Program} {w : World} {K : PySem.W.Frag} {elts : List Expr} {kk : Nat} {tp : Pos} {k k' : Kd} {a b z TI TO i1 i2 : Addr} (S : ZipSep2 z TI TO i1 i2 [i1, a] [i2, b]) (na : a ≠ i1) (nb : b ≠ i2) :
    Turn P w K (.Tuple elts kk tp) (ItB K k k' a b) [z, TI, TO, i1, i2] z
      (fun i h => IsZip h z TI TO .none ∧ IsTupOf2 h TI (.ref i1) (.ref i2) ∧ (∃ x y, IsTupOf2 h TO x y) ∧ IterB k h i1 a i ∧ IterB k' h i2 b i) where
  mem := by simp
  obj := fun i h st c hc => by
    obtain ⟨hz, hI, ⟨x, y, hO⟩, h1, h2⟩ := st
    rcases five hc with q | q | q | q | q <;> subst q
    · exact ⟨_, hz, fun v q => nomatch q⟩
    · exact ⟨_, hI, fun v q => nomatch q⟩
    · exact ⟨_, hO, fun v q => nomatch q⟩
    · exact h1.there
    · exact h2.there
  keep := fun i h h' st q => by
    obtain ⟨hz, hI, ⟨x, y, hO⟩, h1, h2⟩ := st
    exact ⟨q z (by simp) _ hz, q TI (by simp) _ hI, ⟨x, y, q TO (by simp) _ hO⟩, h1.at (q i1 (by simp)), h2.at (q i2 (by simp))⟩
  item := by
    intro X hP hw hK hc i pins s σ H E I hf st hg
    subst hP hw hK
    obtain ⟨hz, hI, ⟨x0, y0, hO⟩, h1, h2⟩ := st
    obtain ⟨xs, ys, x, y, qx, qy, hx, hy⟩ := hg
    obtain ⟨zs, r1, p1, la⟩ := SqB.get I qx
    obtain ⟨zs', r2, p2, lb⟩ := SqB.get I qy
    obtain ⟨u, hu, ru⟩ := r1.get hx
    obtain ⟨u2, hu2, ru2⟩ := r2.get hy
    have z0 : z < s.heap.objs.size := Heap.lt_size hz
    have l1 : i < zs.toArray.size := by
      obtain ⟨q, _⟩ := List.getElem?_eq_some_iff.mp hu
      simpa using q
    have l2 : i < zs'.toArray.size := by
      obtain ⟨q, _⟩ := List.getElem?_eq_some_iff.mp hu2
      simpa using q
    have hh : X.A.in1.handled = none := I.ok.hd hc
    refine wpAny_pyNext_zipD2_item S (drawsB k hh i1 a na zs.toArray) (drawsB k' hh i2 b nb zs'.toArray) hz hI hO ⟨h1, p1⟩ ⟨h2, p2⟩ l1 l2 fun x1 x2 h' tk e1 e2 z' TO' t1 t2 hT hsz hk => ?_
    have e1' : x1 = u := by
      have q : zs[i]? = some x1 := by simpa using e1
      exact Option.some.inj (q.symm.trans hu)
    have e2' : x2 = u2 := by
      have q : zs'[i]? = some x2 := by simpa using e2
      exact Option.some.inj (q.symm.trans hu2)
    subst e1' e2'
    refine ⟨_, rfl, wpAny_letOwnedTupleGo_zip (s := { s with heap := h', toks := tk }) z' fun h'' z'' sb => ?_⟩
    have hT2 : h''.get? s.heap.objs.size = some { cls := .type "tuple", data := .seq #[x1, x2] } := (sb.2 _ (Nat.ne_of_gt z0)).trans hT
    have new : ObjOk X.prog X.w (upd H s.heap.objs.size (.tup [x, y])) h'' s.heap.objs.size (.tup [x, y]) :=
      ⟨by show 2 ≤ sizeLine; decide, [x1, x2], .cons ru (.cons ru2 .nil), ⟨_, hT2, rfl, _, rfl⟩⟩
    have I1 : Inv X pins σ (upd H s.heap.objs.size (.tup [x, y])) { s with heap := h'', toks := tk } :=
      I.turnedNew (ch := [z, TI, TO, i1, i2]) (fun c o hb q => by
        have n : c ≠ z ∧ c ≠ TI ∧ c ≠ TO ∧ c ≠ i1 ∧ c ≠ i2 := by simpa using hb
        exact (sb.2 c n.1).trans (hk c o n.1 n.2.2.1 n.2.2.2.1 n.2.2.2.2 q)) hf (Nat.le_refl _) new
    refine ⟨.ref s.heap.objs.size, _, I1, rfl, ⟨_, x, y, rfl, I.hok.fresh (Nat.le_refl _), rfl, fun l hl => by rw [SqB.inj I hl qx]; exact hx, fun l hl => by rw [SqB.inj I hl qy]; exact hy⟩, ⟨z'', ?_, ⟨x1, x2, ?_⟩, ?_, ?_⟩, fun c hcm => ?_⟩
    · exact (sb.2 _ S.TIz).trans (hk _ _ S.TIz S.TITO S.TIi1 S.TIi2 hI)
    · exact (sb.2 _ S.TOz).trans TO'
    · exact t1.1.at fun o q => (sb.2 _ S.zi1.symm).trans q
    · exact t2.1.at fun o q => (sb.2 _ S.zi2.symm).trans q
    · have lt : c < s.heap.objs.size := by
        rcases five hcm with q | q | q | q | q <;> subst q
        · exact z0
        · exact Heap.lt_size hI
        · exact Heap.lt_size hO
        · obtain ⟨_, e, _⟩ := h1.there
          exact Heap.lt_size e
        · obtain ⟨_, e, _⟩ := h2.there
          exact Heap.lt_size e
      rw [upd_ne (Nat.ne_of_lt lt)]
      exact (hf c hcm).1
  done := by
    intro X hP hw hK hc i pins s σ H E I hf st hg
    subst hP hw hK
    obtain ⟨hz, hI, ⟨x0, y0, hO⟩, h1, h2⟩ := st
    obtain ⟨xs, ys, qx, qy, m1, m2, hend⟩ := hg
    obtain ⟨zs, r1, p1, la⟩ := SqB.get I qx
    obtain ⟨zs', r2, p2, lb⟩ := SqB.get I qy
    have e1 : zs.toArray.size = xs.length := by rw [List.size_toArray]; exact r1.length.symm
    have e2 : zs'.toArray.size = ys.length := by rw [List.size_toArray]; exact r2.length.symm
    have hh : X.A.in1.handled = none := I.ok.hd hc
    exact wpAny_pyNext_zipD2_end S (drawsB k hh i1 a na zs.toArray) (drawsB k' hh i2 b nb zs'.toArray) hz hI hO ⟨h1, p1⟩ ⟨h2, p2⟩ (by omega) (by omega) (by omega) fun h' tk hk =>
      ⟨rfl, I.turnedL (ch := [z, TI, TO, i1, i2]) (fun c o hb q => by
        have n : c ≠ z ∧ c ≠ TI ∧ c ≠ TO ∧ c ≠ i1 ∧ c ≠ i2 := by simpa using hb
        exact hk c o n.1 n.2.2.1 n.2.2.2.1 n.2.2.2.2 q) hf⟩
  self := fun A i s Q E st h => wpAny_pyIter_zip st.1 h

def iZipB (K : PySem.W.Frag) (ta : TA) : TI := fun σ H R => ta σ H fun vs H1 => ∃ (k k' : Kd) (a b : Addr) (xs ys : List V), vs = [.ref a, .ref b] ∧ SqB K k H1 a xs ∧ SqB K k' H1 b ys ∧ R (ItB K k k' a b) H1
theorem pi_zipB {X : Cx} {K : PySem.W.Frag} {e e2 : Expr} {ta : TA} {p pos tp : Pos} {elts : List Expr} {kk : Nat} (hK : X.K = K) (hg : Gl X "zip") (hm : X.mg "zip" = none) (ha : PA X [e, e2] ta)
    (hs : starEach [e, e2] X.env = (false, eval e X.env) :: starEach [e2] X.env := by rfl) (hpl : (backTo pos (starEach [e2] X.env)).any (·.1) = false := by rfl) :
    PI X (.Tuple elts kk tp) (.Call (.Name "zip" p) [e, e2] [] pos) (iZipB K ta) := by
  subst hK
  refine ⟨fun pins s σ H R I h => Call_ (ld_blt I hg hm PyProof.Rows.boot_zip (callWith_type1 (thn (ha.run pos pins s σ H _ I h) fun us s1 q => ?_) hs hpl))⟩
  obtain ⟨vs, H1, I1, r1, k, k', a, b, xs, ys, rfl, qx, qy, q⟩ := q
  cases r1 with
  | cons r rr =>
  cases rr with
  | cons r' rr =>
  cases rr
  cases r
  cases r'
  obtain ⟨zs, _, p1, la⟩ := SqB.get I1 qx
  obtain ⟨zs', _, p2, lb⟩ := SqB.get I1 qy
  refine zip_begins2 (beginsB k a zs.toArray) (beginsB k' b zs'.toArray) p1 p2 fun h' hz hI hO o1 o2 hsz hk => wpAny_pyIter_zip hz ?_
  have S := zip_sep2 (N := s1.heap.objs.size) (fp1 := [a]) (fp2 := [b]) (fun c hc => by rw [List.mem_singleton.mp hc]; exact la) (fun c hc => by rw [List.mem_singleton.mp hc]; exact lb)
  refine ⟨s1.heap.objs.size + 4, _, _, _, H1, rfl, I1.kept (t' := s1.toks) hk, turnB S (Nat.ne_of_lt la) (Nat.ne_of_lt (Nat.lt_succ_of_lt lb)), ⟨hz, hI, ⟨_, _, hO⟩, .new o1, .new o2⟩, fun c hc => ?_, q⟩
  have le : s1.heap.objs.size ≤ c := by
    rcases five hc with z | z | z | z | z <;> subst z <;> first | exact Nat.le_add_right _ _ | exact Nat.le_refl _
  exact I1.fpOk le (I1.hok.fresh le)
theorem walkB {K : PySem.W.Frag} {k k' : Kd} {a b : Addr} {xs ys : List V} (hl : xs.length = ys.length) :
    Walk (ItB K k k' a b) xs.length (fun H => SqB K k H a xs ∧ SqB K k' H b ys) (YPair (fun i => xs[i]?) (fun i => ys[i]?)) := by
  refine ⟨fun i H hi q => ?_, fun H q => ⟨xs, ys, q.1, q.2, Nat.le_refl _, Nat.le_of_eq hl, .inl rfl⟩, fun i H v H' _ q y => ?_⟩
  · have h2 : i < ys.length := by omega
    exact ⟨xs, ys, xs[i], ys[i], q.1, q.2, by simp [hi], by simp [h2]⟩
  · obtain ⟨T, x, z, h1, h2, h3, h4, h5⟩ := y
    exact ⟨T, x, z, h1, h2, h3, h4 xs q.1, h5 ys q.2⟩
end CK

set_option Elab.async false
set_option linter.all false
set_option maxRecDepth 100000
set_option maxHeartbeats 4000000
namespace CK
open PySem PySem.Spec PyProof.Rows L2
theorem mulFill : fillsNumberSlot (.type "tuple") "mul" = pure false :=
  PySem.fillsNumberSlot_seq (r := some (.builtin "tuple.__rmul__")) (id := "tuple.__mul__") PySem.F.slot_tuple_mul.lookup (by decide +kernel)
    PySem.F.slot_tuple_rmul.lookup (by decide +kernel)
theorem mulSeq : seqRepeat? (.type "tuple") = pure (some (.builtin "tuple.__mul__")) := by
  unfold seqRepeat?
  rw [PySem.seqSlot_of (name := "__mul__") (id := "tuple.__mul__") (T := "tuple") PySem.F.slot_tuple_mul.lookup (by decide +kernel),
    PySem.seqSlot_of (name := "__rmul__") (id := "tuple.__rmul__") (T := "tuple") PySem.F.slot_tuple_rmul.lookup (by decide +kernel)]
  rfl
theorem rmulNo (a : Int) (t : Tok) (l : Addr) (zs : Array Value) (n : Nat) (dd : Option Addr) (sl : Array (Option Value)) :
    Meets (Builtin.«int.__rmul__» ⟨[.int a t, .ref l], []⟩) (fun _ R s =>
      s.heap.get? l = some { cls := .type "tuple", dict := dd, data := .seq zs n, slots := sl } ∧ R (.ok (.ret Value.notImplemented)) s) := by
  refine Meets.of_wp fun prog w A R s h => ?_
  obtain ⟨hq, g, d, tk, o2⟩ := s
  obtain ⟨hl, h⟩ := h
  wp_walk using wpAny_loadPart' hl
  exact ⟨_, rfl, h⟩
/-- one item, no times: a new empty tuple -/
theorem mul0 (l : Addr) (v : Value) (n : Nat) (dd : Option Addr) (sl : Array (Option Value)) (u : Tok) :
    Meets (Builtin.«tuple.__mul__» ⟨[.ref l, .int 0 u], []⟩) (fun _ R s =>
      s.heap.get? l = some { cls := .type "tuple", dict := dd, data := .seq #[v] n, slots := sl } ∧
      R (.ok (.ret (Value.ref s.heap.objs.size))) { s with heap := s.heap.push { cls := Value.type "tuple", data := Data.seq #[] } }) := by
  refine Meets.of_wp fun prog w A R s h => ?_
  obtain ⟨hq, g, d, tk, o2⟩ := s
  obtain ⟨hl, h⟩ := h
  have f1 := AutoSeq1.idx_int
  wp_walk using wpAny_loadPart' hl
  exact ⟨_, rfl, h⟩
/-- one item, once: the tuple itself -/
theorem mul1 (l : Addr) (v : Value) (n : Nat) (dd : Option Addr) (sl : Array (Option Value)) (u : Tok) :
    Meets (Builtin.«tuple.__mul__» ⟨[.ref l, .int 1 u], []⟩) (fun _ R s =>
      s.heap.get? l = some { cls := .type "tuple", dict := dd, data := .seq #[v] n, slots := sl } ∧ R (.ok (.ret (Value.ref l))) s) := by
  refine Meets.of_wp fun prog w A R s h => ?_
  obtain ⟨hq, g, d, tk, o2⟩ := s
  obtain ⟨hl, h⟩ := h
  have f1 := AutoSeq1.idx_int
  have f2 : (⟨hq, g, d, tk, o2⟩ : Shared).TypeIs (.ref l) "tuple" := ⟨_, hl, rfl⟩
  wp_walk using wpAny_loadPart' hl, wpAny_typeOf f2
  exact ⟨_, rfl, h⟩
section
variable {X : Cx}
theorem sameNew {H : Hp} {p : Addr} {o : HO} (h : H p = none) : Same H (upd H p o) := fun b z e => by
  rw [upd_ne (ne_of_none e h)]
  exact e
/-- one item, k times: 0 or 1 -/
def rRep01 : R2 := fun x y H Q => ∃ (l : Addr) (k : Int) (v : V), x = .ref l ∧ y = .int k ∧ H l = some (.tup [v]) ∧ (k = 0 ∨ k = 1) ∧
  ∀ p H', Same H H' → H' p = some (.tup (List.replicate k.toNat v)) → Q (.ref p) H'
theorem op_rep01 : OpR X (binaryOp .Mult) rRep01 := by
  intro pins s σ H x y xv yv Q I rx ry h
  obtain ⟨l, k, v, rfl, rfl, hl, hk, q⟩ := h
  cases rx
  obtain ⟨t, rfl⟩ := ry
  obtain ⟨zs, r, ⟨⟨cl, dd, da, sl⟩, ho, hc, n, hd⟩, hs⟩ := I.tuple (.inl (.inl hl) : SqT X.K H l [v])
  simp only at hc hd
  subst hc hd
  cases r with
  | cons r1 r2 =>
  cases r2
  rename_i u
  rcases hk with e | e <;> subst e
  · refine wpAny_binaryOp_repeat_ref (T := "tuple") (U := "int") (by decide) ⟨_, ho, rfl⟩ (fun s' => typeIs_int s' 0 t) mulFill F.fills_int_mul F.slot_int_rmul mulSeq F.slot_int_index.lookup
      (call_meets F.slot_int_rmul (typeIs_int s 0 t) F.entry_int_rmul (F.args_int_rmul_2 _ _) (rmulNo 0 t l _ n dd sl)
        ⟨ho, rfl, ⟨_, ho, rfl⟩, call_meets F.slot_tuple_mul ⟨_, ho, rfl⟩ F.entry_tuple_mul (F.args_tuple_mul_2 _ _) (mul0 l _ n dd sl t) ⟨ho, ?_⟩⟩)
    have hn : H s.heap.objs.size = none := I.hok.fresh (Nat.le_refl _)
    refine ⟨.ref s.heap.objs.size, _, I.laid (t' := s.toks) (o := .tup []) (fun b ob q => Heap.get?_push_of_some _ q) (Nat.le_refl _) ?_, rfl, q _ _ (sameNew hn) upd_same⟩
    exact ⟨Nat.zero_le _, [], .nil, IsTup.new _ _⟩
  · exact wpAny_binaryOp_repeat_ref (T := "tuple") (U := "int") (by decide) ⟨_, ho, rfl⟩ (fun s' => typeIs_int s' 1 t) mulFill F.fills_int_mul F.slot_int_rmul mulSeq F.slot_int_index.lookup
      (call_meets F.slot_int_rmul (typeIs_int s 1 t) F.entry_int_rmul (F.args_int_rmul_2 _ _) (rmulNo 1 t l _ n dd sl)
        ⟨ho, rfl, ⟨_, ho, rfl⟩, call_meets F.slot_tuple_mul ⟨_, ho, rfl⟩ F.entry_tuple_mul (F.args_tuple_mul_2 _ _) (mul1 l _ n dd sl t)
          ⟨ho, ⟨.ref l, H, I, rfl, q l H (Same.refl H) hl⟩⟩⟩)
/-! ### str(tuple of whole numbers): some text -/
theorem reprInts {prog : Program} {w : World} : ∀ {ns : List Int} {zs : List Value}, Vals (ns.map V.int) zs → (∀ n ∈ ns, n.natAbs.log2 < 1920) → ReprAll prog w zs (ns.map fun n => (toString n : Str))
  | [], _, r, _ => by
    cases r
    exact .nil
  | n :: l, _, r, h => by
    cases r with
    | cons r1 r2 =>
    obtain ⟨t, rfl⟩ := r1
    exact .cons (ReprIs.int t (h n List.mem_cons_self)) (reprInts r2 fun z hz => h z (List.mem_cons_of_mem _ hz))
end
end CK
namespace CK
open PySem PySem.Spec PyProof.Rows L2
section
variable {X : Cx}
/-- one item, k times -/
def rRepOne (K : PySem.W.Frag) : R2 := fun x y H Q => ∃ (l : Addr) (k : Int) (v : V), x = .ref l ∧ y = .int k ∧ H l = some (.tup [v]) ∧ 0 ≤ k ∧ k ≤ 1000 ∧
  ∀ p H', Same H H' → H' p = some (.tup (List.replicate k.toNat v)) → Q (.ref p) H'
theorem flat_rep {α : Type} (v : α) : ∀ n : Nat, (List.replicate n [v]).flatten = List.replicate n v
  | 0 => rfl
  | n + 1 => by rw [List.replicate_succ, List.flatten_cons, flat_rep v n, List.replicate_succ]; rfl
theorem op_repOne : OpR X (binaryOp .Mult) (rRepOne X.K) := by
  intro pins s σ H x y xv yv Q I rx ry h
  obtain ⟨l, k, v, rfl, rfl, hl, h0, h1, q⟩ := h
  by_cases hk : k = 0 ∨ k = 1
  · exact op_rep01 pins s σ H _ _ xv yv Q I rx ry ⟨l, k, v, rfl, rfl, hl, hk, q⟩
  · refine op_repT pins s σ H _ _ xv yv Q I rx ry ⟨l, k, [v], rfl, rfl, .inl (.inl hl), List.cons_ne_nil _ _, by omega, h1, by show 1 ≤ 1000; omega, fun p hp => q p _ (sameNew hp) ?_⟩
    rw [upd_same, flat_rep]
/-- str of a tuple of whole numbers: some text -/
theorem call_str_tup {k : Nat} (hr : Room k X.A) : CallR X (.type "str") (fun xs H Q => ∃ (a : Addr) (ns : List Int), xs = [.ref a] ∧ H a = some (.tup (ns.map V.int)) ∧ ns.length ≤ 100 ∧ (∀ n ∈ ns, n.natAbs.log2 < 1920) ∧ ∀ m : Str, Q (.str m) H) := by
  intro pins s σ H xs us Q I r h
  obtain ⟨a, ns, rfl, ha, hl, hn, q⟩ := h
  obtain ⟨u, rfl, rx⟩ := vals1 r
  cases rx
  obtain ⟨zs, rv, ⟨o, ho, hc, n, hd⟩, hz⟩ := I.tuple (.inl (.inl ha) : SqT X.K H a _)
  have hu := hr.units
  have hT : ReprAll X.prog X.w zs.toArray.toList (ns.map fun n => (toString n : Str)) := by simpa using reprInts rv hn
  have hp : ∀ l : List Int, (∀ n ∈ l, n.natAbs.log2 < 1920) → piled (l.map fun n => (toString n : Str)) ≤ l.length * 1923 := by
    intro l
    induction l with
    | nil => intro _; exact Nat.le_refl _
    | cons z l ih =>
      intro h
      have a1 := int_text_length_le (a := z) (k := 1920) (by omega) (h z List.mem_cons_self)
      have a2 := ih fun n hn => h n (List.mem_cons_of_mem _ hn)
      rw [List.map_cons, piled_cons, List.length_cons]
      have a3 : ((toString z : Str)).length = (toString z).length := PySem.ofString_length _
      omega
  have h1 := fmt_text (ns.map fun n => (toString n : Str))
  have h2 := hp ns hn
  have h3 : ns.length * 1923 ≤ 192300 := by omega
  have h4 : (tupleText (ns.map fun n => (toString n : Str))).length ≤ sizeLine := by
    rw [sizeLine_eq]
    omega
  refine callType_new F.called_str (by decide) (F.typeCall_str_1 _) (F.newCall_str_1 _) (fun obj => F.args_object_init_2 obj _) F.entry_str_new
    (meets_str_new (S := fun A' R s' => A'.units + 4 < cLine ∧ s'.heap.get? a = some o ∧ ∀ (m : Str) (u tk : Tok), R (.ok (.ret (.str m u))) { s' with toks := tk }) fun prog w A' R s' h =>
      wpAny_strOf_slot rfl (by show A'.units + 1 + 1 < cLine; have := h.1; omega) ⟨o, h.2.1, hc⟩ F.slot_tuple_str F.slot_tuple_repr
        (fmt_tuple_repr h.2.1 hc hd ?_ h4 fun m u tk _ => ⟨m, u, rfl, h.2.2 m u tk⟩))
    ⟨by show X.A.units + 1 + 4 < cLine; omega, ho, fun m u tk => ⟨typeIs_str _ _ _, .str m, H, I.tok _, ⟨u, rfl⟩, q m⟩⟩
  exact by simpa using reprInts rv hn
end
end CK

set_option Elab.async false
set_option linter.all false
set_option maxRecDepth 100000
set_option maxHeartbeats 2000000
namespace CK
open PySem PySem.Spec PyProof.Rows L2
/-! ### a def as it stands behind the top, and its promise by its body -/
structure DefF (K : PySem.W.Frag) (mg : Str → Option Value) (x : Str) (st : Stmt) (ps : List Str) : Prop where
  ex : ∃ (f : Addr) (fd : FuncData), C8.Def K mg x st f fd ∧ ∀ us : List Value, us.length = ps.length → bindArgs fd ⟨us, []⟩ = pure (ps.zip us)
theorem defF_mk {K : PySem.W.Frag} {h : Heap} {mg : Str → Option Value} {x : Str} {st : Stmt} {ps : List Str} {f : Addr} {od an : Option Addr} {oc kV dc pm cd ct : Value} {sl : Array (Option Value)}
    (X : K.In h) (G : h.Ns mainGlobals mg) (a : PySem.W.nsIn K mainGlobals x = some (some (.ref f)))
    (l : K.lookup f = some ⟨oc, od, .func (PySem.W.fnOf x x (C8.fnArgs st) (C8.fnBody st) (C8.fnScope st) .none kV dc pm an cd ct), sl⟩)
    (c : PySem.W.codeIn K cd x = true) (k : PySem.W.keepIn K (.ref f) = true)
    (hb : ∀ (kV doc pm : Value) (an : Option Addr) (cdv ct : Value) (us : List Value), us.length = ps.length →
      bindArgs (PySem.W.fnOf x x (C8.fnArgs st) (C8.fnBody st) (C8.fnScope st) .none kV doc pm an cdv ct) ⟨us, []⟩ = pure (ps.zip us)) : DefF K mg x st ps :=
  ⟨f, _, ⟨⟨oc, od, .none, kV, dc, pm, an, cd, ct, sl, rfl, l, c⟩, PySem.W.mg_of X G a, k⟩, hb kV dc pm an cd ct⟩
theorem calF {P : Program} {w : World} {K : PySem.W.Frag} {mg : Str → Option Value} {base : Heap} {x : Str} {st : Stmt} {N ps : List Str} {k : Nat} {sp : Sp} (D : DefF K mg x st ps) (S : FnScope N ps (C8.fnScope st))
    (len : ∀ vs H Q E, sp vs H Q E → vs.length = ps.length)
    (hbody : ∀ (f : Addr) (cdv : Value) (A : Around) (outer : List Env) (s : Shared) (H : Hp) (vs : List V) (Q : VK) (E : XK), Room k (A.deeper (envOfC x (C8.fnScope st) s.heap.objs.size f cdv)) → sp vs H Q E →
      ∃ t, PSs (cxOf C8.CX0 P w K mg base N x (C8.fnScope st) f cdv A outer s H E).nox (C8.fnBody st) t ∧ t { nx := fun _ H' => Q .non H', rt := Q } (start N vs) H) : C8.Cal P w K mg base (k + 1) x sp [] := by
  obtain ⟨f, fd, F, b⟩ := D.ex
  exact C8.cal0 F (.all b) .nil S len (hbody f)
/-- a def of one parameter as it stands, for the law's end -/
theorem DefF.one {K : PySem.W.Frag} {mg : Str → Option Value} {x p : Str} {st : Stmt} (D : DefF K mg x st [p]) : ∃ (f : Addr) (fd : FuncData), mg x = some (.ref f) ∧ (∀ (s : Shared) (v : Value), BindsTo s fd ⟨[v], []⟩ [(p, v)]) ∧
    ∀ {P : Program} {w : World} {base : Heap} {N : List Str} {k : Nat} {sp : Sp} (S : FnScope N [p] (C8.fnScope st)) (len : ∀ vs H Q E, sp vs H Q E → vs.length = 1)
      (hbody : ∀ (f : Addr) (cdv : Value) (A : Around) (outer : List Env) (s : Shared) (H : Hp) (vs : List V) (Q : VK) (E : XK), Room k (A.deeper (envOfC x (C8.fnScope st) s.heap.objs.size f cdv)) → sp vs H Q E →
        ∃ t, PSs (cxOf C8.CX0 P w K mg base N x (C8.fnScope st) f cdv A outer s H E).nox (C8.fnBody st) t ∧ t { nx := fun _ H' => Q .non H', rt := Q } (start N vs) H), FnOk P w K mg base C8.CX0 (k + 1) f fd [p] sp := by
  obtain ⟨f, fd, F, b⟩ := D.ex
  exact ⟨f, fd, F.mgf, fun s v => .of_eq (b [v] rfl), fun S len hbody => C8.fn0 F.fn S len (hbody f)⟩

theorem with_def {K : PySem.W.Frag} {h : Heap} {mg : Str → Option Value} (_ : K.In h) (x : Str) (st : Stmt) (ps : List Str) {R : Prop} (d : DefF K mg x st ps) (r : DefF K mg x st ps → R) : R := r d
/-! ### heaps -/
/-- all that was tracked is as it was, but for g -/
def SameX (g : Addr) (H H' : Hp) : Prop := ∀ b o, b ≠ g → H b = some o → H' b = some o
theorem SameX.refl (g : Addr) (H : Hp) : SameX g H H := fun _ _ _ h => h
theorem SameX.trans {g : Addr} {H H1 H2 : Hp} (a : SameX g H H1) (b : SameX g H1 H2) : SameX g H H2 := fun c o n h => b c o n (a c o n h)
theorem SameX.of {g : Addr} {H H1 : Hp} (a : Same H H1) : SameX g H H1 := fun c o _ h => a c o h
theorem sameX_upd {g : Addr} {H : Hp} {o : HO} : SameX g H (upd H g o) := fun b z n e => by
  rw [upd_ne n]
  exact e
theorem same_upd2 {H H1 : Hp} {D : Addr} {o : HO} (hD : H D = none) (s : Same H H1) : Same H (upd H1 D o) := fun b z e => by
  rw [upd_ne (ne_of_none e hD)]
  exact s b z e

/-! ### what a value is -/
/-- the built-in type of a value that is known -/
def tnm (H : Hp) : V → String
  | .non => "NoneType"
  | .bl _ => "bool"
  | .int _ => "int"
  | .str _ => "str"
  | .ref a => match H a with
    | some (.lst _) => "list"
    | some (.tup _) => "tuple"
    | _ => "?"
  | _ => "?"
theorem tnm_tup {H : Hp} {a : Addr} {xs : List V} (h : H a = some (.tup xs)) : tnm H (.ref a) = "tuple" := by
  simp only [tnm, h]
theorem tnm_lst {H : Hp} {a : Addr} {xs : List V} (h : H a = some (.lst xs)) : tnm H (.ref a) = "list" := by
  simp only [tnm, h]
/-- a value whose type is known -/
inductive Kn (H : Hp) : V → Prop
  | non : Kn H .non
  | bl (b : Bool) : Kn H (.bl b)
  | int (i : Int) : Kn H (.int i)
  | str (x : Str) : Kn H (.str x)
  | lst {a : Addr} {xs : List V} (e : H a = some (.lst xs)) : Kn H (.ref a)
  | tup {a : Addr} {xs : List V} (e : H a = some (.tup xs)) : Kn H (.ref a)
theorem Kn.same {H H' : Hp} {v : V} (k : Kn H v) (s : Same H H') : Kn H' v := by
  cases k with
  | non => exact .non
  | bl b => exact .bl b
  | int i => exact .int i
  | str x => exact .str x
  | lst e => exact .lst (s _ _ e)
  | tup e => exact .tup (s _ _ e)
theorem Kn.ty {K : PySem.W.Frag} {H : Hp} {v : V} (k : Kn H v) : TyX K H v (.type (tnm H v)) := by
  cases k with
  | non => exact .base .non
  | bl b => exact .base (.bl b)
  | int i => exact .base (.int i)
  | str x => exact .base (.str x)
  | lst e => rw [tnm_lst e]; exact .base (.lst e)
  | tup e => rw [tnm_tup e]; exact .base (.tup e)
section
variable {X : Cx}
/-- isinstance(v, T), a known value, a built-in type -/
theorem call_isK : CallR X (.builtin "isinstance") (fun xs H Q => ∃ (v : V) (T : String) (b : Bool), xs = [v, .ty T] ∧ Kn H v ∧ kitB (tnm H v) T = some b ∧ Q (.bl b) H) := by
  intro pins s σ H xs us Q I r h
  obtain ⟨v, T, b, rfl, k, e, q⟩ := h
  exact call_isi pins s σ H _ us Q I r ⟨v, .ty T, _, _, b, rfl, .ty T, k.ty, kit_ty e, q⟩
end
/-- a whole number, no Boolean -/
def isW : V → Bool
  | .int _ => true
  | _ => false
/-- a count -/
def isC : V → Bool
  | .int i => decide (0 ≤ i)
  | _ => false
/-- isinstance(v, int) -/
def isI : V → Bool
  | .int _ => true
  | .bl _ => true
  | _ => false
def isBo : V → Bool
  | .bl _ => true
  | _ => false
def isTu (H : Hp) : V → Bool
  | .ref a => match H a with
    | some (.tup _) => true
    | _ => false
  | _ => false
def isLi (H : Hp) : V → Bool
  | .ref a => match H a with
    | some (.lst _) => true
    | _ => false
  | _ => false
theorem kit_int {H : Hp} {v : V} (k : Kn H v) : kitB (tnm H v) "int" = some (isI v) := by
  cases k with
  | non => show kitB "NoneType" "int" = some false; decide +kernel
  | bl b => show kitB "bool" "int" = some true; decide +kernel
  | int i => show kitB "int" "int" = some true; decide +kernel
  | str x => show kitB "str" "int" = some false; decide +kernel
  | lst e => rw [tnm_lst e]; show kitB "list" "int" = some false; decide +kernel
  | tup e => rw [tnm_tup e]; show kitB "tuple" "int" = some false; decide +kernel
theorem kit_bool {H : Hp} {v : V} (k : Kn H v) : kitB (tnm H v) "bool" = some (isBo v) := by
  cases k with
  | non => show kitB "NoneType" "bool" = some false; decide +kernel
  | bl b => show kitB "bool" "bool" = some true; decide +kernel
  | int i => show kitB "int" "bool" = some false; decide +kernel
  | str x => show kitB "str" "bool" = some false; decide +kernel
  | lst e => rw [tnm_lst e]; show kitB "list" "bool" = some false; decide +kernel
  | tup e => rw [tnm_tup e]; show kitB "tuple" "bool" = some false; decide +kernel
theorem kit_tuple {H : Hp} {v : V} (k : Kn H v) : kitB (tnm H v) "tuple" = some (isTu H v) := by
  cases k with
  | non => show kitB "NoneType" "tuple" = some false; decide +kernel
  | bl b => show kitB "bool" "tuple" = some false; decide +kernel
  | int i => show kitB "int" "tuple" = some false; decide +kernel
  | str x => show kitB "str" "tuple" = some false; decide +kernel
  | lst e => rw [tnm_lst e, show isTu H (.ref _) = false by simp only [isTu, e]]; decide +kernel
  | tup e => rw [tnm_tup e, show isTu H (.ref _) = true by simp only [isTu, e]]; decide +kernel
theorem kit_list {H : Hp} {v : V} (k : Kn H v) : kitB (tnm H v) "list" = some (isLi H v) := by
  cases k with
  | non => show kitB "NoneType" "list" = some false; decide +kernel
  | bl b => show kitB "bool" "list" = some false; decide +kernel
  | int i => show kitB "int" "list" = some false; decide +kernel
  | str x => show kitB "str" "list" = some false; decide +kernel
  | lst e => rw [tnm_lst e, show isLi H (.ref _) = true by simp only [isLi, e]]; decide +kernel
  | tup e => rw [tnm_tup e, show isLi H (.ref _) = false by simp only [isLi, e]]; decide +kernel
theorem isTu_tup {H : Hp} {a : Addr} {xs : List V} (e : H a = some (.tup xs)) : isTu H (.ref a) = true := by simp only [isTu, e]
theorem isLi_lst {H : Hp} {a : Addr} {xs : List V} (e : H a = some (.lst xs)) : isLi H (.ref a) = true := by simp only [isLi, e]

/-! ### comprehensions that map -/
/-- n turns, each giving f i and leaving all that was tracked -/
theorem lc_mapW {J : It} {n : Nat} {G : Hp → Prop} {Y : Nat → Hp → V → Hp → Prop} (w : Walk J n G Y) {g : TG} {te : TE} {vs : List Nat} {σ : L2.St} {H1 : Hp} {D : Addr} {Qd : Hp → Prop} (f : Nat → V) (hn : n < sizeLine)
    (hG : ∀ H, Same H1 H → G H)
    (hs : ∀ (i : Nat) (x : V) (H H' : Hp) (R : VK), i < n → Same H1 H → Y i H x H' → (∀ H'', Same H H'' → R (f i) H'') → g x (wipe σ vs) H' fun σ2 H2 => wipe σ2 vs = wipe σ vs ∧ te σ2 H2 R)
    (hD : H1 D = none) (hd : ∀ H : Hp, Same H1 H → H D = some (.lst ((List.range n).map f)) → Qd H) :
    ∃ W : Nat → Nat → Hp → Prop, (∃ m, W 0 m (upd H1 D (.lst []))) ∧ ∀ i m H, W i m H →
      (J.stop i H ∧ Qd H) ∨ (J.go i H ∧ ∃ Nx : Hp → Prop, (∀ H', Nx H' → ∃ m', m' < m ∧ W (i + 1) m' H') ∧ ∀ x H', J.yld i H x H' → g x (wipe σ vs) H' fun σ2 H2 => wipe σ2 vs = wipe σ vs ∧ tYes σ2 H2 fun b H3 =>
        if b = true then te σ2 H3 fun y H4 => ∃ acc, H4 D = some (.lst acc) ∧ acc.length < sizeLine ∧ Nx (upd H4 D (.lst (acc ++ [y]))) else Nx H3) := by
  refine lc_it w (fun i H => Same H1 H ∧ H D = some (.lst ((List.range i).map f)) ∧ i ≤ n) ⟨sameNew hD, upd_same, Nat.zero_le _⟩ (fun i H _ p => hG H p.1) (fun i x H H' hi p y => ?_) fun H p => hd H p.1 p.2.1
  have q := hs i x H H' (fun y H4 => ∃ acc, H4 D = some (.lst acc) ∧ acc.length < sizeLine ∧ (Same H1 (upd H4 D (.lst (acc ++ [y]))) ∧ upd H4 D (.lst (acc ++ [y])) D = some (.lst ((List.range (i + 1)).map f)) ∧ i + 1 ≤ n)) hi p.1 y fun H'' s => by
    refine ⟨_, s D _ p.2.1, ?_, same_upd2 hD (p.1.trans s), ?_, hi⟩
    · rw [List.length_map, List.length_range]
      omega
    · rw [upd_same, List.range_succ, List.map_append]
      rfl
  exact q
theorem range_map_get {α β : Type} (xs : List α) (f : α → β) (d : Nat → β) (h : ∀ (i : Nat) (x : α), xs[i]? = some x → d i = f x) : (List.range xs.length).map d = xs.map f := by
  refine List.ext_getElem? fun i => ?_
  by_cases hi : i < xs.length
  · rw [List.getElem?_map, List.getElem?_map, List.getElem?_range hi, List.getElem?_eq_getElem hi]
    exact congrArg some (h i _ (List.getElem?_eq_getElem hi))
  · rw [List.getElem?_eq_none (by simp; omega), List.getElem?_eq_none (by simp; omega)]
/-- over a tuple -/
theorem lcT_map {K : PySem.W.Frag} {a : Addr} {xs : List V} {j : Nat} {te : TE} {vs : List Nat} {σ : L2.St} {H1 : Hp} {D : Addr} {Qd : Hp → Prop} (f : V → V) (ha : H1 a = some (.tup xs)) (hn : xs.length < sizeLine)
    (hs : ∀ (i : Nat) (x : V) (H : Hp) (R : VK), xs[i]? = some x → Same H1 H → (∀ H', Same H H' → R (f x) H') → wipe ((wipe σ vs).set j (some x)) vs = wipe σ vs ∧ te ((wipe σ vs).set j (some x)) H R)
    (hD : H1 D = none) (hd : ∀ H : Hp, Same H1 H → H D = some (.lst (xs.map f)) → Qd H) :
    ∃ W : Nat → Nat → Hp → Prop, (∃ m, W 0 m (upd H1 D (.lst []))) ∧ ∀ i m H, W i m H →
      ((Itt K a).stop i H ∧ Qd H) ∨ ((Itt K a).go i H ∧ ∃ Nx : Hp → Prop, (∀ H', Nx H' → ∃ m', m' < m ∧ W (i + 1) m' H') ∧ ∀ x H', (Itt K a).yld i H x H' → gName j x (wipe σ vs) H' fun σ2 H2 => wipe σ2 vs = wipe σ vs ∧ tYes σ2 H2 fun b H3 =>
        if b = true then te σ2 H3 fun y H4 => ∃ acc, H4 D = some (.lst acc) ∧ acc.length < sizeLine ∧ Nx (upd H4 D (.lst (acc ++ [y]))) else Nx H3) := by
  have e : (List.range xs.length).map (fun i => f (xs.getD i .non)) = xs.map f := range_map_get xs f _ fun i x h => by rw [List.getD_eq_getElem?_getD, h]; rfl
  refine lc_mapW (walk_tup (K := K) (a := a) (xs := xs)) (fun i => f (xs.getD i .non)) hn (fun H s => .inl (.inl (s _ _ ha))) (fun i x H H' R hi s y q => ?_) hD fun H s q => hd H s (by rw [q, e])
  obtain ⟨rfl, hx⟩ := y
  refine hs i x H' R hx s fun H'' s' => ?_
  have := q H'' s'
  rw [show xs.getD i .non = x by rw [List.getD_eq_getElem?_getD, hx]; rfl] at this
  exact this
/-- over a list -/
theorem lcL_map {K : PySem.W.Frag} {a : Addr} {xs : List V} {j : Nat} {te : TE} {vs : List Nat} {σ : L2.St} {H1 : Hp} {D : Addr} {Qd : Hp → Prop} (f : V → V) (ha : H1 a = some (.lst xs)) (hn : xs.length < sizeLine)
    (hs : ∀ (i : Nat) (x : V) (H : Hp) (R : VK), xs[i]? = some x → Same H1 H → (∀ H', Same H H' → R (f x) H') → wipe ((wipe σ vs).set j (some x)) vs = wipe σ vs ∧ te ((wipe σ vs).set j (some x)) H R)
    (hD : H1 D = none) (hd : ∀ H : Hp, Same H1 H → H D = some (.lst (xs.map f)) → Qd H) :
    ∃ W : Nat → Nat → Hp → Prop, (∃ m, W 0 m (upd H1 D (.lst []))) ∧ ∀ i m H, W i m H →
      ((Itl K a).stop i H ∧ Qd H) ∨ ((Itl K a).go i H ∧ ∃ Nx : Hp → Prop, (∀ H', Nx H' → ∃ m', m' < m ∧ W (i + 1) m' H') ∧ ∀ x H', (Itl K a).yld i H x H' → gName j x (wipe σ vs) H' fun σ2 H2 => wipe σ2 vs = wipe σ vs ∧ tYes σ2 H2 fun b H3 =>
        if b = true then te σ2 H3 fun y H4 => ∃ acc, H4 D = some (.lst acc) ∧ acc.length < sizeLine ∧ Nx (upd H4 D (.lst (acc ++ [y]))) else Nx H3) := by
  have e : (List.range xs.length).map (fun i => f (xs.getD i .non)) = xs.map f := range_map_get xs f _ fun i x h => by rw [List.getD_eq_getElem?_getD, h]; rfl
  refine lc_mapW (walk_list (K := K) (a := a) (xs := xs)) (fun i => f (xs.getD i .non)) hn (fun H s => .inl (.inl (s _ _ ha))) (fun i x H H' R hi s y q => ?_) hD fun H s q => hd H s (by rw [q, e])
  obtain ⟨rfl, hx⟩ := y
  refine hs i x H' R hx s fun H'' s' => ?_
  have := q H'' s'
  rw [show xs.getD i .non = x by rw [List.getD_eq_getElem?_getD, hx]; rfl] at this
  exact this
/-- over a range -/
theorem lcR_map {lo : Int} {n : Nat} {j : Nat} {te : TE} {vs : List Nat} {σ : L2.St} {H1 : Hp} {D : Addr} {Qd : Hp → Prop} (f : Nat → V) (hn : n < sizeLine)
    (hs : ∀ (i : Nat) (H : Hp) (R : VK), i < n → Same H1 H → (∀ H', Same H H' → R (f i) H') → wipe ((wipe σ vs).set j (some (.int (lo + i)))) vs = wipe σ vs ∧ te ((wipe σ vs).set j (some (.int (lo + i)))) H R)
    (hD : H1 D = none) (hd : ∀ H : Hp, Same H1 H → H D = some (.lst ((List.range n).map f)) → Qd H) :
    ∃ W : Nat → Nat → Hp → Prop, (∃ m, W 0 m (upd H1 D (.lst []))) ∧ ∀ i m H, W i m H →
      ((Itr lo n).stop i H ∧ Qd H) ∨ ((Itr lo n).go i H ∧ ∃ Nx : Hp → Prop, (∀ H', Nx H' → ∃ m', m' < m ∧ W (i + 1) m' H') ∧ ∀ x H', (Itr lo n).yld i H x H' → gName j x (wipe σ vs) H' fun σ2 H2 => wipe σ2 vs = wipe σ vs ∧ tYes σ2 H2 fun b H3 =>
        if b = true then te σ2 H3 fun y H4 => ∃ acc, H4 D = some (.lst acc) ∧ acc.length < sizeLine ∧ Nx (upd H4 D (.lst (acc ++ [y]))) else Nx H3) := by
  refine lc_mapW (walk_range (lo := lo) (n := n)) f hn (fun H s => True.intro) (fun i x H H' R hi s y q => ?_) hD fun H s q => hd H s q
  obtain ⟨rfl, rfl⟩ := y
  exact hs i H' R hi s q
theorem range_map_zip {α β γ : Type} (xs : List α) (ys : List β) (hl : xs.length = ys.length) (f : α → β → γ) (d : Nat → γ) (h : ∀ (i : Nat) (x : α) (y : β), xs[i]? = some x → ys[i]? = some y → d i = f x y) : (List.range xs.length).map d = List.zipWith f xs ys := by
  refine List.ext_getElem? fun i => ?_
  by_cases hi : i < xs.length
  · have hi2 : i < ys.length := by omega
    rw [List.getElem?_map, List.getElem?_range hi, List.getElem?_zipWith, List.getElem?_eq_getElem hi, List.getElem?_eq_getElem hi2]
    exact congrArg some (h i _ _ (List.getElem?_eq_getElem hi) (List.getElem?_eq_getElem hi2))
  · rw [List.getElem?_eq_none (by simp; omega), List.getElem?_eq_none (by simp; omega)]
/-- over zip -/
theorem lcZ_map {K : PySem.W.Frag} {k k' : Kd} {a b : Addr} {xs ys : List V} {i1 i2 : Nat} {te : TE} {vs : List Nat} {σ : L2.St} {H1 : Hp} {D : Addr} {Qd : Hp → Prop} (f : V → V → V) (hl : xs.length = ys.length) (hn : xs.length < sizeLine)
    (ha : ∀ H, Same H1 H → SqB K k H a xs ∧ SqB K k' H b ys)
    (hs : ∀ (i : Nat) (x y : V) (H : Hp) (R : VK), xs[i]? = some x → ys[i]? = some y → Same H1 H → (∀ H', Same H H' → R (f x y) H') → wipe (((wipe σ vs).set i1 (some x)).set i2 (some y)) vs = wipe σ vs ∧ te (((wipe σ vs).set i1 (some x)).set i2 (some y)) H R)
    (hD : H1 D = none) (hd : ∀ H : Hp, Same H1 H → H D = some (.lst (List.zipWith f xs ys)) → Qd H) :
    ∃ W : Nat → Nat → Hp → Prop, (∃ m, W 0 m (upd H1 D (.lst []))) ∧ ∀ i m H, W i m H →
      ((ItB K k k' a b).stop i H ∧ Qd H) ∨ ((ItB K k k' a b).go i H ∧ ∃ Nx : Hp → Prop, (∀ H', Nx H' → ∃ m', m' < m ∧ W (i + 1) m' H') ∧ ∀ x H', (ItB K k k' a b).yld i H x H' → gTup K 2 (gCons (gName i1) (gCons (gName i2) gNil)) x (wipe σ vs) H' fun σ2 H2 => wipe σ2 vs = wipe σ vs ∧ tYes σ2 H2 fun b H3 =>
        if b = true then te σ2 H3 fun y H4 => ∃ acc, H4 D = some (.lst acc) ∧ acc.length < sizeLine ∧ Nx (upd H4 D (.lst (acc ++ [y]))) else Nx H3) := by
  have e : (List.range xs.length).map (fun i => f (xs.getD i .non) (ys.getD i .non)) = List.zipWith f xs ys := range_map_zip xs ys hl f _ fun i x y h h' => by
    rw [List.getD_eq_getElem?_getD, List.getD_eq_getElem?_getD, h, h']
    rfl
  refine lc_mapW (walkB (K := K) (k := k) (k' := k') (a := a) (b := b) hl) (fun i => f (xs.getD i .non) (ys.getD i .non)) hn ha (fun i v H H' R hi s y q => ?_) hD fun H s q => hd H s (by rw [q, e])
  obtain ⟨T, x, y, rfl, hT, rfl, hx, hy⟩ := y
  have hx : xs[i]? = some x := hx
  have hy : ys[i]? = some y := hy
  have st : Same H (upd H T (.tup [x, y])) := sameNew hT
  refine ⟨T, [x, y], rfl, .inl (.inl upd_same), rfl, x, [y], rfl, y, [], rfl, rfl, hs i x y _ R hx hy (s.trans st) fun H'' s' => ?_⟩
  have := q H'' (st.trans s')
  rw [show xs.getD i .non = x by rw [List.getD_eq_getElem?_getD, hx]; rfl, show ys.getD i .non = y by rw [List.getD_eq_getElem?_getD, hy]; rfl] at this
  exact this
end CK

set_option Elab.async false
set_option linter.all false
set_option maxRecDepth 100000
set_option maxHeartbeats 2000000
namespace CK
open PySem PySem.Spec PyProof.Rows L2
theorem cutV_drop (xs : List V) (k : Nat) : cutV xs (some (k : Int)) none = xs.drop k := by
  unfold cutV
  rw [HT.sIx_nat xs.length 0 k, HT.sIx_none]
  by_cases h : k ≤ xs.length
  · rw [Nat.min_eq_left h, List.take_of_length_le (by rw [List.length_drop]; exact Nat.le_refl _)]
  · rw [Nat.min_eq_right (by omega), List.drop_of_length_le (Nat.le_refl _), List.drop_of_length_le (by omega), List.take_nil]
theorem cutV_take (xs : List V) (k : Nat) : cutV xs none (some (k : Int)) = xs.take k := by
  unfold cutV
  rw [HT.sIx_nat xs.length xs.length k, HT.sIx_none]
  show (xs.drop 0).take (min k xs.length - 0) = xs.take k
  rw [List.drop_zero, Nat.sub_zero]
  by_cases h : k ≤ xs.length
  · rw [Nat.min_eq_left h]
  · rw [Nat.min_eq_right (by omega), List.take_of_length_le (Nat.le_refl _), List.take_of_length_le (by omega)]
section
variable {X : Cx}
/-- a, b = a pair -/
theorem pg_two {K : PySem.W.Frag} {i j : Nat} {x y : Str} {px py pos : Pos} {k : Nat} (hK : X.K = K) (hc : X.calm = true) (hN : X.N.Nodup) (hi : X.N[i]? = some x) (hj : X.N[j]? = some y) (hx : Loc X.env.scope x) (hy : Loc X.env.scope y)
    (f1 : X.fn x = true ∨ X.env.scope.names.lookup x = some .local := by first | exact .inl rfl | exact .inr rfl)
    (f2 : X.fn y = true ∨ X.env.scope.names.lookup y = some .local := by first | exact .inl rfl | exact .inr rfl) :
    PG X (.Tuple [.Name x px, .Name y py] k pos) (gTup K 2 (gCons (gName i) (gCons (gName j) gNil))) := by
  subst hK
  exact pg_tup hc (pgs_cons (pg_name hN hi hx f1) (pgs_cons (pg_name hN hj hy f2) pgs_nil))
/-- t[k:], a tuple: what is behind, wherever it stands -/
theorem sl_drop : SlR X (fun x lo hi H Q => ∃ (a : Addr) (xs : List V) (k : Nat), x = .ref a ∧ lo = some (k : Int) ∧ hi = none ∧ H a = some (.tup xs) ∧ ∀ p H', Same H H' → H' p = some (.tup (xs.drop k)) → Q (.ref p) H') := by
  intro pins s σ H x v vl vu lo hi sl Q I rx hs pl pu h
  obtain ⟨a, xs, k, rfl, rfl, rfl, ha, q⟩ := h
  refine sl_tupA pins s σ H _ v vl vu _ _ sl Q I rx hs pl pu ⟨a, xs, rfl, .inl (.inl ha), fun z => q a H (Same.refl H) ?_, fun _ p hp => q p _ (sameNew hp) (by rw [upd_same, cutV_drop])⟩
  rw [ha, ← cutV_drop xs k]
  unfold cutV
  rw [z.1, z.2, Nat.sub_zero, List.drop_zero, List.take_length]
/-- t[:k] -/
theorem sl_take : SlR X (fun x lo hi H Q => ∃ (a : Addr) (xs : List V) (k : Nat), x = .ref a ∧ lo = none ∧ hi = some (k : Int) ∧ H a = some (.tup xs) ∧ ∀ p H', Same H H' → H' p = some (.tup (xs.take k)) → Q (.ref p) H') := by
  intro pins s σ H x v vl vu lo hi sl Q I rx hs pl pu h
  obtain ⟨a, xs, k, rfl, rfl, rfl, ha, q⟩ := h
  refine sl_tupA pins s σ H _ v vl vu _ _ sl Q I rx hs pl pu ⟨a, xs, rfl, .inl (.inl ha), fun z => q a H (Same.refl H) ?_, fun _ p hp => q p _ (sameNew hp) (by rw [upd_same, cutV_take])⟩
  rw [ha, ← cutV_take xs k]
  unfold cutV
  rw [z.1, z.2, Nat.sub_zero, List.drop_zero, List.take_length]
/-- t + u, tuples -/
theorem op_catS : OpR X (binaryOp .Add) (fun x y H Q => ∃ (a b : Addr) (xs ys : List V), x = .ref a ∧ y = .ref b ∧ H a = some (.tup xs) ∧ H b = some (.tup ys) ∧ xs.length + ys.length ≤ 1000 ∧
    ∀ p H', Same H H' → H' p = some (.tup (xs ++ ys)) → Q (.ref p) H') := by
  intro pins s σ H x y v u Q I rx ry h
  obtain ⟨a, b, xs, ys, rfl, rfl, ha, hb, hl, q⟩ := h
  refine op_catA pins s σ H _ _ v u Q I rx ry ⟨a, b, xs, ys, rfl, rfl, .inl (.inl ha), .inl (.inl hb), Nat.le_of_lt (small1000 hl), fun e => ?_, fun _ e => ?_, fun _ _ p hp => q p _ (sameNew hp) upd_same⟩
  · subst e
    exact q b H (Same.refl H) hb
  · subst e
    exact q a H (Same.refl H) (by rw [List.append_nil]; exact ha)
/-- t[i], xs[i] of what is tracked (no word of the written part, so that it stands in a comprehension) -/
theorem ix_tupH : IxR X (fun x y H Q => ∃ (p : Addr) (xs : List V) (i : Int) (v : V), x = .ref p ∧ y = .int i ∧ H p = some (.tup xs) ∧ atI xs i = some v ∧ Q v H) := by
  intro ve se pins s σ H x y xv yv Q I rx ry h e
  obtain ⟨p, xs, i, v, e1, e2, hp, e3, q⟩ := h
  exact ix_tup ve se pins s σ H x y xv yv Q I rx ry ⟨p, xs, i, v, e1, e2, .inl (.inl hp), e3, q⟩ e
theorem ix_listH : IxR X (fun x y H Q => ∃ (p : Addr) (xs : List V) (i : Int) (v : V), x = .ref p ∧ y = .int i ∧ H p = some (.lst xs) ∧ atI xs i = some v ∧ Q v H) := by
  intro ve se pins s σ H x y xv yv Q I rx ry h e
  obtain ⟨p, xs, i, v, e1, e2, hp, e3, q⟩ := h
  exact ix_list ve se pins s σ H x y xv yv Q I rx ry ⟨p, xs, i, v, e1, e2, .inl (.inl hp), e3, q⟩ e
theorem cr_sumH (hc : X.calm = true) : CallR X (.builtin "sum") (fun vs H Q => ∃ (a : Addr) (ns : List Int), vs = [V.ref a] ∧ H a = some (.lst (ns.map V.int)) ∧ Q (.int ns.sum) H) := by
  intro pins s σ H xs us Q I r h
  obtain ⟨a, ns, e, ha, q⟩ := h
  exact cr_sum hc pins s σ H xs us Q I r ⟨a, ns, e, .inl (.inl ha), q⟩
theorem call_listL : CallR X (.type "list") (fun xs H Q => ∃ (p : Addr) (ys : List V), xs = [.ref p] ∧ H p = some (.lst ys) ∧ ∀ l, H l = none → Q (.ref l) (upd H l (.lst ys))) := by
  intro pins s σ H xs us Q I r h
  obtain ⟨p, ys, e, hp, q⟩ := h
  exact call_list_of pins s σ H xs us Q I r ⟨p, ys, e, .inl (.inl (.inl hp)), q⟩
/-- tuple(xs) of a list: a new tuple -/
theorem call_tupL : CallR X (.type "tuple") (fun xs H Q => ∃ (p : Addr) (ys : List V), xs = [.ref p] ∧ H p = some (.lst ys) ∧ ∀ l H', Same H H' → H' l = some (.tup ys) → Q (.ref l) H') := by
  intro pins s σ H xs us Q I r h
  obtain ⟨p, ys, rfl, hp, q⟩ := h
  exact call_tuple_of pins s σ H _ us Q I r ⟨p, ys, rfl, .inl ⟨.inl (.inl hp), fun l hl => q l _ (sameNew hl) upd_same⟩⟩
end
end CK

set_option Elab.async false
set_option linter.all false
set_option maxRecDepth 100000
set_option maxHeartbeats 2000000
/-! the laws' generator of numbers: a list of three whole numbers -/
namespace CK
open PySem PySem.Spec PyProof.Rows L2
/-- the generator at g, from which n more numbers may be drawn -/
def Gn (n : Nat) (H : Hp) (g : Addr) : Prop := ∃ a b c : Int, H g = some (.lst [.int a, .int b, .int c]) ∧ 0 ≤ a ∧ 0 ≤ b ∧ b < 2 ^ 31 ∧ 0 ≤ c ∧ c + 8 * n ≤ 2 ^ 40
theorem Gn.le {n m : Nat} {H : Hp} {g : Addr} (h : Gn n H g) (hm : m ≤ n) : Gn m H g := by
  obtain ⟨a, b, c, h1, h2, h3, h4, h5, h6⟩ := h
  exact ⟨a, b, c, h1, h2, h3, h4, h5, by omega⟩
theorem Gn.same {n : Nat} {H H' : Hp} {g : Addr} (h : Gn n H g) (s : Same H H') : Gn n H' g := by
  obtain ⟨a, b, c, h1, r⟩ := h
  exact ⟨a, b, c, s _ _ h1, r⟩
theorem Gn.at {n : Nat} {H : Hp} {g : Addr} (h : Gn n H g) : ∃ xs, H g = some (.lst xs) := by
  obtain ⟨a, b, c, h1, r⟩ := h
  exact ⟨_, h1⟩
theorem Gn.ne {n : Nat} {H : Hp} {g D : Addr} (h : Gn n H g) (hD : H D = none) : D ≠ g := fun e => by
  obtain ⟨xs, h1⟩ := h.at
  rw [e, h1] at hD
  cases hD
theorem Gn.upd {n : Nat} {H : Hp} {g D : Addr} {o : HO} (h : Gn n H g) (hD : D ≠ g) : Gn n (upd H D o) g := by
  obtain ⟨a, b, c, h1, r⟩ := h
  exact ⟨a, b, c, by rw [upd_ne (Ne.symm hD)]; exact h1, r⟩
theorem sameX_new {g : Addr} {H : Hp} {D : Addr} {o : HO} (hD : H D = none) : SameX g H (L2.upd H D o) := .of (sameNew hD)
theorem SameX.upd2 {g D : Addr} {H H1 : Hp} {o : HO} (s : SameX g H H1) (hD : H D = none) : SameX g H (L2.upd H1 D o) := fun b z n e => by
  rw [upd_ne (ne_of_none e hD)]
  exact s b z n e
theorem SameX.tup {g a : Addr} {H H' : Hp} {xs : List V} {n : Nat} (s : SameX g H H') (G : Gn n H g) (h : H a = some (.tup xs)) : H' a = some (.tup xs) := s a _ (fun e => by
  obtain ⟨ys, h1⟩ := G.at
  rw [e, h1] at h
  cases h) h
theorem ix_at {n j : Nat} (h : j < n) : ixN n (j : Int) = some j := by
  unfold ixN
  rw [if_pos (by omega), if_pos (by omega)]
  rfl
/-- a comprehension that draws: its numbers stay within most -/
theorem lcD_draw {lo : Int} {g : Addr} {n cnt j : Nat} {most : Int} {te : TE} {vs : List Nat} {σ : L2.St} {H1 : Hp} {D : Addr} {Qd : Hp → Prop} (hc : cnt < sizeLine) (hD : H1 D = none) (hg : Gn (n + cnt) H1 g)
    (hs : ∀ (i : Nat) (H : Hp) (R : VK), i < cnt → SameX g H1 H → Gn (n + (cnt - (i + 1)) + 1) H g → (∀ (r : Int) H', SameX g H H' → Gn (n + (cnt - (i + 1))) H' g → 0 ≤ r → r ≤ most → R (.int r) H') →
      wipe ((wipe σ vs).set j (some (.int (lo + i)))) vs = wipe σ vs ∧ te ((wipe σ vs).set j (some (.int (lo + i)))) H R)
    (hd : ∀ (H : Hp) (ns : List Int), SameX g H1 H → Gn n H g → H D = some (.lst (ns.map V.int)) → ns.length = cnt → (∀ x ∈ ns, 0 ≤ x ∧ x ≤ most) → Qd H) :
    ∃ W : Nat → Nat → Hp → Prop, (∃ m, W 0 m (L2.upd H1 D (.lst []))) ∧ ∀ i m H, W i m H →
      ((Itr lo cnt).stop i H ∧ Qd H) ∨ ((Itr lo cnt).go i H ∧ ∃ Nx : Hp → Prop, (∀ H', Nx H' → ∃ m', m' < m ∧ W (i + 1) m' H') ∧ ∀ x H', (Itr lo cnt).yld i H x H' → gName j x (wipe σ vs) H' fun σ2 H2 => wipe σ2 vs = wipe σ vs ∧ tYes σ2 H2 fun b H3 =>
        if b = true then te σ2 H3 fun y H4 => ∃ acc, H4 D = some (.lst acc) ∧ acc.length < sizeLine ∧ Nx (L2.upd H4 D (.lst (acc ++ [y]))) else Nx H3) := by
  have hDg := hg.ne hD
  refine lc_range (fun i H => SameX g H1 H ∧ Gn (n + (cnt - i)) H g ∧ i ≤ cnt ∧ ∃ ns : List Int, H D = some (.lst (ns.map V.int)) ∧ ns.length = i ∧ ∀ x ∈ ns, 0 ≤ x ∧ x ≤ most)
    ⟨sameX_new hD, hg.upd hDg, Nat.zero_le _, [], upd_same, rfl, fun x h => absurd h List.not_mem_nil⟩ (fun i H hi p => ?_) fun H p => ?_
  · obtain ⟨s, G, _, ns, hL, hl, hb⟩ := p
    have G1 : Gn (n + (cnt - (i + 1)) + 1) H g := by
      have e : n + (cnt - (i + 1)) + 1 = n + (cnt - i) := by omega
      rw [e]
      exact G
    refine hs i H _ hi s G1 fun r H' s' G' h0 h1 => ⟨_, s' D _ hDg hL, by rw [List.length_map]; omega, (s.trans s').upd2 hD, G'.upd hDg, hi, ns ++ [r], ?_, ?_, fun x hx => ?_⟩
    · rw [upd_same, List.map_append]
      rfl
    · rw [List.length_append, hl]
      rfl
    · rcases List.mem_append.mp hx with z | z
      · exact hb x z
      · rw [List.mem_singleton.mp z]
        exact ⟨h0, h1⟩
  · obtain ⟨s, G, _, ns, hL, hl, hb⟩ := p
    rw [Nat.sub_self] at G
    exact hd H ns s G hL hl hb
end CK

set_option Elab.async false
set_option linter.all false
set_option maxRecDepth 100000
set_option maxHeartbeats 2000000
namespace CK
open PySem PySem.Spec PyProof.Rows L2
/-! ### data that are compared -/
def dI (ns : List Int) : PyData := .tuple (ns.map PyData.int)
theorem lay_ints : ∀ ns : List Int, PyData.canLayAll0 (ns.map PyData.int) = true
  | [] => by simp [PyData.canLayAll0]
  | n :: ns => by
    rw [List.map_cons, PyData.canLayAll0, lay_ints ns]
    simp [PyData.canLay0]
theorem deep_ints : ∀ ns : List Int, PyData.depthAll (ns.map PyData.int) = 0
  | [] => by simp [PyData.depthAll]
  | n :: ns => by
    rw [List.map_cons, PyData.depthAll, deep_ints ns]
    simp [PyData.depth]
theorem lay_dI (ns : List Int) : (dI ns).canLay0 = true := by
  unfold dI
  rw [PyData.canLay0]
  exact lay_ints ns
theorem deep_dI (ns : List Int) : (dI ns).depth = 1 := by
  unfold dI
  rw [PyData.depth, deep_ints]
theorem shaped_dI (ns : List Int) : SeqAt.shaped (dI ns) = true := by
  unfold SeqAt.shaped
  rw [lay_dI, deep_dI]
  rfl
theorem lay_forms : ∀ fs : List (List Int), PyData.canLayAll0 (fs.map dI) = true
  | [] => by simp [PyData.canLayAll0]
  | f :: fs => by
    rw [List.map_cons, PyData.canLayAll0, lay_forms fs, lay_dI]
    rfl
theorem deep_forms : ∀ fs : List (List Int), PyData.depthAll (fs.map dI) ≤ 1
  | [] => by simp [PyData.depthAll]
  | f :: fs => by
    have := deep_forms fs
    rw [List.map_cons, PyData.depthAll, deep_dI]
    omega
theorem shaped_forms (fs : List (List Int)) : SeqAt.shaped (.list (fs.map dI)) = true := by
  unfold SeqAt.shaped
  rw [PyData.canLay0, lay_forms, PyData.depth]
  have := deep_forms fs
  rw [decide_eq_true (by omega)]
  rfl
section
variable {K : PySem.W.Frag} {H : Hp}
theorem dpAll_ints : ∀ ns : List Int, DpAll K H (ns.map V.int) (ns.map PyData.int)
  | [] => .nil
  | n :: ns => .cons (.int n) (dpAll_ints ns)
theorem dp_ints {a : Addr} {ns : List Int} (h : H a = some (.tup (ns.map V.int))) : Dp K H (.ref a) (dI ns) := .tup (.inl (.inl h)) (dpAll_ints ns)
end
section
variable {X : Cx}
/-- x != y, of equal data -/
theorem op_neSame (hu : X.A.units + 64 < cLine) : OpR X (compareOp .NotEq) (fun x y H Q => ∃ d, Dp X.K H x d ∧ Dp X.K H y d ∧ SeqAt.shaped d = true ∧ Q (.bl false) H) := by
  intro pins s σ H x y v u Q I rx ry h
  obtain ⟨d, h1, h2, h3, q⟩ := h
  refine op_neD hu pins s σ H x y v u Q I rx ry ⟨d, d, h1, h2, h3, h3, ?_⟩
  rw [SeqAt.eqv_refl d (SeqAt.canLay_of_shaped h3)]
  exact q
end
/-! ### comprehensions that map, by the turn's number -/
theorem lcZ_mapI {K : PySem.W.Frag} {k k' : Kd} {a b : Addr} {xs ys : List V} {i1 i2 : Nat} {te : TE} {vs : List Nat} {σ : L2.St} {H1 : Hp} {D : Addr} {Qd : Hp → Prop} (f : Nat → V) (hl : xs.length = ys.length) (hn : xs.length < sizeLine)
    (ha : ∀ H, Same H1 H → SqB K k H a xs ∧ SqB K k' H b ys)
    (hs : ∀ (i : Nat) (x y : V) (H : Hp) (R : VK), xs[i]? = some x → ys[i]? = some y → Same H1 H → (∀ H', Same H H' → R (f i) H') → wipe (((wipe σ vs).set i1 (some x)).set i2 (some y)) vs = wipe σ vs ∧ te (((wipe σ vs).set i1 (some x)).set i2 (some y)) H R)
    (hD : H1 D = none) (hd : ∀ H : Hp, Same H1 H → H D = some (.lst ((List.range xs.length).map f)) → Qd H) :
    ∃ W : Nat → Nat → Hp → Prop, (∃ m, W 0 m (upd H1 D (.lst []))) ∧ ∀ i m H, W i m H →
      ((ItB K k k' a b).stop i H ∧ Qd H) ∨ ((ItB K k k' a b).go i H ∧ ∃ Nx : Hp → Prop, (∀ H', Nx H' → ∃ m', m' < m ∧ W (i + 1) m' H') ∧ ∀ x H', (ItB K k k' a b).yld i H x H' → gTup K 2 (gCons (gName i1) (gCons (gName i2) gNil)) x (wipe σ vs) H' fun σ2 H2 => wipe σ2 vs = wipe σ vs ∧ tYes σ2 H2 fun b H3 =>
        if b = true then te σ2 H3 fun y H4 => ∃ acc, H4 D = some (.lst acc) ∧ acc.length < sizeLine ∧ Nx (upd H4 D (.lst (acc ++ [y]))) else Nx H3) := by
  refine lc_mapW (walkB (K := K) (k := k) (k' := k') (a := a) (b := b) hl) f hn ha (fun i v H H' R hi s y q => ?_) hD hd
  obtain ⟨T, x, y, rfl, hT, rfl, hx, hy⟩ := y
  have hx : xs[i]? = some x := hx
  have hy : ys[i]? = some y := hy
  have st : Same H (upd H T (.tup [x, y])) := sameNew hT
  exact ⟨T, [x, y], rfl, .inl (.inl upd_same), rfl, x, [y], rfl, y, [], rfl, rfl, hs i x y _ R hx hy (s.trans st) fun H'' s' => q H'' (st.trans s')⟩
theorem lcL_mapI {K : PySem.W.Frag} {a : Addr} {xs : List V} {j : Nat} {te : TE} {vs : List Nat} {σ : L2.St} {H1 : Hp} {D : Addr} {Qd : Hp → Prop} (f : Nat → V) (ha : H1 a = some (.lst xs)) (hn : xs.length < sizeLine)
    (hs : ∀ (i : Nat) (x : V) (H : Hp) (R : VK), xs[i]? = some x → Same H1 H → (∀ H', Same H H' → R (f i) H') → wipe ((wipe σ vs).set j (some x)) vs = wipe σ vs ∧ te ((wipe σ vs).set j (some x)) H R)
    (hD : H1 D = none) (hd : ∀ H : Hp, Same H1 H → H D = some (.lst ((List.range xs.length).map f)) → Qd H) :
    ∃ W : Nat → Nat → Hp → Prop, (∃ m, W 0 m (upd H1 D (.lst []))) ∧ ∀ i m H, W i m H →
      ((Itl K a).stop i H ∧ Qd H) ∨ ((Itl K a).go i H ∧ ∃ Nx : Hp → Prop, (∀ H', Nx H' → ∃ m', m' < m ∧ W (i + 1) m' H') ∧ ∀ x H', (Itl K a).yld i H x H' → gName j x (wipe σ vs) H' fun σ2 H2 => wipe σ2 vs = wipe σ vs ∧ tYes σ2 H2 fun b H3 =>
        if b = true then te σ2 H3 fun y H4 => ∃ acc, H4 D = some (.lst acc) ∧ acc.length < sizeLine ∧ Nx (upd H4 D (.lst (acc ++ [y]))) else Nx H3) := by
  refine lc_mapW (walk_list (K := K) (a := a) (xs := xs)) f hn (fun H s => .inl (.inl (s _ _ ha))) (fun i x H H' R hi s y q => ?_) hD hd
  obtain ⟨rfl, hx⟩ := y
  exact hs i x H' R hx s q
end CK

set_option Elab.async false
set_option linter.all false
set_option maxRecDepth 100000
set_option maxHeartbeats 2000000
/-! own classes: their facts, their methods' promises by their bodies -/
namespace CK
open PySem PySem.Spec PyProof.Rows L2
/-- a method's def as it stands behind the top -/
structure MetF (K : PySem.W.Frag) (C : Addr) (m q : Str) (st : Stmt) (ps : List Str) : Prop where
  ex : ∃ (f : Addr) (fd : FuncData), C8.Fun K m q st f fd ∧ Meth K C m f ∧ Binds K fd ps []
/-- a class as it stands -/
structure ClF (K : PySem.W.Frag) (mg : Str → Option Value) (x : Str) (C : Addr) : Prop where
  mgC : mg x = some (.ref C)
  makes : PySem.W.makesIn K C = true
  kp : PySem.W.keepIn K (.ref C) = true
  ins : C8.InsC K C
theorem metF_mk {K : PySem.W.Frag} {mg : Str → Option Value} {x : Str} {C : Addr} (_ : ClF K mg x C) (m q : Str) (st : Stmt) (ps : List Str) {f : Addr} {od an : Option Addr} {oc kV dc pm cd ct : Value} {sl : Array (Option Value)}
    (a : PySem.W.findIn K (.ref C) m = some (some (.ref f))) (i : PySem.W.isFn K (.ref f) = true)
    (l : K.lookup f = some ⟨oc, od, .func (PySem.W.fnOf m q (C8.fnArgs st) (C8.fnBody st) (C8.fnScope st) .none kV dc pm an cd ct), sl⟩)
    (c : PySem.W.codeIn K cd q = true) (k : PySem.W.keepIn K (.ref f) = true)
    (hb : ∀ (kV doc pm : Value) (an : Option Addr) (cdv ct : Value) (us : List Value), us.length = ps.length →
      bindArgs (PySem.W.fnOf m q (C8.fnArgs st) (C8.fnBody st) (C8.fnScope st) .none kV doc pm an cdv ct) ⟨us, []⟩ = pure (ps.zip us)) : MetF K C m q st ps :=
  ⟨f, _, ⟨oc, od, .none, kV, dc, pm, an, cd, ct, sl, rfl, l, c⟩, ⟨a, i, k⟩, C8.Fun.binds ⟨oc, od, .none, kV, dc, pm, an, cd, ct, sl, rfl, l, c⟩ rfl hb⟩
theorem clF_mk {K : PySem.W.Frag} {h : Heap} {mg : Str → Option Value} {x : Str} {C : Addr} (X : K.In h) (G : h.Ns mainGlobals mg)
    (a : PySem.W.nsIn K mainGlobals x = some (some (.ref C))) (pg : PySem.W.plainGet K C Str.empty = true) (hd : PySem.W.hasDictIn K C = true) (po : PySem.W.plainOver K C = true)
    (sa : PySem.W.findIn K (.ref C) "__setattr__" = some (some (.builtin "object.__setattr__"))) (mk : PySem.W.makesIn K C = true) (kp : PySem.W.keepIn K (.ref C) = true)
    (ha : PySem.W.findIn K (.ref C) "__class__" = some (some (.builtin "object.__class__"))) (hn : PySem.W.specialIn K (.builtin "object.__class__") "__get__" = some (some (.builtin "getset_descriptor.__get__")))
    (htk : PySem.W.takesIn K (.builtin "object.__class__") = some true) (hm : PySem.W.mroIn K C (.type "object") = some true) : ClF K mg x C :=
  ⟨PySem.W.mg_of X G a, mk, kp, ⟨⟨pg, hd, po, sa⟩, ha, hn, htk, hm, if_pos (beq_self_eq_true _)⟩⟩
theorem with_cls {K : PySem.W.Frag} {h : Heap} {mg : Str → Option Value} (_ : K.In h) (x : Str) {C : Addr} {R : Prop} (d : ClF K mg x C) (r : ClF K mg x C → R) : R := r d
theorem with_met {K : PySem.W.Frag} {mg : Str → Option Value} {x : Str} {C : Addr} (_ : ClF K mg x C) (m q : Str) (st : Stmt) (ps : List Str) {R : Prop} (d : MetF K C m q st ps) (r : MetF K C m q st ps → R) : R := r d
section
variable {P : Program} {w : World} {K : PySem.W.Frag} {mg : Str → Option Value} {base : Heap} {x : Str} {C : Addr}
theorem metF {m q : Str} {st : Stmt} {N ps : List Str} {k : Nat} {sp : Sp} (c : ClF K mg x C) (D : MetF K C m q st ps) (S : FnScope N ps (C8.fnScope st))
    (len : ∀ vs H Q E, sp vs H Q E → vs.length = ps.length)
    (hbody : ∀ (f : Addr) (cdv : Value) (A : Around) (outer : List Env) (s : Shared) (H : Hp) (vs : List V) (Q : VK) (E : XK), Room k (A.deeper (envOfC q (C8.fnScope st) s.heap.objs.size f cdv)) → sp vs H Q E →
      ∃ t, PSs (cxOf C8.CX0 P w K mg base N q (C8.fnScope st) f cdv A outer s H E).nox (C8.fnBody st) t ∧ t { nx := fun _ H' => Q .non H', rt := Q } (start N vs) H) : C8.Met P w K mg base (k + 1) C m sp [] := by
  obtain ⟨f, fd, F, me, b⟩ := D.ex
  exact C8.met0 c.ins.cl me F b S len (hbody f)
theorem makF {q : Str} {st : Stmt} {N ps : List Str} {k : Nat} {sp : Sp} (c : ClF K mg x C) (D : MetF K C "__init__" q st ps) (S : FnScope N ps (C8.fnScope st))
    (len : ∀ vs H Q E, sp vs H Q E → vs.length = ps.length)
    (hbody : ∀ (f : Addr) (cdv : Value) (A : Around) (outer : List Env) (s : Shared) (H : Hp) (vs : List V) (Q : VK) (E : XK), Room k (A.deeper (envOfC q (C8.fnScope st) s.heap.objs.size f cdv)) → sp vs H Q E →
      ∃ t, PSs (cxOf C8.CX0 P w K mg base N q (C8.fnScope st) f cdv A outer s H E).nox (C8.fnBody st) t ∧ t { nx := fun _ H' => Q .non H', rt := Q } (start N vs) H) : C8.Mak P w K mg base (k + 1) x C sp [] := by
  obtain ⟨f, fd, F, me, b⟩ := D.ex
  exact C8.mak0 ⟨c.makes, me.at_, me.fn, c.kp⟩ c.mgC F b .nil S len (hbody f)
end
end CK
namespace CK
open PySem L2
theorem noA {K : PySem.W.Frag} {mg : Str → Option Value} {x : Str} {C : Addr} (_ : ClF K mg x C) (f : Str) (h : PySem.W.findIn K (.ref C) f = some none) : NoAttr K C f := h
end CK

set_option Elab.async false
set_option linter.all false
set_option maxRecDepth 100000
set_option maxHeartbeats 2000000
/-! texts by their code points -/
namespace CK
open PySem PySem.Spec PyProof.Rows L2 SX
theorem rev_S (z : List Nat) : (⟨((Builtin.Str.strSliceIndices none none (-1) (S z).length).filterMap ((S z).cps[·]?)).toArray⟩ : Str) = S z.reverse := by
  refine TL.ext_tl ?_
  show ((Builtin.Str.strSliceIndices none none (-1) (S z).length).filterMap ((S z).cps[·]?)).toArray.toList = z.reverse
  rw [List.toList_toArray, S_len, picked_rev, filterMap_get, List.map_map]
  · refine List.ext_getElem (by simp) fun i h1 h2 => ?_
    have hi : i < z.length := by simpa using h1
    rw [List.getElem_map, List.getElem_range, List.getElem_reverse]
    show (S z).cps.getD (z.length - 1 - i) 0 = _
    have : z.length - 1 - i < z.length := by omega
    simp [Array.getD, S, this]
  · intro i hi
    obtain ⟨k, hk, rfl⟩ := List.mem_map.mp hi
    have := List.mem_range.mp hk
    show z.length - 1 - k < z.length
    omega
section
variable {X : Cx}
/-- s[::-1] -/
def tRevS (te : TE) : TE := fun σ H Q => te σ H fun x H1 => ∃ z : List Nat, x = .str (S z) ∧ z.length ≤ sizeLine ∧ Q (.str (S z.reverse)) H1
theorem pe_revS {e : Expr} {te : TE} {k : Nat} {p1 p2 p3 pos : Pos} (he : PE X e te) : PE X (.Subscript e (.Slice none none (some (.UnaryOp .USub (.Constant (.int 1) k p1) p2)) p3) pos) (tRevS te) := by
  refine ⟨fun pins s σ H Q I h => ?_⟩
  refine Subscript_ (thn (he.run pins s σ H _ I h) fun v s1 ⟨x, H1, I1, r1, q1⟩ => ?_)
  obtain ⟨z, ex, hz, q⟩ := q1
  subst ex
  obtain ⟨t, rfl⟩ := r1
  have hst : PO X (some (.UnaryOp .USub (.Constant (.int 1) k p1) p2)) (tPart (tUn (rU fun i => .int (-i)) (tC (.int 1)))) := po_some (pe_un un_neg pe_int)
  refine wpAny_Slice (thn (po_none.run pins s1 σ H1 (fun o H2 => o = none ∧ H2 = H1) I1 ⟨rfl, rfl⟩) fun vl s2 ⟨l, H2, I2, pl, el, e2⟩ => ?_)
  subst el e2
  refine thn (po_none.run pins s2 σ H2 (fun o H3 => o = none ∧ H3 = H2) I2 ⟨rfl, rfl⟩) fun vu s3 ⟨u, H3, I3, pu, eu, e3⟩ => ?_
  subst eu e3
  refine thn (hst.run pins s3 σ H3 (fun o H4 => o = some (-1) ∧ H4 = H3) I3 ⟨1, rfl, -1, rfl, rfl, rfl⟩) fun vs s4 ⟨o, H4, I4, ps, eo, e4⟩ => ?_
  subst eo e4
  have I5 : Inv X pins σ H4 { s4 with heap := s4.heap.push { cls := .type "slice", data := .fields #[vl, vu, vs] } } := I4.kept (t' := s4.toks) fun b ob q => Heap.get?_push_of_some _ q
  show wpAny (model X.prog X.w) X.A (subscriptTail e (.Slice none none (some (.UnaryOp .USub (.Constant (.int 1) k p1) p2)) p3) (.str (S z) t) (.ref s4.heap.objs.size)) (EP X pins σ Q) X.xe { s4 with heap := s4.heap.push { cls := .type "slice", data := .fields #[vl, vu, vs] } }
  refine tail_any (ops := [.str (S z) t, .ref s4.heap.objs.size]) (typeIs_str _ _ _) F.slot_str_getitem.lookup ?_ (by with_unfolding_all rfl)
  obtain ⟨l, rfl, el⟩ := IsPart.raw pl
  obtain ⟨u, rfl, eu⟩ := IsPart.raw pu
  obtain ⟨st, rfl, es⟩ := IsPart.raw ps
  refine wpAny_getItem_str_slice (l := l) (u := u) (st := st) ⟨_, Heap.get?_push_size _ rfl, rfl, rfl⟩ (by rw [es]; decide) ?_
  unfold sliceMade slicePicked
  rw [es, el, eu]
  have hr := rev_S z
  show Made.post (.str ⟨((Builtin.Str.strSliceIndices none none (-1) (S z).length).filterMap ((S z).cps[·]?)).toArray⟩) _ _
  rw [hr]
  exact ⟨by rw [S_len, List.length_reverse]; exact hz, .str _, H4, I5.tok _, ⟨_, rfl⟩, q⟩
/-- s * n -/
theorem foldl_arr {α : Type} : ∀ (n : Nat) (w : Array α) (acc : Array α), ((List.replicate n w).foldl (fun a b => a ++ b) acc).toList = acc.toList ++ (List.replicate n w.toList).flatten
  | 0, _, _ => by simp
  | n + 1, w, acc => by
    rw [List.replicate_succ, List.foldl_cons, foldl_arr n w (acc ++ w), List.replicate_succ, List.flatten_cons, Array.toList_append, List.append_assoc]
theorem op_repS : OpR X (binaryOp .Mult) (fun x y H Q => ∃ (z : List Nat) (n : Nat), x = .str (S z) ∧ y = .int n ∧ n ≤ 1000 ∧ z.length ≤ 1000 ∧ Q (.str (S (List.replicate n z).flatten)) H) := by
  intro pins s σ H x y v u Q I rx ry h
  obtain ⟨z, n, rfl, rfl, hn, hz, q⟩ := h
  obtain ⟨t, rfl⟩ := rx
  obtain ⟨t', rfl⟩ := ry
  have hl : (List.replicate n z).flatten.length = n * z.length := by simp
  have hm : n * z.length ≤ 1000 * 1000 := Nat.mul_le_mul hn hz
  refine P.mul_str (by simp; omega) (fun h1 h2 => ?_) (fun h1 h2 => ?_) ?_
  · rw [S_len]
    have hn0 : (0 : Int) < n := by omega
    have h3 : (1000 : Int) ≤ (2 ^ 63 - 1) / (n : Int) := by
      refine (Int.le_ediv_iff_mul_le hn0).mpr ?_
      have : (1000 : Int) * n ≤ 1000 * 1000 := Int.mul_le_mul_of_nonneg_left (by omega) (by decide)
      omega
    omega
  · rw [S_len, Int.toNat_natCast, Nat.mul_comm]
    have : n * z.length ≤ sizeLine := by rw [sizeLine_eq]; omega
    unfold Builtin.Str.tooLong
    simp
    omega
  · by_cases h1 : (n : Int) < 1
    · rw [if_pos h1]
      have e : n = 0 := by omega
      subst e
      exact ⟨by decide, .str _, H, I.tok _, ⟨_, rfl⟩, q⟩
    · rw [if_neg h1]
      by_cases h2 : ((n : Int) == 1 || (S z).length == 0) = true
      · rw [if_pos h2]
        have e : (List.replicate n z).flatten = z := by
          rw [Bool.or_eq_true, beq_iff_eq, beq_iff_eq, S_len] at h2
          rcases h2 with h2 | h2
          · have : n = 1 := by omega
            subst this
            simp
          · rw [List.length_eq_zero_iff.mp h2]
            simp
        rw [e] at q
        exact ⟨.str _, H, I, ⟨_, rfl⟩, q⟩
      · rw [if_neg h2]
        have e : (⟨(List.replicate (n : Int).toNat (S z).cps).foldl (· ++ ·) #[]⟩ : Str) = S (List.replicate n z).flatten := by
          refine TL.ext_tl ?_
          show ((List.replicate (n : Int).toNat (S z).cps).foldl (· ++ ·) #[]).toList = _
          rw [Int.toNat_natCast, foldl_arr]
          rfl
        rw [e]
        exact ⟨by rw [S_len, hl, sizeLine_eq]; omega, .str _, H, I.tok _, ⟨_, rfl⟩, q⟩
/-- a % b, a // b of natural numbers -/
theorem fmodN (k n : Nat) : Int.fmod (k : Int) (n : Int) = ((k % n : Nat) : Int) := by
  rw [Int.fmod_eq_emod_of_nonneg _ (by omega)]
  rfl
theorem op_modZ : OpR X (binaryOp .Mod) (fun x y H Q => ∃ (k n : Nat), x = .int k ∧ y = .int n ∧ n ≠ 0 ∧ Q (.int ((k % n : Nat) : Int)) H) := by
  intro pins s σ H x y v u Q I rx ry h
  obtain ⟨k, n, e1, e2, h0, q⟩ := h
  refine op_modN pins s σ H x y v u Q I rx ry ⟨_, _, e1, e2, by omega, ?_⟩
  rw [← fmodN] at q
  exact q
theorem op_fdivZ : OpR X (binaryOp .FloorDiv) (fun x y H Q => ∃ (k n : Nat), x = .int k ∧ y = .int n ∧ n ≠ 0 ∧ n < 2 ^ 29 ∧ Q (.int ((k / n : Nat) : Int)) H) := by
  intro pins s σ H x y v u Q I rx ry h
  obtain ⟨k, n, e1, e2, h0, h1, q⟩ := h
  refine op_fdivN pins s σ H x y v u Q I rx ry ⟨_, _, e1, e2, ⟨by omega, by omega⟩, ?_⟩
  have : Int.fdiv (k : Int) (n : Int) = ((k / n : Nat) : Int) := by
    rw [Int.fdiv_eq_ediv_of_nonneg _ (by omega)]
    rfl
  rw [← this] at q
  exact q
theorem op_mulZ : OpR X (binaryOp .Mult) (fun x y H Q => ∃ (k n : Nat), x = .int k ∧ y = .int n ∧ k < 2 ^ 1000 ∧ n < 2 ^ 1000 ∧ Q (.int ((k * n : Nat) : Int)) H) := by
  intro pins s σ H x y v u Q I rx ry h
  obtain ⟨k, n, e1, e2, h0, h1, q⟩ := h
  refine op_mulW pins s σ H x y v u Q I rx ry ⟨_, _, e1, e2, wide_mul (a := 1000) (b := 1000) h0 h1 (by decide) (by decide) (by decide), ?_⟩
  rw [Int.natCast_mul] at q
  exact q
/-- len of a list that is tracked (it may stand in a comprehension) -/
theorem call_lenH : CallR X (.builtin "len") (fun xs H Q => ∃ (p : Addr) (ys : List V), xs = [.ref p] ∧ H p = some (.lst ys) ∧ Q (.int (ys.length : Nat)) H) := by
  intro pins s σ H xs us Q I r h
  obtain ⟨p, ys, e, hp, q⟩ := h
  exact call_len_seq pins s σ H xs us Q I r ⟨p, ys, e, .inl (.inl (.inl hp)), q⟩
end
end CK

set_option linter.all false
/-! words as lists of numbers: beginnings, borders, periods, powers, roots -/
namespace WM
abbrev W := List Nat
/-! ### beginnings in common -/
def lcp : W → W → Nat
  | x :: xs, y :: ys => if x = y then lcp xs ys + 1 else 0
  | _, _ => 0
theorem lcp_le : ∀ a b : W, lcp a b ≤ a.length ∧ lcp a b ≤ b.length
  | [], b => by simp [lcp]
  | _ :: _, [] => by simp [lcp]
  | x :: xs, y :: ys => by
    have := lcp_le xs ys
    unfold lcp
    split <;> simp <;> omega
theorem lcp_take : ∀ (a b : W) (k : Nat), k ≤ lcp a b → a.take k = b.take k
  | _, _, 0, _ => by simp
  | [], b, k + 1, h => by simp [lcp] at h
  | _ :: _, [], k + 1, h => by simp [lcp] at h
  | x :: xs, y :: ys, k + 1, h => by
    unfold lcp at h
    split at h
    · rename_i e
      subst e
      rw [List.take_succ_cons, List.take_succ_cons, lcp_take xs ys k (by omega)]
    · omega
theorem le_lcp : ∀ (a b : W) (k : Nat), k ≤ a.length → k ≤ b.length → a.take k = b.take k → k ≤ lcp a b
  | _, _, 0, _, _, _ => Nat.zero_le _
  | [], b, k + 1, h, _, _ => by simp at h
  | _ :: _, [], k + 1, _, h, _ => by simp at h
  | x :: xs, y :: ys, k + 1, h1, h2, h => by
    rw [List.take_succ_cons, List.take_succ_cons] at h
    injection h with e1 e2
    subst e1
    have := le_lcp xs ys k (by simpa using h1) (by simpa using h2) e2
    unfold lcp
    rw [if_pos rfl]
    omega
theorem lcp_iff {a b : W} {k : Nat} (h1 : k ≤ a.length) (h2 : k ≤ b.length) : a.take k = b.take k ↔ k ≤ lcp a b := ⟨le_lcp a b k h1 h2, lcp_take a b k⟩

/-! ### periods and borders -/
/-- letters that stand p apart are the same -/
def Per (p : Nat) (w : W) : Prop := ∀ i, i + p < w.length → w[i]? = w[i + p]?
/-- the first b letters are the last b -/
def Bor (b : Nat) (w : W) : Prop := b ≤ w.length ∧ ∀ i, i < b → w[i]? = w[w.length - b + i]?
instance (b : Nat) (w : W) : Decidable (Bor b w) := by unfold Bor; exact inferInstance
theorem bor_per {b : Nat} {w : W} (h : Bor b w) : Per (w.length - b) w := fun i hi => by
  rw [h.2 i (by have := h.1; omega), Nat.add_comm i]
theorem per_bor {p : Nat} {w : W} (hp : p ≤ w.length) (h : Per p w) : Bor (w.length - p) w := by
  refine ⟨Nat.sub_le _ _, fun i hi => ?_⟩
  rw [h i (by omega)]
  congr 1
  omega
theorem per_zero (w : W) : Per 0 w := fun i _ => rfl
theorem per_len {p : Nat} {w : W} (h : w.length ≤ p) : Per p w := fun i hi => by omega
theorem per_take {p k : Nat} {w : W} (h : Per p w) : Per p (w.take k) := fun i hi => by
  rw [List.length_take] at hi
  rw [List.getElem?_take_of_lt (by omega), List.getElem?_take_of_lt (by omega)]
  exact h i (by omega)
theorem per_mul {p : Nat} {w : W} (h : Per p w) : ∀ (k i : Nat), i + p * k < w.length → w[i]? = w[i + p * k]?
  | 0, i, _ => by simp
  | k + 1, i, hi => by
    rw [Nat.mul_succ] at hi ⊢
    rw [per_mul h k i (by omega), h (i + p * k) (by omega)]
    congr 1
    omega
/-- Fine and Wilf's, the weak form -/
theorem per_sub {p q : Nat} {w : W} (hpq : p ≤ q) (hp : Per p w) (hq : Per q w) (hl : p + q ≤ w.length) : Per (q - p) w := fun i hi => by
  by_cases h : i + q < w.length
  · rw [hq i h]
    have := hp (i + (q - p)) (by omega)
    rw [this]
    congr 1
    omega
  · have h1 : p ≤ i := by omega
    have a := hp (i - p) (by omega)
    have b := hq (i - p) (by omega)
    rw [show i - p + p = i by omega] at a
    rw [show i - p + q = i + (q - p) by omega] at b
    rw [← a, b]
theorem fine_wilf : ∀ (n p q : Nat) (w : W), p + q ≤ n → Per p w → Per q w → p + q ≤ w.length → Per (Nat.gcd p q) w
  | 0, p, q, w, hn, hp, hq, _ => by
    have e1 : p = 0 := by omega
    have e2 : q = 0 := by omega
    subst e1 e2
    exact hp
  | n + 1, p, q, w, hn, hp, hq, hl => by
    by_cases p0 : p = 0
    · subst p0
      rw [Nat.gcd_zero_left]
      exact hq
    by_cases q0 : q = 0
    · subst q0
      rw [Nat.gcd_zero_right]
      exact hp
    by_cases h : p ≤ q
    · have := fine_wilf n p (q - p) w (by omega) hp (per_sub h hp hq hl) (by omega)
      rw [Nat.gcd_sub_self_right h] at this
      exact this
    · have := fine_wilf n (p - q) q w (by omega) (per_sub (by omega) hq hp (by omega)) hq (by omega)
      rw [Nat.gcd_sub_self_left (by omega)] at this
      exact this
theorem per_gcd {p q : Nat} {w : W} (hp : Per p w) (hq : Per q w) (hl : p + q ≤ w.length) : Per (Nat.gcd p q) w := fine_wilf _ p q w (Nat.le_refl _) hp hq hl

/-! ### the longest border -/
def lbF (w : W) : Nat → Nat
  | 0 => 0
  | b + 1 => if Bor (b + 1) w then b + 1 else lbF w b
/-- how long the longest border is, besides the word itself -/
def lb (w : W) : Nat := lbF w (w.length - 1)
theorem bor_zero (w : W) : Bor 0 w := ⟨Nat.zero_le _, fun i h => by omega⟩
theorem lbF_bor (w : W) : ∀ b, Bor (lbF w b) w ∧ lbF w b ≤ b
  | 0 => ⟨bor_zero w, Nat.le_refl _⟩
  | b + 1 => by
    unfold lbF
    split
    · rename_i h
      exact ⟨h, Nat.le_refl _⟩
    · have := lbF_bor w b
      exact ⟨this.1, by omega⟩
theorem lbF_max (w : W) : ∀ b c, c ≤ b → Bor c w → c ≤ lbF w b
  | 0, c, h, _ => by omega
  | b + 1, c, h, hc => by
    unfold lbF
    split
    · omega
    · rename_i hn
      by_cases e : c = b + 1
      · subst e
        exact absurd hc hn
      · exact lbF_max w b c (by omega) hc
theorem lb_bor (w : W) : Bor (lb w) w := (lbF_bor w _).1
theorem lb_lt {w : W} (h : w ≠ []) : lb w < w.length := by
  have := (lbF_bor w (w.length - 1)).2
  have := List.length_pos_iff.mpr h
  unfold lb
  omega
theorem lb_max {w : W} {c : Nat} (h : c < w.length) (hc : Bor c w) : c ≤ lb w := lbF_max w _ c (by omega) hc
/-- a border of a border is a border; a shorter border is one of the longer -/
theorem bor_take {w : W} {b c : Nat} (hb : Bor b w) (hc : c ≤ b) : Bor c w ↔ Bor c (w.take b) := by
  have l : (w.take b).length = b := by rw [List.length_take]; have := hb.1; omega
  constructor
  · intro h
    refine ⟨by rw [l]; exact hc, fun i hi => ?_⟩
    rw [l, List.getElem?_take_of_lt (by omega), List.getElem?_take_of_lt (by omega), h.2 i hi, hb.2 (b - c + i) (by omega)]
    congr 1
    have := hb.1
    omega
  · intro h
    refine ⟨Nat.le_trans hc hb.1, fun i hi => ?_⟩
    have := h.2 i hi
    rw [l, List.getElem?_take_of_lt (by omega), List.getElem?_take_of_lt (by omega)] at this
    rw [this, hb.2 (b - c + i) (by omega)]
    congr 1
    have := hb.1
    omega
/-- a border, one letter longer -/
theorem bor_succ {w : W} {n b : Nat} (hn : n < w.length) (hb : b < n) : Bor (b + 1) (w.take (n + 1)) ↔ Bor b (w.take n) ∧ w[b]? = w[n]? := by
  have l1 : (w.take (n + 1)).length = n + 1 := by rw [List.length_take]; omega
  have l0 : (w.take n).length = n := by rw [List.length_take]; omega
  constructor
  · intro h
    refine ⟨⟨by omega, fun i hi => ?_⟩, ?_⟩
    · have := h.2 i (by omega)
      rw [l1, List.getElem?_take_of_lt (by omega), List.getElem?_take_of_lt (by omega)] at this
      rw [l0, List.getElem?_take_of_lt (by omega), List.getElem?_take_of_lt (by omega), this]
      congr 1
      omega
    · have := h.2 b (by omega)
      rw [l1, List.getElem?_take_of_lt (by omega), List.getElem?_take_of_lt (by omega)] at this
      rw [this]
      congr 1
      omega
  · rintro ⟨h, e⟩
    refine ⟨by omega, fun i hi => ?_⟩
    rw [l1, List.getElem?_take_of_lt (by omega), List.getElem?_take_of_lt (by omega)]
    by_cases z : i < b
    · have := h.2 i z
      rw [l0, List.getElem?_take_of_lt (by omega), List.getElem?_take_of_lt (by omega)] at this
      rw [this]
      congr 1
      omega
    · have e1 : i = b := by omega
      subst e1
      rw [e]
      congr 1
      omega
/-- the walk down the borders: the state at a turn of the inner loop -/
def Cand (w : W) (n s : Nat) : Prop := s < n ∧ Bor s (w.take n) ∧ ∀ b, b < n → Bor b (w.take n) → w[b]? = w[n]? → b ≤ s
theorem cand_start {w : W} {n : Nat} (hn : n ≤ w.length) (h0 : 0 < n) : Cand w n (lb (w.take n)) := by
  have l0 : (w.take n).length = n := by rw [List.length_take]; omega
  have ne : w.take n ≠ [] := fun z => by rw [z] at l0; simp at l0; omega
  refine ⟨by have := lb_lt ne; omega, lb_bor _, fun b hb h _ => lb_max (by omega) h⟩
theorem cand_down {w : W} {n s : Nat} (hn : n ≤ w.length) (h : Cand w n s) (hs : 0 < s) (hd : w[s]? ≠ w[n]?) : Cand w n (lb (w.take s)) := by
  obtain ⟨h1, h2, h3⟩ := h
  have ls : (w.take s).length = s := by rw [List.length_take]; omega
  have ne : w.take s ≠ [] := fun z => by rw [z] at ls; simp at ls; omega
  have lt := lb_lt ne
  have tt : (w.take n).take s = w.take s := by rw [List.take_take]; congr 1; omega
  have bs : Bor (lb (w.take s)) (w.take n) := by
    rw [bor_take h2 (by omega), tt]
    exact lb_bor _
  refine ⟨by omega, bs, fun b hb hB e => ?_⟩
  have le := h3 b hb hB e
  have ne2 : b ≠ s := fun z => hd (by rw [← z]; exact e)
  have : Bor b (w.take s) := by
    rw [← tt, ← bor_take h2 (by omega)]
    exact hB
  exact lb_max (by omega) this
theorem cand_hit {w : W} {n s : Nat} (hn : n < w.length) (h : Cand w n s) (e : w[s]? = w[n]?) : lb (w.take (n + 1)) = s + 1 := by
  obtain ⟨h1, h2, h3⟩ := h
  have l1 : (w.take (n + 1)).length = n + 1 := by rw [List.length_take]; omega
  have ne : w.take (n + 1) ≠ [] := fun z => by rw [z] at l1; simp at l1
  have hB : Bor (s + 1) (w.take (n + 1)) := (bor_succ hn h1).mpr ⟨h2, e⟩
  have le := lb_max (by omega) hB
  have lt := lb_lt ne
  have lB := lb_bor (w.take (n + 1))
  generalize lb (w.take (n + 1)) = x at le lt lB ⊢
  cases x with
  | zero => omega
  | succ x =>
    obtain ⟨a, b⟩ := (bor_succ hn (by omega)).mp lB
    have := h3 x (by omega) a b
    omega
theorem cand_miss {w : W} {n : Nat} (hn : n < w.length) (h : Cand w n 0) (e : w[0]? ≠ w[n]?) : lb (w.take (n + 1)) = 0 := by
  obtain ⟨h1, h2, h3⟩ := h
  have l1 : (w.take (n + 1)).length = n + 1 := by rw [List.length_take]; omega
  have ne : w.take (n + 1) ≠ [] := fun z => by rw [z] at l1; simp at l1
  have lt := lb_lt ne
  have lB := lb_bor (w.take (n + 1))
  generalize lb (w.take (n + 1)) = x at lt lB ⊢
  cases x with
  | zero => rfl
  | succ x =>
    obtain ⟨a, b⟩ := (bor_succ hn (by omega)).mp lB
    have := h3 x (by omega) a b
    have z : x = 0 := by omega
    subst z
    exact absurd b e
theorem lb_one {w : W} : lb (w.take 1) = 0 := by
  cases w with
  | nil => simp [lb, lbF]
  | cons x r => simp [lb, lbF]

/-! ### powers and roots -/
/-- w taken k times -/
def pw (w : W) (k : Nat) : W := (List.replicate k w).flatten
theorem pw_succ (w : W) (k : Nat) : pw w (k + 1) = w ++ pw w k := by unfold pw; rw [List.replicate_succ, List.flatten_cons]
theorem pw_zero (w : W) : pw w 0 = [] := rfl
theorem pw_len (w : W) : ∀ k, (pw w k).length = w.length * k
  | 0 => by simp [pw_zero]
  | k + 1 => by rw [pw_succ, List.length_append, pw_len w k, Nat.mul_succ, Nat.add_comm]
theorem pw_add (w : W) : ∀ a b, pw w (a + b) = pw w a ++ pw w b
  | 0, b => by rw [Nat.zero_add, pw_zero, List.nil_append]
  | a + 1, b => by rw [show a + 1 + b = a + b + 1 by omega, pw_succ, pw_add w a b, pw_succ, List.append_assoc]
theorem pw_get {w : W} (h : w ≠ []) : ∀ (k i : Nat), i < w.length * k → (pw w k)[i]? = w[i % w.length]?
  | 0, i, hi => by simp at hi
  | k + 1, i, hi => by
    have n0 := List.length_pos_iff.mpr h
    rw [pw_succ]
    by_cases z : i < w.length
    · rw [List.getElem?_append_left z, Nat.mod_eq_of_lt z]
    · have hm : w.length * (k + 1) = w.length * k + w.length := Nat.mul_succ ..
      rw [List.getElem?_append_right (by omega), pw_get h k _ (by omega), Nat.mod_eq_sub_mod (show i ≥ w.length by omega)]
/-- a word with a period that divides its length is a power -/
theorem per_pw {w : W} {d : Nat} (hd : 0 < d) (hp : Per d w) (hv : d ∣ w.length) : w = pw (w.take d) (w.length / d) := by
  obtain ⟨k, hk⟩ := hv
  by_cases k0 : k = 0
  · subst k0
    rw [Nat.mul_zero] at hk
    rw [List.length_eq_zero_iff.mp hk]
    simp [pw]
  have dl : d ≤ w.length := by rw [hk]; exact Nat.le_mul_of_pos_right d (by omega)
  have lt : (w.take d).length = d := by rw [List.length_take]; omega
  have ne : w.take d ≠ [] := fun z => by rw [z] at lt; simp at lt; omega
  have ek : w.length / d = k := by rw [hk]; exact Nat.mul_div_cancel_left k hd
  rw [ek]
  refine List.ext_getElem? fun i => ?_
  by_cases hi : i < w.length
  · rw [pw_get ne k i (by rw [lt, ← hk]; exact hi), lt, List.getElem?_take_of_lt (Nat.mod_lt i hd)]
    have := per_mul hp (i / d) (i % d) (by rw [Nat.mod_add_div]; exact hi)
    rw [this, Nat.mod_add_div]
  · rw [List.getElem?_eq_none (by omega), List.getElem?_eq_none (by rw [pw_len, lt, ← hk]; omega)]
theorem pw_per {u : W} (h : u ≠ []) (k : Nat) : Per u.length (pw u k) := fun i hi => by
  rw [pw_len] at hi
  rw [pw_get h k i (by omega), pw_get h k _ hi, Nat.add_mod_right]
/-- not empty, and no shorter word taken several times -/
def Prim (w : W) : Prop := w ≠ [] ∧ ∀ d, 0 < d → d ∣ w.length → Per d w → d = w.length
theorem prim_pw {w u : W} {k : Nat} (h : Prim w) (e : w = pw u k) : k = 1 ∧ u = w := by
  have une : u ≠ [] := fun z => by
    subst z
    apply h.1
    rw [e]
    simp [pw]
  have l : w.length = u.length * k := by rw [e, pw_len]
  have := h.2 u.length (List.length_pos_iff.mpr une) ⟨k, l⟩ (by rw [e]; exact pw_per une k)
  have n0 := List.length_pos_iff.mpr une
  have k1 : k = 1 := by
    rw [this] at l
    have : w.length * 1 = w.length * k := by omega
    exact (Nat.eq_of_mul_eq_mul_left (by omega) this).symm
  subst k1
  exact ⟨rfl, by rw [e, pw_succ, pw_zero, List.append_nil]⟩
/-- the root's length, as the program finds it -/
def rootN (w : W) : Nat := if w.length % (w.length - lb w) = 0 then w.length - lb w else w.length
theorem rootN_dvd (w : W) : rootN w ∣ w.length := by
  unfold rootN
  split
  · rename_i h
    exact Nat.dvd_of_mod_eq_zero h
  · exact Nat.dvd_refl _
theorem rootN_pos {w : W} (h : w ≠ []) : 0 < rootN w := by
  have := lb_lt h
  have := List.length_pos_iff.mpr h
  unfold rootN
  split <;> omega
theorem rootN_le {w : W} (h : w ≠ []) : rootN w ≤ w.length := Nat.le_of_dvd (List.length_pos_iff.mpr h) (rootN_dvd w)
theorem rootN_per (w : W) : Per (rootN w) w := by
  unfold rootN
  split
  · exact bor_per (lb_bor w)
  · exact per_len (Nat.le_refl _)
/-- no period is less than the program's step -/
theorem step_least {w : W} {p : Nat} (hp : 0 < p) (hl : p ≤ w.length) (h : Per p w) : w.length - lb w ≤ p := by
  have := lb_max (c := w.length - p) (by omega) (per_bor hl h)
  omega
/-- a period of the word that divides its length is a multiple of the root's -/
theorem root_div {w : W} (hw : w ≠ []) {d : Nat} (hd : 0 < d) (hv : d ∣ w.length) (h : Per d w) : rootN w ∣ d := by
  have n0 := List.length_pos_iff.mpr hw
  have dl := Nat.le_of_dvd n0 hv
  have lt := lb_lt hw
  have s := step_least hd dl h
  by_cases e : d = w.length
  · rw [e]
    exact rootN_dvd w
  · have two : d + d ≤ w.length := by
      obtain ⟨k, hk⟩ := hv
      have : k ≠ 0 := fun z => by subst z; omega
      have : k ≠ 1 := fun z => by subst z; omega
      have : d * 2 ≤ d * k := Nat.mul_le_mul_left d (by omega)
      omega
    have g := per_gcd (bor_per (lb_bor w)) h (by omega)
    have gp : 0 < Nat.gcd (w.length - lb w) d := Nat.gcd_pos_of_pos_right _ hd
    have g1 := step_least gp (Nat.le_trans (Nat.gcd_le_right _ hd) dl) g
    have g2 : Nat.gcd (w.length - lb w) d ∣ w.length - lb w := Nat.gcd_dvd_left _ _
    have g3 : Nat.gcd (w.length - lb w) d = w.length - lb w := Nat.le_antisymm (Nat.le_of_dvd (by omega) g2) g1
    have g4 : w.length - lb w ∣ d := by rw [← g3]; exact Nat.gcd_dvd_right _ _
    have : w.length % (w.length - lb w) = 0 := Nat.mod_eq_zero_of_dvd (Nat.dvd_trans g4 hv)
    unfold rootN
    rw [if_pos this]
    exact g4
theorem root_prim {w : W} (hw : w ≠ []) : Prim (w.take (rootN w)) := by
  have r0 := rootN_pos hw
  have rl := rootN_le hw
  have l : (w.take (rootN w)).length = rootN w := by rw [List.length_take]; omega
  refine ⟨fun z => by rw [z] at l; simp at l; omega, fun d hd hv h => ?_⟩
  rw [l] at hv ⊢
  -- a period of the root that divides it is one of the word
  have hw' : Per d w := fun i hi => by
    have mul : ∀ j, j < w.length → w[j]? = w[j % rootN w]? := fun j hj => by
      have := per_mul (rootN_per w) (j / rootN w) (j % rootN w) (by rw [Nat.mod_add_div]; exact hj)
      rw [Nat.mod_add_div] at this
      exact this.symm
    have inner : ∀ j, j < rootN w → w[j]? = w[j % d]? := fun j hj => by
      have := per_mul h (j / d) (j % d) (by rw [Nat.mod_add_div, l]; exact hj)
      rw [Nat.mod_add_div, List.getElem?_take_of_lt hj, List.getElem?_take_of_lt (by have := Nat.mod_le j d; omega)] at this
      exact this.symm
    rw [mul i (by omega), mul (i + d) hi, inner _ (Nat.mod_lt _ r0), inner ((i + d) % rootN w) (Nat.mod_lt _ r0)]
    congr 1
    rw [Nat.mod_mod_of_dvd _ hv, Nat.mod_mod_of_dvd _ hv, Nat.add_mod_right]
  exact Nat.dvd_antisymm hv (root_div hw hd (Nat.dvd_trans hv (rootN_dvd w)) hw')
theorem root_pw {w : W} (hw : w ≠ []) : w = pw (w.take (rootN w)) (w.length / rootN w) := per_pw (rootN_pos hw) (rootN_per w) (rootN_dvd w)
end WM

set_option Elab.async false
set_option linter.all false
set_option maxRecDepth 100000
set_option maxHeartbeats 4000000
namespace K03
open PySem PySem.Spec PyProof.Rows L2 CK
def topS (i : Nat) : Stmt := PySem.Challenge.pw_countscribe_k03_kept_words_of_any_length.main.body.getD i (.Pass ⟨0, 0, 0, 0⟩)
theorem sc_wall : FnScope ["k"] ["k"] (C8.fnScope (topS 0)) := C8.fnScope_by (by decide +kernel)
theorem sc_is_whole : FnScope ["value"] ["value"] (C8.fnScope (topS 9)) := C8.fnScope_by (by decide +kernel)
theorem sc_is_count : FnScope ["value"] ["value"] (C8.fnScope (topS 10)) := C8.fnScope_by (by decide +kernel)
theorem sc_is_within : FnScope ["value", "low", "high"] ["value", "low", "high"] (C8.fnScope (topS 11)) := C8.fnScope_by (by decide +kernel)
theorem sc_is_lettered : FnScope ["value", "most"] ["value", "most"] (C8.fnScope (topS 12)) := C8.fnScope_by (by decide +kernel)
theorem sc_need_within : FnScope ["value", "low", "high"] ["value", "low", "high"] (C8.fnScope (topS 13)) := C8.fnScope_by (by decide +kernel)
theorem sc_turned_word : FnScope ["word", "by", "at"] ["word", "by"] (C8.fnScope (topS 15)) := C8.fnScope_by (by decide +kernel)
theorem sc_is_kept_piece : FnScope ["value"] ["value"] (C8.fnScope (topS 20)) := C8.fnScope_by (by decide +kernel)
theorem sc_need_kept_pieces : FnScope ["value", "item", "many", "word", "_"] ["value"] (C8.fnScope (topS 21)) := C8.fnScope_by (by decide +kernel)
theorem sc_put_together : FnScope ["pieces", "ready", "word", "times"] ["pieces"] (C8.fnScope (topS 22)) := C8.fnScope_by (by decide +kernel)
theorem sc_ends_of : FnScope ["pieces", "ends", "total", "word", "times"] ["pieces"] (C8.fnScope (topS 23)) := C8.fnScope_by (by decide +kernel)
theorem sc_stretch_pieces : FnScope ["word", "low", "high", "front"] ["word", "low", "high"] (C8.fnScope (topS 24)) := C8.fnScope_by (by decide +kernel)
theorem sc_KeptWord___init__ : FnScope ["self", "pieces"] ["self", "pieces"] (C8.fnScope (inClass (topS 25) 0)) := C8.fnScope_by (by decide +kernel)
theorem sc_KeptWord_pieces : FnScope ["self"] ["self"] (C8.fnScope (inClass (topS 25) 1)) := C8.fnScope_by (by decide +kernel)
theorem sc_KeptWord_length : FnScope ["self"] ["self"] (C8.fnScope (inClass (topS 25) 2)) := C8.fnScope_by (by decide +kernel)
theorem sc_KeptWord_letter : FnScope ["self", "at", "index", "word", "times"] ["self", "at"] (C8.fnScope (inClass (topS 25) 3)) := C8.fnScope_by (by decide +kernel)
theorem sc_KeptWord_part : FnScope ["self", "low", "high"] ["self", "low", "high"] (C8.fnScope (inClass (topS 25) 4)) := C8.fnScope_by (by decide +kernel)
theorem sc_KeptWord_plain : FnScope ["self"] ["self"] (C8.fnScope (inClass (topS 25) 5)) := C8.fnScope_by (by decide +kernel)
theorem sc_piece_index : FnScope ["ends", "at", "low", "high", "middle"] ["ends", "at"] (C8.fnScope (topS 26)) := C8.fnScope_by (by decide +kernel)
theorem sc_stretch_of : FnScope ["pieces", "ends", "low", "high", "found", "word", "times", "end", "start"] ["pieces", "ends", "low", "high"] (C8.fnScope (topS 27)) := C8.fnScope_by (by decide +kernel)
theorem sc_kept_of : FnScope ["pieces", "made"] ["pieces"] (C8.fnScope (topS 28)) := C8.fnScope_by (by decide +kernel)
theorem sc_need_kept : FnScope ["value"] ["value"] (C8.fnScope (topS 29)) := C8.fnScope_by (by decide +kernel)
theorem sc_joined_kept : FnScope ["one", "other"] ["one", "other"] (C8.fnScope (topS 30)) := C8.fnScope_by (by decide +kernel)
theorem sc_mirrored_kept : FnScope ["kept", "word", "times"] ["kept"] (C8.fnScope (topS 31)) := C8.fnScope_by (by decide +kernel)
theorem sc_law_cell : FnScope ["_law_script", "_law_index"] ["_law_script", "_law_index"] (C8.fnScope (topS 33)) := C8.fnScope_by (by decide +kernel)
theorem sc_law_hash : FnScope ["_law_seed", "_law_index", "_law_mixed"] ["_law_seed", "_law_index"] (C8.fnScope (topS 34)) := C8.fnScope_by (by decide +kernel)
theorem sc_law_generator : FnScope ["_law_script", "_law_index", "_law_seed"] ["_law_script", "_law_index"] (C8.fnScope (topS 35)) := C8.fnScope_by (by decide +kernel)
theorem sc_law_random : FnScope ["_law_generator_here", "_law_bound", "_law_drawn", "_law_turn"] ["_law_generator_here", "_law_bound"] (C8.fnScope (topS 36)) := C8.fnScope_by (by decide +kernel)
theorem sc_law_letters : FnScope ["_law_generator_here", "_law_start", "_law_step", "_law_at"] ["_law_generator_here"] (C8.fnScope (topS 37)) := C8.fnScope_by (by decide +kernel)
theorem sc_law_word : FnScope ["_law_generator_here", "_law_letters_here", "_law_least", "_law_most", "_law_many", "_law_at"] ["_law_generator_here", "_law_letters_here", "_law_least", "_law_most"] (C8.fnScope (topS 38)) := C8.fnScope_by (by decide +kernel)
theorem sc_law_base : FnScope ["_law_generator_here", "_law_letters_here", "_law_word_here", "_law_at"] ["_law_generator_here", "_law_letters_here"] (C8.fnScope (topS 39)) := C8.fnScope_by (by decide +kernel)
theorem sc_law_count : FnScope ["_law_generator_here", "_law_great", "_law_kind"] ["_law_generator_here", "_law_great"] (C8.fnScope (topS 40)) := C8.fnScope_by (by decide +kernel)
theorem sc_law_pieces : FnScope ["_law_generator_here", "_law_letters_here", "_law_most", "_law_great", "_law_found", "_law_word_here", "_law_number", "_law_kind", "_law_by"] ["_law_generator_here", "_law_letters_here", "_law_most", "_law_great"] (C8.fnScope (topS 41)) := C8.fnScope_by (by decide +kernel)
theorem sc_law_tidied : FnScope ["_law_pieces_here", "_law_found", "_law_word_here", "_law_times", "_law_piece"] ["_law_pieces_here"] (C8.fnScope (topS 42)) := C8.fnScope_by (by decide +kernel)
theorem sc_law_long : FnScope ["_law_pieces_here", "_law_word_here", "_law_times"] ["_law_pieces_here"] (C8.fnScope (topS 43)) := C8.fnScope_by (by decide +kernel)
theorem sc_law_letter : FnScope ["_law_pieces_here", "_law_at", "_law_word_here", "_law_times"] ["_law_pieces_here", "_law_at"] (C8.fnScope (topS 44)) := C8.fnScope_by (by decide +kernel)
theorem sc_law_part : FnScope ["_law_pieces_here", "_law_low", "_law_high", "_law_found", "_law_start", "_law_word_here", "_law_times", "_law_end", "_law_one", "_law_other", "_law_ahead", "_law_at"] ["_law_pieces_here", "_law_low", "_law_high"] (C8.fnScope (topS 45)) := C8.fnScope_by (by decide +kernel)
theorem sc_law_places : FnScope ["_law_generator_here", "_law_pieces_here", "_law_found", "_law_start", "_law_long_here", "_law_word_here", "_law_times", "_law_at", "_law_turn"] ["_law_generator_here", "_law_pieces_here"] (C8.fnScope (topS 46)) := C8.fnScope_by (by decide +kernel)
theorem sc_law_letters_right : FnScope ["_law_kept", "_law_pieces_here", "_law_places_here", "_law_at"] ["_law_kept", "_law_pieces_here", "_law_places_here"] (C8.fnScope (topS 47)) := C8.fnScope_by (by decide +kernel)
theorem sc_law_parts_right : FnScope ["_law_generator_here", "_law_kept", "_law_pieces_here", "_law_places_here", "_law_turn", "_law_one", "_law_other", "_law_low", "_law_high", "_law_part_here", "_law_due", "_law_inner", "_law_at", "_law_start"] ["_law_generator_here", "_law_kept", "_law_pieces_here", "_law_places_here"] (C8.fnScope (topS 48)) := C8.fnScope_by (by decide +kernel)
theorem sc_law : FnScope ["_law_script", "_law_index", "_law_generator_here", "_law_letters_here", "_law_ones", "_law_others", "_law_one", "_law_other", "_law_places_here", "_law_both", "_law_back", "_law_long_here", "_law_turned", "_law_word_here", "_law_times", "_law_at", "_law_far"] ["_law_script"] (C8.fnScope (topS 49)) := C8.fnScope_by (by decide +kernel)
structure Txt (K : PySem.W.Frag) (mg : Str → Option Value) (C : Addr) : Prop where
  k_KeptWord : ClF K mg "KeptWord" C
  f_ends : NoAttr K C "_ends"
  f_pieces : NoAttr K C "_pieces"
  d_wall : DefF K mg "_wall" (topS 0) ["k"]
  d_is_whole : DefF K mg "is_whole" (topS 9) ["value"]
  d_is_count : DefF K mg "is_count" (topS 10) ["value"]
  d_is_within : DefF K mg "is_within" (topS 11) ["value", "low", "high"]
  d_is_lettered : DefF K mg "is_lettered" (topS 12) ["value", "most"]
  d_need_within : DefF K mg "need_within" (topS 13) ["value", "low", "high"]
  d_turned_word : DefF K mg "turned_word" (topS 15) ["word", "by"]
  d_is_kept_piece : DefF K mg "is_kept_piece" (topS 20) ["value"]
  d_need_kept_pieces : DefF K mg "need_kept_pieces" (topS 21) ["value"]
  d_put_together : DefF K mg "put_together" (topS 22) ["pieces"]
  d_ends_of : DefF K mg "ends_of" (topS 23) ["pieces"]
  d_stretch_pieces : DefF K mg "stretch_pieces" (topS 24) ["word", "low", "high"]
  d_KeptWord___init__ : MetF K C "__init__" "KeptWord.__init__" (inClass (topS 25) 0) ["self", "pieces"]
  d_KeptWord_pieces : MetF K C "pieces" "KeptWord.pieces" (inClass (topS 25) 1) ["self"]
  d_KeptWord_length : MetF K C "length" "KeptWord.length" (inClass (topS 25) 2) ["self"]
  d_KeptWord_letter : MetF K C "letter" "KeptWord.letter" (inClass (topS 25) 3) ["self", "at"]
  d_KeptWord_part : MetF K C "part" "KeptWord.part" (inClass (topS 25) 4) ["self", "low", "high"]
  d_KeptWord_plain : MetF K C "plain" "KeptWord.plain" (inClass (topS 25) 5) ["self"]
  d_piece_index : DefF K mg "piece_index" (topS 26) ["ends", "at"]
  d_stretch_of : DefF K mg "stretch_of" (topS 27) ["pieces", "ends", "low", "high"]
  d_kept_of : DefF K mg "kept_of" (topS 28) ["pieces"]
  d_need_kept : DefF K mg "need_kept" (topS 29) ["value"]
  d_joined_kept : DefF K mg "joined_kept" (topS 30) ["one", "other"]
  d_mirrored_kept : DefF K mg "mirrored_kept" (topS 31) ["kept"]
  d_law_cell : DefF K mg "_law_cell" (topS 33) ["_law_script", "_law_index"]
  d_law_hash : DefF K mg "_law_hash" (topS 34) ["_law_seed", "_law_index"]
  d_law_generator : DefF K mg "_law_generator" (topS 35) ["_law_script", "_law_index"]
  d_law_random : DefF K mg "_law_random" (topS 36) ["_law_generator_here", "_law_bound"]
  d_law_letters : DefF K mg "_law_letters" (topS 37) ["_law_generator_here"]
  d_law_word : DefF K mg "_law_word" (topS 38) ["_law_generator_here", "_law_letters_here", "_law_least", "_law_most"]
  d_law_base : DefF K mg "_law_base" (topS 39) ["_law_generator_here", "_law_letters_here"]
  d_law_count : DefF K mg "_law_count" (topS 40) ["_law_generator_here", "_law_great"]
  d_law_pieces : DefF K mg "_law_pieces" (topS 41) ["_law_generator_here", "_law_letters_here", "_law_most", "_law_great"]
  d_law_tidied : DefF K mg "_law_tidied" (topS 42) ["_law_pieces_here"]
  d_law_long : DefF K mg "_law_long" (topS 43) ["_law_pieces_here"]
  d_law_letter : DefF K mg "_law_letter" (topS 44) ["_law_pieces_here", "_law_at"]
  d_law_part : DefF K mg "_law_part" (topS 45) ["_law_pieces_here", "_law_low", "_law_high"]
  d_law_places : DefF K mg "_law_places" (topS 46) ["_law_generator_here", "_law_pieces_here"]
  d_law_letters_right : DefF K mg "_law_letters_right" (topS 47) ["_law_kept", "_law_pieces_here", "_law_places_here"]
  d_law_parts_right : DefF K mg "_law_parts_right" (topS 48) ["_law_generator_here", "_law_kept", "_law_pieces_here", "_law_places_here"]
  d_law : DefF K mg "law" (topS 49) ["_law_script"]
  m_bool : mg "bool" = none
  m_int : mg "int" = none
  m_isinstance : mg "isinstance" = none
  m_len : mg "len" = none
  m_list : mg "list" = none
  m_max : mg "max" = none
  m_min : mg "min" = none
  m_range : mg "range" = none
  m_reversed : mg "reversed" = none
  m_sorted : mg "sorted" = none
  m_str : mg "str" = none
  m_sum : mg "sum" = none
  m_tuple : mg "tuple" = none
  m_zip : mg "zip" = none
  k_MOST_KEPT_LETTERS : ∃ u, mg "MOST_KEPT_LETTERS" = some u ∧ RelV (.int 10000) u
  k_MOST_KEPT_PIECES : ∃ u, mg "MOST_KEPT_PIECES" = some u ∧ RelV (.int 5000) u
  k_MOST_KEPT_WORD : ∃ u, mg "MOST_KEPT_WORD" = some u ∧ RelV (.int 2000) u
end K03

set_option linter.all false
/-! kept words: lists of pieces (word, number), what they write, their tidy form, their parts (no Python here) -/
namespace KM
open WM
abbrev Pc := List Nat × Nat
def wr : List Pc → List Nat
  | [] => []
  | p :: r => pw p.1 p.2 ++ wr r
def plen (p : Pc) : Nat := p.1.length * p.2
def long (ps : List Pc) : Nat := (ps.map plen).sum
theorem wr_len : ∀ ps, (wr ps).length = long ps
  | [] => rfl
  | p :: r => by
    rw [wr, List.length_append, pw_len, wr_len r]
    simp [long, plen]
theorem wr_app : ∀ a b, wr (a ++ b) = wr a ++ wr b
  | [], b => rfl
  | p :: r, b => by rw [List.cons_append, wr, wr, wr_app r b, List.append_assoc]
theorem pw_nil (n : Nat) : pw [] n = [] := List.length_eq_zero_iff.mp (by rw [pw_len]; simp)
/-! ### tidy lists -/
def stepT (acc : List Pc) (p : Pc) : List Pc :=
  if p.1 = [] ∨ p.2 = 0 then acc
  else match acc.getLast? with
    | some q => if q.1 = p.1 then acc.dropLast ++ [(p.1, p.2 + q.2)] else acc ++ [p]
    | none => acc ++ [p]
def tidy (ps : List Pc) : List Pc := ps.foldl stepT []
theorem last_split {α : Type} {l : List α} {q : α} (h : l.getLast? = some q) : l = l.dropLast ++ [q] := by
  obtain ⟨ne, e⟩ := List.getLast?_eq_some_iff.mp h
  subst e
  simp
theorem wr_stepT (acc : List Pc) (p : Pc) : wr (stepT acc p) = wr acc ++ pw p.1 p.2 := by
  unfold stepT
  split
  · next h =>
    rcases h with h | h
    · rw [h, pw_nil, List.append_nil]
    · rw [h, pw_zero, List.append_nil]
  · split
    · next q hq =>
      split
      · next e =>
        have s := last_split hq
        have : wr acc = wr acc.dropLast ++ pw q.1 q.2 := by
          conv => lhs; rw [s]
          rw [wr_app]
          simp [wr]
        rw [this, wr_app, wr, wr, List.append_nil, List.append_assoc, ← e, Nat.add_comm, pw_add]
      · rw [wr_app, wr, wr, List.append_nil]
    · rw [wr_app, wr, wr, List.append_nil]
theorem wr_foldT : ∀ (ps acc : List Pc), wr (ps.foldl stepT acc) = wr acc ++ wr ps
  | [], acc => by simp [wr]
  | p :: r, acc => by rw [List.foldl_cons, wr_foldT r, wr_stepT, wr, List.append_assoc]
theorem wr_tidy (ps : List Pc) : wr (tidy ps) = wr ps := wr_foldT ps []
/-- neighbours differ, nothing empty -/
inductive Ty : List Pc → Prop
  | nil : Ty []
  | one {p : Pc} : p.1 ≠ [] → p.2 ≠ 0 → Ty [p]
  | snoc {l : List Pc} {q p : Pc} : Ty (l ++ [q]) → p.1 ≠ [] → p.2 ≠ 0 → q.1 ≠ p.1 → Ty (l ++ [q] ++ [p])
theorem Ty.init {l : List Pc} {p : Pc} (h : Ty (l ++ [p])) : Ty l := by
  generalize e : l ++ [p] = m at h
  cases h with
  | nil => simp at e
  | one a b =>
    have : l = [] := by
      have := congrArg List.length e
      simp at this
      exact this
    subst this
    exact .nil
  | snoc a b c d =>
    have := (List.append_inj' e rfl).1
    subst this
    exact a
theorem Ty.last {l : List Pc} {p : Pc} (h : Ty (l ++ [p])) : p.1 ≠ [] ∧ p.2 ≠ 0 := by
  generalize e : l ++ [p] = m at h
  cases h with
  | nil => simp at e
  | one a b =>
    rename_i q
    have : p = q := by
      cases l with
      | nil => simpa using e
      | cons x r =>
        have := congrArg List.length e
        simp at this
    subst this
    exact ⟨a, b⟩
  | snoc a b c d =>
    have := (List.append_inj' e rfl).2
    simp at this
    subst this
    exact ⟨b, c⟩
theorem Ty.step {acc : List Pc} (h : Ty acc) (p : Pc) : Ty (stepT acc p) := by
  unfold stepT
  split
  · exact h
  · next hp =>
    have hp' : p.1 ≠ [] ∧ p.2 ≠ 0 := ⟨fun z => hp (.inl z), fun z => hp (.inr z)⟩
    split
    · next q hq =>
      have s := last_split hq
      rw [s] at h
      split
      · next e =>
        generalize acc.dropLast = l at h
        generalize em : l ++ [q] = m at h
        cases h with
        | nil => simp at em
        | one a b =>
          have : l = [] := by
            have := congrArg List.length em
            simp at this
            exact this
          subst this
          exact .one hp'.1 (by show p.2 + q.2 ≠ 0; omega)
        | snoc a b c d =>
          rename_i l' q' p'
          have e1 := (List.append_inj' em rfl).1
          have e2 := (List.append_inj' em rfl).2
          simp at e2
          subst e1 e2
          exact .snoc a hp'.1 (by show p.2 + q.2 ≠ 0; omega) (by show q'.1 ≠ p.1; rw [← e]; exact d)
      · next e =>
        have : acc ++ [p] = acc.dropLast ++ [q] ++ [p] := by rw [← s]
        rw [this]
        exact .snoc h hp'.1 hp'.2 e
    · next hq =>
      have : acc = [] := List.getLast?_eq_none_iff.mp hq
      subst this
      exact .one hp'.1 hp'.2
theorem Ty.fold : ∀ (ps : List Pc) {acc : List Pc}, Ty acc → Ty (ps.foldl stepT acc)
  | [], _, h => h
  | p :: r, _, h => Ty.fold r (h.step p)
theorem ty_tidy (ps : List Pc) : Ty (tidy ps) := Ty.fold ps .nil
theorem tidy_snoc (ps : List Pc) (p : Pc) : tidy (ps ++ [p]) = stepT (tidy ps) p := by simp [tidy, List.foldl_append]
theorem tidy_id {ps : List Pc} (h : Ty ps) : tidy ps = ps := by
  induction h with
  | nil => rfl
  | one a b => simp [tidy, stepT, a, b]
  | snoc h a b c ih =>
    rw [tidy_snoc, ih]
    unfold stepT
    rw [if_neg (by simp [a, b])]
    simp [c]
theorem Ty.all {ps : List Pc} (h : Ty ps) : ∀ p ∈ ps, p.1 ≠ [] ∧ p.2 ≠ 0 := by
  induction h with
  | nil => simp
  | one a b => simp; exact ⟨a, b⟩
  | snoc h a b c ih =>
    intro p hp
    rcases List.mem_append.mp hp with z | z
    · exact ih p z
    · rw [List.mem_singleton.mp z]
      exact ⟨a, b⟩
/-! ### the opposite order -/
def mir (ps : List Pc) : List Pc := ps.reverse.map fun p => (p.1.reverse, p.2)
theorem pw_rev (w : List Nat) : ∀ n, pw w.reverse n = (pw w n).reverse
  | 0 => rfl
  | n + 1 => by
    have : pw w (n + 1) = pw w n ++ w := by rw [pw_add]; simp [pw]
    rw [this, pw_succ, pw_rev w n, List.reverse_append]
theorem wr_mir : ∀ ps, wr (mir ps) = (wr ps).reverse
  | [] => rfl
  | p :: r => by
    have : mir (p :: r) = mir r ++ [(p.1.reverse, p.2)] := by simp [mir]
    rw [this, wr_app, wr_mir r, wr, wr, wr, List.append_nil, pw_rev, List.reverse_append]
/-- the same, from the other side -/
theorem Ty.cons {l : List Pc} {p q : Pc} (h : Ty (q :: l)) (a : p.1 ≠ []) (b : p.2 ≠ 0) (c : p.1 ≠ q.1) : Ty (p :: q :: l) := by
  generalize e : q :: l = m at h
  induction h generalizing q l with
  | nil => cases e
  | one a1 b1 =>
    cases e
    exact .snoc (l := []) (.one a b) a1 b1 c
  | snoc h a1 b1 c1 ih =>
    rename_i l' q' p'
    cases l' with
    | nil =>
      cases e
      exact .snoc (l := [p]) (.snoc (l := []) (.one a b) h.last.1 h.last.2 c) a1 b1 c1
    | cons x r =>
      cases e
      have := ih c rfl
      exact .snoc (l := p :: q :: r) this a1 b1 c1
theorem ty_mir {ps : List Pc} (h : Ty ps) : Ty (mir ps) := by
  induction h with
  | nil => exact .nil
  | one a b => exact .one (by simpa using a) b
  | snoc h a b c ih =>
    rename_i l q p
    have e : mir (l ++ [q] ++ [p]) = (p.1.reverse, p.2) :: (q.1.reverse, q.2) :: mir l := by simp [mir]
    have e2 : mir (l ++ [q]) = (q.1.reverse, q.2) :: mir l := by simp [mir]
    rw [e]
    rw [e2] at ih
    exact ih.cons (by simpa using a) b (by intro z; exact c (List.reverse_inj.mp z).symm)
/-! ### ends and letters -/
def endsF (s : Nat) : List Pc → List Nat
  | [] => []
  | p :: r => (s + plen p) :: endsF (s + plen p) r
theorem endsF_len : ∀ (ps : List Pc) (s : Nat), (endsF s ps).length = ps.length
  | [], _ => rfl
  | p :: r, s => by simp [endsF, endsF_len r]
theorem endsF_app : ∀ (a b : List Pc) (s : Nat), endsF s (a ++ b) = endsF s a ++ endsF (s + long a) b
  | [], b, s => by simp [endsF, long]
  | p :: r, b, s => by
    rw [List.cons_append, endsF, endsF, endsF_app r b, List.cons_append]
    simp [long, Nat.add_assoc]
/-- the law's way to a letter -/
def let1 : List Pc → Nat → Option Nat
  | [], _ => none
  | p :: r, i => if i < plen p then p.1[i % p.1.length]? else let1 r (i - plen p)
theorem let1_eq : ∀ (ps : List Pc) (i : Nat), let1 ps i = (wr ps)[i]?
  | [], i => by simp [let1, wr]
  | p :: r, i => by
    have pl : (pw p.1 p.2).length = plen p := pw_len _ _
    rw [let1, wr]
    split
    · next h =>
      have ne : p.1 ≠ [] := fun z => by simp [plen, z] at h
      rw [List.getElem?_append_left (by omega), pw_get ne _ _ h]
    · next h => rw [List.getElem?_append_right (by omega), let1_eq r, pl]
/-- a letter by the piece it lies in -/
theorem let_at {ps : List Pc} {k s e i : Nat} {p : Pc} (hp : ps[k]? = some p) (he : (endsF 0 ps)[k]? = some e) (h1 : i < e) (h0 : e - plen p ≤ i) (hle : plen p ≤ e) : (wr ps)[i]? = p.1[(i - (e - plen p)) % p.1.length]? ∧ p.1 ≠ [] := by
  have hk := (List.getElem?_eq_some_iff.mp hp).1
  have s1 : ps = ps.take k ++ (p :: ps.drop (k + 1)) := by
    have := List.getElem_cons_drop hk
    have e2 := (List.getElem?_eq_some_iff.mp hp).2
    rw [e2] at this
    rw [this, List.take_append_drop]
  have l1 : (ps.take k).length = k := by rw [List.length_take]; omega
  have ee : e = long (ps.take k) + plen p := by
    rw [s1, endsF_app, List.getElem?_append_right (by rw [endsF_len, l1]; exact Nat.le_refl _), endsF_len, l1, Nat.sub_self] at he
    simp [endsF] at he
    omega
  have ne : p.1 ≠ [] := fun z => by simp [plen, z] at h0 ee; omega
  refine ⟨?_, ne⟩
  rw [s1, wr_app, wr, List.getElem?_append_right (by rw [wr_len]; omega), wr_len, List.getElem?_append_left (by rw [pw_len]; show _ < plen p; omega), pw_get ne _ _ (by show _ < plen p; omega)]
  congr 2
  omega
/-! ### parts -/
def rot (w : List Nat) (k : Nat) : List Nat := w.drop k ++ w.take k
theorem rot_len (w : List Nat) (k : Nat) : (rot w k).length = w.length := by
  simp [rot]
  omega
theorem rot_get {w : List Nat} {k j : Nat} (hk : k < w.length) (hj : j < w.length) : (rot w k)[j]? = w[(k + j) % w.length]? := by
  unfold rot
  by_cases h : j < w.length - k
  · rw [List.getElem?_append_left (by simp; omega), List.getElem?_drop, Nat.mod_eq_of_lt (by omega)]
  · rw [List.getElem?_append_right (by simp; omega), List.length_drop, List.getElem?_take_of_lt (by omega), Nat.mod_eq_sub_mod (by omega), Nat.mod_eq_of_lt (by omega)]
    congr 1
    omega
def two (w : List Nat) (a b : Nat) : List Pc := [(rot w (a % w.length), (b - a) / w.length), ((rot w (a % w.length)).take ((b - a) % w.length), 1)]
theorem two_get {w : List Nat} (ne : w ≠ []) (a b : Nat) (j : Nat) (hj : j < b - a) : (wr (two w a b))[j]? = w[(a + j) % w.length]? := by
  have n0 := List.length_pos_iff.mpr ne
  have ha := Nat.mod_lt a n0
  have rl := rot_len w (a % w.length)
  have rne : rot w (a % w.length) ≠ [] := fun z => by rw [z] at rl; simp at rl; omega
  have e : wr (two w a b) = pw (rot w (a % w.length)) ((b - a) / w.length) ++ (rot w (a % w.length)).take ((b - a) % w.length) := by
    simp [two, wr, pw]
  have hd := Nat.div_add_mod (b - a) w.length
  have pl := pw_len (rot w (a % w.length)) ((b - a) / w.length)
  rw [rl] at pl
  rw [e]
  have key : ∀ i, (rot w (a % w.length))[i % w.length]? = w[(a + i) % w.length]? := fun i => by
    rw [rot_get ha (Nat.mod_lt i n0), ← Nat.add_mod]
  by_cases h : j < w.length * ((b - a) / w.length)
  · rw [List.getElem?_append_left (by omega), pw_get rne _ _ (by rw [rl]; exact h), rl, key]
  · rw [List.getElem?_append_right (by omega), pl, List.getElem?_take_of_lt (by omega)]
    have h2 : j - w.length * ((b - a) / w.length) < w.length := by
      have := Nat.mod_lt (b - a) n0
      omega
    have := key j
    rw [← this]
    congr 1
    have : j % w.length = (j - w.length * ((b - a) / w.length)) % w.length := (Nat.sub_mul_mod (by omega)).symm
    rw [this, Nat.mod_eq_of_lt h2]
theorem two_len {w : List Nat} (ne : w ≠ []) (a b : Nat) : (wr (two w a b)).length = b - a := by
  have n0 := List.length_pos_iff.mpr ne
  have rl := rot_len w (a % w.length)
  have hd := Nat.div_add_mod (b - a) w.length
  have := Nat.mod_lt (b - a) n0
  simp [two, wr_len, long, plen, rl]
  omega
def cut1 (lo hi s : Nat) (p : Pc) : List Pc := if s < hi ∧ lo < s + plen p then two p.1 (lo - s) (min hi (s + plen p) - s) else []
def cutF (lo hi : Nat) (s : Nat) : List Pc → List Pc
  | [] => []
  | p :: r => cut1 lo hi s p ++ cutF lo hi (s + plen p) r
theorem wr_cut1 {lo hi s : Nat} {p : Pc} (ne : p.1 ≠ []) : wr (cut1 lo hi s p) = ((pw p.1 p.2).take (hi - s)).drop (lo - s) := by
  have pl : (pw p.1 p.2).length = plen p := pw_len _ _
  unfold cut1
  split
  · next h =>
    have e0 : min hi (s + plen p) - s = min (hi - s) (plen p) := by omega
    rw [e0]
    have l1 := two_len ne (lo - s) (min (hi - s) (plen p))
    have l2 : (((pw p.1 p.2).take (hi - s)).drop (lo - s)).length = min (hi - s) (plen p) - (lo - s) := by simp [pl]
    refine List.ext_getElem? fun j => ?_
    by_cases hj : j < min (hi - s) (plen p) - (lo - s)
    · rw [two_get ne _ _ _ hj, List.getElem?_drop, List.getElem?_take_of_lt (by omega), pw_get ne _ _ (by show _ < plen p; omega)]
    · rw [List.getElem?_eq_none (by omega), List.getElem?_eq_none (by omega)]
  · next h =>
    symm
    refine List.drop_eq_nil_of_le ?_
    rw [List.length_take, pl]
    omega
theorem wr_cutF {lo hi : Nat} : ∀ (ps : List Pc) (s : Nat), (∀ p ∈ ps, p.1 ≠ []) → wr (cutF lo hi s ps) = ((wr ps).take (hi - s)).drop (lo - s)
  | [], s, _ => by simp [cutF, wr]
  | p :: r, s, h => by
    have pl : (pw p.1 p.2).length = plen p := pw_len _ _
    rw [cutF, wr_app, wr_cut1 (h p List.mem_cons_self), wr_cutF r _ (fun q hq => h q (List.mem_cons_of_mem _ hq)), wr, List.take_append, List.drop_append, pl, List.length_take, pl,
      show hi - (s + plen p) = hi - s - plen p by omega]
    congr 1
    by_cases z : hi - s ≤ plen p
    · rw [show hi - s - plen p = 0 by omega]
      simp
    · congr 1
      omega
def part (ps : List Pc) (lo hi : Nat) : List Pc := tidy (cutF lo hi 0 ps)
theorem wr_part {ps : List Pc} {lo hi : Nat} (h : ∀ p ∈ ps, p.1 ≠ []) : wr (part ps lo hi) = ((wr ps).take hi).drop lo := by
  unfold part
  rw [wr_tidy, wr_cutF ps 0 h, Nat.sub_zero, Nat.sub_zero]
theorem part_len {ps : List Pc} {lo hi : Nat} (h : ∀ p ∈ ps, p.1 ≠ []) (hh : hi ≤ long ps) : long (part ps lo hi) = hi - lo := by
  rw [← wr_len, wr_part h, List.length_drop, List.length_take, wr_len]
  omega
theorem part_get {ps : List Pc} {lo hi i : Nat} (h : ∀ p ∈ ps, p.1 ≠ []) (hi' : i < hi - lo) : (wr (part ps lo hi))[i]? = (wr ps)[lo + i]? := by
  rw [wr_part h, List.getElem?_drop, List.getElem?_take_of_lt (by omega)]
/-- the whole of it -/
theorem cutF_all : ∀ (ps : List Pc) (s hi : Nat), (∀ p ∈ ps, p.1 ≠ [] ∧ p.2 ≠ 0) → s + long ps ≤ hi → ∀ acc, (cutF 0 hi s ps).foldl stepT acc = ps.foldl stepT acc
  | [], _, _, _, _, _ => rfl
  | p :: r, s, hi, h, hl, acc => by
    have hp := h p List.mem_cons_self
    have n0 := List.length_pos_iff.mpr hp.1
    have p0 : 0 < plen p := Nat.mul_pos n0 (Nat.pos_of_ne_zero hp.2)
    have ll : long (p :: r) = plen p + long r := by simp [long]
    have e : cut1 0 hi s p = [p, ([], 1)] := by
      unfold cut1
      rw [if_pos ⟨by omega, by omega⟩, show min hi (s + plen p) - s = plen p by omega]
      unfold two
      have e1 : plen p / p.1.length = p.2 := Nat.mul_div_cancel_left _ n0
      have e2 : plen p % p.1.length = 0 := Nat.mul_mod_right _ _
      rw [Nat.zero_sub, Nat.sub_zero, Nat.zero_mod, e1, e2]
      simp [rot]
    rw [cutF, e, List.foldl_append, List.foldl_cons, List.foldl_cons, List.foldl_nil, List.foldl_cons, cutF_all r _ hi (fun q hq => h q (List.mem_cons_of_mem _ hq)) (by omega)]
    congr 1
theorem part_all {ps : List Pc} (h : Ty ps) : part ps 0 (long ps) = ps := by
  unfold part tidy
  rw [cutF_all ps 0 _ h.all (by omega)]
  exact tidy_id h
end KM

set_option Elab.async false
set_option linter.all false
set_option maxRecDepth 100000
set_option maxHeartbeats 2000000
namespace K03
open PySem PySem.Spec PyProof.Rows L2 CK SX KM
/-! ### letters -/
def Low (w : List Nat) : Prop := ∀ c ∈ w, 97 ≤ c ∧ c ≤ 122
theorem low_cases {c : Nat} (h : 97 ≤ c ∧ c ≤ 122) : Unicode.isAlpha c = true ∧ Unicode.isLower c = true ∧ (Unicode.isUpper c || Unicode.isTitle c) = false := by
  have : c ∈ List.range' 97 26 := by
    rw [List.mem_range']
    exact ⟨c - 97, by omega, by omega⟩
  have all : (List.range' 97 26).all (fun c => Unicode.isAlpha c && Unicode.isLower c && !(Unicode.isUpper c || Unicode.isTitle c)) = true := by decide +kernel
  have := List.all_eq_true.mp all c this
  simp only [Bool.and_eq_true, Bool.not_eq_true'] at this
  exact ⟨this.1.1, this.1.2, this.2⟩
theorem low_ascii {w : List Nat} (h : Low w) : Txt.isascii (S w) = true := by
  unfold Txt.isascii
  rw [← Array.all_toList, List.all_eq_true]
  exact fun c hc => decide_eq_true (by have := h c hc; omega)
theorem low_alpha {w : List Nat} (h : Low w) (ne : w ≠ []) : Txt.isalpha (S w) = true := by
  unfold Txt.isalpha
  rw [← Array.all_toList, S_len, decide_eq_true (List.length_pos_iff.mpr ne), Bool.true_and, List.all_eq_true]
  exact fun c hc => (low_cases (h c hc)).1
theorem low_lower {w : List Nat} (h : Low w) (ne : w ≠ []) : Txt.islower (S w) = true := by
  unfold Txt.islower
  rw [← Array.any_toList, ← Array.any_toList, Bool.and_eq_true]
  constructor
  · obtain ⟨c, hc⟩ := List.exists_mem_of_ne_nil w ne
    exact List.any_eq_true.mpr ⟨c, hc, (low_cases (h c hc)).2.1⟩
  · rw [Bool.not_eq_true', List.any_eq_false]
    exact fun c hc => by rw [(low_cases (h c hc)).2.2]; exact Bool.false_ne_true
section
variable {P : Program} {w : World} {K : PySem.W.Frag} {mg : Str → Option Value} {base : Heap} {C : Addr}
/-! ### checks -/
def sp_is_whole : Sp := fun vs H Q _ => ∃ v, vs = [v] ∧ Kn H v ∧ Q (.bl (isW v)) H
theorem c_is_whole (T : Txt K mg C) : C8.Cal P w K mg base 1 "is_whole" sp_is_whole [] := by
  refine calF T.d_is_whole sc_is_whole (fun vs H Q E h => ?_) (fun f cdv A outer s H vs Q E hr h => ?_)
  · obtain ⟨v, rfl, _⟩ := h; rfl
  · obtain ⟨v, rfl, k, q⟩ := h
    refine ⟨_, (pss_one (ps_ret (pe_and (pe_callB call_isK (by rfl) T.m_isinstance (by decide +kernel) (pa_cons (pv 0) (pa_cons (pe_bltn (v := .ty "int") (by rfl) T.m_int (by decide +kernel) rfl) pa_nil))) (pe_one (pe_not (pe_callB call_isK (by rfl) T.m_isinstance (by decide +kernel) (pa_cons (pv 0) (pa_cons (pe_bltn (v := .ty "bool") (by rfl) T.m_bool (by decide +kernel) rfl) pa_nil)))))))), ?_⟩
    refine ⟨v, rfl, v, "int", _, rfl, k, kit_int k, _, rfl, ite2 (fun e => ?_) (fun e => ?_)⟩
    · refine ⟨v, rfl, v, "bool", _, rfl, k, kit_bool k, _, rfl, ?_⟩
      rw [show (!isBo v) = isW v by cases v <;> first | rfl | (exact absurd e Bool.false_ne_true)]
      exact q
    · rw [show false = isW v by cases v <;> first | rfl | (exact absurd rfl e)]
      exact q
def sp_is_count : Sp := fun vs H Q _ => ∃ v, vs = [v] ∧ Kn H v ∧ Q (.bl (isC v)) H
theorem c_is_count (T : Txt K mg C) : C8.Cal P w K mg base 2 "is_count" sp_is_count [] := by
  refine calF T.d_is_count sc_is_count (fun vs H Q E h => ?_) (fun f cdv A outer s H vs Q E hr h => ?_)
  · obtain ⟨v, rfl, _⟩ := h; rfl
  · obtain ⟨v, rfl, k, q⟩ := h
    refine ⟨_, (pss_one (ps_ret (pe_and (C8.pe_c (c_is_whole T) hr (by decide) (by rfl) (pa_cons (pv 0) pa_nil)) (pe_one (pe_cmpR op_ge (pv 0) pe_int (nomark _)))))), ?_⟩
    refine ⟨v, rfl, v, rfl, k, _, rfl, ite2 (fun e => ?_) (fun e => ?_)⟩
    · cases v <;> first | (exact absurd e Bool.false_ne_true) | exact ⟨_, rfl, _, 0, rfl, rfl, q⟩
    · rw [show false = isC v by cases v <;> first | rfl | (exact absurd rfl e)]
      exact q
def sp_is_within : Sp := fun vs H Q _ => ∃ i lo hi : Int, vs = [.int i, .int lo, .int hi] ∧ Q (.bl (decide (lo ≤ i) && decide (i ≤ hi))) H
theorem c_is_within (T : Txt K mg C) : C8.Cal P w K mg base 2 "is_within" sp_is_within [] := by
  refine calF T.d_is_within sc_is_within (fun vs H Q E h => ?_) (fun f cdv A outer s H vs Q E hr h => ?_)
  · obtain ⟨i, lo, hi, rfl, _⟩ := h; rfl
  · obtain ⟨i, lo, hi, rfl, q⟩ := h
    refine ⟨_, (pss_one (ps_ret (pe_and (C8.pe_c (c_is_whole T) hr (by decide) (by rfl) (pa_cons (pv 0) pa_nil)) (pe_one (pe_chain op_le op_le (pv 1) (pv 0) (pv 2)))))), ?_⟩
    refine ⟨.int i, rfl, .int i, rfl, .int i, _, rfl, iteT ?_⟩
    refine ⟨_, rfl, _, rfl, lo, i, rfl, rfl, _, rfl, ite2 (fun e => ?_) (fun e => ?_)⟩
    · refine ⟨_, rfl, i, hi, rfl, rfl, ?_⟩
      rw [e, Bool.true_and] at q
      exact q
    · rw [Bool.not_eq_true] at e
      rw [e, Bool.false_and] at q
      exact q
def sp_need_within : Sp := fun vs H Q _ => ∃ i lo hi : Int, vs = [.int i, .int lo, .int hi] ∧ lo ≤ i ∧ i ≤ hi ∧ Q .non H
theorem c_need_within (T : Txt K mg C) : C8.Cal P w K mg base 3 "need_within" sp_need_within [] := by
  refine calF T.d_need_within sc_need_within (fun vs H Q E h => ?_) (fun f cdv A outer s H vs Q E hr h => ?_)
  · obtain ⟨i, lo, hi, rfl, _⟩ := h; rfl
  · obtain ⟨i, lo, hi, rfl, h1, h2, q⟩ := h
    refine ⟨_, (pss_one (ps_if (pt_not (pt_val (C8.pe_c (c_is_within T) hr (by decide) (by rfl) (pa_cons (pv 0) (pa_cons (pv 1) (pa_cons (pv 2) pa_nil))))))
    (pss_one ps_never)
    pss_nil)), ?_⟩
    refine ⟨_, rfl, _, rfl, _, rfl, i, lo, hi, rfl, _, rfl, ?_⟩
    rw [decide_eq_true h1, decide_eq_true h2]
    exact iteF q
theorem len_line {w : List Nat} (h : w.length ≤ 1000) : (S w).length ≤ sizeLine := by rw [S_len, sizeLine_eq]; omega
def sp_is_lettered : Sp := fun vs H Q _ => ∃ (z : List Nat) (m : Int), vs = [.str (S z), .int m] ∧ z.length ≤ 1000 ∧ (z.length : Int) ≤ m ∧ Low z ∧ Q (.bl true) H
theorem S_nil {z : List Nat} (h : (S z : Str) = "") : z = [] := by
  have := congrArg Str.length h
  rw [S_len] at this
  exact List.length_eq_zero_iff.mp this
theorem c_is_lettered (T : Txt K mg C) : C8.Cal P w K mg base 1 "is_lettered" sp_is_lettered [] := by
  refine calF T.d_is_lettered sc_is_lettered (fun vs H Q E h => ?_) (fun f cdv A outer s H vs Q E hr h => ?_)
  · obtain ⟨_, _, rfl, _⟩ := h; rfl
  · obtain ⟨z, m, rfl, hl, hm, lw, q⟩ := h
    refine ⟨_, (pss_cons (ps_if (PW.pt (pw_or (pt_not (pt_val (pe_callB call_isK (by rfl) T.m_isinstance (by decide +kernel) (pa_cons (pv 0) (pa_cons (pe_bltn (v := .ty "str") (by rfl) T.m_str (by decide +kernel) rfl) pa_nil))))) (pw_or1 (pt_cmpR op_gt (pe_callB call_len_str (by rfl) T.m_len (by decide +kernel) (pa_cons (pv 0) pa_nil)) (pv 1) (nomark _)))))
    (pss_one (ps_ret pe_bl))
    pss_nil)
    (pss_one (ps_ret (pe_or (pe_cmpR op_eq (pv 0) pe_str (nomark _)) (pe_one (pe_and (pe_m0 PySem.F.slot_str_isascii PySem.F.type_str_isascii mt_isascii (pv 0)) (pe_and (pe_m0 PySem.F.slot_str_isalpha PySem.F.type_str_isalpha mt_isalpha (pv 0)) (pe_one (pe_m0 PySem.F.slot_str_islower PySem.F.type_str_islower mt_islower (pv 0)))))))))), ?_⟩
    refine ⟨_, rfl, .str (S z), "str", true, rfl, .str _, by show kitB "str" "str" = some true; decide +kernel, _, rfl, iteF ?_⟩
    refine ⟨_, rfl, S z, rfl, len_line hl, _, rfl, _, m, rfl, rfl, _, rfl, ?_⟩
    rw [S_len, decide_eq_false (by omega)]
    refine iteF ⟨_, rfl, rfl, _, rfl, ite2 (fun e => q) fun e => ?_⟩
    have ne : z ≠ [] := fun y => e (by rw [y]; decide +kernel)
    refine ⟨_, rfl, ⟨_, rfl⟩, _, rfl, rfl, trivial, _, rfl, ?_⟩
    rw [low_ascii lw]
    refine iteT ⟨_, rfl, ⟨_, rfl⟩, _, rfl, rfl, trivial, _, rfl, ?_⟩
    rw [low_alpha lw ne]
    refine iteT ⟨_, rfl, ⟨_, rfl⟩, _, rfl, rfl, trivial, ?_⟩
    rw [low_lower lw ne]
    exact q
end
end K03

set_option Elab.async false
set_option linter.all false
set_option maxRecDepth 100000
set_option maxHeartbeats 2000000
namespace K03
open PySem PySem.Spec PyProof.Rows L2 CK SX KM
/-! ### pieces in the heap -/
inductive Pcs (H : Hp) : List V → List Pc → Prop
  | nil : Pcs H [] []
  | cons {a : Addr} {vs : List V} {p : Pc} {ps : List Pc} : H a = some (.tup [.str (S p.1), .int p.2]) → Pcs H vs ps → Pcs H (.ref a :: vs) (p :: ps)
theorem Pcs.mono {H H' : Hp} {vs : List V} {ps : List Pc} (h : Pcs H vs ps) (s : ∀ a xs, H a = some (.tup xs) → H' a = some (.tup xs)) : Pcs H' vs ps := by
  induction h with
  | nil => exact .nil
  | cons e _ ih => exact .cons (s _ _ e) ih
theorem Pcs.same {H H' : Hp} {vs : List V} {ps : List Pc} (h : Pcs H vs ps) (s : Same H H') : Pcs H' vs ps := h.mono fun a xs e => s _ _ e
theorem Pcs.upd {H : Hp} {vs : List V} {ps : List Pc} {l : Addr} {xs ys : List V} (h : Pcs H vs ps) (hl : H l = some (.lst xs)) : Pcs (upd H l (.lst ys)) vs ps :=
  h.mono fun a zs e => by
    rw [upd_ne (fun z => by rw [z, hl] at e; cases e)]
    exact e
theorem Pcs.len {H : Hp} {vs : List V} {ps : List Pc} (h : Pcs H vs ps) : vs.length = ps.length := by
  induction h with
  | nil => rfl
  | cons _ _ ih => simp [ih]
theorem Pcs.app {H : Hp} {vs us : List V} {ps qs : List Pc} (h : Pcs H vs ps) (g : Pcs H us qs) : Pcs H (vs ++ us) (ps ++ qs) := by
  induction h with
  | nil => exact g
  | cons e _ ih => exact .cons e ih
theorem Pcs.get {H : Hp} {vs : List V} {ps : List Pc} (h : Pcs H vs ps) {i : Nat} {v : V} (hi : vs[i]? = some v) : ∃ a p, v = .ref a ∧ ps[i]? = some p ∧ H a = some (.tup [.str (S p.1), .int p.2]) := by
  induction h generalizing i with
  | nil => simp at hi
  | cons e _ ih =>
    cases i with
    | zero =>
      cases hi
      exact ⟨_, _, rfl, rfl, e⟩
    | succ i => exact ih hi
theorem Pcs.at {H : Hp} {vs : List V} {ps : List Pc} (h : Pcs H vs ps) {i : Nat} {p : Pc} (hi : ps[i]? = some p) : ∃ a, vs[i]? = some (.ref a) ∧ H a = some (.tup [.str (S p.1), .int p.2]) := by
  induction h generalizing i with
  | nil => simp at hi
  | cons e _ ih =>
    cases i with
    | zero =>
      cases hi
      exact ⟨_, rfl, e⟩
    | succ i => exact ih hi
theorem Pcs.init {H : Hp} {vs : List V} {ps : List Pc} (h : Pcs H vs ps) : Pcs H vs.dropLast ps.dropLast := by
  induction h with
  | nil => exact .nil
  | cons e h ih =>
    cases h with
    | nil => exact .nil
    | cons e2 h2 => exact .cons e ih
theorem Pcs.one {H : Hp} {a : Addr} {p : Pc} (e : H a = some (.tup [.str (S p.1), .int p.2])) : Pcs H [.ref a] [p] := .cons e .nil
/-- a list of pieces -/
def PL (H : Hp) (l : Addr) (ps : List Pc) : Prop := ∃ vs, H l = some (.lst vs) ∧ Pcs H vs ps
theorem PL.same {H H' : Hp} {l : Addr} {ps : List Pc} (h : PL H l ps) (s : Same H H') : PL H' l ps := by
  obtain ⟨vs, e, p⟩ := h
  exact ⟨vs, s _ _ e, p.same s⟩
/-- pieces as the law has them: few, short, of small letters, their numbers not too great -/
structure OK (n : Nat) (ps : List Pc) : Prop where
  len : ps.length ≤ n
  word : ∀ p ∈ ps, p.1.length ≤ 4 ∧ Low p.1
  num : (ps.map (·.2)).sum ≤ n * 2 ^ 200
theorem OK.le {n m : Nat} {ps : List Pc} (h : OK n ps) (hm : n ≤ m) : OK m ps := ⟨by have := h.len; omega, h.word, Nat.le_trans h.num (Nat.mul_le_mul_right _ hm)⟩
theorem le_sum {x : Nat} : ∀ {l : List Nat}, x ∈ l → x ≤ l.sum
  | [], h => by simp at h
  | a :: l, h => by
    rw [List.sum_cons]
    rcases List.mem_cons.mp h with z | z
    · omega
    · have := le_sum z
      omega
theorem OK.times {n : Nat} {ps : List Pc} (h : OK n ps) (hn : n ≤ 1000) {p : Pc} (hp : p ∈ ps) : p.2 < 2 ^ 300 := by
  have h1 : p.2 ≤ (ps.map (·.2)).sum := le_sum (List.mem_map.mpr ⟨p, hp, rfl⟩)
  have h2 : n * 2 ^ 200 ≤ 1000 * 2 ^ 200 := Nat.mul_le_mul_right _ hn
  have h3 := h.num
  omega
theorem OK.app {n m : Nat} {a b : List Pc} (h : OK n a) (g : OK m b) : OK (n + m) (a ++ b) := by
  refine ⟨by rw [List.length_append]; have := h.len; have := g.len; omega, fun p hp => ?_, ?_⟩
  · rcases List.mem_append.mp hp with z | z
    · exact h.word p z
    · exact g.word p z
  · rw [List.map_append, List.sum_append, Nat.add_mul]
    exact Nat.add_le_add h.num g.num
theorem OK.nil {n : Nat} : OK n [] := ⟨Nat.zero_le _, fun p hp => absurd hp List.not_mem_nil, Nat.zero_le _⟩
theorem sum_init {l : List Pc} {q : Pc} (h : l.getLast? = some q) : (l.map (·.2)).sum = (l.dropLast.map (·.2)).sum + q.2 := by
  conv => lhs; rw [last_split h]
  simp
theorem OK.step {n : Nat} {acc : List Pc} (h : OK n acc) {p : Pc} (hw : p.1.length ≤ 4 ∧ Low p.1) : (stepT acc p).length ≤ acc.length + 1 ∧ (∀ q ∈ stepT acc p, q.1.length ≤ 4 ∧ Low q.1) ∧ ((stepT acc p).map (·.2)).sum ≤ (acc.map (·.2)).sum + p.2 := by
  unfold stepT
  split
  · exact ⟨by omega, h.word, by omega⟩
  · have app : (acc ++ [p]).length ≤ acc.length + 1 ∧ (∀ q ∈ acc ++ [p], q.1.length ≤ 4 ∧ Low q.1) ∧ ((acc ++ [p]).map (·.2)).sum ≤ (acc.map (·.2)).sum + p.2 := by
      refine ⟨by simp, fun q hq => ?_, by simp⟩
      rcases List.mem_append.mp hq with z | z
      · exact h.word q z
      · rw [List.mem_singleton.mp z]
        exact hw
    split
    · next q hq =>
      split
      · refine ⟨by simp <;> omega, fun r hr => ?_, ?_⟩
        · rcases List.mem_append.mp hr with z | z
          · exact h.word r (List.dropLast_subset _ z)
          · rw [List.mem_singleton.mp z]
            exact hw
        · rw [sum_init hq]
          simp
          omega
      · exact app
    · exact app
theorem OK.fold : ∀ (ps : List Pc) {n m : Nat} {acc : List Pc}, OK n acc → OK m ps → OK (n + m) (ps.foldl stepT acc) := by
  intro ps n m acc ha hp
  suffices h : ∀ (ps acc : List Pc), (∀ q ∈ acc, q.1.length ≤ 4 ∧ Low q.1) → (∀ q ∈ ps, q.1.length ≤ 4 ∧ Low q.1) →
      (ps.foldl stepT acc).length ≤ acc.length + ps.length ∧ (∀ q ∈ ps.foldl stepT acc, q.1.length ≤ 4 ∧ Low q.1) ∧ ((ps.foldl stepT acc).map (·.2)).sum ≤ (acc.map (·.2)).sum + (ps.map (·.2)).sum by
    obtain ⟨h1, h2, h3⟩ := h ps acc ha.word hp.word
    refine ⟨by have := ha.len; have := hp.len; omega, h2, ?_⟩
    have := ha.num
    have := hp.num
    rw [Nat.add_mul]
    omega
  intro ps
  induction ps with
  | nil => exact fun acc h1 _ => ⟨by simp, h1, by simp⟩
  | cons p r ih =>
    intro acc h1 h2
    have hO : OK (acc.length + (acc.map (·.2)).sum) acc := ⟨by omega, h1, by
      have : 0 < 2 ^ 200 := Nat.two_pow_pos _
      have := Nat.le_mul_of_pos_right (acc.length + (acc.map (·.2)).sum) this
      omega⟩
    obtain ⟨a, b, c⟩ := hO.step (h2 p List.mem_cons_self)
    obtain ⟨d, e, f⟩ := ih (stepT acc p) b fun q hq => h2 q (List.mem_cons_of_mem _ hq)
    rw [List.foldl_cons]
    refine ⟨by simp; omega, e, ?_⟩
    simp
    omega
theorem OK.tidy {n : Nat} {ps : List Pc} (h : OK n ps) : OK n (tidy ps) := by
  have := OK.fold ps (OK.nil (n := 0)) h
  rw [Nat.zero_add] at this
  exact this
section
variable {P : Program} {w : World} {K : PySem.W.Frag} {mg : Str → Option Value} {base : Heap} {C : Addr}
def sp_turned : Sp := fun vs H Q _ => ∃ (z : List Nat) (k : Nat), vs = [.str (S z), .int k] ∧ z.length ≤ 1000 ∧ z ≠ [] ∧ Q (.str (S (rot z (k % z.length)))) H
theorem c_turned_word (T : Txt K mg C) : C8.Cal P w K mg base 1 "turned_word" sp_turned [] := by
  refine calF T.d_turned_word sc_turned_word (fun vs H Q E h => ?_) (fun f cdv A outer s H vs Q E hr h => ?_)
  · obtain ⟨_, _, rfl, _⟩ := h; rfl
  · obtain ⟨z, k, rfl, hl, ne, q⟩ := h
    have n0 := List.length_pos_iff.mpr ne
    refine ⟨_, (pss_cons (ps_if (pt_not (pt_truth (pv 0) (by intro _; rfl)))
    (pss_one (ps_ret (pv 0)))
    pss_nil)
    (pss_cons (ps_set (i := 2) sc_turned_word.nd rfl (Or.inl rfl) (pe_op op_modZ (pv 1) (pe_callB call_len_str (by rfl) T.m_len (by decide +kernel) (pa_cons (pv 0) pa_nil))))
    (pss_one (ps_ret (pe_op op_add_str (pe_slice C8.sl_txt (pv 0) (po_some (pv 2)) po_none) (pe_slice C8.sl_txt (pv 0) po_none (po_some (pv 2)))))))), ?_⟩
    refine ⟨_, rfl, true, ⟨len_line hl, ?_⟩, iteF ?_⟩
    · rw [S_len]
      symm
      rw [bne_iff_ne]
      omega
    have hm := Nat.mod_lt k n0
    refine ⟨_, rfl, _, rfl, S z, rfl, len_line hl, k, z.length, rfl, congrArg (fun n : Nat => V.int n) (S_len z), by omega, ?_⟩
    refine ⟨_, rfl, _, rfl, _, rfl, S z, rfl, len_line hl, _, rfl, _, rfl, _, rfl, S z, rfl, len_line hl, ?_⟩
    rw [SX.slice_from (by omega), SX.slice_to (by omega), Int.toNat_natCast]
    refine ⟨_, _, rfl, rfl, ?_, ?_⟩
    · rw [S_len, S_len, List.length_drop, List.length_take, sizeLine_eq]
      omega
    · rw [S_cat]
      exact q
/-! what a piece is -/
def sp_is_kept_piece : Sp := fun vs H Q _ => ∃ (a : Addr) (p : Pc), vs = [.ref a] ∧ H a = some (.tup [.str (S p.1), .int p.2]) ∧ p.1.length ≤ 1000 ∧ Low p.1 ∧ Q (.bl true) H
theorem c_is_kept_piece (T : Txt K mg C) : C8.Cal P w K mg base 3 "is_kept_piece" sp_is_kept_piece [] := by
  refine calF T.d_is_kept_piece sc_is_kept_piece (fun vs H Q E h => ?_) (fun f cdv A outer s H vs Q E hr h => ?_)
  · obtain ⟨_, _, rfl, _⟩ := h; rfl
  · obtain ⟨a, p, rfl, ha, hl, lw, q⟩ := h
    have kn : Kn H (.ref a) := .tup ha
    refine ⟨_, (pss_cons (ps_if (PW.pt (pw_or (pt_not (pt_val (pe_callB call_isK (by rfl) T.m_isinstance (by decide +kernel) (pa_cons (pv 0) (pa_cons (pe_bltn (v := .ty "tuple") (by rfl) T.m_tuple (by decide +kernel) rfl) pa_nil))))) (pw_or1 (pt_cmpR op_ne (pe_callB call_len_seq (by rfl) T.m_len (by decide +kernel) (pa_cons (pv 0) pa_nil)) pe_int (nomark _)))))
    (pss_one (ps_ret pe_bl))
    pss_nil)
    (pss_one (ps_ret (pe_and (C8.pe_c (c_is_lettered T) hr (by decide) (by rfl) (pa_cons (pe_ix ix_tup (pv 0) pe_int (fun _ _ => rfl)) (pa_cons (C8.pe_gc (by rfl) T.k_MOST_KEPT_WORD) pa_nil))) (pe_one (C8.pe_c (c_is_count T) hr (by decide) (by rfl) (pa_cons (pe_ix ix_tup (pv 0) pe_int (fun _ _ => rfl)) pa_nil))))))), ?_⟩
    refine ⟨_, rfl, .ref a, "tuple", _, rfl, kn, kit_tuple kn, _, rfl, ?_⟩
    rw [isTu_tup ha]
    refine iteF ⟨_, rfl, a, _, rfl, .inr (.inl (.inl ha)), rfl, _, rfl, iteF ?_⟩
    refine ⟨_, rfl, a, _, 0, _, rfl, rfl, .inl (.inl ha), atI_nat (j := 0) rfl, p.1, 2000, rfl, hl, by omega, lw, _, rfl, iteT ?_⟩
    refine ⟨_, rfl, a, _, 1, _, rfl, rfl, .inl (.inl ha), atI_nat (j := 1) rfl, .int p.2, rfl, .int _, ?_⟩
    rw [show isC (.int p.2) = true from decide_eq_true (show (0 : Int) ≤ (p.2 : Int) by omega)]
    exact q
def sp_need_kept_pieces : Sp := fun vs H Q _ => ∃ (l : Addr) (ps : List Pc) (n : Nat), vs = [.ref l] ∧ PL H l ps ∧ OK n ps ∧ n ≤ 1000 ∧ ∀ H', Same H H' → Q .non H'
theorem sum_len {ps : List Pc} (h : ∀ p ∈ ps, p.1.length ≤ 4 ∧ Low p.1) : (ps.map fun p => (p.1.length : Int)).sum ≤ 4 * ps.length := by
  induction ps with
  | nil => simp
  | cons p r ih =>
    have := ih fun q hq => h q (List.mem_cons_of_mem _ hq)
    have := (h p List.mem_cons_self).1
    simp
    omega
def lenV : V → V := fun _ => .non
theorem c_need_kept_pieces (T : Txt K mg C) : C8.Cal P w K mg base 4 "need_kept_pieces" sp_need_kept_pieces [] := by
  refine calF T.d_need_kept_pieces sc_need_kept_pieces (fun vs H Q E h => ?_) (fun f cdv A outer s H vs Q E hr h => ?_)
  · obtain ⟨_, _, _, rfl, _⟩ := h; rfl
  · obtain ⟨l, ps, n, rfl, ⟨vs, hl, hp⟩, ok, hn, q⟩ := h
    have kn : Kn H (.ref l) := .lst hl
    have len := hp.len
    have okl := ok.len
    refine ⟨_, (pss_cons (ps_if (PW.pt (pw_or (pt_not (pt_val (pe_callB call_isK (by rfl) T.m_isinstance (by decide +kernel) (pa_cons (pv 0) (pa_cons (pe_bltn (v := .ty "list") (by rfl) T.m_list (by decide +kernel) rfl) pa_nil))))) (pw_or1 (pt_cmpR op_gt (pe_callB call_len_seq (by rfl) T.m_len (by decide +kernel) (pa_cons (pv 0) pa_nil)) (C8.pe_gc (by rfl) T.k_MOST_KEPT_PIECES) (nomark _)))))
    (pss_one ps_never)
    pss_nil)
    (pss_cons (ps_for PassesOwn.never rfl (pi_list (pv 0)) (pg_name (i := 1) sc_need_kept_pieces.nd rfl (Or.inl rfl))
    (pss_one (ps_if (pt_not (pt_val (C8.pe_c (c_is_kept_piece T) hr (by decide) (by rfl) (pa_cons (pv 1) pa_nil))))
    (pss_one ps_never)
    pss_nil)))
    (pss_cons (ps_set (i := 2) sc_need_kept_pieces.nd rfl (Or.inl rfl) (pe_callB (cr_sum rfl) (by rfl) T.m_sum (by decide +kernel) (pa_cons (pe_lc (own := [("word", 3), ("_", 4)]) (by rfl) sc_need_kept_pieces.nd (pi_list (pv 0)) (blkOk_by (N := ["value", "item", "many", "word", "_"]) (sc := C8.fnScope (topS 21)) (own := [("word", 3), ("_", 4)]) (by decide +kernel)) (fun _ _ _ _ _ => (pg_two (K := K) (i := 3) (j := 4) rfl rfl sc_need_kept_pieces.nd rfl rfl (Or.inl rfl) (Or.inl rfl))) (fun _ _ _ _ _ => pts_nil) (fun _ _ _ _ _ => (pe_callB call_len_str (by rfl) T.m_len (by decide +kernel) (pa_cons (pv 3) pa_nil)))) pa_nil)))
    (pss_one (ps_if (pt_cmpR op_gt (pv 2) (C8.pe_gc (by rfl) T.k_MOST_KEPT_LETTERS) (nomark _))
    (pss_one ps_never)
    pss_nil))))), ?_⟩
    refine ⟨_, rfl, .ref l, "list", _, rfl, kn, kit_list kn, _, rfl, ?_⟩
    rw [isLi_lst hl]
    refine iteF ⟨_, rfl, l, vs, rfl, .inl (.inl (.inl hl)), _, 5000, rfl, rfl, _, rfl, ?_⟩
    rw [decide_eq_false (by omega)]
    refine iteF ?_
    refine ⟨_, rfl, l, rfl, ⟨_, .inl (.inl hl)⟩, for_list (K := K) (a := l) (xs := vs) (fun i σ H' => H' = H ∧ ∃ y1, σ = [some (.ref l), y1, none, none, none]) ⟨rfl, none, rfl⟩ (fun i σ H' _ p => by rw [p.1]; exact .inl (.inl hl)) (fun i y σ H' hi p => ?_) (fun σ H' p => ?_)⟩
    · obtain ⟨rfl, y1, rfl⟩ := p
      obtain ⟨a, p, rfl, hpi, ha⟩ := hp.get hi
      have hw := ok.word p (List.mem_of_getElem? hpi)
      exact ⟨_, rfl, a, p, rfl, ha, by omega, hw.2, _, rfl, iteF ⟨rfl, _, rfl⟩⟩
    · obtain ⟨rfl, y1, rfl⟩ := p
      refine ⟨_, rfl, l, rfl, ⟨_, .inl (.inl hl)⟩, fun D hD => ?_⟩
      have hDl : D ≠ l := fun z => by rw [z, hl] at hD; cases hD
      refine lc_list (K := K) (a := l) (xs := vs) (fun i H1 => Same H' H1 ∧ H1 D = some (.lst ((ps.take i).map fun p => V.int p.1.length))) ⟨sameNew hD, by rw [upd_same]; rfl⟩ (fun i H1 _ p => .inl (.inl (p.1 _ _ hl))) (fun i y H1 hi p => ?_) fun H1 p => ?_
      · obtain ⟨s1, hD1⟩ := p
        obtain ⟨a, p, rfl, hpi, ha⟩ := hp.get hi
        have hw := ok.word p (List.mem_of_getElem? hpi)
        have hii := (List.getElem?_eq_some_iff.mp hpi).1
        refine ⟨a, _, rfl, .inl (.inl (s1 _ _ ha)), rfl, _, _, rfl, _, _, rfl, rfl, rfl, ?_⟩
        refine ⟨_, rfl, S p.1, rfl, len_line (by omega), _, hD1, ?_, same_upd2 hD s1, ?_⟩
        · rw [List.length_map, List.length_take, sizeLine_eq]
          omega
        · rw [upd_same, List.take_succ, hpi, S_len]
          simp
      · obtain ⟨s1, hD1⟩ := p
        rw [len, List.take_length] at hD1
        refine ⟨D, ps.map fun p => (p.1.length : Int), rfl, .inl (.inl (by rw [hD1, List.map_map]; rfl)), ?_⟩
        have := sum_len ok.word
        refine ⟨_, rfl, _, 10000, rfl, rfl, _, rfl, ?_⟩
        rw [decide_eq_false (by omega)]
        exact iteF (q _ s1)
end
end K03

set_option Elab.async false
set_option linter.all false
set_option maxRecDepth 100000
set_option maxHeartbeats 2000000
namespace K03
open PySem PySem.Spec PyProof.Rows L2 CK SX KM
theorem step_len (acc : List Pc) (p : Pc) : (stepT acc p).length ≤ acc.length + 1 := by
  unfold stepT
  split
  · omega
  · split
    · split
      · simp <;> omega
      · simp
    · simp
theorem fold_len : ∀ (ps acc : List Pc), (ps.foldl stepT acc).length ≤ acc.length + ps.length
  | [], acc => by simp
  | p :: r, acc => by
    rw [List.foldl_cons]
    have := fold_len r (stepT acc p)
    have := step_len acc p
    rw [List.length_cons]
    omega
theorem app_end {H H2 : Hp} {r t : Addr} {ws : List V} {acc : List Pc} {p : Pc} (s : Same H H2) (hr : H r = none) (h2 : H2 r = some (.lst ws)) (hp : Pcs H2 ws acc) (ht : H2 t = none) :
    Same H (upd (upd H2 t (.tup [.str (S p.1), .int p.2])) r (.lst (ws ++ [.ref t]))) ∧ PL (upd (upd H2 t (.tup [.str (S p.1), .int p.2])) r (.lst (ws ++ [.ref t]))) r (acc ++ [p]) := by
  have rt : r ≠ t := fun z => by rw [z, ht] at h2; cases h2
  have st : Same H2 (upd H2 t (.tup [.str (S p.1), .int p.2])) := sameNew ht
  have h3 : upd H2 t (.tup [.str (S p.1), .int p.2]) r = some (.lst ws) := st _ _ h2
  refine ⟨same_upd2 hr (s.trans st), _, upd_same, ((hp.same st).upd h3).app (.one ?_)⟩
  rw [upd_ne (Ne.symm rt), upd_same]
theorem take_step {ps : List Pc} {i : Nat} {p : Pc} (h : ps[i]? = some p) : (ps.take (i + 1)).foldl stepT [] = stepT ((ps.take i).foldl stepT []) p := by
  rw [List.take_succ, h]
  simp
theorem last_at {vs : List V} {v : V} (h : vs[vs.length - 1]? = some v) : atI vs (-1) = some v := by
  have hl := (List.getElem?_eq_some_iff.mp h).1
  have e : vs = vs.dropLast ++ [v] := by
    apply last_split
    rw [List.getLast?_eq_getElem?]
    exact h
  rw [e]
  exact atI_last _ _
section
variable {P : Program} {w : World} {K : PySem.W.Frag} {mg : Str → Option Value} {base : Heap} {C : Addr}
def sp_put_together : Sp := fun vs H Q _ => ∃ (l : Addr) (ps : List Pc), vs = [.ref l] ∧ PL H l ps ∧ ps.length ≤ 2000 ∧ (∀ p ∈ ps, p.1.length ≤ 1000) ∧ ∀ r H', Same H H' → H r = none → PL H' r (tidy ps) → Q (.ref r) H'
theorem c_put_together (T : Txt K mg C) : C8.Cal P w K mg base 1 "put_together" sp_put_together [] := by
  refine calF T.d_put_together sc_put_together (fun vs H Q E h => ?_) (fun f cdv A outer s H vs Q E hr h => ?_)
  · obtain ⟨_, _, rfl, _⟩ := h; rfl
  · obtain ⟨l, ps, rfl, ⟨vs, hl, hp⟩, len, hw, q⟩ := h
    have lv := hp.len
    refine ⟨_, (pss_cons (ps_set (i := 1) sc_put_together.nd rfl (Or.inl rfl) (pe_lst pa_nil))
    (pss_cons (ps_for PassesOwn.never rfl (pi_list (pv 0)) (pg_two (K := K) (i := 2) (j := 3) rfl rfl sc_put_together.nd rfl rfl (Or.inl rfl) (Or.inl rfl))
    (pss_cons (ps_if (PW.pt (pw_or (pt_not (pt_truth (pv 2) (by intro _; rfl))) (pw_or1 (pt_not (pt_truth (pv 3) (by intro _; rfl))))))
    (pss_one ps_continue)
    pss_nil)
    (pss_cons (ps_if (PW.pt (pw_and (pt_truth (pv 1) (by intro _; rfl)) (pw_and1 (pt_cmpR op_eq (pe_ix ix_tup (pe_ix ix_list (pv 1) (pe_un un_neg pe_int) (fun _ _ => rfl)) pe_int (fun _ _ => rfl)) (pv 2) (nomark _)))))
    (pss_one (ps_aug (i := 3) sc_put_together.nd rfl (.inl rfl) (pe_ix ix_tup (pe_bm0 PySem.F.plainAttrs_list PySem.F.slot_list_pop PySem.F.type_list_pop mt_pop (pv 1)) pe_int (fun _ _ => rfl)) ip_add))
    pss_nil)
    (pss_one (ps_expr (pe_bm PySem.F.plainAttrs_list PySem.F.slot_list_append PySem.F.type_list_append mt_append (pv 1) (pa_cons (pe_tup (pa_cons (pv 2) (pa_cons (pv 3) pa_nil))) pa_nil)))))))
    (pss_one (ps_ret (pv 1))))), ?_⟩
    refine ⟨by show 0 ≤ sizeLine; omega, fun r hr0 => ?_⟩
    have rl : r ≠ l := fun z => by rw [z, hl] at hr0; cases hr0
    refine ⟨_, rfl, l, rfl, ⟨_, .inl (.inl (sameNew hr0 _ _ hl))⟩, for_list (K := K) (a := l) (xs := vs) (fun i σ H' => Same H H' ∧ (∃ y2 y3, σ = [some (.ref l), some (.ref r), y2, y3]) ∧ PL H' r ((ps.take i).foldl stepT []))
      ⟨sameNew hr0, ⟨none, none, rfl⟩, [], upd_same, .nil⟩ (fun i σ H' _ p => .inl (.inl (p.1 _ _ hl))) (fun i y σ H' hi p => ?_) (fun σ H' p => ?_)⟩
    · obtain ⟨s1, ⟨y2, y3, rfl⟩, ws, hws, pw⟩ := p
      obtain ⟨a, p, rfl, hpi, ha⟩ := hp.get hi
      have hwp := hw p (List.mem_of_getElem? hpi)
      have hii := (List.getElem?_eq_some_iff.mp hpi).1
      have lacc := fold_len (ps.take i) []
      have lw := pw.len
      rw [List.length_take] at lacc
      have acc1000 : ws.length < sizeLine := by rw [sizeLine_eq]; simp at lacc; omega
      rw [show ((ps.take (i + 1)).foldl stepT [] : List Pc) = stepT ((ps.take i).foldl stepT []) p from take_step hpi]
      generalize hacc : (ps.take i).foldl stepT [] = acc at pw lw lacc
      refine ⟨a, _, rfl, .inl (.inl (s1 _ _ ha)), rfl, _, _, rfl, _, _, rfl, rfl, ?_⟩
      by_cases w0 : p.1 = []
      · have e : stepT acc p = acc := by unfold stepT; rw [if_pos (.inl w0)]
        refine ⟨_, rfl, false, ⟨len_line hwp, by rw [w0]; rfl⟩, iteT (iteT ?_)⟩
        exact ⟨s1, ⟨_, _, rfl⟩, by rw [e]; exact ⟨ws, hws, pw⟩⟩
      · have n0 := List.length_pos_iff.mpr w0
        refine ⟨_, rfl, true, ⟨len_line hwp, by rw [S_len]; symm; rw [bne_iff_ne]; omega⟩, iteF ?_⟩
        by_cases t0 : p.2 = 0
        · have e : stepT acc p = acc := by unfold stepT; rw [if_pos (.inr t0)]
          refine ⟨_, rfl, false, by rw [t0]; rfl, iteT ?_⟩
          exact ⟨s1, ⟨_, _, rfl⟩, by rw [e]; exact ⟨ws, hws, pw⟩⟩
        · refine ⟨_, rfl, true, by show true = ((p.2 : Int) != 0); symm; rw [bne_iff_ne]; omega, iteF ?_⟩
          have np : ¬ (p.1 = [] ∨ p.2 = 0) := fun z => z.elim w0 t0
          cases hlast : ws.getLast? with
          | none =>
            have we : ws = [] := List.getLast?_eq_none_iff.mp hlast
            subst we
            cases pw
            have e : stepT [] p = [] ++ [p] := by unfold stepT; rw [if_neg np]; rfl
            refine ⟨_, rfl, false, .inl ⟨_, .inl (.inl hws), rfl⟩, iteF ?_⟩
            refine ⟨_, rfl, .inl ⟨rfl, _, .inl (.inl hws)⟩, _, rfl, _, rfl, by show 2 ≤ sizeLine; decide, fun t ht => ⟨r, _, _, rfl, rfl, sameNew ht _ _ hws, acc1000, ?_⟩⟩
            have := app_end s1 hr0 hws .nil ht (p := p)
            exact ⟨this.1, ⟨_, _, rfl⟩, by rw [e]; exact this.2⟩
          | some v =>
            have hv : ws[ws.length - 1]? = some v := by rw [← List.getLast?_eq_getElem?]; exact hlast
            have wne : ws ≠ [] := fun z => by rw [z] at hlast; cases hlast
            obtain ⟨b, q', rfl, hq, hb⟩ := pw.get hv
            have hq' : acc.getLast? = some q' := by rw [List.getLast?_eq_getElem?, ← lw]; exact hq
            refine ⟨_, rfl, true, .inl ⟨_, .inl (.inl hws), by cases ws with | nil => exact absurd rfl wne | cons _ _ => rfl⟩, iteT ?_⟩
            refine ⟨_, rfl, 1, rfl, r, _, -1, _, rfl, rfl, .inl (.inl hws), last_at hv, b, _, 0, _, rfl, rfl, .inl (.inl hb), atI_nat (j := 0) rfl, _, rfl, rfl, _, rfl, ite2 (fun e => ?_) (fun e => ?_)⟩
            · have e1 : q'.1 = p.1 := S_inj (V.str.inj (of_decide_eq_true e))
              have es : stepT acc p = acc.dropLast ++ [(p.1, p.2 + q'.2)] := by unfold stepT; rw [if_neg np, hq']; simp [e1]
              have hb2 : upd H' r (.lst ws.dropLast) b = some (.tup [.str (S q'.1), .int q'.2]) := by
                rw [upd_ne (fun z => by rw [z, hws] at hb; cases hb)]
                exact hb
              refine ⟨_, rfl, _, rfl, .inl ⟨rfl, _, .inl (.inl hws)⟩, r, _, _, rfl, rfl, hws, hv, b, _, 1, _, rfl, rfl, .inl (.inl hb2), atI_nat (j := 1) rfl, _, _, rfl, rfl, ?_⟩
              have s2 : Same H (upd H' r (.lst ws.dropLast)) := same_upd2 hr0 s1
              have h2 : upd H' r (.lst ws.dropLast) r = some (.lst ws.dropLast) := upd_same
              refine ⟨_, rfl, .inl ⟨rfl, _, .inl (.inl h2)⟩, _, rfl, _, rfl, by show 2 ≤ sizeLine; decide, fun t ht => ⟨r, _, _, rfl, rfl, sameNew ht _ _ h2, by rw [List.length_dropLast]; omega, ?_⟩⟩
              have := app_end s2 hr0 h2 (pw.init.upd hws) ht (p := (p.1, p.2 + q'.2))
              exact ⟨this.1, ⟨_, _, rfl⟩, by rw [es]; exact this.2⟩
            · have e1 : ¬ q'.1 = p.1 := fun z => e (by rw [z]; exact decide_eq_true rfl)
              have es : stepT acc p = acc ++ [p] := by unfold stepT; rw [if_neg np, hq']; simp [e1]
              refine ⟨_, rfl, .inl ⟨rfl, _, .inl (.inl hws)⟩, _, rfl, _, rfl, by show 2 ≤ sizeLine; decide, fun t ht => ⟨r, _, _, rfl, rfl, sameNew ht _ _ hws, acc1000, ?_⟩⟩
              have := app_end s1 hr0 hws pw ht (p := p)
              exact ⟨this.1, ⟨_, _, rfl⟩, by rw [es]; exact this.2⟩
    · obtain ⟨s1, ⟨y2, y3, rfl⟩, h⟩ := p
      rw [lv, List.take_length] at h
      exact ⟨_, rfl, q r H' s1 hr0 h⟩
/-! ends -/
theorem endsF_take {ps : List Pc} {i : Nat} {p : Pc} (h : ps[i]? = some p) : endsF 0 (ps.take (i + 1)) = endsF 0 (ps.take i) ++ [long (ps.take i) + plen p] ∧ long (ps.take (i + 1)) = long (ps.take i) + plen p := by
  have e : ps.take (i + 1) = ps.take i ++ [p] := by rw [List.take_succ, h]; rfl
  rw [e, endsF_app]
  simp [endsF, long]
def sp_ends_of : Sp := fun vs H Q _ => ∃ (l : Addr) (ps : List Pc) (n : Nat), vs = [.ref l] ∧ PL H l ps ∧ OK n ps ∧ n ≤ 1000 ∧ ∀ r H', Same H H' → H r = none → H' r = some (.lst ((endsF 0 ps).map fun x => V.int (x : Nat))) → Q (.ref r) H'
theorem c_ends_of (T : Txt K mg C) : C8.Cal P w K mg base 1 "ends_of" sp_ends_of [] := by
  refine calF T.d_ends_of sc_ends_of (fun vs H Q E h => ?_) (fun f cdv A outer s H vs Q E hr h => ?_)
  · obtain ⟨_, _, _, rfl, _⟩ := h; rfl
  · obtain ⟨l, ps, n, rfl, ⟨vs, hl, hp⟩, ok, hn, q⟩ := h
    have lv := hp.len
    have okl := ok.len
    refine ⟨_, (pss_cons (ps_set (i := 1) sc_ends_of.nd rfl (Or.inl rfl) (pe_lst pa_nil))
    (pss_cons (ps_set (i := 2) sc_ends_of.nd rfl (Or.inl rfl) pe_int)
    (pss_cons (ps_for PassesOwn.never rfl (pi_list (pv 0)) (pg_two (K := K) (i := 3) (j := 4) rfl rfl sc_ends_of.nd rfl rfl (Or.inl rfl) (Or.inl rfl))
    (pss_cons (ps_aug (i := 2) sc_ends_of.nd rfl (.inl rfl) (pe_op op_mulZ (pe_callB call_len_str (by rfl) T.m_len (by decide +kernel) (pa_cons (pv 3) pa_nil)) (pv 4)) ip_add)
    (pss_one (ps_expr (pe_bm PySem.F.plainAttrs_list PySem.F.slot_list_append PySem.F.type_list_append mt_append (pv 1) (pa_cons (pv 2) pa_nil))))))
    (pss_one (ps_ret (pv 1)))))), ?_⟩
    refine ⟨by show 0 ≤ sizeLine; omega, fun r hr0 => ?_⟩
    have rl : r ≠ l := fun z => by rw [z, hl] at hr0; cases hr0
    refine ⟨_, rfl, l, rfl, ⟨_, .inl (.inl (sameNew hr0 _ _ hl))⟩, for_list (K := K) (a := l) (xs := vs) (fun i σ H' => Same H H' ∧ (∃ (z : Int) (y2 y3 : Option V), σ = [some (.ref l), some (.ref r), some (.int z), y2, y3] ∧ z = ((long (ps.take i) : Nat) : Int)) ∧ H' r = some (.lst ((endsF 0 (ps.take i)).map fun x => V.int (x : Nat))))
      ⟨sameNew hr0, ⟨0, none, none, rfl, rfl⟩, upd_same⟩ (fun i σ H' _ p => .inl (.inl (p.1 _ _ hl))) (fun i y σ H' hi p => ?_) (fun σ H' p => ?_)⟩
    · obtain ⟨s1, ⟨z, y2, y3, rfl, ez⟩, hws⟩ := p
      obtain ⟨a, p, rfl, hpi, ha⟩ := hp.get hi
      have hwp := ok.word p (List.mem_of_getElem? hpi)
      have htp := ok.times hn (List.mem_of_getElem? hpi)
      have hii := (List.getElem?_eq_some_iff.mp hpi).1
      obtain ⟨e1, e2⟩ := endsF_take hpi
      refine ⟨a, _, rfl, .inl (.inl (s1 _ _ ha)), rfl, _, _, rfl, _, _, rfl, rfl, ?_⟩
      refine ⟨_, rfl, _, rfl, S p.1, rfl, len_line (by omega), _, rfl, p.1.length, p.2, congrArg (fun n : Nat => V.int n) (S_len _), rfl, by have := hwp.1; omega, by omega, _, _, rfl, rfl, ?_⟩
      have e3 : z + ((p.1.length * p.2 : Nat) : Int) = ((long (ps.take (i + 1)) : Nat) : Int) := by rw [ez, e2, Int.natCast_add]; rfl
      refine ⟨_, rfl, .inl ⟨rfl, _, .inl (.inl hws)⟩, _, rfl, r, _, _, rfl, rfl, hws, by rw [List.length_map, endsF_len, List.length_take, sizeLine_eq]; omega, ?_⟩
      refine ⟨same_upd2 hr0 s1, ⟨_, _, _, rfl, e3⟩, ?_⟩
      rw [upd_same, e1, ← e2, List.map_append]
      exact congrArg (fun v => some (HO.lst (_ ++ [V.int v]))) e3
    · obtain ⟨s1, ⟨z, y2, y3, rfl, _⟩, h⟩ := p
      rw [lv, List.take_length] at h
      exact ⟨_, rfl, q r H' s1 hr0 h⟩
/-! a stretch of one piece -/
def sp_stretch_pieces : Sp := fun vs H Q _ => ∃ (z : List Nat) (lo hi : Nat), vs = [.str (S z), .int lo, .int hi] ∧ z ≠ [] ∧ z.length ≤ 1000 ∧ lo ≤ hi ∧ ∀ r H', Same H H' → H r = none → PL H' r (two z lo hi) → Q (.ref r) H'
theorem c_stretch_pieces (T : Txt K mg C) : C8.Cal P w K mg base 2 "stretch_pieces" sp_stretch_pieces [] := by
  refine calF T.d_stretch_pieces sc_stretch_pieces (fun vs H Q E h => ?_) (fun f cdv A outer s H vs Q E hr h => ?_)
  · obtain ⟨_, _, _, rfl, _⟩ := h; rfl
  · obtain ⟨z, lo, hi, rfl, ne, hl, hle, q⟩ := h
    have n0 := List.length_pos_iff.mpr ne
    have rl := rot_len z (lo % z.length)
    refine ⟨_, (pss_cons (ps_set (i := 3) sc_stretch_pieces.nd rfl (Or.inl rfl) (C8.pe_c (c_turned_word T) hr (by decide) (by rfl) (pa_cons (pv 0) (pa_cons (pv 1) pa_nil))))
    (pss_one (ps_ret (pe_lst (pa_cons (pe_tup (pa_cons (pv 3) (pa_cons (pe_op op_fdivZ (pe_op op_sub (pv 2) (pv 1)) (pe_callB call_len_str (by rfl) T.m_len (by decide +kernel) (pa_cons (pv 0) pa_nil))) pa_nil))) (pa_cons (pe_tup (pa_cons (pe_slice C8.sl_txt (pv 3) po_none (po_some (pe_op op_modZ (pe_op op_sub (pv 2) (pv 1)) (pe_callB call_len_str (by rfl) T.m_len (by decide +kernel) (pa_cons (pv 0) pa_nil))))) (pa_cons pe_int pa_nil))) pa_nil)))))), ?_⟩
    refine ⟨_, rfl, _, rfl, z, lo, rfl, hl, ne, ?_⟩
    have d1 : V.int ((hi : Int) - (lo : Int)) = V.int ((hi - lo : Nat) : Int) := congrArg V.int (by omega)
    refine ⟨_, rfl, _, rfl, _, rfl, _, _, rfl, rfl, _, rfl, S z, rfl, len_line hl, hi - lo, z.length, d1, congrArg (fun n : Nat => V.int n) (S_len _), by omega, by omega, by show 2 ≤ sizeLine; decide, fun t1 h1 => ?_⟩
    refine ⟨_, rfl, _, rfl, _, rfl, _, _, rfl, rfl, _, rfl, S z, rfl, len_line hl, hi - lo, z.length, d1, congrArg (fun n : Nat => V.int n) (S_len _), by omega, _, rfl, S (rot z (lo % z.length)), rfl, len_line (by omega), ?_⟩
    refine ⟨by show 2 ≤ sizeLine; decide, fun t2 h2 => ⟨by show 2 ≤ sizeLine; decide, fun r hr0 => ?_⟩⟩
    have hrH : H r = none := Same.free ((sameNew h1).trans (sameNew h2)) hr0
    refine q r _ (((sameNew h1).trans (sameNew h2)).trans (sameNew hr0)) hrH ⟨_, upd_same, .cons ?_ (.one ?_)⟩
    · refine sameNew hr0 _ _ (sameNew h2 _ _ ?_)
      rw [upd_same]
    · refine sameNew hr0 _ _ ?_
      rw [upd_same, SX.slice_to (by omega), Int.toNat_natCast]
      rfl
/-! the stretch of a list of pieces -/
theorem endsF_at : ∀ (ps : List Pc) (s i : Nat) (p : Pc), ps[i]? = some p → (endsF s ps)[i]? = some (s + long (ps.take i) + plen p)
  | [], _, _, _, h => by simp at h
  | q :: r, s, 0, p, h => by
    cases h
    simp [endsF, long]
  | q :: r, s, i + 1, p, h => by
    have := endsF_at r (s + plen q) i p h
    simp [endsF, this, long]
    omega
theorem cutF_app (lo hi : Nat) : ∀ (a b : List Pc) (s : Nat), cutF lo hi s (a ++ b) = cutF lo hi s a ++ cutF lo hi (s + long a) b
  | [], b, s => by simp [cutF, long]
  | p :: r, b, s => by
    rw [List.cons_append, cutF, cutF, cutF_app lo hi r b, List.append_assoc]
    simp [long, Nat.add_assoc]
theorem cutF_take {ps : List Pc} {i lo hi : Nat} {p : Pc} (h : ps[i]? = some p) : cutF lo hi 0 (ps.take (i + 1)) = cutF lo hi 0 (ps.take i) ++ cut1 lo hi (long (ps.take i)) p := by
  have e : ps.take (i + 1) = ps.take i ++ [p] := by rw [List.take_succ, h]; rfl
  rw [e, cutF_app]
  simp [cutF]
theorem cutF_len (lo hi : Nat) : ∀ (a : List Pc) (s : Nat), (cutF lo hi s a).length ≤ 2 * a.length
  | [], _ => by simp [cutF]
  | p :: r, s => by
    have := cutF_len lo hi r (s + plen p)
    have : (cut1 lo hi s p).length ≤ 2 := by unfold cut1 two; split <;> simp
    rw [cutF, List.length_append, List.length_cons]
    omega
theorem mk3 {z : Str} {a b a' b' : Int} (h : a = a') (g : b = b') : [V.str z, V.int a, V.int b] = [V.str z, V.int a', V.int b'] := by rw [h, g]
def sp_stretch_of : Sp := fun vs H Q _ => ∃ (l e : Addr) (ps : List Pc) (n lo hi : Nat), vs = [.ref l, .ref e, .int lo, .int hi] ∧ PL H l ps ∧ H e = some (.lst ((endsF 0 ps).map fun x => V.int (x : Nat))) ∧ OK n ps ∧ n ≤ 1000 ∧ (∀ p ∈ ps, p.1 ≠ []) ∧ lo ≤ hi ∧
  ∀ r H', Same H H' → H r = none → PL H' r (cutF lo hi 0 ps) → Q (.ref r) H'
theorem c_stretch_of (T : Txt K mg C) : C8.Cal P w K mg base 3 "stretch_of" sp_stretch_of [] := by
  refine calF T.d_stretch_of sc_stretch_of (fun vs H Q E h => ?_) (fun f cdv A outer s H vs Q E hr h => ?_)
  · obtain ⟨_, _, _, _, _, _, rfl, _⟩ := h; rfl
  · obtain ⟨l, e, ps, n, lo, hi, rfl, ⟨vs, hl, hp⟩, he, ok, hn, hne, hle, q⟩ := h
    have lv := hp.len
    have okl := ok.len
    refine ⟨_, (pss_cons (ps_set (i := 4) sc_stretch_of.nd rfl (Or.inl rfl) (pe_lst pa_nil))
    (pss_cons (ps_for PassesOwn.never rfl (pi_zipB (K := K) rfl (by rfl) T.m_zip (pa_cons (pv 0) (pa_cons (pv 1) pa_nil))) (pg_tup rfl (pgs_cons (pg_two (K := K) (i := 5) (j := 6) rfl rfl sc_stretch_of.nd rfl rfl (Or.inl rfl) (Or.inl rfl)) (pgs_cons (pg_name (i := 7) sc_stretch_of.nd rfl (Or.inl rfl)) pgs_nil)))
    (pss_cons (ps_set (i := 8) sc_stretch_of.nd rfl (Or.inl rfl) (pe_op op_sub (pv 7) (pe_op op_mulZ (pe_callB call_len_str (by rfl) T.m_len (by decide +kernel) (pa_cons (pv 5) pa_nil)) (pv 6))))
    (pss_one (ps_if (PW.pt (pw_and (pt_cmpR op_lt (pv 8) (pv 3) (nomark _)) (pw_and1 (pt_cmpR op_lt (pv 2) (pv 7) (nomark _)))))
    (pss_one (ps_expr (pe_bm PySem.F.plainAttrs_list PySem.F.slot_list_extend PySem.F.type_list_extend mt_extend (pv 4) (pa_cons (C8.pe_c (c_stretch_pieces T) hr (by decide) (by rfl) (pa_cons (pv 5) (pa_cons (pe_callB (call_max2 rfl) (by rfl) T.m_max (by decide +kernel) (pa_cons (pe_op op_sub (pv 2) (pv 8)) (pa_cons pe_int pa_nil))) (pa_cons (pe_op op_sub (pe_callB (call_min2 rfl) (by rfl) T.m_min (by decide +kernel) (pa_cons (pv 3) (pa_cons (pv 7) pa_nil))) (pv 8)) pa_nil)))) pa_nil))))
    pss_nil))))
    (pss_one (ps_ret (pv 4))))), ?_⟩
    refine ⟨by show 0 ≤ sizeLine; omega, fun r hr0 => ?_⟩
    refine ⟨_, rfl, _, rfl, .L, .L, l, e, vs, _, rfl, .inl (.inl (sameNew hr0 _ _ hl)), .inl (.inl (sameNew hr0 _ _ he)), ?_⟩
    refine for_it (walkB (K := K) (k := .L) (k' := .L) (by rw [List.length_map, endsF_len, lv])) (fun i σ H' => Same H H' ∧ (∃ (y5 y6 y7 y8 : Option V), σ = [some (.ref l), some (.ref e), some (.int lo), some (.int hi), some (.ref r), y5, y6, y7, y8]) ∧ PL H' r (cutF lo hi 0 (ps.take i)))
      ⟨sameNew hr0, ⟨none, none, none, none, rfl⟩, [], upd_same, .nil⟩ (fun i σ H' _ p => ⟨.inl (.inl (p.1 _ _ hl)), .inl (.inl (p.1 _ _ he))⟩) (fun i v σ H3 H4 hi' p yy => ?_) (fun σ H' p => ?_)
    · obtain ⟨s1, ⟨y5, y6, y7, y8, rfl⟩, ws, hws, pw⟩ := p
      obtain ⟨t, x, y, rfl, ht, rfl, hx, hy⟩ := yy
      have hx : vs[i]? = some x := hx
      obtain ⟨a, p, rfl, hpi, ha⟩ := hp.get hx
      have hy : ((endsF 0 ps).map fun x => V.int (x : Nat))[i]? = some y := hy
      rw [List.getElem?_map, endsF_at ps 0 i p hpi] at hy
      cases hy
      have hmem := List.mem_of_getElem? hpi
      have hwp := ok.word p hmem
      have htp := ok.times hn hmem
      have hnep := hne p hmem
      have hii := (List.getElem?_eq_some_iff.mp hpi).1
      have st : Same H3 (upd H3 t (.tup [.ref a, .int ((0 + long (ps.take i) + plen p : Nat) : Int)])) := sameNew ht
      generalize hs : long (ps.take i) = s0
      have hcl := cutF_len lo hi (ps.take i) 0
      rw [List.length_take] at hcl
      have lw := pw.len
      rw [show cutF lo hi 0 (ps.take (i + 1)) = _ from cutF_take hpi, hs]
      rw [hs] at st
      have e0 : V.int ((0 + s0 + plen p : Nat) : Int) = V.int ((0 + s0 + plen p : Nat) : Int) := rfl
      have pe : plen p = p.1.length * p.2 := rfl
      have n0 := List.length_pos_iff.mpr hnep
      refine ⟨t, _, rfl, .inl (.inl upd_same), rfl, _, _, rfl, a, _, rfl, .inl (.inl (st _ _ (s1 _ _ ha))), rfl, _, _, rfl, _, _, rfl, rfl, _, _, rfl, rfl, ?_⟩
      refine ⟨_, rfl, _, rfl, S p.1, rfl, len_line (by omega), _, rfl, p.1.length, p.2, congrArg (fun n : Nat => V.int n) (S_len _), rfl, by omega, by omega, _, _, rfl, rfl, ?_⟩
      have ss := s1.trans st
      have hws2 := st _ _ hws
      have pw2 := pw.same st
      have same0 : cut1 lo hi s0 p = [] → Same H (upd H3 t (.tup [.ref a, .int ((0 + s0 + plen p : Nat) : Int)])) ∧ PL (upd H3 t (.tup [.ref a, .int ((0 + s0 + plen p : Nat) : Int)])) r (cutF lo hi 0 (ps.take i) ++ cut1 lo hi s0 p) := fun z => by
        rw [z, List.append_nil]
        exact ⟨ss, ws, hws2, pw2⟩
      refine ⟨_, rfl, _, rfl, _, _, rfl, rfl, _, rfl, ite2 (fun c1 => ?_) (fun c1 => ?_)⟩
      · have c1' : s0 < hi := by
          have := of_decide_eq_true c1
          omega
        refine ⟨_, rfl, _, rfl, _, _, rfl, rfl, _, rfl, ite2 (fun c2 => ?_) (fun c2 => ?_)⟩
        · have c2' : lo < s0 + plen p := by
            have := of_decide_eq_true c2
            omega
          have ec : cut1 lo hi s0 p = two p.1 (lo - s0) (min hi (s0 + plen p) - s0) := by unfold cut1; rw [if_pos ⟨c1', c2'⟩]
          refine ⟨_, rfl, .inl ⟨rfl, _, .inl (.inl hws2)⟩, _, rfl, _, rfl, _, rfl, _, _, rfl, rfl, _, _, rfl, _, rfl, _, rfl, _, _, rfl, _, rfl, _, _, rfl, rfl, p.1, lo - s0, min hi (s0 + plen p) - s0, mk3 ?_ ?_, hnep, by omega, by omega, fun r2 H2 s2 n2 P2 => ?_⟩
          · split <;> omega
          · split <;> omega
          · obtain ⟨us, hu, pu⟩ := P2
            have tl : (two p.1 (lo - s0) (min hi (s0 + plen p) - s0)).length = 2 := rfl
            have lu := pu.len
            refine ⟨r, r2, ws, us, rfl, rfl, s2 _ _ hws2, hu, by rw [sizeLine_eq]; omega, ?_⟩
            refine ⟨same_upd2 hr0 (ss.trans s2), ⟨_, _, _, _, rfl⟩, ?_⟩
            rw [ec]
            exact ⟨_, upd_same, ((pw2.same s2).upd (s2 _ _ hws2)).app (pu.upd (s2 _ _ hws2))⟩
        · have ec : cut1 lo hi s0 p = [] := by
            unfold cut1
            rw [if_neg (fun z => c2 (decide_eq_true (by omega)))]
          have := same0 ec
          exact ⟨this.1, ⟨_, _, _, _, rfl⟩, this.2⟩
      · have ec : cut1 lo hi s0 p = [] := by
          unfold cut1
          rw [if_neg (fun z => c1 (decide_eq_true (by omega)))]
        have := same0 ec
        exact ⟨this.1, ⟨_, _, _, _, rfl⟩, this.2⟩
    · obtain ⟨s1, ⟨y5, y6, y7, y8, rfl⟩, h⟩ := p
      rw [lv, List.take_length] at h
      exact ⟨_, rfl, q r H' s1 hr0 h⟩
end
end K03

set_option Elab.async false
set_option linter.all false
set_option maxRecDepth 100000
set_option maxHeartbeats 2000000
namespace K03
open PySem PySem.Spec PyProof.Rows L2 CK SX KM
/-! ### the object -/
def KF (l e : Addr) : List (Str × V) := [("_pieces", .ref l), ("_ends", .ref e)]
theorem pe_ne : ¬ (("_pieces" : Str) = "_ends") := by decide +kernel
theorem ep_ne : ¬ (("_ends" : Str) = "_pieces") := by decide +kernel
theorem put1 (l : Addr) : putF "_pieces" (V.ref l) [] = ([("_pieces", V.ref l)] : List (Str × V)) := rfl
theorem put2 (l e : Addr) : putF "_ends" (V.ref e) ([("_pieces", V.ref l)] : List (Str × V)) = KF l e := by
  show (if ("_pieces" : Str) = "_ends" then [(("_pieces" : Str), V.ref e)] else (("_pieces" : Str), V.ref l) :: putF "_ends" (V.ref e) []) = _
  rw [if_neg pe_ne]
  rfl
theorem put3 (l l' e : Addr) : putF "_pieces" (V.ref l') (KF l e) = KF l' e := by
  show (if ("_pieces" : Str) = "_pieces" then (("_pieces" : Str), V.ref l') :: [(("_ends" : Str), V.ref e)] else _) = _
  rw [if_pos rfl]
  rfl
theorem put4 (l e e' : Addr) : putF "_ends" (V.ref e') (KF l e) = KF l e' := by
  show (if ("_pieces" : Str) = "_ends" then _ else (("_pieces" : Str), V.ref l) :: (if ("_ends" : Str) = "_ends" then (("_ends" : Str), V.ref e') :: [] else _)) = _
  rw [if_neg pe_ne, if_pos rfl]
  rfl
theorem kf_p (l e : Addr) : (KF l e).lookup ("_pieces" : Str) = some (V.ref l) := by
  rw [← put2, lookup_putF, if_neg pe_ne, ← put1, lookup_putF, if_pos rfl]
theorem kf_e (l e : Addr) : (KF l e).lookup ("_ends" : Str) = some (V.ref e) := by
  rw [← put2, lookup_putF, if_pos rfl]
theorem k1_p (l : Addr) : ([("_pieces", V.ref l)] : List (Str × V)).lookup ("_pieces" : Str) = some (V.ref l) := by
  rw [← put1, lookup_putF, if_pos rfl]
theorem kf_no (l e : Addr) {m : Str} (h1 : ¬ m = "_pieces") (h2 : ¬ m = "_ends") : (KF l e).lookup m = none := by
  rw [← put2, lookup_putF, if_neg h2, ← put1, lookup_putF, if_neg h1]
  rfl
def EL (H : Hp) (e : Addr) (ps : List Pc) : Prop := H e = some (.lst ((endsF 0 ps).map fun x => V.int (x : Nat)))
/-- a kept word at p, of the class at C -/
def KW (C : Addr) (H : Hp) (p : Addr) (ps : List Pc) : Prop := ∃ dx l e, H p = some (.ins C dx (KF l e)) ∧ PL H l ps ∧ EL H e ps
theorem KW.same {C : Addr} {H H' : Hp} {p : Addr} {ps : List Pc} (h : KW C H p ps) (s : Same H H') : KW C H' p ps := by
  obtain ⟨dx, l, e, h1, h2, h3⟩ := h
  exact ⟨dx, l, e, s _ _ h1, h2.same s, s _ _ h3⟩
/-- the same, its list of ends is none of those that stood in H0 -/
def KWf (C : Addr) (H0 H : Hp) (p : Addr) (ps : List Pc) : Prop := ∃ dx l e, H p = some (.ins C dx (KF l e)) ∧ PL H l ps ∧ EL H e ps ∧ H0 e = none
theorem KWf.kw {C : Addr} {H0 H : Hp} {p : Addr} {ps : List Pc} (h : KWf C H0 H p ps) : KW C H p ps := by
  obtain ⟨dx, l, e, h1, h2, h3, _⟩ := h
  exact ⟨dx, l, e, h1, h2, h3⟩
theorem none_of {H H' : Hp} {e : Addr} (s : ∀ o, H e = some o → ∃ o', H' e = some o') (h : H' e = none) : H e = none := by
  cases q : H e with
  | none => rfl
  | some o =>
    obtain ⟨o', h2⟩ := s o q
    rw [h] at h2
    cases h2
theorem KWf.pre {C : Addr} {H0 H1 H : Hp} {p : Addr} {ps : List Pc} (h : KWf C H1 H p ps) (s : Same H0 H1) : KWf C H0 H p ps := by
  obtain ⟨dx, l, e, h1, h2, h3, h4⟩ := h
  exact ⟨dx, l, e, h1, h2, h3, none_of (fun o h => ⟨o, s _ _ h⟩) h4⟩
theorem PL.ins {H : Hp} {l p C dx : Addr} {fs gs : List (Str × V)} {ps : List Pc} (h : PL H l ps) (hp : H p = some (.ins C dx fs)) : PL (upd H p (.ins C dx gs)) l ps := by
  obtain ⟨vs, e, q⟩ := h
  refine ⟨vs, ?_, q.mono fun a xs ha => ?_⟩
  · rw [upd_ne (fun z => by rw [z, hp] at e; cases e)]
    exact e
  · rw [upd_ne (fun z => by rw [z, hp] at ha; cases ha)]
    exact ha
section
variable {P : Program} {w : World} {K : PySem.W.Frag} {mg : Str → Option Value} {base : Heap} {C : Addr}
def sp_init (C : Addr) : Sp := fun vs H Q _ => ∃ (p dx l : Addr) (ps : List Pc) (n : Nat), vs = [.ref p, .ref l] ∧ H p = some (.ins C dx []) ∧ PL H l ps ∧ OK n ps ∧ n ≤ 1000 ∧ ∀ H', SameX p H H' → KWf C H H' p (tidy ps) → Q .non H'
theorem n_KeptWord (T : Txt K mg C) : C8.Mak P w K mg base 5 "KeptWord" C (sp_init C) [] := by
  refine makF T.k_KeptWord T.d_KeptWord___init__ sc_KeptWord___init__ (fun vs H Q E h => ?_) (fun f cdv A outer s H vs Q E hr h => ?_)
  · obtain ⟨_, _, _, _, _, rfl, _⟩ := h; rfl
  · obtain ⟨p, dx, l, ps, n, rfl, hp, hl, ok, hn, q⟩ := h
    have cl := T.k_KeptWord.ins.cl
    have okl := ok.len
    refine ⟨_, (pss_cons (ps_expr (C8.pe_c (c_need_kept_pieces T) hr (by decide) (by rfl) (pa_cons (pv 1) pa_nil)))
    (pss_cons (ps_fld (pv 0) (C8.pe_c (c_put_together T) hr (by decide) (by rfl) (pa_cons (pv 1) pa_nil)) rfl)
    (pss_one (ps_fld (pv 0) (C8.pe_c (c_ends_of T) hr (by decide) (by rfl) (pa_cons (pe_fld (pv 0) rfl) pa_nil)) rfl)))), ?_⟩
    refine ⟨_, rfl, l, ps, n, rfl, hl, ok, hn, fun H1 s1 => ?_⟩
    refine ⟨_, rfl, l, ps, rfl, hl.same s1, by omega, fun x hx => by have := (ok.word x hx).1; omega, fun r H2 s2 n2 P2 => ?_⟩
    have hp2 := s2 _ _ (s1 _ _ hp)
    refine ⟨_, rfl, p, C, dx, _, rfl, hp2, cl, T.f_pieces, by show 0 < 1000; decide, ?_⟩
    have P3 : PL (upd H2 p (.ins C dx [("_pieces", .ref r)])) r (tidy ps) := P2.ins hp2
    refine ⟨_, rfl, p, C, dx, _, _, rfl, upd_same, cl, T.f_pieces, k1_p r, r, tidy ps, n, rfl, P3, ok.tidy, hn, fun e H4 s4 n4 E4 => ?_⟩
    have hp4 : H4 p = some (.ins C dx [("_pieces", .ref r)]) := s4 _ _ upd_same
    refine ⟨_, rfl, p, C, dx, _, rfl, hp4, cl, T.f_ends, by show 1 < 1000; decide, ?_⟩
    refine q _ (fun b o hb h => ?_) ⟨dx, r, e, by rw [put2]; exact upd_same, (P3.same s4).ins hp4, ?_, none_of (fun o h => ?_) n4⟩
    · rw [upd_ne hb]
      refine s4 _ _ ?_
      rw [upd_ne hb]
      exact s2 _ _ (s1 _ _ h)
    · unfold EL
      rw [upd_ne (fun z => by rw [z, hp4] at E4; cases E4)]
      exact E4
    · by_cases z : e = p
      · exact ⟨_, by rw [z]; exact upd_same⟩
      · exact ⟨o, by rw [upd_ne z]; exact s2 _ _ (s1 _ _ h)⟩
def sp_pieces (C : Addr) : Sp := fun vs H Q _ => ∃ (p : Addr) (ps : List Pc), vs = [.ref p] ∧ KW C H p ps ∧ ∀ l H', Same H H' → H l = none → PL H' l ps → Q (.ref l) H'
theorem m_KeptWord_pieces (T : Txt K mg C) : C8.Met P w K mg base 1 C "pieces" (sp_pieces C) [] := by
  refine metF T.k_KeptWord T.d_KeptWord_pieces sc_KeptWord_pieces (fun vs H Q E h => ?_) (fun f cdv A outer s H vs Q E hr h => ?_)
  · obtain ⟨_, _, rfl, _⟩ := h; rfl
  · obtain ⟨p, ps, rfl, ⟨dx, l, e, hp, ⟨vs, hl, hv⟩, he⟩, q⟩ := h
    refine ⟨_, (pss_one (ps_ret (pe_callTy call_list_of (by rfl) T.m_list (by decide +kernel) (pa_cons (pe_fld (pv 0) rfl) pa_nil)))), ?_⟩
    exact ⟨_, rfl, p, C, dx, _, _, rfl, hp, T.k_KeptWord.ins.cl, T.f_pieces, kf_p l e, l, vs, rfl, .inl (.inl (.inl hl)), fun r hr0 => q r _ (sameNew hr0) hr0 ⟨vs, upd_same, hv.same (sameNew hr0)⟩⟩
theorem long_take {ps : List Pc} {i : Nat} {p : Pc} (h : ps[i]? = some p) : long (ps.take (i + 1)) = long (ps.take i) + plen p := (endsF_take h).2
theorem ends_at {ps : List Pc} {i : Nat} (h : i < ps.length) : (endsF 0 ps)[i]? = some (long (ps.take (i + 1))) := by
  have hp := List.getElem?_eq_getElem h
  rw [endsF_at ps 0 i _ hp, long_take hp, Nat.zero_add]
theorem endsV_at {ps : List Pc} {i : Nat} (h : i < ps.length) : ((endsF 0 ps).map fun x => V.int (x : Nat))[i]? = some (V.int (long (ps.take (i + 1)) : Nat)) := by
  rw [List.getElem?_map, ends_at h]
  rfl
theorem long_mono {ps : List Pc} : ∀ {i j : Nat}, i ≤ j → long (ps.take i) ≤ long (ps.take j) := by
  intro i j h
  have e : ps.take j = ps.take i ++ (ps.take j).drop i := by
    have := List.take_append_drop i (ps.take j)
    rw [List.take_take, Nat.min_eq_left h] at this
    exact this.symm
  rw [e]
  simp [long]
def sp_length (C : Addr) : Sp := fun vs H Q _ => ∃ (p : Addr) (ps : List Pc), vs = [.ref p] ∧ KW C H p ps ∧ Q (.int (long ps : Nat)) H
theorem m_KeptWord_length (T : Txt K mg C) : C8.Met P w K mg base 1 C "length" (sp_length C) [] := by
  refine metF T.k_KeptWord T.d_KeptWord_length sc_KeptWord_length (fun vs H Q E h => ?_) (fun f cdv A outer s H vs Q E hr h => ?_)
  · obtain ⟨_, _, rfl, _⟩ := h; rfl
  · obtain ⟨p, ps, rfl, ⟨dx, l, e, hp, hl, he⟩, q⟩ := h
    have cl := T.k_KeptWord.ins.cl
    refine ⟨_, (pss_one (ps_ret (pe_ifExp (pt_truth (pe_fld (pv 0) rfl) (by intro _; rfl)) (pe_ix ix_list (pe_fld (pv 0) rfl) (pe_un un_neg pe_int) (fun _ _ => rfl)) pe_int))), ?_⟩
    refine ⟨_, rfl, p, C, dx, _, _, rfl, hp, cl, T.f_ends, kf_e l e, _, .inl ⟨_, .inl (.inl he), rfl⟩, ?_⟩
    by_cases z : ps = []
    · subst z
      exact iteF q
    · have n0 := List.length_pos_iff.mpr z
      rw [show (!((endsF 0 ps).map fun x => V.int (x : Nat)).isEmpty) = true by
        cases ps with
        | nil => exact absurd rfl z
        | cons _ _ => rfl]
      refine iteT ⟨_, rfl, p, C, dx, _, _, rfl, hp, cl, T.f_ends, kf_e l e, 1, rfl, e, _, -1, _, rfl, rfl, .inl (.inl he), last_at ?_, q⟩
      rw [List.length_map, endsF_len, endsV_at (by omega), show ps.length - 1 + 1 = ps.length by omega, List.take_length]
end
end K03

set_option Elab.async false
set_option linter.all false
set_option maxRecDepth 100000
set_option maxHeartbeats 2000000
namespace K03
open PySem PySem.Spec PyProof.Rows L2 CK SX KM
/-! ### letters -/
/-- piece k is the one in which letter i lies -/
def In1 (ps : List Pc) (i k : Nat) : Prop := k < ps.length ∧ i < long (ps.take (k + 1)) ∧ long (ps.take k) ≤ i
section
variable {P : Program} {w : World} {K : PySem.W.Frag} {mg : Str → Option Value} {base : Heap} {C : Addr}
def sp_piece_index : Sp := fun vs H Q _ => ∃ (e : Addr) (ps : List Pc) (i : Nat), vs = [.ref e, .int i] ∧ EL H e ps ∧ i < long ps ∧ ps.length ≤ 1000 ∧ ∀ k : Nat, In1 ps i k → Q (.int k) H
theorem c_piece_index (T : Txt K mg C) : C8.Cal P w K mg base 1 "piece_index" sp_piece_index [] := by
  refine calF T.d_piece_index sc_piece_index (fun vs H Q E h => ?_) (fun f cdv A outer s H vs Q E hr h => ?_)
  · obtain ⟨_, _, _, rfl, _⟩ := h; rfl
  · obtain ⟨e, ps, i, rfl, he, hi, hlen, q⟩ := h
    have n0 : 0 < ps.length := by
      cases ps with
      | nil => simp [long] at hi
      | cons _ _ => simp
    refine ⟨_, (pss_cons (ps_par (i := 2) (j := 3) (by rfl) sc_piece_index.nd rfl rfl (by decide) rfl rfl (pa_cons pe_int (pa_cons (pe_op op_sub (pe_callB call_len_seq (by rfl) T.m_len (by decide +kernel) (pa_cons (pv 0) pa_nil)) pe_int) pa_nil)) (by rfl))
    (pss_cons (ps_while PassesOwn.never (pt_cmpR op_lt (pv 2) (pv 3) (nomark _))
    (pss_cons (ps_set (i := 4) sc_piece_index.nd rfl (Or.inl rfl) (pe_op op_fdivZ (pe_op op_add (pv 2) (pv 3)) pe_int))
    (pss_one (ps_if (pt_cmpR op_gt (pe_ix ix_list (pv 0) (pv 4) (fun _ _ => rfl)) (pv 1) (nomark _))
    (pss_one (ps_set (i := 3) sc_piece_index.nd rfl (Or.inl rfl) (pv 4)))
    (pss_one (ps_set (i := 2) sc_piece_index.nd rfl (Or.inl rfl) (pe_op op_add (pv 4) pe_int)))))))
    (pss_one (ps_ret (pv 2))))), ?_⟩
    refine ⟨_, rfl, e, _, rfl, .inl (.inl (.inl he)), _, _, rfl, rfl, _, _, rfl, ?_⟩
    refine while_by (fun σ H' => H' = H ∧ ∃ (lo hi : Nat) (zl zh : Int) (y : Option V), σ = [some (.ref e), some (.int i), some (.int zl), some (.int zh), y] ∧ zl = lo ∧ zh = hi ∧ lo ≤ hi ∧ hi < ps.length ∧ i < long (ps.take (hi + 1)) ∧ long (ps.take lo) ≤ i)
      (fun σ _ => match σ with | [_, _, some (.int zl), some (.int zh), _] => (zh - zl).toNat | _ => 0) ?_ (fun σ H' p => ?_) ?_
    · refine ⟨rfl, 0, ps.length - 1, _, _, none, rfl, rfl, ?_, Nat.zero_le _, by omega, ?_, by simp [long]⟩
      · rw [List.length_map, endsF_len]
        omega
      · rw [show ps.length - 1 + 1 = ps.length by omega, List.take_length]
        exact hi
    · obtain ⟨rfl, lo, hh, zl, zh, y, rfl, rfl, rfl, hle, hlt, h1, h2⟩ := p
      refine ⟨_, rfl, _, rfl, _, _, rfl, rfl, _, rfl, ite2 (fun c => ?_) (fun c => ?_)⟩
      · have c' : lo < hh := by
          have := of_decide_eq_true c
          omega
        refine ⟨_, rfl, _, rfl, _, _, rfl, rfl, lo + hh, 2, congrArg V.int (by omega), rfl, by decide, by decide, ?_⟩
        have m1 : lo ≤ (lo + hh) / 2 := by omega
        have m2 : (lo + hh) / 2 < hh := by omega
        generalize hm : (lo + hh) / 2 = m at m1 m2
        refine ⟨_, rfl, _, rfl, e, _, _, _, rfl, rfl, .inl (.inl he), atI_nat (j := m) (endsV_at (ps := ps) (i := m) (by omega)), _, rfl, _, _, rfl, rfl, _, rfl, ite2 (fun d => ?_) (fun d => ?_)⟩
        · have d' : i < long (ps.take (m + 1)) := by
            have := of_decide_eq_true d
            omega
          refine ⟨_, rfl, ⟨rfl, lo, m, _, _, _, rfl, rfl, rfl, m1, by omega, by omega, h2⟩, ?_⟩
          show (((m : Nat) : Int) - (lo : Int)).toNat < ((hh : Int) - (lo : Int)).toNat
          omega
        · have d' : ¬ (i < long (ps.take (m + 1))) := fun z => d (decide_eq_true (by omega))
          refine ⟨_, rfl, _, _, rfl, rfl, ⟨rfl, m + 1, hh, _, _, _, rfl, rfl, rfl, by omega, hlt, h1, by omega⟩, ?_⟩
          show ((hh : Int) - (((m : Nat) : Int) + 1)).toNat < ((hh : Int) - (lo : Int)).toNat
          omega
      · have c' : lo = hh := by
          have : ¬ (lo : Int) < hh := fun z => c (decide_eq_true z)
          omega
        subst c'
        exact ⟨_, rfl, q lo ⟨hlt, h1, h2⟩⟩
    · intro σ H' Q1 Q2 hq h
      obtain ⟨a, ha, b, hb, x, y, e1, e2, k, e3, h⟩ := h
      exact ⟨a, ha, b, hb, x, y, e1, e2, k, e3, hq _ _ h⟩
def sp_letter (C : Addr) : Sp := fun vs H Q _ => ∃ (p : Addr) (ps : List Pc) (n i : Nat) (c : Nat), vs = [.ref p, .int i] ∧ KW C H p ps ∧ OK n ps ∧ n ≤ 1000 ∧ (wr ps)[i]? = some c ∧ Q (.str (S [c])) H
theorem m_KeptWord_letter (T : Txt K mg C) : C8.Met P w K mg base 4 C "letter" (sp_letter C) [] := by
  refine metF T.k_KeptWord T.d_KeptWord_letter sc_KeptWord_letter (fun vs H Q E h => ?_) (fun f cdv A outer s H vs Q E hr h => ?_)
  · obtain ⟨_, _, _, _, _, rfl, _⟩ := h; rfl
  · obtain ⟨p, ps, n, i, c, rfl, kw, ok, hn, hc, q⟩ := h
    obtain ⟨dx, l, e, hp, ⟨vs, hl, hv⟩, he⟩ := id kw
    have cl := T.k_KeptWord.ins.cl
    have okl := ok.len
    have hi : i < long ps := by
      have := (List.getElem?_eq_some_iff.mp hc).1
      rw [wr_len] at this
      exact this
    refine ⟨_, (pss_cons (ps_expr (C8.pe_c (c_need_within T) hr (by decide) (by rfl) (pa_cons (pv 1) (pa_cons pe_int (pa_cons (pe_op op_sub (C8.pe_mt0 (m_KeptWord_length T) hr (by decide) (pv 0)) pe_int) pa_nil)))))
    (pss_cons (ps_set (i := 2) sc_KeptWord_letter.nd rfl (Or.inl rfl) (C8.pe_c (c_piece_index T) hr (by decide) (by rfl) (pa_cons (pe_fld (pv 0) rfl) (pa_cons (pv 1) pa_nil))))
    (pss_cons (ps_asg (pe_ix ix_list (pe_fld (pv 0) rfl) (pv 2) (fun _ _ => rfl)) (pg_two (K := K) (i := 3) (j := 4) rfl rfl sc_KeptWord_letter.nd rfl rfl (Or.inl rfl) (Or.inl rfl)))
    (pss_one (ps_ret (pe_ix ix_str (pv 3) (pe_op op_modZ (pe_op op_add (pe_op op_sub (pv 1) (pe_ix ix_list (pe_fld (pv 0) rfl) (pv 2) (fun _ _ => rfl))) (pe_op op_mulZ (pe_callB call_len_str (by rfl) T.m_len (by decide +kernel) (pa_cons (pv 3) pa_nil)) (pv 4))) (pe_callB call_len_str (by rfl) T.m_len (by decide +kernel) (pa_cons (pv 3) pa_nil))) (fun _ _ => rfl))))))), ?_⟩
    refine ⟨_, rfl, _, rfl, p, dx, _, rfl, hp, kf_no l e (by decide +kernel) (by decide +kernel), p, ps, rfl, kw, _, _, rfl, rfl, i, 0, _, rfl, by omega, by omega, ?_⟩
    refine ⟨_, rfl, p, C, dx, _, _, rfl, hp, cl, T.f_ends, kf_e l e, _, rfl, e, ps, i, rfl, he, hi, by omega, fun k hk => ?_⟩
    obtain ⟨k1, k2, k3⟩ := hk
    have hpk := List.getElem?_eq_getElem k1
    generalize ps[k] = pc at hpk
    obtain ⟨a, hva, ha⟩ := hv.at hpk
    have hw := ok.word pc (List.mem_of_getElem? hpk)
    have ht := ok.times hn (List.mem_of_getElem? hpk)
    have lt := long_take hpk
    have la := let_at (s := 0) hpk (ends_at k1) k2 (by omega) (by omega)
    rw [hc] at la
    obtain ⟨la, ne⟩ := la
    have n0 := List.length_pos_iff.mpr ne
    refine ⟨_, rfl, p, C, dx, _, _, rfl, hp, cl, T.f_pieces, kf_p l e, _, rfl, l, _, _, _, rfl, rfl, .inl (.inl hl), atI_nat (j := k) hva, a, _, rfl, .inl (.inl ha), rfl, _, _, rfl, _, _, rfl, rfl, ?_⟩
    have pe : plen pc = pc.1.length * pc.2 := rfl
    refine ⟨_, rfl, _, rfl, _, rfl, p, C, dx, _, _, rfl, hp, cl, T.f_ends, kf_e l e, _, rfl, e, _, _, _, rfl, rfl, .inl (.inl he), atI_nat (j := k) (endsV_at k1), _, _, rfl, rfl, _, rfl, S pc.1, rfl, len_line (by omega), _, rfl, pc.1.length, pc.2, congrArg (fun n : Nat => V.int n) (S_len _), rfl, by omega, by omega, ?_⟩
    refine ⟨_, _, rfl, rfl, _, rfl, S pc.1, rfl, len_line (by omega), i - (long (ps.take (k + 1)) - plen pc), pc.1.length, congrArg V.int (by omega), congrArg (fun n : Nat => V.int n) (S_len _), by omega, ?_⟩
    have ei : i - (long (ps.take (k + 1)) - plen pc) = i - (long (ps.take (k + 1)) - plen pc) := rfl
    exact ⟨_, _, c, rfl, rfl, len_line (by omega), atI_nat (xs := pc.1) la.symm, q⟩
end
end K03

set_option Elab.async false
set_option linter.all false
set_option maxRecDepth 100000
set_option maxHeartbeats 2000000
namespace K03
open PySem PySem.Spec PyProof.Rows L2 CK SX KM
theorem low_rot {w : List Nat} {k : Nat} (h : Low w) : Low (rot w k) := fun c hc => by
  rcases List.mem_append.mp hc with z | z
  · exact h c (List.mem_of_mem_drop z)
  · exact h c (List.mem_of_mem_take z)
theorem ok_cut1 {lo hi s : Nat} {p : Pc} (hw : p.1.length ≤ 4 ∧ Low p.1) (ne : p.1 ≠ []) : (∀ q ∈ cut1 lo hi s p, q.1.length ≤ 4 ∧ Low q.1) ∧ ((cut1 lo hi s p).map (·.2)).sum ≤ p.2 + 1 := by
  have n0 := List.length_pos_iff.mpr ne
  have rl := rot_len p.1 ((lo - s) % p.1.length)
  unfold cut1
  split
  · unfold two
    refine ⟨fun q hq => ?_, ?_⟩
    · rcases List.mem_cons.mp hq with z | z
      · rw [z]
        exact ⟨by show (rot _ _).length ≤ 4; omega, low_rot hw.2⟩
      · rw [List.mem_singleton.mp z]
        exact ⟨by show ((rot _ _).take _).length ≤ 4; rw [List.length_take]; omega, fun c hc => low_rot hw.2 c (List.mem_of_mem_take hc)⟩
    · have e1 : (min hi (s + plen p) - s - (lo - s)) / p.1.length ≤ p.2 := by
        refine Nat.le_trans (Nat.div_le_div_right (show _ ≤ p.1.length * p.2 from ?_)) (Nat.le_of_eq (Nat.mul_div_cancel_left _ n0))
        show min hi (s + plen p) - s - (lo - s) ≤ plen p
        omega
      simpa using e1
  · exact ⟨fun q hq => absurd hq List.not_mem_nil, Nat.zero_le _⟩
theorem OK.cut {lo hi n : Nat} {ps : List Pc} (h : OK n ps) (ne : ∀ p ∈ ps, p.1 ≠ []) : OK (2 * n) (cutF lo hi 0 ps) := by
  have key : ∀ (ps : List Pc) (s : Nat), (∀ p ∈ ps, p.1.length ≤ 4 ∧ Low p.1) → (∀ p ∈ ps, p.1 ≠ []) →
      (∀ q ∈ cutF lo hi s ps, q.1.length ≤ 4 ∧ Low q.1) ∧ ((cutF lo hi s ps).map (·.2)).sum ≤ (ps.map (·.2)).sum + ps.length := by
    intro ps
    induction ps with
    | nil => exact fun s _ _ => ⟨fun q hq => absurd hq List.not_mem_nil, Nat.zero_le _⟩
    | cons p r ih =>
      intro s h1 h2
      obtain ⟨a, b⟩ := ok_cut1 (lo := lo) (hi := hi) (s := s) (h1 p List.mem_cons_self) (h2 p List.mem_cons_self)
      obtain ⟨c, d⟩ := ih (s + plen p) (fun q hq => h1 q (List.mem_cons_of_mem _ hq)) (fun q hq => h2 q (List.mem_cons_of_mem _ hq))
      refine ⟨fun q hq => ?_, ?_⟩
      · rcases List.mem_append.mp hq with z | z
        · exact a q z
        · exact c q z
      · rw [cutF, List.map_append, List.sum_append]
        simp
        omega
  obtain ⟨a, b⟩ := key ps 0 h.word ne
  have := cutF_len lo hi ps 0
  have := h.len
  refine ⟨by omega, a, ?_⟩
  have h3 := h.num
  have h4 : 2 * n * 2 ^ 200 = n * 2 ^ 200 + n * 2 ^ 200 := by rw [Nat.mul_assoc, Nat.two_mul]
  have h5 : n ≤ n * 2 ^ 200 := Nat.le_mul_of_pos_right _ (Nat.two_pow_pos _)
  omega
section
variable {P : Program} {w : World} {K : PySem.W.Frag} {mg : Str → Option Value} {base : Heap} {C : Addr}
def sp_kept_of (C : Addr) : Sp := fun vs H Q _ => ∃ (l : Addr) (ps : List Pc) (n : Nat), vs = [.ref l] ∧ PL H l ps ∧ OK n ps ∧ n ≤ 1000 ∧ ∀ p H', Same H H' → H p = none → KWf C H H' p (tidy ps) → Q (.ref p) H'
theorem c_kept_of (T : Txt K mg C) : C8.Cal P w K mg base 7 "kept_of" (sp_kept_of C) [] := by
  refine calF T.d_kept_of sc_kept_of (fun vs H Q E h => ?_) (fun f cdv A outer s H vs Q E hr h => ?_)
  · obtain ⟨_, _, _, rfl, _⟩ := h; rfl
  · obtain ⟨l, ps, n, rfl, hl, ok, hn, q⟩ := h
    have cl := T.k_KeptWord.ins.cl
    have okl := ok.len
    refine ⟨_, (pss_cons (ps_set (i := 1) sc_kept_of.nd rfl (Or.inl rfl) (C8.pe_mk (n_KeptWord T) hr (by decide) (by rfl) (pa_cons (pe_lst pa_nil) pa_nil)))
    (pss_cons (ps_fld (pv 1) (C8.pe_c (c_put_together T) hr (by decide) (by rfl) (pa_cons (pv 0) pa_nil)) rfl)
    (pss_cons (ps_fld (pv 1) (C8.pe_c (c_ends_of T) hr (by decide) (by rfl) (pa_cons (pe_fld (pv 1) rfl) pa_nil)) rfl)
    (pss_one (ps_ret (pv 1)))))), ?_⟩
    refine ⟨by show 0 ≤ sizeLine; omega, fun r hr0 => ?_⟩
    intro p dx np ndx nex
    have npr : p ≠ r := fun z => by rw [z, upd_same] at np; cases np
    have ndr : dx ≠ r := fun z => by rw [z, upd_same] at ndx; cases ndx
    have s0 : Same H (upd (upd (upd H r (.lst [])) dx (.own p)) p (.ins C dx [])) := fun b o e => by
      have hb := sameNew (o := .lst []) hr0 _ _ e
      rw [upd_ne (ne_of_none hb np), upd_ne (ne_of_none hb ndx)]
      exact hb
    have hpH : H p = none := (sameNew hr0).free np
    refine ⟨p, dx, r, [], 0, rfl, upd_same, ⟨[], by rw [upd_ne npr.symm, upd_ne ndr.symm, upd_same], .nil⟩, .nil, by omega, fun H1 s1 k1 => ⟨rfl, ?_⟩⟩
    have sH1 : Same H H1 := fun b o e => s1 _ _ (fun z => by rw [z, hpH] at e; cases e) (s0 _ _ e)
    obtain ⟨dx1, l1, e1, hp1, hl1, he1, _⟩ := k1
    refine ⟨_, rfl, l, ps, rfl, hl.same sH1, by omega, fun x hx => by have := (ok.word x hx).1; omega, fun r2 H2 s2 n2 P2 => ?_⟩
    have hp2 := s2 _ _ hp1
    refine ⟨_, rfl, p, C, dx1, _, rfl, hp2, cl, T.f_pieces, by show 2 < 1000; decide, ?_⟩
    have P3 : PL (upd H2 p (.ins C dx1 (putF "_pieces" (V.ref r2) (KF l1 e1)))) r2 (tidy ps) := P2.ins hp2
    have lk : (putF "_pieces" (V.ref r2) (KF l1 e1)).lookup ("_pieces" : Str) = some (V.ref r2) := by rw [put3]; exact kf_p _ _
    refine ⟨_, rfl, p, C, dx1, _, _, rfl, upd_same, cl, T.f_pieces, lk, r2, tidy ps, n, rfl, P3, ok.tidy, hn, fun e H4 s4 n4 E4 => ?_⟩
    have hp4 : H4 p = some (.ins C dx1 (putF "_pieces" (V.ref r2) (KF l1 e1))) := s4 _ _ upd_same
    refine ⟨_, rfl, p, C, dx1, _, rfl, hp4, cl, T.f_ends, by rw [put3]; show 2 < 1000; decide, _, rfl, ?_⟩
    refine q p _ (fun b o h => ?_) hpH ⟨dx1, r2, e, by rw [put3, put4]; exact upd_same, (P3.same s4).ins hp4, ?_, none_of (fun o h => ?_) n4⟩
    · have hb : b ≠ p := fun z => by rw [z, hpH] at h; cases h
      rw [upd_ne hb]
      refine s4 _ _ ?_
      rw [upd_ne hb]
      exact s2 _ _ (sH1 _ _ h)
    · unfold EL
      rw [upd_ne (fun z => by rw [z, hp4] at E4; cases E4)]
      exact E4
    · by_cases z : e = p
      · exact ⟨_, by rw [z]; exact upd_same⟩
      · exact ⟨o, by rw [upd_ne z]; exact s2 _ _ (sH1 _ _ h)⟩
def sp_part (C : Addr) : Sp := fun vs H Q _ => ∃ (p : Addr) (ps : List Pc) (n lo hi : Nat), vs = [.ref p, .int lo, .int hi] ∧ KW C H p ps ∧ OK n ps ∧ 2 * n ≤ 1000 ∧ (∀ p ∈ ps, p.1 ≠ []) ∧ lo ≤ hi ∧ hi ≤ long ps ∧
  ∀ p H', Same H H' → H p = none → KWf C H H' p (part ps lo hi) → Q (.ref p) H'
theorem m_KeptWord_part (T : Txt K mg C) : C8.Met P w K mg base 8 C "part" (sp_part C) [] := by
  refine metF T.k_KeptWord T.d_KeptWord_part sc_KeptWord_part (fun vs H Q E h => ?_) (fun f cdv A outer s H vs Q E hr h => ?_)
  · obtain ⟨_, _, _, _, _, rfl, _⟩ := h; rfl
  · obtain ⟨p, ps, n, lo, hi, rfl, kw, ok, hn, ne, hle, hhi, q⟩ := h
    obtain ⟨dx, l, e, hp, hl, he⟩ := id kw
    have cl := T.k_KeptWord.ins.cl
    have nol : (KF l e).lookup ("length" : Str) = none := kf_no l e (by decide +kernel) (by decide +kernel)
    refine ⟨_, (pss_cons (ps_expr (C8.pe_c (c_need_within T) hr (by decide) (by rfl) (pa_cons (pv 1) (pa_cons pe_int (pa_cons (C8.pe_mt0 (m_KeptWord_length T) hr (by decide) (pv 0)) pa_nil)))))
    (pss_cons (ps_expr (C8.pe_c (c_need_within T) hr (by decide) (by rfl) (pa_cons (pv 2) (pa_cons (pv 1) (pa_cons (C8.pe_mt0 (m_KeptWord_length T) hr (by decide) (pv 0)) pa_nil)))))
    (pss_one (ps_ret (C8.pe_c (c_kept_of T) hr (by decide) (by rfl) (pa_cons (C8.pe_c (c_stretch_of T) hr (by decide) (by rfl) (pa_cons (pe_fld (pv 0) rfl) (pa_cons (pe_fld (pv 0) rfl) (pa_cons (pv 1) (pa_cons (pv 2) pa_nil))))) pa_nil)))))), ?_⟩
    refine ⟨_, rfl, _, rfl, p, dx, _, rfl, hp, nol, p, ps, rfl, kw, lo, 0, _, rfl, by omega, by omega, ?_⟩
    refine ⟨_, rfl, _, rfl, _, rfl, p, dx, _, rfl, hp, nol, p, ps, rfl, kw, hi, lo, _, rfl, by omega, by omega, ?_⟩
    refine ⟨_, rfl, p, C, dx, _, _, rfl, hp, cl, T.f_pieces, kf_p l e, _, rfl, p, C, dx, _, _, rfl, hp, cl, T.f_ends, kf_e l e, _, rfl, _, rfl, l, e, ps, n, lo, hi, rfl, hl, he, ok, by omega, ne, hle, fun r H1 s1 n1 P1 => ?_⟩
    exact ⟨r, _, 2 * n, rfl, P1, ok.cut ne, hn, fun p' H2 s2 n2 k2 => q p' H2 (s1.trans s2) (s1.free n2) (k2.pre s1)⟩
def sp_need_kept (C : Addr) : Sp := fun vs H Q _ => ∃ (p : Addr) (ps : List Pc), vs = [.ref p] ∧ KW C H p ps ∧ Q .non H
theorem c_need_kept (T : Txt K mg C) : C8.Cal P w K mg base 1 "need_kept" (sp_need_kept C) [] := by
  refine calF T.d_need_kept sc_need_kept (fun vs H Q E h => ?_) (fun f cdv A outer s H vs Q E hr h => ?_)
  · obtain ⟨_, _, rfl, _⟩ := h; rfl
  · obtain ⟨p, ps, rfl, ⟨dx, l, e, hp, hl, he⟩, q⟩ := h
    refine ⟨_, (pss_one (ps_if (pt_not (pt_val (pe_callB (C8.call_isC T.k_KeptWord.ins) (by rfl) T.m_isinstance (by decide +kernel) (pa_cons (pv 0) (pa_cons (C8.pe_gc (v := .ref C) (by rfl) ⟨_, T.k_KeptWord.mgC, rfl⟩) pa_nil)))))
    (pss_one ps_never)
    pss_nil)), ?_⟩
    exact ⟨_, rfl, p, dx, _, rfl, hp, _, rfl, iteF q⟩
def sp_joined (C : Addr) : Sp := fun vs H Q _ => ∃ (a b : Addr) (ps qs : List Pc) (n : Nat), vs = [.ref a, .ref b] ∧ KW C H a ps ∧ KW C H b qs ∧ OK n ps ∧ OK n qs ∧ 2 * n ≤ 1000 ∧ ∀ p H', Same H H' → H p = none → KWf C H H' p (tidy (ps ++ qs)) → Q (.ref p) H'
theorem c_joined_kept (T : Txt K mg C) : C8.Cal P w K mg base 8 "joined_kept" (sp_joined C) [] := by
  refine calF T.d_joined_kept sc_joined_kept (fun vs H Q E h => ?_) (fun f cdv A outer s H vs Q E hr h => ?_)
  · obtain ⟨_, _, _, _, _, rfl, _⟩ := h; rfl
  · obtain ⟨a, b, ps, qs, n, rfl, ka, kb, oa, ob, hn, q⟩ := h
    obtain ⟨dx, l, e, hp, hl, he⟩ := id ka
    refine ⟨_, (pss_cons (ps_expr (C8.pe_c (c_need_kept T) hr (by decide) (by rfl) (pa_cons (pv 0) pa_nil)))
    (pss_cons (ps_expr (C8.pe_c (c_need_kept T) hr (by decide) (by rfl) (pa_cons (pv 1) pa_nil)))
    (pss_one (ps_ret (C8.pe_c (c_kept_of T) hr (by decide) (by rfl) (pa_cons (pe_op op_cat (C8.pe_mt0 (m_KeptWord_pieces T) hr (by decide) (pv 0)) (C8.pe_mt0 (m_KeptWord_pieces T) hr (by decide) (pv 1))) pa_nil)))))), ?_⟩
    refine ⟨_, rfl, a, ps, rfl, ka, _, rfl, b, qs, rfl, kb, ?_⟩
    have noP : ∀ l e, (KF l e).lookup ("pieces" : Str) = none := fun l e => kf_no l e (by decide +kernel) (by decide +kernel)
    refine ⟨_, rfl, a, dx, _, rfl, hp, noP l e, a, ps, rfl, ka, fun l1 H1 s1 n1 P1 => ?_⟩
    have kb1 := kb.same s1
    obtain ⟨dx2, l2, e2, hp2, hl2, he2⟩ := id kb1
    refine ⟨_, rfl, b, dx2, _, rfl, hp2, noP l2 e2, b, qs, rfl, kb1, fun l3 H3 s3 n3 P3 => ?_⟩
    obtain ⟨vs1, h1, p1⟩ := P1.same s3
    obtain ⟨vs3, h3, p3⟩ := P3
    have la := p1.len
    have lb := p3.len
    have := oa.len
    have := ob.len
    refine ⟨l1, l3, _, _, rfl, rfl, h1, h3, by rw [sizeLine_eq]; omega, fun l4 n4 => ?_⟩
    have s4 := sameNew (o := .lst (vs1 ++ vs3)) n4
    refine ⟨l4, ps ++ qs, n + n, rfl, ⟨_, upd_same, (p1.same s4).app (p3.same s4)⟩, oa.app ob, by omega, fun p H5 s5 n5 k5 => q p H5 (((s1.trans s3).trans s4).trans s5) ?_ (k5.pre ((s1.trans s3).trans s4))⟩
    exact ((s1.trans s3).trans s4).free n5
end
end K03

set_option Elab.async false
set_option linter.all false
set_option maxRecDepth 100000
set_option maxHeartbeats 2000000
namespace K03
open PySem PySem.Spec PyProof.Rows L2 CK SX KM
theorem low_rev {w : List Nat} (h : Low w) : Low w.reverse := fun c hc => h c (List.mem_reverse.mp hc)
theorem OK.mir {n : Nat} {ps : List Pc} (h : OK n ps) : OK n (mir ps) := by
  refine ⟨by have := h.len; simp [KM.mir]; omega, fun p hp => ?_, ?_⟩
  · obtain ⟨q, hq, rfl⟩ := List.mem_map.mp hp
    have := h.word q (List.mem_reverse.mp hq)
    exact ⟨by simpa using this.1, low_rev this.2⟩
  · have e : ((KM.mir ps).map (·.2)).sum = (ps.map (·.2)).sum := by
      unfold KM.mir
      rw [List.map_map, show ((fun x : Pc => x.2) ∘ fun p : Pc => (p.1.reverse, p.2)) = fun x : Pc => x.2 from rfl, List.map_reverse, List.sum_reverse]
    rw [e]
    exact h.num
section
variable {P : Program} {w : World} {K : PySem.W.Frag} {mg : Str → Option Value} {base : Heap} {C : Addr}
def sp_mirrored (C : Addr) : Sp := fun vs H Q _ => ∃ (a : Addr) (ps : List Pc) (n : Nat), vs = [.ref a] ∧ KW C H a ps ∧ OK n ps ∧ n ≤ 1000 ∧ ∀ p H', Same H H' → H p = none → KWf C H H' p (tidy (mir ps)) → Q (.ref p) H'
theorem c_mirrored_kept (T : Txt K mg C) : C8.Cal P w K mg base 8 "mirrored_kept" (sp_mirrored C) [] := by
  refine calF T.d_mirrored_kept sc_mirrored_kept (fun vs H Q E h => ?_) (fun f cdv A outer s H vs Q E hr h => ?_)
  · obtain ⟨_, _, _, rfl, _⟩ := h; rfl
  · obtain ⟨a, ps, n, rfl, ka, ok, hn, q⟩ := h
    obtain ⟨dx, l, e, hp, hl, he⟩ := id ka
    have okl := ok.len
    refine ⟨_, (pss_cons (ps_expr (C8.pe_c (c_need_kept T) hr (by decide) (by rfl) (pa_cons (pv 0) pa_nil)))
    (pss_one (ps_ret (C8.pe_c (c_kept_of T) hr (by decide) (by rfl) (pa_cons (pe_lc (own := [("word", 1), ("times", 2)]) (by rfl) sc_mirrored_kept.nd (pi_reversed (by rfl) T.m_reversed (pa_cons (C8.pe_mt0 (m_KeptWord_pieces T) hr (by decide) (pv 0)) pa_nil)) (blkOk_by (N := ["kept", "word", "times"]) (sc := C8.fnScope (topS 31)) (own := [("word", 1), ("times", 2)]) (by decide +kernel)) (fun _ _ _ _ _ => (pg_two (K := K) (i := 1) (j := 2) rfl rfl sc_mirrored_kept.nd rfl rfl (Or.inl rfl) (Or.inl rfl))) (fun _ _ _ _ _ => pts_nil) (fun _ _ _ _ _ => (pe_tup (pa_cons (pe_revS (pv 1)) (pa_cons (pv 2) pa_nil))))) pa_nil))))), ?_⟩
    refine ⟨_, rfl, a, ps, rfl, ka, ?_⟩
    refine ⟨_, rfl, a, dx, _, rfl, hp, kf_no l e (by decide +kernel) (by decide +kernel), a, ps, rfl, ka, fun l1 H1 s1 n1 P1 => ?_⟩
    obtain ⟨vs, h1, p1⟩ := P1
    have lv := p1.len
    refine ⟨l1, vs, rfl, .inl (.inl h1), fun D hD => ?_⟩
    refine lc_it (walk_rev (K := K) (a := l1) (xs := vs)) (fun i H' => Same H1 H' ∧ PL H' D ((ps.reverse.take i).map fun p => (p.1.reverse, p.2)) ∧ i ≤ ps.length) ⟨sameNew hD, ⟨[], upd_same, .nil⟩, Nat.zero_le _⟩ (fun i H' _ p => .inl (.inl (p.1 _ _ h1))) (fun i x H' H'' hi p y => ?_) fun H' p => ?_
    · obtain ⟨s2, ⟨us, hu, pu⟩, _⟩ := p
      obtain ⟨rfl, hx⟩ := y
      obtain ⟨b, p, rfl, hpi, hb⟩ := p1.get hx
      have hw := ok.word p (List.mem_of_getElem? hpi)
      have hri : ps.reverse[i]? = some p := by
        rw [List.getElem?_reverse (by omega), ← lv]
        exact hpi
      refine ⟨b, _, rfl, .inl (.inl (s2 _ _ hb)), rfl, _, _, rfl, _, _, rfl, rfl, rfl, ?_⟩
      refine ⟨_, rfl, p.1, rfl, by rw [sizeLine_eq]; omega, _, rfl, by show 2 ≤ sizeLine; decide, fun t ht => ?_⟩
      have st := sameNew (o := .tup [.str (S p.1.reverse), .int p.2]) ht
      have lu := pu.len
      have hDt : t ≠ D := fun z => by rw [z, hu] at ht; cases ht
      refine ⟨us, st _ _ hu, by rw [lu, List.length_map, List.length_take, List.length_reverse, sizeLine_eq]; omega, same_upd2 hD (s2.trans st), ⟨_, upd_same, ?_⟩, by omega⟩
      rw [List.take_succ, hri, List.map_append]
      refine ((pu.same st).upd (st _ _ hu)).app (.one ?_)
      rw [upd_ne hDt, upd_same]
    · obtain ⟨s2, PD, _⟩ := p
      rw [lv, ← List.length_reverse (as := ps), List.take_length] at PD
      exact ⟨D, mir ps, n, rfl, PD, ok.mir, hn, fun p H5 s5 n5 k5 => q p H5 ((s1.trans s2).trans s5) ((s1.trans s2).free n5) (k5.pre (s1.trans s2))⟩
end
end K03

set_option Elab.async false
set_option linter.all false
set_option maxRecDepth 100000
set_option maxHeartbeats 4000000
namespace K03
open PySem PySem.Spec PyProof.Rows L2 CK SX KM
section
variable {P : Program} {w : World} {K : PySem.W.Frag} {mg : Str → Option Value} {base : Heap} {C : Addr}
/-! ### the law's own defs -/
theorem fm0 {i j : Int} (h : 0 < j) : 0 ≤ i.fmod j := Int.fmod_nonneg_of_pos i h
theorem fm1 {i j : Int} (h : 0 < j) : i.fmod j < j := Int.fmod_lt_of_pos i h
theorem ab {i : Int} {k : Nat} (h0 : 0 ≤ i) (h : i < 2 ^ k) : i.natAbs < 2 ^ k := by
  have e : ((2 ^ k : Nat) : Int) = 2 ^ k := by simp
  omega
def sp_hash : Sp := fun vs H Q _ => ∃ s i : Int, vs = [.int s, .int i] ∧ 0 ≤ s ∧ s < 2 ^ 31 ∧ 0 ≤ i ∧ i < 2 ^ 41 ∧ ∀ r : Int, 0 ≤ r → r < 2 ^ 31 → Q (.int r) H
theorem c_law_hash (T : Txt K mg C) : C8.Cal P w K mg base 1 "_law_hash" sp_hash [] := by
  refine calF T.d_law_hash sc_law_hash (fun vs H Q E h => ?_) (fun f cdv A outer s H vs Q E hr h => ?_)
  · obtain ⟨_, _, rfl, _⟩ := h; rfl
  · obtain ⟨z, i, rfl, h0, h1, h2, h3, q⟩ := h
    refine ⟨_, (pss_cons (ps_set (i := 2) sc_law_hash.nd rfl (Or.inl rfl) (pe_op op_modN (pe_callTy call_int1 (by rfl) T.m_int (by decide +kernel) (pa_cons (pe_op op_add (pe_op op_add (pe_op op_add (pe_op op_mulW (pv 0) pe_int) (pe_op op_mulW (pe_op op_mulW pe_int (pv 1)) (pv 1))) (pv 1)) pe_int) pa_nil)) pe_int))
    (pss_cons (ps_set (i := 2) sc_law_hash.nd rfl (Or.inl rfl) (pe_op op_modN (pe_callTy call_int1 (by rfl) T.m_int (by decide +kernel) (pa_cons (pe_op op_add (pe_op op_mulW (pv 2) (pv 2)) pe_int) pa_nil)) pe_int))
    (pss_one (ps_ret (pe_op op_modN (pe_callTy call_int1 (by rfl) T.m_int (by decide +kernel) (pa_cons (pe_op op_mulW (pv 2) pe_int) pa_nil)) pe_int))))), ?_⟩
    have a1 : z.natAbs < 2 ^ 100 := ab h0 (by omega)
    have a2 : i.natAbs < 2 ^ 100 := ab h2 (by omega)
    have a3 : ((7919 : Int)).natAbs < 2 ^ 100 := by decide
    have a4 := wide_lt a3 a2
    refine ⟨_, rfl, z, _, rfl, rfl, wide_mul a1 (show ((1103515245 : Int)).natAbs < 2 ^ 100 by decide) (by decide) (by decide) (by decide), ?_⟩
    refine ⟨_, rfl, _, i, rfl, rfl, wide_mul a3 a2 (by decide) (by decide) (by decide), _, rfl, _, i, rfl, rfl, wide_mul a4 a2 (by decide) (by decide) (by decide), _, _, rfl, rfl, ?_⟩
    refine ⟨_, rfl, _, _, rfl, rfl, _, _, rfl, rfl, .inl ⟨_, rfl, _, _, rfl, rfl, (by decide : (2147483647 : Int) ≠ 0), ?_⟩⟩
    obtain ⟨m, hm⟩ : ∃ m, (z * 1103515245 + 7919 * i * i + i + 1).fmod 2147483647 = m := ⟨_, rfl⟩
    have m0 : 0 ≤ m := by rw [← hm]; exact fm0 (by decide)
    have m1 : m < 2147483647 := by rw [← hm]; exact fm1 (by decide)
    have a5 : m.natAbs < 2 ^ 100 := ab m0 (by omega)
    refine ⟨_, rfl, _, rfl, m, m, congrArg V.int hm, congrArg V.int hm, wide_mul a5 a5 (by decide) (by decide) (by decide), ?_⟩
    refine ⟨_, _, rfl, rfl, .inl ⟨_, rfl, _, _, rfl, rfl, (by decide : (2147483629 : Int) ≠ 0), ?_⟩⟩
    obtain ⟨k, hk⟩ : ∃ k, (m * m + 69621).fmod 2147483629 = k := ⟨_, rfl⟩
    have k0 : 0 ≤ k := by rw [← hk]; exact fm0 (by decide)
    have k1 : k < 2147483629 := by rw [← hk]; exact fm1 (by decide)
    have a6 : k.natAbs < 2 ^ 100 := ab k0 (by omega)
    refine ⟨_, rfl, k, _, congrArg V.int hk, rfl, wide_mul a6 (show ((48271 : Int)).natAbs < 2 ^ 100 by decide) (by decide) (by decide) (by decide), .inl ⟨_, rfl, _, _, rfl, rfl, (by decide : (2147483587 : Int) ≠ 0), ?_⟩⟩
    exact q _ (fm0 (by decide)) (Int.lt_trans (fm1 (by decide)) (by decide))
def sp_random : Sp := fun vs H Q _ => ∃ (g : Addr) (b : Int) (n : Nat), vs = [.ref g, .int b] ∧ Gn (n + 1) H g ∧ 1 ≤ b ∧ b < 2 ^ 200 ∧ ∀ (r : Int) H', SameX g H H' → Gn n H' g → 0 ≤ r → r < b → Q (.int r) H'
theorem pow32 (i : Nat) : (2 : Int) ^ (32 * (i + 1)) = 2 ^ (32 * i) * 4294967296 := by
  rw [Nat.mul_add, Int.pow_add]
  rfl
theorem pow_ge1 (i : Nat) : (1 : Int) ≤ 2 ^ i := by
  have := Int.pow_pos (n := 2) (m := i) (by decide)
  omega
theorem c_law_random (T : Txt K mg C) : C8.Cal P w K mg base 2 "_law_random" sp_random [] := by
  refine calF T.d_law_random sc_law_random (fun vs H Q E h => ?_) (fun f cdv A outer s H vs Q E hr h => ?_)
  · obtain ⟨_, _, _, rfl, _⟩ := h; rfl
  · obtain ⟨g, b, n, rfl, G, hb, hb2, q⟩ := h
    refine ⟨_, (pss_cons (ps_if (pt_cmpR op_gt (pe_ix ix_list (pv 0) pe_int (fun _ _ => rfl)) pe_int (nomark _))
    (pss_cons (ps_set (i := 2) sc_law_random.nd rfl (Or.inl rfl) (pe_op op_modN (pe_callTy call_int1 (by rfl) T.m_int (by decide +kernel) (pa_cons (pe_ix ix_list (pv 0) pe_int (fun _ _ => rfl)) pa_nil)) (pv 1)))
    (pss_cons (ps_asg (pe_op op_fdivW (pe_ix ix_list (pv 0) pe_int (fun _ _ => rfl)) (pv 1)) (pg_sub (pv 0) pe_int set_list))
    (pss_one (ps_ret (pv 2)))))
    pss_nil)
    (pss_cons (ps_set (i := 2) sc_law_random.nd rfl (Or.inl rfl) pe_int)
    (pss_cons (ps_for PassesOwn.never rfl (pi_range1 (by rfl) T.m_range (pa_cons (pe_op op_add pe_int (pe_op op_fdivW (pe_bits (pv 1)) pe_int)) pa_nil)) (pg_name (i := 3) sc_law_random.nd rfl (Or.inl rfl))
    (pss_cons (ps_asg (pe_op op_add (pe_ix ix_list (pv 0) pe_int (fun _ _ => rfl)) pe_int) (pg_sub (pv 0) pe_int set_list))
    (pss_one (ps_set (i := 2) sc_law_random.nd rfl (Or.inl rfl) (pe_op op_add (pe_op op_mulW (pv 2) pe_int) (C8.pe_c (c_law_hash T) hr (by decide) (by rfl) (pa_cons (pe_ix ix_list (pv 0) pe_int (fun _ _ => rfl)) (pa_cons (pe_ix ix_list (pv 0) pe_int (fun _ _ => rfl)) pa_nil))))))))
    (pss_one (ps_ret (pe_op op_modN (pe_callTy call_int1 (by rfl) T.m_int (by decide +kernel) (pa_cons (pv 2) pa_nil)) (pv 1))))))), ?_⟩
    obtain ⟨x, y, c, hg, x0, y0, y1, c0, c1⟩ := G
    refine ⟨_, rfl, g, _, 0, .int x, rfl, rfl, .inl (.inl hg), atI_nat (j := 0) rfl, x, 0, rfl, rfl, _, rfl, ite2 (fun e => ?_) (fun e => ?_)⟩
    · -- a digit
      refine ⟨_, rfl, g, _, 0, .int x, rfl, rfl, .inl (.inl hg), atI_nat (j := 0) rfl, .inl ⟨x, rfl, _, rfl, x, b, rfl, rfl, by omega, ?_⟩⟩
      refine ⟨_, rfl, g, _, 0, .int x, rfl, rfl, .inl (.inl hg), atI_nat (j := 0) rfl, _, rfl, x, b, rfl, rfl, wide_div (b := 200) (by omega) (ab (by omega) hb2) (by decide) (by decide), _, rfl, g, _, 0, 0, rfl, rfl, hg, rfl, ?_⟩
      exact ⟨_, rfl, q _ _ sameX_upd ⟨x / b, y, c, upd_same, Int.ediv_nonneg x0 (by omega), y0, y1, c0, by omega⟩ (fm0 (by omega)) (fm1 (by omega))⟩
    · -- by the hash
      have ib : Builtin.Int.intBits b ≤ 200 := intBits_le (ab (by omega) hb2)
      have tn : (1 + ((Builtin.Int.intBits b : Nat) : Int) / 30).toNat ≤ 7 := by omega
      refine ⟨_, rfl, b, rfl, _, _, rfl, rfl, wide_div (b := 200) (by decide) (by decide) (by decide) (by decide), _, _, rfl, rfl, _, rfl, by omega, by omega, ?_⟩
      refine for_it walk_range (fun i σ H3 => ∃ (d : Int) (y3 : Option V) (c3 : Int), σ = [some (.ref g), some (.int b), some (.int d), y3] ∧ SameX g H H3 ∧ H3 g = some (.lst [.int x, .int y, .int c3]) ∧ c3 = c + i ∧ 0 ≤ d ∧ d < 2 ^ (32 * i) ∧ i ≤ 7)
        ⟨0, none, c, rfl, .refl _ _, hg, by simp, Int.le_refl _, by decide, by decide⟩ (fun _ _ _ _ _ => True.intro) (fun i v σ H3 H4 hi p yy => ?_) fun σ H3 p => ?_
      · obtain ⟨d, y3, c3, rfl, s3, g3, ec, d0, d1, i7⟩ := p
        obtain ⟨rfl, rfl⟩ := yy
        have i6 : i ≤ 6 := by omega
        have u1 : (upd H4 g (.lst [.int x, .int y, .int (c3 + 1)])) g = some (.lst [.int x, .int y, .int (c3 + 1)]) := upd_same
        refine ⟨_, rfl, g, _, 2, .int c3, rfl, rfl, .inl (.inl g3), atI_nat (j := 2) rfl, _, _, rfl, rfl, _, rfl, g, _, 2, 2, rfl, rfl, g3, rfl, ?_⟩
        have ad : d.natAbs < 2 ^ (32 * i + 1) := ab d0 (Int.lt_of_lt_of_le d1 (by rw [Int.pow_succ]; have := pow_ge1 (32 * i); omega))
        refine ⟨_, rfl, d, _, rfl, rfl, wide_mul ad (show ((2147483587 : Int)).natAbs < 2 ^ 100 by decide) (by omega) (by decide) (by omega), ?_⟩
        refine ⟨_, rfl, g, _, 1, .int y, rfl, rfl, .inl (.inl u1), atI_nat (j := 1) rfl, _, rfl, g, _, 2, .int (c3 + 1), rfl, rfl, .inl (.inl u1), atI_nat (j := 2) rfl, y, c3 + 1, rfl, y0, y1, by omega, by omega, fun r r0 r1 => ⟨_, _, rfl, rfl, ?_⟩⟩
        refine ⟨_, _, c3 + 1, rfl, fun z o nz e => by rw [upd_ne nz]; exact s3 z o nz e, u1, by omega, by have : 0 ≤ d * 2147483587 := Int.mul_nonneg d0 (by decide); omega, ?_, by omega⟩
        rw [pow32]
        have := pow_ge1 (32 * i)
        omega
      · obtain ⟨d, y3, c3, rfl, s3, g3, ec, d0, d1, i7⟩ := p
        refine ⟨_, rfl, .inl ⟨d, rfl, _, rfl, d, b, rfl, rfl, by omega, ?_⟩⟩
        exact q _ _ s3 ⟨x, y, c3, g3, x0, y0, y1, by omega, by omega⟩ (fm0 (by omega)) (fm1 (by omega))
def sp_cell (K : PySem.W.Frag) : Sp := fun vs H Q _ => ∃ (a : Addr) (ns : List Int) (i : Nat), vs = [.ref a, .int i] ∧ SqL K H a (ns.map V.int) ∧ ∀ (r : Int) H', Same H H' → Q (.int r) H'
theorem c_law_cell (T : Txt K mg C) : C8.Cal P w K mg base 1 "_law_cell" (sp_cell K) [] := by
  refine calF T.d_law_cell sc_law_cell (fun vs H Q E h => ?_) (fun f cdv A outer s H vs Q E hr h => ?_)
  · obtain ⟨_, _, _, rfl, _⟩ := h; rfl
  · obtain ⟨a, ns, i, rfl, ha, q⟩ := h
    refine ⟨_, (pss_cons (ps_if (pt_cmpR op_lt (pv 1) (pe_callB call_len_seq (by rfl) T.m_len (by decide +kernel) (pa_cons (pv 0) pa_nil)) (nomark _))
    (pss_one (ps_ret (pe_ix ix_list (pv 0) (pv 1) (fun _ _ => rfl))))
    pss_nil)
    (pss_one (ps_ret (pe_op op_modN (pe_callB (cr_sum rfl) (by rfl) T.m_sum (by decide +kernel) (pa_cons (pe_slice sl_list (pv 0) po_none (po_some pe_int)) pa_nil)) pe_int)))), ?_⟩
    refine ⟨_, rfl, _, rfl, a, _, rfl, .inl ha, _, _, rfl, rfl, _, rfl, ite2 (fun e => ?_) (fun e => ?_)⟩
    · have e' := of_decide_eq_true e
      rw [List.length_map] at e'
      have hi : i < ns.length := by omega
      refine ⟨_, rfl, _, rfl, a, _, i, .int ns[i], rfl, rfl, ha, atI_nat ?_, q _ H (Same.refl _)⟩
      rw [List.getElem?_map, List.getElem?_eq_getElem hi]
      rfl
    · refine ⟨_, rfl, 1, rfl, a, _, rfl, ha, fun p hp => ?_⟩
      refine ⟨p, ns.take 1, rfl, .inl (.inl ?_), _, _, rfl, rfl, (by decide : (1000003 : Int) ≠ 0), q _ _ (sameNew hp)⟩
      rw [upd_same, show ((1 : Int)) = ((1 : Nat) : Int) from rfl, cutV_take, List.map_take]
def sp_generator (K : PySem.W.Frag) : Sp := fun vs H Q _ => ∃ (a : Addr) (ns : List Int) (i : Nat), vs = [.ref a, .int i] ∧ SqL K H a (ns.map V.int) ∧ i ≤ 10 ∧ ∀ g H1 H', Same H H1 → H1 g = none → Same H1 H' → Gn 100000 H' g → Q (.ref g) H'
theorem c_law_generator (T : Txt K mg C) : C8.Cal P w K mg base 2 "_law_generator" (sp_generator K) [] := by
  refine calF T.d_law_generator sc_law_generator (fun vs H Q E h => ?_) (fun f cdv A outer s H vs Q E hr h => ?_)
  · obtain ⟨_, _, _, rfl, _⟩ := h; rfl
  · obtain ⟨a, ns, i, rfl, ha, hi, q⟩ := h
    refine ⟨_, (pss_cons (ps_set (i := 2) sc_law_generator.nd rfl (Or.inl rfl) (C8.pe_c (c_law_cell T) hr (by decide) (by rfl) (pa_cons (pv 0) (pa_cons (pv 1) pa_nil))))
    (pss_one (ps_ret (pe_lst (pa_cons (pe_op op_modN (pe_callTy call_int1 (by rfl) T.m_int (by decide +kernel) (pa_cons (pe_callB (call_max2 rfl) (by rfl) T.m_max (by decide +kernel) (pa_cons (pe_op op_sub (pv 2) (pe_op op_powB pe_int pe_int)) (pa_cons pe_int pa_nil))) pa_nil)) (pe_op op_powB (pe_op op_powB pe_int pe_int) pe_int)) (pa_cons (pe_op op_modN (pe_callTy call_int1 (by rfl) T.m_int (by decide +kernel) (pa_cons (pv 2) pa_nil)) pe_int) (pa_cons (pe_op op_mulW pe_int (pv 1)) pa_nil))))))), ?_⟩
    refine ⟨_, rfl, _, rfl, a, ns, i, rfl, ha, fun r H1 s1 => ?_⟩
    refine ⟨_, rfl, _, _, rfl, rfl, ⟨by decide, by decide⟩, _, _, rfl, rfl, _, _, rfl, .inl ⟨_, rfl, _, _, rfl, rfl, ⟨by decide, by decide⟩, _, _, rfl, rfl, ⟨by decide, by decide⟩, _, _, rfl, rfl, (by decide : ((10 : Int) ^ Int.toNat 60) ^ Int.toNat 10 ≠ 0), ?_⟩⟩
    refine ⟨_, rfl, .inl ⟨_, rfl, _, _, rfl, rfl, (by decide : (2147483647 : Int) ≠ 0), ?_⟩⟩
    refine ⟨_, rfl, _, _, rfl, rfl, wide_mul (show ((1000 : Int)).natAbs < 2 ^ 100 by decide) (show ((i : Int)).natAbs < 2 ^ 100 by omega) (by decide) (by decide) (by decide), by show 3 ≤ sizeLine; decide, fun g hg => ?_⟩
    refine q g H1 _ s1 hg (sameNew hg) ⟨_, _, _, upd_same, fm0 (by decide), fm0 (by decide), Int.lt_trans (fm1 (by decide)) (by decide), by omega, by omega⟩
end
end K03

set_option Elab.async false
set_option linter.all false
set_option maxRecDepth 100000
set_option maxHeartbeats 4000000
namespace K03
open PySem PySem.Spec PyProof.Rows L2 CK SX KM
/-- a comprehension over a range that draws: what its items are is told by Pz -/
theorem lcP_draw {lo : Int} {g : Addr} {n cnt j : Nat} (Pz : V → Prop) {te : TE} {vs : List Nat} {σ : L2.St} {H1 : Hp} {D : Addr} {Qd : Hp → Prop} (hc : cnt < sizeLine) (hD : H1 D = none) (hg : Gn (n + cnt) H1 g)
    (hs : ∀ (i : Nat) (H : Hp) (R : VK), i < cnt → SameX g H1 H → Gn (n + (cnt - (i + 1)) + 1) H g → (∀ (r : V) H', SameX g H H' → Gn (n + (cnt - (i + 1))) H' g → Pz r → R r H') →
      wipe ((wipe σ vs).set j (some (.int (lo + i)))) vs = wipe σ vs ∧ te ((wipe σ vs).set j (some (.int (lo + i)))) H R)
    (hd : ∀ (H : Hp) (ns : List V), SameX g H1 H → Gn n H g → H D = some (.lst ns) → ns.length = cnt → (∀ x ∈ ns, Pz x) → Qd H) :
    ∃ W : Nat → Nat → Hp → Prop, (∃ m, W 0 m (L2.upd H1 D (.lst []))) ∧ ∀ i m H, W i m H →
      ((Itr lo cnt).stop i H ∧ Qd H) ∨ ((Itr lo cnt).go i H ∧ ∃ Nx : Hp → Prop, (∀ H', Nx H' → ∃ m', m' < m ∧ W (i + 1) m' H') ∧ ∀ x H', (Itr lo cnt).yld i H x H' → gName j x (wipe σ vs) H' fun σ2 H2 => wipe σ2 vs = wipe σ vs ∧ tYes σ2 H2 fun b H3 =>
        if b = true then te σ2 H3 fun y H4 => ∃ acc, H4 D = some (.lst acc) ∧ acc.length < sizeLine ∧ Nx (L2.upd H4 D (.lst (acc ++ [y]))) else Nx H3) := by
  have hDg := hg.ne hD
  refine lc_range (fun i H => SameX g H1 H ∧ Gn (n + (cnt - i)) H g ∧ i ≤ cnt ∧ ∃ ns : List V, H D = some (.lst ns) ∧ ns.length = i ∧ ∀ x ∈ ns, Pz x)
    ⟨sameX_new hD, hg.upd hDg, Nat.zero_le _, [], upd_same, rfl, fun x h => absurd h List.not_mem_nil⟩ (fun i H hi p => ?_) fun H p => ?_
  · obtain ⟨s, G, _, ns, hL, hl, hb⟩ := p
    have G1 : Gn (n + (cnt - (i + 1)) + 1) H g := by
      have e : n + (cnt - (i + 1)) + 1 = n + (cnt - i) := by omega
      rw [e]
      exact G
    refine hs i H _ hi s G1 fun r H' s' G' h0 => ⟨_, s' D _ hDg hL, by omega, (s.trans s').upd2 hD, G'.upd hDg, hi, ns ++ [r], upd_same, ?_, fun x hx => ?_⟩
    · rw [List.length_append, hl]
      rfl
    · rcases List.mem_append.mp hx with z | z
      · exact hb x z
      · rw [List.mem_singleton.mp z]
        exact h0
  · obtain ⟨s, G, _, ns, hL, hl, hb⟩ := p
    rw [Nat.sub_self] at G
    exact hd H ns s G hL hl hb
theorem abc_at : ∀ j : Fin 26, (Str.ofString "abcdefghijklmnopqrstuvwxyz").cps.toList[j.val]? = some (97 + j.val) := by decide +kernel
theorem abc_len : (Str.ofString "abcdefghijklmnopqrstuvwxyz").length ≤ sizeLine := by
  rw [sizeLine_eq]
  decide +kernel
theorem join_one : ∀ cs : List Nat, TL.joinL [] (cs.map fun c => [c]) = cs
  | [] => rfl
  | [c] => rfl
  | c :: d :: r => by
    show [c] ++ ([] ++ TL.joinL [] ((d :: r).map fun c => [c])) = _
    rw [join_one (d :: r)]
    rfl
theorem empty_S : (Str.ofString "" : Str) = S [] := by decide +kernel
theorem join_S1 (cs : List Nat) : Txt.join (Str.ofString "") (cs.map fun c => S [c]) = S cs := by
  rw [empty_S]
  have := join_S [] (cs.map fun c => [c])
  rw [List.map_map] at this
  rw [show (cs.map fun c => S [c]) = cs.map (S ∘ fun c => [c]) from rfl, this, join_one]
/-- three letters -/
def LT (H : Hp) (l : Addr) (cs : List Nat) : Prop := H l = some (.lst (cs.map fun c => V.str (S [c]))) ∧ cs.length = 3 ∧ Low cs
theorem LT.sameX {g : Addr} {H H' : Hp} {l : Addr} {cs : List Nat} (h : LT H l cs) (s : SameX g H H') (n : l ≠ g) : LT H' l cs := ⟨s _ _ n h.1, h.2⟩
section
variable {P : Program} {w : World} {K : PySem.W.Frag} {mg : Str → Option Value} {base : Heap} {C : Addr}
def sp_letters : Sp := fun vs H Q _ => ∃ (g : Addr) (n : Nat), vs = [.ref g] ∧ Gn (n + 2) H g ∧ ∀ l cs H', SameX g H H' → Gn n H' g → H l = none → LT H' l cs → Q (.ref l) H'
def steps12 : List Int := [1, 3, 5, 7, 9, 11, 15, 17, 19, 21, 23, 25]
theorem c_law_letters (T : Txt K mg C) : C8.Cal P w K mg base 3 "_law_letters" sp_letters [] := by
  refine calF T.d_law_letters sc_law_letters (fun vs H Q E h => ?_) (fun f cdv A outer s H vs Q E hr h => ?_)
  · obtain ⟨_, _, rfl, _⟩ := h; rfl
  · obtain ⟨g, n, rfl, G, q⟩ := h
    refine ⟨_, (pss_cons (ps_asg (pe_tup (pa_cons (C8.pe_c (c_law_random T) hr (by decide) (by rfl) (pa_cons (pv 0) (pa_cons pe_int pa_nil))) (pa_cons (pe_ix ix_list (pe_lst (pa_cons pe_int (pa_cons pe_int (pa_cons pe_int (pa_cons pe_int (pa_cons pe_int (pa_cons pe_int (pa_cons pe_int (pa_cons pe_int (pa_cons pe_int (pa_cons pe_int (pa_cons pe_int (pa_cons pe_int pa_nil))))))))))))) (C8.pe_c (c_law_random T) hr (by decide) (by rfl) (pa_cons (pv 0) (pa_cons pe_int pa_nil))) (fun _ _ => rfl)) pa_nil))) (pg_two (K := K) (i := 1) (j := 2) rfl rfl sc_law_letters.nd rfl rfl (Or.inr rfl) (Or.inr rfl)))
    (pss_one (ps_ret (pe_lc (own := [("_law_at", 3)]) (by rfl) sc_law_letters.nd (pi_range1 (by rfl) T.m_range (pa_cons pe_int pa_nil)) (blkOk_by (N := ["_law_generator_here", "_law_start", "_law_step", "_law_at"]) (sc := C8.fnScope (topS 37)) (own := [("_law_at", 3)]) (by decide +kernel)) (fun _ _ _ _ _ => (pg_name (i := 3) sc_law_letters.nd rfl (Or.inl rfl))) (fun _ _ _ _ _ => pts_nil) (fun _ _ _ _ _ => (pe_ix ix_str pe_str (pe_op op_modN (pe_callTy call_int1 (by rfl) T.m_int (by decide +kernel) (pa_cons (pe_op op_add (pv 1) (pe_op op_mulW (pv 2) (pv 3))) pa_nil)) pe_int) (fun _ _ => rfl))))))), ?_⟩
    refine ⟨_, rfl, g, 26, n + 1, rfl, G, by decide, by decide, fun r H1 s1 G1 r0 r1 => ?_⟩
    refine ⟨by show 12 ≤ sizeLine; decide, fun L hL => ?_⟩
    have Lg := G1.ne hL
    refine ⟨_, rfl, g, 12, n, rfl, G1.upd Lg, by decide, by decide, fun r2 H2 s2 G2 r20 r21 => ?_⟩
    have hL2 := s2 _ _ Lg upd_same
    obtain ⟨st, hst⟩ : ∃ st : Int, atI (steps12.map V.int) r2 = some (.int st) ∧ 0 ≤ st ∧ st < 30 := by
      have e : r2 = ((r2.toNat : Nat) : Int) := by omega
      have h : ∀ j : Fin 12, ∃ st : Int, (steps12.map V.int)[j.val]? = some (.int st) ∧ 0 ≤ st ∧ st < 30 := by
        intro j
        have hj : j.val < steps12.length := j.isLt
        refine ⟨steps12[j.val], by rw [List.getElem?_map, List.getElem?_eq_getElem hj]; rfl, ?_⟩
        have : ∀ j : Fin 12, 0 ≤ steps12[j.val]'j.isLt ∧ steps12[j.val]'j.isLt < 30 := by decide
        exact this j
      obtain ⟨st, a, b⟩ := h ⟨r2.toNat, by omega⟩
      exact ⟨st, by rw [e]; exact atI_nat a, b⟩
    refine ⟨L, _, r2, .int st, rfl, rfl, .inl (.inl hL2), hst.1, by show 2 ≤ sizeLine; decide, fun t ht => ?_⟩
    refine ⟨t, _, rfl, .inl (.inl upd_same), rfl, _, _, rfl, _, _, rfl, rfl, ?_⟩
    refine ⟨3, rfl, by decide, by decide, fun D hD => ?_⟩
    have st2 := sameNew (o := .tup [V.int r, V.int st]) ht
    refine lcR_map (lo := 0) (n := 3) (fun i => .str (S [97 + ((r + st * (0 + (i : Int))).fmod 26).toNat])) (small1000 (by decide)) (fun i H3 R hi s3 q' => ?_) hD fun H3 s3 hL3 => ?_
    · have hm : ∀ x : Int, 0 ≤ x.fmod 26 ∧ x.fmod 26 < 26 := fun x => ⟨fm0 (by decide), fm1 (by decide)⟩
      have hx := hm (r + st * (0 + (i : Int)))
      refine ⟨rfl, _, rfl, _, rfl, _, rfl, st, 0 + (i : Int), rfl, rfl, wide_mul (show st.natAbs < 2 ^ 100 by omega) (show (0 + (i : Int)).natAbs < 2 ^ 100 by omega) (by decide) (by decide) (by decide), _, _, rfl, rfl, .inl ⟨_, rfl, _, _, rfl, rfl, (by decide : (26 : Int) ≠ 0), ?_⟩⟩
      refine ⟨_, _, 97 + ((r + st * (0 + (i : Int))).fmod 26).toNat, rfl, rfl, abc_len, ?_, q' _ (Same.refl _)⟩
      have := abc_at ⟨((r + st * (0 + (i : Int))).fmod 26).toNat, by omega⟩
      have e : (r + st * (0 + (i : Int))).fmod 26 = ((((r + st * (0 + (i : Int))).fmod 26).toNat : Nat) : Int) := by omega
      have h2 := atI_nat this
      rw [← e] at h2
      exact h2
    · refine q D ((List.range 3).map fun (i : Nat) => 97 + ((r + st * (0 + (i : Int))).fmod 26).toNat) H3 (fun b o hb h => ?_) ?_ ?_ ⟨by rw [hL3, List.map_map]; rfl, by simp, fun c hc => ?_⟩
      · refine s3 _ _ (st2 _ _ (s2 _ _ hb ?_))
        have := s1 _ _ hb h
        exact sameNew hL _ _ this
      · exact (G2.same st2).same s3
      · cases e : H D with
        | none => rfl
        | some o =>
          by_cases hDg : D = g
          · rw [hDg] at hD
            obtain ⟨xs, hx⟩ := (G2.same st2).at
            rw [hx] at hD
            cases hD
          · have := st2 _ _ (s2 _ _ hDg (sameNew hL _ _ (s1 _ _ hDg e)))
            rw [this] at hD
            cases hD
      · obtain ⟨i, _, rfl⟩ := List.mem_map.mp hc
        have hx : 0 ≤ (r + st * (0 + (i : Int))).fmod 26 ∧ (r + st * (0 + (i : Int))).fmod 26 < 26 := ⟨fm0 (by decide), fm1 (by decide)⟩
        omega
end
end K03

set_option Elab.async false
set_option linter.all false
set_option maxRecDepth 100000
set_option maxHeartbeats 4000000
namespace K03
open PySem PySem.Spec PyProof.Rows L2 CK SX KM
theorem ones_S : ∀ {vs : List V}, (∀ v ∈ vs, ∃ c, v = V.str (S [c]) ∧ 97 ≤ c ∧ c ≤ 122) → ∃ cs : List Nat, vs = (cs.map fun c => S [c]).map V.str ∧ Low cs ∧ cs.length = vs.length
  | [], _ => ⟨[], rfl, fun c h => absurd h List.not_mem_nil, rfl⟩
  | v :: vs, h => by
    obtain ⟨c, rfl, hc⟩ := h v List.mem_cons_self
    obtain ⟨cs, rfl, lw, hl⟩ := ones_S fun u hu => h u (List.mem_cons_of_mem _ hu)
    refine ⟨c :: cs, rfl, fun d hd => ?_, by simp⟩
    rcases List.mem_cons.mp hd with z | z
    · rw [z]; exact hc
    · exact lw d z
theorem LT.get {H : Hp} {l : Addr} {cs : List Nat} (h : LT H l cs) {r : Int} (h0 : 0 ≤ r) (h1 : r < 3) : ∃ c, atI (cs.map fun c => V.str (S [c])) r = some (V.str (S [c])) ∧ 97 ≤ c ∧ c ≤ 122 := by
  obtain ⟨k, rfl⟩ : ∃ k : Nat, r = k := ⟨r.toNat, by omega⟩
  have hl : k < cs.length := by rw [h.2.1]; omega
  refine ⟨cs[k], ?_, h.2.2 _ (List.getElem_mem hl)⟩
  refine atI_nat ?_
  rw [List.getElem?_map, List.getElem?_eq_getElem hl]
  rfl
section
variable {P : Program} {w : World} {K : PySem.W.Frag} {mg : Str → Option Value} {base : Heap} {C : Addr}
def sp_word : Sp := fun vs H Q _ => ∃ (g l : Addr) (cs : List Nat) (n lo hi : Nat), vs = [.ref g, .ref l, .int lo, .int hi] ∧ LT H l cs ∧ l ≠ g ∧ Gn (n + 10) H g ∧ lo ≤ hi ∧ hi ≤ 4 ∧
  ∀ (w : List Nat) H', SameX g H H' → Gn n H' g → lo ≤ w.length → w.length ≤ hi → Low w → Q (.str (S w)) H'
theorem c_law_word (T : Txt K mg C) : C8.Cal P w K mg base 3 "_law_word" sp_word [] := by
  refine calF T.d_law_word sc_law_word (fun vs H Q E h => ?_) (fun f cdv A outer s H vs Q E hr h => ?_)
  · obtain ⟨_, _, _, _, _, _, rfl, _⟩ := h; rfl
  · obtain ⟨g, l, cs, n, lo, hi, rfl, lt, lg, G, h1, h2, q⟩ := h
    refine ⟨_, (pss_cons (ps_set (i := 4) sc_law_word.nd rfl (Or.inl rfl) (pe_op op_add (pv 2) (C8.pe_c (c_law_random T) hr (by decide) (by rfl) (pa_cons (pv 0) (pa_cons (pe_op op_add (pe_op op_sub (pv 3) (pv 2)) pe_int) pa_nil)))))
    (pss_one (ps_ret (pe_join pe_str (pe_lc (own := [("_law_at", 5)]) (by rfl) sc_law_word.nd (pi_range1 (by rfl) T.m_range (pa_cons (pv 4) pa_nil)) (blkOk_by (N := ["_law_generator_here", "_law_letters_here", "_law_least", "_law_most", "_law_many", "_law_at"]) (sc := C8.fnScope (topS 38)) (own := [("_law_at", 5)]) (by decide +kernel)) (fun _ _ _ _ _ => (pg_name (i := 5) sc_law_word.nd rfl (Or.inl rfl))) (fun _ _ _ _ _ => pts_nil) (fun _ _ _ _ _ => (pe_ix ix_listH (pv 1) (C8.pe_c (c_law_random T) hr (by decide) (by rfl) (pa_cons (pv 0) (pa_cons (pe_callB call_lenH (by rfl) T.m_len (by decide +kernel) (pa_cons (pv 1) pa_nil)) pa_nil))) (fun _ _ => rfl)))))))), ?_⟩
    refine ⟨_, rfl, _, rfl, _, rfl, _, rfl, _, _, rfl, rfl, _, _, rfl, rfl, g, _, n + 9, rfl, G, by omega, by omega, fun r H1 s1 G1 r0 r1 => ?_⟩
    refine ⟨_, _, rfl, rfl, ?_⟩
    refine ⟨⟨_, rfl⟩, _, rfl, (lo : Int) + r, rfl, by omega, by omega, fun D hD => ?_⟩
    have lt1 := lt.sameX s1 lg
    refine lcP_draw (lo := 0) (g := g) (n := n) (cnt := ((lo : Int) + r).toNat) (fun v => ∃ c, v = V.str (S [c]) ∧ 97 ≤ c ∧ c ≤ 122) (small1000 (by omega)) hD (G1.le (by omega)) (fun i H2 R hi2 s2 G2 q' => ?_) fun H3 ns s3 G3 hL hl hP => ?_
    · have lt2 := lt1.sameX s2 lg
      refine ⟨rfl, _, rfl, _, rfl, _, rfl, l, _, rfl, lt2.1, g, _, _, rfl, G2, by rw [List.length_map, lt.2.1]; decide, by rw [List.length_map, lt.2.1]; decide, fun r3 H3 s3 G3 r30 r31 => ?_⟩
      rw [List.length_map, lt.2.1] at r31
      have lt3 := lt2.sameX s3 lg
      obtain ⟨c, hc, hc2⟩ := lt3.get r30 r31
      exact ⟨l, _, r3, _, rfl, rfl, lt3.1, hc, q' _ H3 s3 G3 ⟨c, rfl, hc2⟩⟩
    · obtain ⟨ws, rfl, lw, lw2⟩ := ones_S hP
      refine ⟨Str.ofString "", D, ws.map fun c => S [c], rfl, rfl, .inl (.inl (.inl hL)), ?_, ?_⟩
      · have e : ∀ l : List Nat, ((l.map fun c => S [c]).map fun x => x.length).sum = l.length := by
          intro l
          induction l with
          | nil => rfl
          | cons c r ih => rw [List.map_cons, List.map_cons, List.sum_cons, ih, S_len]; simp; omega
        rw [e, List.length_map, show (Str.ofString "").length = 0 by decide +kernel]
        omega
      · rw [join_S1]
        exact q ws H3 (s1.trans s3) G3 (by omega) (by omega) lw
def sp_base : Sp := fun vs H Q _ => ∃ (g l : Addr) (cs : List Nat) (n : Nat), vs = [.ref g, .ref l] ∧ LT H l cs ∧ l ≠ g ∧ Gn (n + 20) H g ∧
  ∀ (w : List Nat) H', SameX g H H' → Gn n H' g → 1 ≤ w.length → w.length ≤ 4 → Low w → Q (.str (S w)) H'
theorem c_law_base (T : Txt K mg C) : C8.Cal P w K mg base 4 "_law_base" sp_base [] := by
  refine calF T.d_law_base sc_law_base (fun vs H Q E h => ?_) (fun f cdv A outer s H vs Q E hr h => ?_)
  · obtain ⟨_, _, _, _, rfl, _⟩ := h; rfl
  · obtain ⟨g, l, cs, n, rfl, lt, lg, G, q⟩ := h
    refine ⟨_, (pss_cons (ps_set (i := 2) sc_law_base.nd rfl (Or.inl rfl) (C8.pe_c (c_law_word T) hr (by decide) (by rfl) (pa_cons (pv 0) (pa_cons (pv 1) (pa_cons pe_int (pa_cons pe_int pa_nil))))))
    (pss_cons (ps_if (pt_cmpR op_gt (C8.pe_c (c_law_random T) hr (by decide) (by rfl) (pa_cons (pv 0) (pa_cons pe_int pa_nil))) pe_int (nomark _))
    (pss_one (ps_ret (pv 2)))
    pss_nil)
    (pss_cons (ps_set (i := 3) sc_law_base.nd rfl (Or.inl rfl) (C8.pe_c (c_law_random T) hr (by decide) (by rfl) (pa_cons (pv 0) (pa_cons (pe_callB call_len_str (by rfl) T.m_len (by decide +kernel) (pa_cons (pv 2) pa_nil)) pa_nil))))
    (pss_one (ps_ret (pe_op op_add_str (pe_op op_add_str (pe_op op_repS (pe_ix ix_list (pv 1) pe_int (fun _ _ => rfl)) (pv 3)) (pe_ix ix_list (pv 1) pe_int (fun _ _ => rfl))) (pe_op op_repS (pe_ix ix_list (pv 1) pe_int (fun _ _ => rfl)) (pe_op op_sub (pe_op op_sub (pe_callB call_len_str (by rfl) T.m_len (by decide +kernel) (pa_cons (pv 2) pa_nil)) pe_int) (pv 3))))))))), ?_⟩
    refine ⟨_, rfl, _, rfl, g, l, cs, n + 10, 1, 4, rfl, lt, lg, G, by decide, by decide, fun w H1 s1 G1 w1 w4 lw => ?_⟩
    refine ⟨_, rfl, g, 3, n + 9, rfl, G1, by decide, by decide, fun r H2 s2 G2 r0 r1 => ?_⟩
    refine ⟨_, _, rfl, rfl, _, rfl, ite2 (fun e => ?_) (fun e => ?_)⟩
    · exact ⟨_, rfl, q w H2 (s1.trans s2) (G2.le (by omega)) w1 w4 lw⟩
    · refine ⟨_, rfl, _, rfl, S w, rfl, len_line (by omega), g, _, n + 8, rfl, G2, by rw [S_len]; omega, by rw [S_len]; omega, fun k H3 s3 G3 k0 k1 => ?_⟩
      rw [S_len] at k1
      have lt3 := ((lt.sameX s1 lg).sameX s2 lg).sameX s3 lg
      obtain ⟨c0, hc0, hb0⟩ := lt3.get (r := 0) (by decide) (by decide)
      obtain ⟨c1, hc1, hb1⟩ := lt3.get (r := 1) (by decide) (by decide)
      have ek : k = ((k.toNat : Nat) : Int) := by omega
      refine ⟨_, rfl, l, _, 0, _, rfl, rfl, .inl (.inl lt3.1), hc0, _, rfl, [c0], k.toNat, rfl, congrArg V.int ek, by omega, by simp, ?_⟩
      refine ⟨_, rfl, l, _, 1, _, rfl, rfl, .inl (.inl lt3.1), hc1, _, _, rfl, rfl, ?_, ?_⟩
      · rw [S_len, S_len, sizeLine_eq, flat_rep]
        simp
        omega
      · refine ⟨_, rfl, l, _, 0, _, rfl, rfl, .inl (.inl lt3.1), hc0, _, rfl, S w, rfl, len_line (by omega), _, _, rfl, rfl, _, rfl, _, _, rfl, rfl, [c0], w.length - 1 - k.toNat, rfl, congrArg V.int (by rw [S_len]; omega), by omega, by simp, _, _, rfl, rfl, ?_, ?_⟩
        · rw [S_cat, S_len, S_len, flat_rep, flat_rep, sizeLine_eq]
          simp
          omega
        · rw [S_cat, S_cat, flat_rep, flat_rep]
          refine q _ H3 ((s1.trans s2).trans s3) (G3.le (by omega)) ?_ ?_ ?_
          · simp
            omega
          · simp
            omega
          · intro c hc
            simp at hc
            rcases hc with z | z | z
            · rw [z.2]; exact hb0
            · rw [z]; exact hb1
            · rw [z.2]; exact hb0
end
end K03

set_option Elab.async false
set_option linter.all false
set_option maxRecDepth 100000
set_option maxHeartbeats 4000000
namespace K03
open PySem PySem.Spec PyProof.Rows L2 CK SX KM
section
variable {P : Program} {w : World} {K : PySem.W.Frag} {mg : Str → Option Value} {base : Heap} {C : Addr}
def sp_count : Sp := fun vs H Q _ => ∃ (g : Addr) (n : Nat), vs = [.ref g, .bl true] ∧ Gn (n + 3) H g ∧ ∀ (k : Nat) H', SameX g H H' → Gn n H' g → k ≤ 2 ^ 110 → Q (.int k) H'
theorem c_law_count (T : Txt K mg C) : C8.Cal P w K mg base 3 "_law_count" sp_count [] := by
  refine calF T.d_law_count sc_law_count (fun vs H Q E h => ?_) (fun f cdv A outer s H vs Q E hr h => ?_)
  · obtain ⟨_, _, rfl, _⟩ := h; rfl
  · obtain ⟨g, n, rfl, G, q⟩ := h
    have qi : ∀ (k : Int) H', SameX g H H' → Gn n H' g → 0 ≤ k → k ≤ 2 ^ 110 → Q (.int k) H' := fun k H' s1 G1 h0 h1 => by
      obtain ⟨j, rfl⟩ : ∃ j : Nat, k = j := ⟨k.toNat, by omega⟩
      exact q j H' s1 G1 (by omega)
    refine ⟨_, (pss_cons (ps_set (i := 2) sc_law_count.nd rfl (Or.inl rfl) (C8.pe_c (c_law_random T) hr (by decide) (by rfl) (pa_cons (pv 0) (pa_cons (pe_ifExp (pt_val (pv 1)) pe_int pe_int) pa_nil))))
    (pss_cons (ps_if (pt_cmpR op_eq (pv 2) pe_int (nomark _))
    (pss_one (ps_ret (pe_op op_add (pe_op op_powB pe_int pe_int) (C8.pe_c (c_law_random T) hr (by decide) (by rfl) (pa_cons (pv 0) (pa_cons (pe_op op_powB pe_int pe_int) pa_nil))))))
    pss_nil)
    (pss_one (ps_ret (pe_ix ix_list (pe_lst (pa_cons (C8.pe_c (c_law_random T) hr (by decide) (by rfl) (pa_cons (pv 0) (pa_cons pe_int pa_nil))) (pa_cons pe_int (pa_cons (pe_op op_add pe_int (C8.pe_c (c_law_random T) hr (by decide) (by rfl) (pa_cons (pv 0) (pa_cons pe_int pa_nil)))) pa_nil)))) (pv 2) (fun _ _ => rfl)))))), ?_⟩
    refine ⟨_, rfl, _, rfl, true, rfl, iteT ?_⟩
    refine ⟨g, 4, n + 2, rfl, G, by decide, by decide, fun r H1 s1 G1 r0 r1 => ?_⟩
    refine ⟨_, rfl, rfl, _, rfl, ite2 (fun e => ?_) (fun e => ?_)⟩
    · refine ⟨_, _, rfl, rfl, ⟨by decide, by decide⟩, _, rfl, _, _, rfl, rfl, ⟨by decide, by decide⟩, g, _, n + 1, rfl, G1, by decide, by decide, fun r2 H2 s2 G2 r20 r21 => ⟨_, _, rfl, rfl, ?_⟩⟩
      have h18 : ((10 : Int) ^ Int.toNat 18) = 1000000000000000000 := by decide
      have h30 : ((10 : Int) ^ Int.toNat 30) = 1000000000000000000000000000000 := by decide
      have big : ∀ x : Int, 0 ≤ x → x < 10 ^ Int.toNat 30 → 0 ≤ 10 ^ Int.toNat 18 + x ∧ 10 ^ Int.toNat 18 + x ≤ 2 ^ 110 := fun x h0 h1 => by
        rw [h18]
        rw [h30] at h1
        omega
      exact qi _ H2 (s1.trans s2) (G2.le (by omega)) (big r2 r20 r21).1 (big r2 r20 r21).2
    · have r3 : r < 3 := by
        have : ¬ r = 3 := fun z => e (by rw [z]; exact decide_eq_true rfl)
        omega
      refine ⟨_, rfl, g, 4, n + 1, rfl, G1, by decide, by decide, fun a H2 s2 G2 a0 a1 => ?_⟩
      refine ⟨_, rfl, g, 3, n, rfl, G2, by decide, by decide, fun b H3 s3 G3 b0 b1 => ⟨_, _, rfl, rfl, by show 3 ≤ sizeLine; decide, fun L hL => ?_⟩⟩
      have fin : ∀ (k : Int), 0 ≤ k → k ≤ 4 → Q (.int k) (upd H3 L (.lst [.int a, .int 1, .int (1 + b)])) := fun k k0 k4 =>
        qi k _ ((s1.trans s2).trans (s3.trans (sameX_new hL))) (G3.upd (G3.ne hL)) k0 (by omega)
      have hc : r = 0 ∨ r = 1 ∨ r = 2 := by omega
      rcases hc with rfl | rfl | rfl
      · exact ⟨_, rfl, L, _, 0, _, rfl, rfl, .inl (.inl upd_same), atI_nat (j := 0) rfl, fin _ a0 (by omega)⟩
      · exact ⟨_, rfl, L, _, 1, _, rfl, rfl, .inl (.inl upd_same), atI_nat (j := 1) rfl, fin _ (by decide) (by decide)⟩
      · exact ⟨_, rfl, L, _, 2, _, rfl, rfl, .inl (.inl upd_same), atI_nat (j := 2) rfl, fin _ (by omega) (by omega)⟩
/-- a new list of pieces that grows while the generator runs -/
def Grow (g : Addr) (H : Hp) (L : Addr) (H' : Hp) (ps : List Pc) : Prop := SameX g H H' ∧ PL H' L ps ∧ L ≠ g ∧ H L = none
theorem Grow.go {g L : Addr} {H H' H2 : Hp} {ps : List Pc} {n : Nat} (h : Grow g H L H' ps) (G : Gn n H' g) (s : SameX g H' H2) : Grow g H L H2 ps := by
  obtain ⟨s1, ⟨vs, hl, hp⟩, lg, h0⟩ := h
  exact ⟨s1.trans s, ⟨vs, s _ _ lg hl, hp.mono fun a xs e => s.tup G e⟩, lg, h0⟩
theorem Grow.put {g L t : Addr} {H H' : Hp} {ps : List Pc} {vs : List V} {p : Pc} (h : Grow g H L H' ps) (hl : H' L = some (.lst vs)) (ht : H' t = none) :
    Grow g H L (upd (upd H' t (.tup [.str (S p.1), .int p.2])) L (.lst (vs ++ [.ref t]))) (ps ++ [p]) := by
  obtain ⟨s1, ⟨us, hl2, hp⟩, lg, h0⟩ := h
  rw [hl] at hl2
  cases hl2
  have Lt : L ≠ t := fun z => by rw [z, ht] at hl; cases hl
  have st : Same H' (upd H' t (.tup [.str (S p.1), .int p.2])) := sameNew ht
  refine ⟨(s1.trans (.of st)).upd2 h0, ⟨_, upd_same, ((hp.same st).upd (st _ _ hl)).app (.one ?_)⟩, lg, h0⟩
  rw [upd_ne (Ne.symm Lt), upd_same]
def Good (k : Nat) (ps : List Pc) : Prop := ps.length ≤ k ∧ ∀ p ∈ ps, p.1.length ≤ 4 ∧ Low p.1 ∧ p.2 ≤ 2 ^ 110
theorem Good.put {k : Nat} {ps : List Pc} {p : Pc} (h : Good k ps) (h1 : p.1.length ≤ 4) (h2 : Low p.1) (h3 : p.2 ≤ 2 ^ 110) : Good (k + 1) (ps ++ [p]) := by
  refine ⟨by rw [List.length_append, List.length_singleton]; have := h.1; omega, fun q hq => ?_⟩
  rcases List.mem_append.mp hq with z | z
  · exact h.2 q z
  · rw [List.mem_singleton.mp z]
    exact ⟨h1, h2, h3⟩
theorem Good.ok {k : Nat} {ps : List Pc} (h : Good k ps) : OK k ps := by
  refine ⟨h.1, fun p hp => ⟨(h.2 p hp).1, (h.2 p hp).2.1⟩, ?_⟩
  have e : ∀ l : List Pc, (∀ p ∈ l, p.1.length ≤ 4 ∧ Low p.1 ∧ p.2 ≤ 2 ^ 110) → (l.map (·.2)).sum ≤ l.length * 2 ^ 200 := by
    intro l
    induction l with
    | nil => intro _; exact Nat.zero_le _
    | cons p r ih =>
      intro h
      have a := ih fun q hq => h q (List.mem_cons_of_mem _ hq)
      have b := (h p List.mem_cons_self).2.2
      rw [List.map_cons, List.sum_cons, List.length_cons, Nat.add_mul]
      omega
  exact Nat.le_trans (e ps h.2) (Nat.mul_le_mul_right _ h.1)
def sp_lpieces : Sp := fun vs H Q _ => ∃ (g l : Addr) (cs : List Nat) (n m : Nat), vs = [.ref g, .ref l, .int m, .bl true] ∧ LT H l cs ∧ l ≠ g ∧ Gn (n + 1000) H g ∧ 1 ≤ m ∧ m ≤ 8 ∧
  ∀ L ps H', Grow g H L H' ps → Gn n H' g → Good m ps → Q (.ref L) H'
theorem c_law_pieces (T : Txt K mg C) : C8.Cal P w K mg base 5 "_law_pieces" sp_lpieces [] := by
  refine calF T.d_law_pieces sc_law_pieces (fun vs H Q E h => ?_) (fun f cdv A outer s H vs Q E hr h => ?_)
  · obtain ⟨_, _, _, _, _, rfl, _⟩ := h; rfl
  · obtain ⟨g, l, cs, n, m, rfl, lt, lg, G, hm1, hm8, q⟩ := h
    refine ⟨_, (pss_cons (ps_par (i := 4) (j := 5) (by rfl) sc_law_pieces.nd rfl rfl (by decide) rfl rfl (pa_cons (pe_lst pa_nil) (pa_cons (C8.pe_c (c_law_base T) hr (by decide) (by rfl) (pa_cons (pv 0) (pa_cons (pv 1) pa_nil))) pa_nil)) (by rfl))
    (pss_cons (ps_for PassesOwn.never rfl (pi_range1 (by rfl) T.m_range (pa_cons (pe_op op_add pe_int (C8.pe_c (c_law_random T) hr (by decide) (by rfl) (pa_cons (pv 0) (pa_cons (pv 2) pa_nil)))) pa_nil)) (pg_name (i := 6) sc_law_pieces.nd rfl (Or.inl rfl))
    (pss_cons (ps_par (i := 7) (j := 8) (by rfl) sc_law_pieces.nd rfl rfl (by decide) rfl rfl (pa_cons (C8.pe_c (c_law_random T) hr (by decide) (by rfl) (pa_cons (pv 0) (pa_cons pe_int pa_nil))) (pa_cons (C8.pe_c (c_law_random T) hr (by decide) (by rfl) (pa_cons (pv 0) (pa_cons (pe_callB call_len_str (by rfl) T.m_len (by decide +kernel) (pa_cons (pv 5) pa_nil)) pa_nil))) pa_nil)) (by rfl))
    (pss_one (ps_if (pt_cmpR op_eq (pv 7) pe_int (nomark _))
    (pss_one (ps_expr (pe_bm PySem.F.plainAttrs_list PySem.F.slot_list_append PySem.F.type_list_append mt_append (pv 4) (pa_cons (pe_tup (pa_cons (C8.pe_c (c_law_word T) hr (by decide) (by rfl) (pa_cons (pv 0) (pa_cons (pv 1) (pa_cons pe_int (pa_cons pe_int pa_nil))))) (pa_cons (C8.pe_c (c_law_count T) hr (by decide) (by rfl) (pa_cons (pv 0) (pa_cons (pv 3) pa_nil))) pa_nil))) pa_nil))))
    (pss_one (ps_if (pt_cmpR op_eq (pv 7) pe_int (nomark _))
    (pss_one (ps_expr (pe_bm PySem.F.plainAttrs_list PySem.F.slot_list_append PySem.F.type_list_append mt_append (pv 4) (pa_cons (pe_tup (pa_cons (pe_slice C8.sl_txt (pv 5) po_none (po_some (pv 8))) (pa_cons pe_int pa_nil))) pa_nil))))
    (pss_one (ps_if (pt_cmpR op_eq (pv 7) pe_int (nomark _))
    (pss_one (ps_expr (pe_bm PySem.F.plainAttrs_list PySem.F.slot_list_append PySem.F.type_list_append mt_append (pv 4) (pa_cons (pe_tup (pa_cons (pe_op op_add_str (pe_slice C8.sl_txt (pv 5) (po_some (pv 8)) po_none) (pe_slice C8.sl_txt (pv 5) po_none (po_some (pv 8)))) (pa_cons (C8.pe_c (c_law_count T) hr (by decide) (by rfl) (pa_cons (pv 0) (pa_cons (pv 3) pa_nil))) pa_nil))) pa_nil))))
    (pss_cons (ps_if (pt_cmpR op_eq (pv 7) pe_int (nomark _))
    (pss_one (ps_set (i := 5) sc_law_pieces.nd rfl (Or.inl rfl) (C8.pe_c (c_law_base T) hr (by decide) (by rfl) (pa_cons (pv 0) (pa_cons (pv 1) pa_nil)))))
    pss_nil)
    (pss_one (ps_expr (pe_bm PySem.F.plainAttrs_list PySem.F.slot_list_append PySem.F.type_list_append mt_append (pv 4) (pa_cons (pe_tup (pa_cons (pv 5) (pa_cons (C8.pe_c (c_law_count T) hr (by decide) (by rfl) (pa_cons (pv 0) (pa_cons (pv 3) pa_nil))) pa_nil))) pa_nil)))))))))))))
    (pss_one (ps_ret (pv 4))))), ?_⟩
    refine ⟨by show 0 ≤ sizeLine; omega, fun L hL => ?_⟩
    have Lg := G.ne hL
    have lL : l ≠ L := fun z => by
      have e := lt.1
      rw [z, hL] at e
      cases e
    have lt0 : LT (upd H L (.lst [])) l cs := ⟨by rw [upd_ne lL]; exact lt.1, lt.2⟩
    refine ⟨_, rfl, _, rfl, g, l, cs, n + 900, rfl, lt0, lg, (G.upd Lg).le (by omega), fun w H1 s1 G1 w1 w4 lw => ⟨_, _, rfl, ?_⟩⟩
    have gr1 : Grow g H L H1 [] := ⟨(sameX_new hL).trans s1, ⟨[], s1 _ _ Lg upd_same, .nil⟩, Lg, hL⟩
    refine ⟨_, rfl, _, rfl, g, m, n + 899, rfl, G1, by omega, by omega, fun r H2 s2 G2 r0 r1 => ⟨_, _, rfl, rfl, _, rfl, by omega, by omega, ?_⟩⟩
    have gr2 := gr1.go G1 s2
    have lt2 := (lt0.sameX s1 lg).sameX s2 lg
    refine for_it walk_range (fun i σ H3 => ∃ (w : List Nat) (y6 y7 y8 : Option V) (ps : List Pc), σ = [some (.ref g), some (.ref l), some (.int m), some (.bl true), some (.ref L), some (.str (S w)), y6, y7, y8] ∧
      Grow g H L H3 ps ∧ LT H3 l cs ∧ Gn (n + 100 * (8 - i)) H3 g ∧ Good i ps ∧ 1 ≤ w.length ∧ w.length ≤ 4 ∧ Low w)
      ⟨w, none, none, none, [], rfl, gr2, lt2, G2.le (by omega), ⟨Nat.zero_le _, fun p h => absurd h List.not_mem_nil⟩, w1, w4, lw⟩ (fun _ _ _ _ _ => True.intro) (fun i v σ H3 H4 hi p yy => ?_) fun σ H3 p => ?_
    · obtain ⟨w, y6, y7, y8, ps, rfl, gr, lt3, G3, gd, w1, w4, lw⟩ := p
      obtain ⟨rfl, rfl⟩ := yy
      have i8 : i < 8 := by omega
      have eG : n + 100 * (8 - i) = n + 100 * (8 - (i + 1)) + 100 := by omega
      rw [eG] at G3
      generalize n + 100 * (8 - (i + 1)) = n' at G3
      refine ⟨_, rfl, g, 5, n' + 99, rfl, G3, by decide, by decide, fun kind H5 s5 G5 k0 k1 => ?_⟩
      have gr5 := gr.go G3 s5
      have lt5 := lt3.sameX s5 lg
      refine ⟨_, rfl, _, rfl, S w, rfl, len_line (by omega), g, _, n' + 98, rfl, G5, by rw [S_len]; omega, by rw [S_len]; omega, fun bY H6 s6 G6 b0 b1 => ⟨_, _, rfl, ?_⟩⟩
      rw [S_len] at b1
      have gr6 := gr5.go G5 s6
      have lt6 := lt5.sameX s6 lg
      have gl := gd.1
      have tail : ∀ {H8 : Hp} {vs8 : List V} {t : Addr} (p : Pc), Grow g H L H8 ps → LT H8 l cs → Gn n' H8 g → H8 L = some (.lst vs8) → H8 t = none → p.1.length ≤ 4 → Low p.1 → p.2 ≤ 2 ^ 110 →
          Grow g H L (upd (upd H8 t (.tup [.str (S p.1), .int p.2])) L (.lst (vs8 ++ [.ref t]))) (ps ++ [p]) ∧ LT (upd (upd H8 t (.tup [.str (S p.1), .int p.2])) L (.lst (vs8 ++ [.ref t]))) l cs ∧
            Gn n' (upd (upd H8 t (.tup [.str (S p.1), .int p.2])) L (.lst (vs8 ++ [.ref t]))) g ∧ Good (i + 1) (ps ++ [p]) := by
        intro H8 vs8 t p g8 l8 G8 e8 ht a b c
        have st : Same H8 (upd H8 t (.tup [.str (S p.1), .int p.2])) := sameNew ht
        exact ⟨g8.put e8 ht, ⟨by rw [upd_ne lL]; exact st _ _ l8.1, l8.2⟩, (G8.same st).upd Lg, gd.put a b c⟩
      have lenL : ∀ {H8 : Hp} {vs8 : List V}, Grow g H L H8 ps → H8 L = some (.lst vs8) → vs8.length < sizeLine := by
        intro H8 vs8 g8 e8
        obtain ⟨us, hu, pu⟩ := g8.2.1
        rw [hu] at e8
        cases e8
        have := pu.len
        rw [sizeLine_eq]
        omega
      have low_take : ∀ k, Low (w.take k) := fun k c hc => lw c (List.mem_of_mem_take hc)
      have low_drop : ∀ k, Low (w.drop k) := fun k c hc => lw c (List.mem_of_mem_drop hc)
      obtain ⟨bn, rfl⟩ : ∃ bn : Nat, bY = bn := ⟨bY.toNat, by omega⟩
      obtain ⟨vs6, e6, _⟩ := id gr6.2.1
      refine ⟨_, rfl, rfl, _, rfl, ite2 (fun c0 => ?_) (fun c0 => ?_)⟩
      · refine ⟨_, rfl, .inl ⟨rfl, _, .inl (.inl e6)⟩, _, rfl, _, rfl, g, l, cs, n' + 80, 0, 3, rfl, lt6, lg, G6.le (by omega), by decide, by decide, fun w2 H7 s7 G7 wa wb lw2 => ?_⟩
        refine ⟨_, rfl, _, rfl, g, n' + 70, rfl, G7.le (by omega), fun k H8 s8 G8 hk => ?_⟩
        have g8 := (gr6.go G6 s7).go G7 s8
        have l8 := (lt6.sameX s7 lg).sameX s8 lg
        obtain ⟨vs8, e8, _⟩ := id g8.2.1
        refine ⟨by show 2 ≤ sizeLine; decide, fun t ht => ⟨L, _, _, rfl, rfl, sameNew ht _ _ e8, lenL g8 e8, ?_⟩⟩
        obtain ⟨A1, A2, A3, A4⟩ := tail (w2, k) g8 l8 (G8.le (by omega)) e8 ht (by show w2.length ≤ 4; omega) lw2 hk
        exact ⟨w, _, _, _, _, rfl, A1, A2, A3, A4, w1, w4, lw⟩
      · refine ⟨_, rfl, rfl, _, rfl, ite2 (fun c1 => ?_) (fun c1 => ?_)⟩
        · refine ⟨_, rfl, .inl ⟨rfl, _, .inl (.inl e6)⟩, _, rfl, _, rfl, _, rfl, S w, rfl, len_line (by omega), by show 2 ≤ sizeLine; decide, fun t ht => ⟨L, _, _, rfl, rfl, sameNew ht _ _ e6, lenL gr6 e6, ?_⟩⟩
          rw [SX.slice_to (by omega), Int.toNat_natCast] at *
          obtain ⟨A1, A2, A3, A4⟩ := tail (w.take bn, 1) gr6 lt6 (G6.le (by omega)) e6 ht (by show (w.take bn).length ≤ 4; rw [List.length_take]; omega) (low_take bn) (by show 1 ≤ 2 ^ 110; decide)
          exact ⟨w, _, _, _, _, rfl, A1, A2, A3, A4, w1, w4, lw⟩
        · refine ⟨_, rfl, rfl, _, rfl, ite2 (fun c2 => ?_) (fun c2 => ?_)⟩
          · refine ⟨_, rfl, .inl ⟨rfl, _, .inl (.inl e6)⟩, _, rfl, _, rfl, _, rfl, S w, rfl, len_line (by omega), _, rfl, _, rfl, _, rfl, S w, rfl, len_line (by omega), ?_⟩
            rw [SX.slice_from (by omega), SX.slice_to (by omega), Int.toNat_natCast]
            refine ⟨_, _, rfl, rfl, ?_, ?_⟩
            · rw [S_len, S_len, List.length_drop, List.length_take, sizeLine_eq]
              omega
            · rw [S_cat]
              refine ⟨_, rfl, _, rfl, g, n' + 70, rfl, G6.le (by omega), fun k H8 s8 G8 hk => ?_⟩
              have g8 := gr6.go G6 s8
              have l8 := lt6.sameX s8 lg
              obtain ⟨vs8, e8, _⟩ := id g8.2.1
              refine ⟨by show 2 ≤ sizeLine; decide, fun t ht => ⟨L, _, _, rfl, rfl, sameNew ht _ _ e8, lenL g8 e8, ?_⟩⟩
              obtain ⟨A1, A2, A3, A4⟩ := tail (w.drop bn ++ w.take bn, k) g8 l8 (G8.le (by omega)) e8 ht (by show (w.drop bn ++ w.take bn).length ≤ 4; rw [List.length_append, List.length_drop, List.length_take]; omega) (low_rot lw) hk
              exact ⟨w, _, _, _, _, rfl, A1, A2, A3, A4, w1, w4, lw⟩
          · refine ⟨_, rfl, rfl, _, rfl, ite2 (fun c3 => ?_) (fun c3 => ?_)⟩
            · refine ⟨_, rfl, _, rfl, g, l, cs, n' + 70, rfl, lt6, lg, G6.le (by omega), fun w2 H7 s7 G7 wa wb lw2 => ?_⟩
              have g7 := gr6.go G6 s7
              have l7 := lt6.sameX s7 lg
              obtain ⟨vs7, e7, _⟩ := id g7.2.1
              refine ⟨_, rfl, .inl ⟨rfl, _, .inl (.inl e7)⟩, _, rfl, _, rfl, _, rfl, g, n' + 60, rfl, G7.le (by omega), fun k H8 s8 G8 hk => ?_⟩
              have g8 := g7.go G7 s8
              have l8 := l7.sameX s8 lg
              obtain ⟨vs8, e8, _⟩ := id g8.2.1
              refine ⟨by show 2 ≤ sizeLine; decide, fun t ht => ⟨L, _, _, rfl, rfl, sameNew ht _ _ e8, lenL g8 e8, ?_⟩⟩
              obtain ⟨A1, A2, A3, A4⟩ := tail (w2, k) g8 l8 (G8.le (by omega)) e8 ht wb lw2 hk
              exact ⟨w2, _, _, _, _, rfl, A1, A2, A3, A4, wa, wb, lw2⟩
            · refine ⟨_, rfl, .inl ⟨rfl, _, .inl (.inl e6)⟩, _, rfl, _, rfl, _, rfl, g, n' + 60, rfl, G6.le (by omega), fun k H8 s8 G8 hk => ?_⟩
              have g8 := gr6.go G6 s8
              have l8 := lt6.sameX s8 lg
              obtain ⟨vs8, e8, _⟩ := id g8.2.1
              refine ⟨by show 2 ≤ sizeLine; decide, fun t ht => ⟨L, _, _, rfl, rfl, sameNew ht _ _ e8, lenL g8 e8, ?_⟩⟩
              obtain ⟨A1, A2, A3, A4⟩ := tail (w, k) g8 l8 (G8.le (by omega)) e8 ht w4 lw hk
              exact ⟨w, _, _, _, _, rfl, A1, A2, A3, A4, w1, w4, lw⟩
    · obtain ⟨w, y6, y7, y8, ps, rfl, gr, lt3, G3, gd, _⟩ := p
      exact ⟨_, rfl, q L ps H3 gr (G3.le (by omega)) ⟨by have := gd.1; omega, gd.2⟩⟩
end
end K03

set_option Elab.async false
set_option linter.all false
set_option maxRecDepth 100000
set_option maxHeartbeats 4000000
namespace K03
open PySem PySem.Spec PyProof.Rows L2 CK SX KM
section
variable {P : Program} {w : World} {K : PySem.W.Frag} {mg : Str → Option Value} {base : Heap} {C : Addr}
def sp_long : Sp := fun vs H Q _ => ∃ (l : Addr) (ps : List Pc) (n : Nat), vs = [.ref l] ∧ PL H l ps ∧ OK n ps ∧ n ≤ 1000 ∧ ∀ H', Same H H' → Q (.int (long ps : Nat)) H'
theorem sum_long : ∀ ps : List Pc, (ps.map fun p => ((p.1.length * p.2 : Nat) : Int)).sum = ((long ps : Nat) : Int)
  | [] => rfl
  | p :: r => by
    rw [List.map_cons, List.sum_cons, sum_long r, show long (p :: r) = p.1.length * p.2 + long r by simp [long, plen], Int.natCast_add]
theorem c_law_long (T : Txt K mg C) : C8.Cal P w K mg base 1 "_law_long" sp_long [] := by
  refine calF T.d_law_long sc_law_long (fun vs H Q E h => ?_) (fun f cdv A outer s H vs Q E hr h => ?_)
  · obtain ⟨_, _, _, rfl, _⟩ := h; rfl
  · obtain ⟨l, ps, n, rfl, ⟨vs, hl, hp⟩, ok, hn, q⟩ := h
    have len := hp.len
    have okl := ok.len
    refine ⟨_, (pss_one (ps_ret (pe_callB (cr_sum rfl) (by rfl) T.m_sum (by decide +kernel) (pa_cons (pe_lc (own := [("_law_word_here", 1), ("_law_times", 2)]) (by rfl) sc_law_long.nd (pi_list (pv 0)) (blkOk_by (N := ["_law_pieces_here", "_law_word_here", "_law_times"]) (sc := C8.fnScope (topS 43)) (own := [("_law_word_here", 1), ("_law_times", 2)]) (by decide +kernel)) (fun _ _ _ _ _ => (pg_two (K := K) (i := 1) (j := 2) rfl rfl sc_law_long.nd rfl rfl (Or.inl rfl) (Or.inl rfl))) (fun _ _ _ _ _ => pts_nil) (fun _ _ _ _ _ => (pe_op op_mulZ (pe_callB call_len_str (by rfl) T.m_len (by decide +kernel) (pa_cons (pv 1) pa_nil)) (pv 2)))) pa_nil)))), ?_⟩
    refine ⟨_, rfl, l, rfl, ⟨_, .inl (.inl hl)⟩, fun D hD => ?_⟩
    refine lc_list (K := K) (a := l) (xs := vs) (fun i H1 => Same H H1 ∧ H1 D = some (.lst ((ps.take i).map fun p => V.int ((p.1.length * p.2 : Nat) : Int)))) ⟨sameNew hD, by rw [upd_same]; rfl⟩ (fun i H1 _ p => .inl (.inl (p.1 _ _ hl))) (fun i y H1 hi p => ?_) fun H1 p => ?_
    · obtain ⟨s1, hD1⟩ := p
      obtain ⟨a, p, rfl, hpi, ha⟩ := hp.get hi
      have hw := ok.word p (List.mem_of_getElem? hpi)
      have ht := ok.times hn (List.mem_of_getElem? hpi)
      have hii := (List.getElem?_eq_some_iff.mp hpi).1
      refine ⟨a, _, rfl, .inl (.inl (s1 _ _ ha)), rfl, _, _, rfl, _, _, rfl, rfl, rfl, ?_⟩
      refine ⟨_, rfl, S p.1, rfl, len_line (by omega), _, rfl, p.1.length, p.2, congrArg (fun n : Nat => V.int n) (S_len _), rfl, by omega, by omega, _, hD1, ?_, same_upd2 hD s1, ?_⟩
      · rw [List.length_map, List.length_take, sizeLine_eq]
        omega
      · rw [upd_same, List.take_succ, hpi]
        simp
    · obtain ⟨s1, hD1⟩ := p
      rw [len, List.take_length] at hD1
      refine ⟨D, ps.map fun p => ((p.1.length * p.2 : Nat) : Int), rfl, .inl (.inl (by rw [hD1, List.map_map]; rfl)), ?_⟩
      rw [sum_long]
      exact q _ s1
def sp_lletter : Sp := fun vs H Q _ => ∃ (l : Addr) (ps : List Pc) (n i c : Nat), vs = [.ref l, .int i] ∧ PL H l ps ∧ OK n ps ∧ n ≤ 1000 ∧ (wr ps)[i]? = some c ∧ Q (.str (S [c])) H
theorem c_law_letter (T : Txt K mg C) : C8.Cal P w K mg base 1 "_law_letter" sp_lletter [] := by
  refine calF T.d_law_letter sc_law_letter (fun vs H Q E h => ?_) (fun f cdv A outer s H vs Q E hr h => ?_)
  · obtain ⟨_, _, _, _, _, rfl, _⟩ := h; rfl
  · obtain ⟨l, ps, n, i0, c, rfl, ⟨vs, hl, hp⟩, ok, hn, hc, q⟩ := h
    have len := hp.len
    refine ⟨_, (pss_cons (ps_for PassesOwn.never rfl (pi_list (pv 0)) (pg_two (K := K) (i := 2) (j := 3) rfl rfl sc_law_letter.nd rfl rfl (Or.inl rfl) (Or.inl rfl))
    (pss_cons (ps_if (pt_cmpR op_lt (pv 1) (pe_op op_mulZ (pe_callB call_len_str (by rfl) T.m_len (by decide +kernel) (pa_cons (pv 2) pa_nil)) (pv 3)) (nomark _))
    (pss_one (ps_ret (pe_ix ix_str (pv 2) (pe_op op_modZ (pe_callTy call_int1 (by rfl) T.m_int (by decide +kernel) (pa_cons (pv 1) pa_nil)) (pe_callB call_len_str (by rfl) T.m_len (by decide +kernel) (pa_cons (pv 2) pa_nil))) (fun _ _ => rfl))))
    pss_nil)
    (pss_one (ps_set (i := 1) sc_law_letter.nd rfl (Or.inl rfl) (pe_op op_sub (pv 1) (pe_op op_mulZ (pe_callB call_len_str (by rfl) T.m_len (by decide +kernel) (pa_cons (pv 2) pa_nil)) (pv 3)))))))
    (pss_one (ps_ret pe_non))), ?_⟩
    refine ⟨_, rfl, l, rfl, ⟨_, .inl (.inl hl)⟩, for_list (K := K) (a := l) (xs := vs) (fun i σ H' => H' = H ∧ ∃ (z : Int) (j : Nat) (y2 y3 : Option V), σ = [some (.ref l), some (.int z), y2, y3] ∧ z = j ∧ (wr (ps.drop i))[j]? = some c)
      ⟨rfl, _, i0, none, none, rfl, rfl, hc⟩ (fun i σ H' _ p => by rw [p.1]; exact .inl (.inl hl)) (fun i y σ H' hi p => ?_) (fun σ H' p => ?_)⟩
    · obtain ⟨rfl, z, j, y2, y3, rfl, rfl, hj⟩ := p
      obtain ⟨a, p, rfl, hpi, ha⟩ := hp.get hi
      have hw := ok.word p (List.mem_of_getElem? hpi)
      have ht := ok.times hn (List.mem_of_getElem? hpi)
      have hii := (List.getElem?_eq_some_iff.mp hpi).1
      have ed : ps.drop i = p :: ps.drop (i + 1) := by
        rw [← List.getElem_cons_drop hii, (List.getElem?_eq_some_iff.mp hpi).2]
      rw [ed, ← let1_eq, let1] at hj
      have pe : plen p = p.1.length * p.2 := rfl
      refine ⟨a, _, rfl, .inl (.inl ha), rfl, _, _, rfl, _, _, rfl, rfl, ?_⟩
      refine ⟨_, rfl, _, rfl, S p.1, rfl, len_line (by omega), _, rfl, p.1.length, p.2, congrArg (fun n : Nat => V.int n) (S_len _), rfl, by omega, by omega, _, _, rfl, rfl, _, rfl, ite2 (fun e => ?_) (fun e => ?_)⟩
      · have e' : j < plen p := by
          have := of_decide_eq_true e
          omega
        rw [if_pos e'] at hj
        have ne : p.1 ≠ [] := fun z => by rw [z] at hj; simp at hj
        have n0 := List.length_pos_iff.mpr ne
        refine ⟨_, rfl, _, rfl, .inl ⟨_, rfl, _, rfl, S p.1, rfl, len_line (by omega), j, p.1.length, rfl, congrArg (fun n : Nat => V.int n) (S_len _), by omega, ?_⟩⟩
        exact ⟨_, _, c, rfl, rfl, len_line (by omega), atI_nat (xs := p.1) hj, q⟩
      · have e' : ¬ j < plen p := fun z => e (decide_eq_true (by omega))
        rw [if_neg e', let1_eq] at hj
        refine ⟨_, rfl, _, rfl, S p.1, rfl, len_line (by omega), _, rfl, p.1.length, p.2, congrArg (fun n : Nat => V.int n) (S_len _), rfl, by omega, by omega, _, _, rfl, rfl, ?_⟩
        exact ⟨rfl, _, j - plen p, _, _, rfl, by omega, hj⟩
    · obtain ⟨rfl, z, j, y2, y3, rfl, rfl, hj⟩ := p
      rw [len, List.drop_length] at hj
      simp [wr] at hj
end
end K03

set_option Elab.async false
set_option linter.all false
set_option maxRecDepth 100000
set_option maxHeartbeats 4000000
namespace K03
open PySem PySem.Spec PyProof.Rows L2 CK SX KM
/-! ### pieces as data -/
def dPc (p : Pc) : PyData := .tuple [.str (S p.1), .int p.2]
theorem str_low {w : List Nat} (h : Low w) : PyData.strOk (S w) = true := by
  unfold PyData.strOk
  rw [← Array.all_toList, List.all_eq_true]
  exact fun c hc => decide_eq_true (by have := h c hc; omega)
theorem lay_pc {p : Pc} (h : Low p.1) : (dPc p).canLay0 = true := by simp [dPc, PyData.canLay0, PyData.canLayAll0, str_low h]
theorem deep_pc (p : Pc) : (dPc p).depth = 1 := by simp [dPc, PyData.depth, PyData.depthAll]
theorem lay_pcs : ∀ ps : List Pc, (∀ p ∈ ps, Low p.1) → PyData.canLayAll0 (ps.map dPc) = true
  | [], _ => by simp [PyData.canLayAll0]
  | p :: r, h => by
    rw [List.map_cons, PyData.canLayAll0, lay_pcs r fun q hq => h q (List.mem_cons_of_mem _ hq), lay_pc (h p List.mem_cons_self)]
    rfl
theorem deep_pcs : ∀ ps : List Pc, PyData.depthAll (ps.map dPc) ≤ 1
  | [] => by simp [PyData.depthAll]
  | p :: r => by
    have := deep_pcs r
    rw [List.map_cons, PyData.depthAll, deep_pc]
    omega
theorem shaped_pcs {ps : List Pc} (h : ∀ p ∈ ps, Low p.1) : SeqAt.shaped (.list (ps.map dPc)) = true := by
  unfold SeqAt.shaped
  rw [PyData.canLay0, lay_pcs ps h, PyData.depth]
  have := deep_pcs ps
  rw [decide_eq_true (by omega)]
  rfl
section
variable {K : PySem.W.Frag} {H : Hp}
theorem dpAll_pcs {vs : List V} {ps : List Pc} (h : Pcs H vs ps) : DpAll K H vs (ps.map dPc) := by
  induction h with
  | nil => exact .nil
  | cons e _ ih => exact .cons (.tup (.inl (.inl e)) (.cons (.str _) (.cons (.int _) .nil))) ih
theorem dp_pcs {l : Addr} {ps : List Pc} (h : PL H l ps) : Dp K H (.ref l) (.list (ps.map dPc)) := by
  obtain ⟨vs, e, p⟩ := h
  exact .lst (.inl (.inl e)) (dpAll_pcs p)
end
theorem eqv_nil (p : Pc) (r : List Pc) : PyData.eqv (.list ((p :: r).map dPc)) (.list []) = false := by
  simp [PyData.eqv, PyData.eqvAll]
section
variable {X : Cx}
theorem op_nePc (hu : X.A.units + 64 < cLine) : OpR X (compareOp .NotEq) (fun x y H Q => ∃ (l m : Addr) (ps : List Pc), x = .ref l ∧ y = .ref m ∧ PL H l ps ∧ (∀ p ∈ ps, Low p.1) ∧ H m = some (.lst []) ∧ Q (.bl (!ps.isEmpty)) H) := by
  intro pins s σ H x y v u Q I rx ry h
  obtain ⟨l, m, ps, rfl, rfl, hl, lw, hm, q⟩ := h
  refine op_neD hu pins s σ H _ _ v u Q I rx ry ⟨.list (ps.map dPc), .list [], dp_pcs hl, .lst (.inl (.inl hm)) .nil, shaped_pcs lw, shaped_pcs (ps := []) (fun p h => absurd h List.not_mem_nil), ?_⟩
  cases ps with
  | nil =>
    rw [List.map_nil, SeqAt.eqv_refl (.list []) (SeqAt.canLay_of_shaped (shaped_pcs (ps := []) (fun p h => absurd h List.not_mem_nil)))]
    exact q
  | cons p r =>
    rw [eqv_nil]
    exact q
end
/-- what the law's filter lets through -/
def keep (p : Pc) : Bool := decide (p.1 ≠ []) && decide (0 < p.2)
theorem fold_keep : ∀ (ps acc : List Pc), (ps.filter keep).foldl stepT acc = ps.foldl stepT acc
  | [], _ => rfl
  | p :: r, acc => by
    by_cases h : keep p = true
    · rw [List.filter_cons_of_pos h, List.foldl_cons, List.foldl_cons, fold_keep r]
    · rw [List.filter_cons_of_neg h, List.foldl_cons, fold_keep r]
      have : stepT acc p = acc := by
        unfold stepT
        rw [if_pos]
        unfold keep at h
        simp at h
        by_cases z : p.1 = []
        · exact .inl z
        · exact .inr (h z)
      rw [this]
end K03

set_option Elab.async false
set_option linter.all false
set_option maxRecDepth 100000
set_option maxHeartbeats 4000000
namespace K03
open PySem PySem.Spec PyProof.Rows L2 CK SX KM
theorem set_last {vs : List V} {v u : V} (h : vs[vs.length - 1]? = some u) : ixN vs.length (-1) = some (vs.length - 1) ∧ vs.set (vs.length - 1) v = vs.dropLast ++ [v] := by
  have hl := (List.getElem?_eq_some_iff.mp h).1
  constructor
  · unfold ixN
    rw [if_neg (by omega), if_pos (by omega)]
    congr 1
    omega
  · have e : vs = vs.dropLast ++ [u] := by
      apply last_split
      rw [List.getLast?_eq_getElem?]
      exact h
    conv => lhs; rw [e]
    rw [List.set_append_right _ _ (by simp)]
    simp
section
variable {P : Program} {w : World} {K : PySem.W.Frag} {mg : Str → Option Value} {base : Heap} {C : Addr}
def sp_tidied : Sp := fun vs H Q _ => ∃ (l : Addr) (ps : List Pc) (n : Nat), vs = [.ref l] ∧ PL H l ps ∧ OK n ps ∧ n ≤ 1000 ∧ ∀ r H', Same H H' → H r = none → PL H' r (tidy ps) → Q (.ref r) H'
theorem c_law_tidied (T : Txt K mg C) : C8.Cal P w K mg base 1 "_law_tidied" sp_tidied [] := by
  refine calF T.d_law_tidied sc_law_tidied (fun vs H Q E h => ?_) (fun f cdv A outer s H vs Q E hr h => ?_)
  · obtain ⟨_, _, _, rfl, _⟩ := h; rfl
  · obtain ⟨l, ps, n, rfl, ⟨vs, hl, hp⟩, ok, hn, q⟩ := h
    have len := hp.len
    have okl := ok.len
    refine ⟨_, (pss_cons (ps_set (i := 1) sc_law_tidied.nd rfl (Or.inl rfl) (pe_lst pa_nil))
    (pss_cons (ps_for PassesOwn.never rfl (pi_list (pe_lc (own := [("_law_piece", 4)]) (by rfl) sc_law_tidied.nd (pi_list (pv 0)) (blkOk_by (N := ["_law_pieces_here", "_law_found", "_law_word_here", "_law_times", "_law_piece"]) (sc := C8.fnScope (topS 42)) (own := [("_law_piece", 4)]) (by decide +kernel)) (fun _ _ _ _ _ => (pg_name (i := 4) sc_law_tidied.nd rfl (Or.inl rfl))) (fun _ _ _ _ _ => (pts_one (PW.pt (pw_and (pt_cmpR op_ne (pe_ix ix_tupH (pv 4) pe_int (fun _ _ => rfl)) pe_str (nomark _)) (pw_and1 (pt_cmpR op_gt (pe_ix ix_tupH (pv 4) pe_int (fun _ _ => rfl)) pe_int (nomark _))))))) (fun _ _ _ _ _ => (pv 4)))) (pg_two (K := K) (i := 2) (j := 3) rfl rfl sc_law_tidied.nd rfl rfl (Or.inl rfl) (Or.inl rfl))
    (pss_one (ps_if (PW.pt (pw_and (pt_cmpR (op_nePc hr.units) (pv 1) (pe_lst pa_nil) (nomark _)) (pw_and1 (pt_cmpR op_eq (pe_ix ix_tup (pe_ix ix_list (pv 1) (pe_un un_neg pe_int) (fun _ _ => rfl)) pe_int (fun _ _ => rfl)) (pv 2) (nomark _)))))
    (pss_one (ps_asg (pe_tup (pa_cons (pv 2) (pa_cons (pe_op op_add (pe_ix ix_tup (pe_ix ix_list (pv 1) (pe_un un_neg pe_int) (fun _ _ => rfl)) pe_int (fun _ _ => rfl)) (pv 3)) pa_nil))) (pg_sub (pv 1) (pe_un un_neg pe_int) set_list)))
    (pss_one (ps_expr (pe_bm PySem.F.plainAttrs_list PySem.F.slot_list_append PySem.F.type_list_append mt_append (pv 1) (pa_cons (pe_tup (pa_cons (pv 2) (pa_cons (pv 3) pa_nil))) pa_nil)))))))
    (pss_one (ps_ret (pv 1))))), ?_⟩
    refine ⟨by show 0 ≤ sizeLine; omega, fun r hr0 => ?_⟩
    have s0 := sameNew (o := .lst []) hr0
    refine ⟨_, rfl, l, rfl, ⟨_, .inl (.inl (s0 _ _ hl))⟩, fun D hD => ?_⟩
    have Dr : D ≠ r := fun z => by rw [z, upd_same] at hD; cases hD
    have hD0 : H D = none := s0.free hD
    refine lc_list (K := K) (a := l) (xs := vs) (fun i H1 => Same (upd H r (.lst [])) H1 ∧ PL H1 D ((ps.take i).filter keep) ∧ i ≤ ps.length) ⟨sameNew hD, ⟨[], upd_same, .nil⟩, Nat.zero_le _⟩ (fun i H1 _ p => .inl (.inl (p.1 _ _ (s0 _ _ hl)))) (fun i y H1 hi p => ?_) fun H1 p => ?_
    · obtain ⟨s1, ⟨acc, hacc, pacc⟩, _⟩ := p
      obtain ⟨a, p, rfl, hpi, ha⟩ := hp.get hi
      have hii := (List.getElem?_eq_some_iff.mp hpi).1
      have ha1 := s1 _ _ (s0 _ _ ha)
      have tk : (ps.take (i + 1)).filter keep = (ps.take i).filter keep ++ (if keep p = true then [p] else []) := by
        rw [List.take_succ, hpi, List.filter_append]
        congr 1
        simp [List.filter_cons]
      have no : keep p = false → Same (upd H r (.lst [])) H1 ∧ PL H1 D ((ps.take (i + 1)).filter keep) ∧ i + 1 ≤ ps.length := fun k => by
        rw [tk, k]
        simp only [Bool.false_eq_true, if_false, List.append_nil]
        exact ⟨s1, ⟨acc, hacc, pacc⟩, hii⟩
      refine ⟨rfl, _, rfl, a, _, 0, _, rfl, rfl, ha1, atI_nat (j := 0) rfl, rfl, _, rfl, ite2 (fun e => ?_) (fun e => ?_)⟩
      · have w0 : p.1 ≠ [] := fun z => by
          rw [z] at e
          exact absurd e (by decide +kernel)
        refine ⟨_, rfl, a, _, 1, _, rfl, rfl, ha1, atI_nat (j := 1) rfl, _, _, rfl, rfl, _, rfl, ite2 (fun e2 => ?_) (fun e2 => ?_)⟩
        · have t0 : 0 < p.2 := by
            have := of_decide_eq_true e2
            omega
          have k : keep p = true := by unfold keep; rw [decide_eq_true w0, decide_eq_true t0]; rfl
          have lacc := pacc.len
          have : ((ps.take i).filter keep).length ≤ i := Nat.le_trans (List.length_filter_le _ _) (by rw [List.length_take]; omega)
          refine ⟨_, rfl, acc, hacc, by rw [sizeLine_eq]; omega, same_upd2 hD s1, ⟨_, upd_same, ?_⟩, hii⟩
          rw [tk, if_pos k]
          exact (pacc.upd hacc).app (.one (by rw [upd_ne (fun z => by rw [z, hacc] at ha1; cases ha1)]; exact ha1))
        · refine no ?_
          unfold keep
          rw [decide_eq_false (p := 0 < p.2) (fun z => e2 (decide_eq_true (by omega))), Bool.and_false]
      · refine no ?_
        have w0 : p.1 = [] := Classical.byContradiction fun z => e (by
          rw [decide_eq_false (fun y => z (S_nil (V.str.inj y)))]
          rfl)
        unfold keep
        rw [decide_eq_false (p := p.1 ≠ []) (fun z => z w0), Bool.false_and]
    · obtain ⟨s1, hqs, _⟩ := p
      rw [len, List.take_length] at hqs
      have lqs : (ps.filter keep).length ≤ ps.length := List.length_filter_le _ _
      have lowq : ∀ p ∈ ps.filter keep, p.1.length ≤ 4 ∧ Low p.1 ∧ p.1 ≠ [] ∧ p.2 ≠ 0 := fun p hp => by
        obtain ⟨a, b⟩ := List.mem_filter.mp hp
        have := ok.word p a
        unfold keep at b
        simp at b
        exact ⟨this.1, this.2, b.1, by omega⟩
      have ef := fold_keep ps []
      generalize hqq : ps.filter keep = qs at hqs lqs lowq ef
      obtain ⟨us, hus, pus⟩ := hqs
      have lus := pus.len
      have hr1 : H1 r = some (.lst []) := s1 _ _ upd_same
      refine ⟨D, rfl, ⟨_, .inl (.inl hus)⟩, for_list (K := K) (a := D) (xs := us) (fun i σ H' => Same H H' ∧ (∃ y2 y3, σ = [some (.ref l), some (.ref r), y2, y3, none]) ∧ H' D = some (.lst us) ∧ Pcs H' us qs ∧ PL H' r ((qs.take i).foldl stepT []) ∧ (∀ p ∈ (qs.take i).foldl stepT [], Low p.1))
        ⟨s0.trans s1, ⟨none, none, rfl⟩, hus, pus, ⟨[], hr1, .nil⟩, fun p h => absurd h List.not_mem_nil⟩ (fun i σ H' _ p => .inl (.inl p.2.2.1)) (fun i y σ H' hi p => ?_) (fun σ H' p => ?_)⟩
      · obtain ⟨s2, ⟨y2, y3, rfl⟩, hD2, pq, ⟨ws, hws, pw⟩, lowA⟩ := p
        obtain ⟨a, p, rfl, hpi, ha⟩ := pq.get hi
        have hlw := lowq p (List.mem_of_getElem? hpi)
        have hii := (List.getElem?_eq_some_iff.mp hpi).1
        have lacc := fold_len (qs.take i) []
        have lw := pw.len
        rw [List.length_take] at lacc
        have acc1000 : ws.length < sizeLine := by rw [sizeLine_eq]; simp at lacc; omega
        rw [show ((qs.take (i + 1)).foldl stepT [] : List Pc) = stepT ((qs.take i).foldl stepT []) p from take_step hpi]
        generalize hacc : (qs.take i).foldl stepT [] = acc at pw lw lacc lowA
        have np : ¬ (p.1 = [] ∨ p.2 = 0) := fun z => z.elim hlw.2.2.1 hlw.2.2.2
        have lowS : ∀ x ∈ stepT acc p, Low x.1 := fun x hx => by
          unfold stepT at hx
          rw [if_neg np] at hx
          split at hx
          · split at hx
            · rcases List.mem_append.mp hx with z | z
              · exact lowA x (List.dropLast_subset _ z)
              · rw [List.mem_singleton.mp z]; exact hlw.2.1
            · rcases List.mem_append.mp hx with z | z
              · exact lowA x z
              · rw [List.mem_singleton.mp z]; exact hlw.2.1
          · rcases List.mem_append.mp hx with z | z
            · exact lowA x z
            · rw [List.mem_singleton.mp z]; exact hlw.2.1
        have rD : r ≠ D := Ne.symm Dr
        refine ⟨a, _, rfl, .inl (.inl ha), rfl, _, _, rfl, _, _, rfl, rfl, ?_⟩
        refine ⟨_, rfl, by show 0 ≤ sizeLine; omega, fun m hm => ?_⟩
        have sm := sameNew (o := .lst []) hm
        have hws' := sm _ _ hws
        have pw' := pw.same sm
        have s3 := s2.trans sm
        have hD3 := sm _ _ hD2
        have pq3 := pq.same sm
        have app : ∀ {t : Addr}, upd H' m (.lst []) t = none → stepT acc p = acc ++ [p] → Same H (upd (upd (upd H' m (.lst [])) t (.tup [.str (S p.1), .int p.2])) r (.lst (ws ++ [.ref t]))) ∧
            (upd (upd (upd H' m (.lst [])) t (.tup [.str (S p.1), .int p.2])) r (.lst (ws ++ [.ref t]))) D = some (.lst us) ∧ Pcs (upd (upd (upd H' m (.lst [])) t (.tup [.str (S p.1), .int p.2])) r (.lst (ws ++ [.ref t]))) us qs ∧
            PL (upd (upd (upd H' m (.lst [])) t (.tup [.str (S p.1), .int p.2])) r (.lst (ws ++ [.ref t]))) r (stepT acc p) := by
          intro t ht e
          have := app_end s3 hr0 hws' pw' ht (p := p)
          have st := sameNew (o := .tup [V.str (S p.1), V.int p.2]) ht
          rw [e]
          exact ⟨this.1, by rw [upd_ne Dr]; exact st _ _ hD3, (pq3.same st).upd (st _ _ hws'), this.2⟩
        refine ⟨r, m, acc, rfl, rfl, ⟨ws, hws', pw'⟩, lowA, upd_same, _, rfl, ?_⟩
        cases hlast : ws.getLast? with
        | none =>
          have we : ws = [] := List.getLast?_eq_none_iff.mp hlast
          have ae : acc = [] := List.length_eq_zero_iff.mp (by rw [← lw, we]; rfl)
          have es : stepT acc p = acc ++ [p] := by unfold stepT; rw [if_neg np, ae]; rfl
          rw [show (!acc.isEmpty) = false by rw [ae]; rfl]
          refine iteF ⟨_, rfl, .inl ⟨rfl, _, .inl (.inl hws')⟩, _, rfl, _, rfl, by show 2 ≤ sizeLine; decide, fun t ht => ⟨r, _, _, rfl, rfl, sameNew ht _ _ hws', acc1000, ?_⟩⟩
          obtain ⟨A1, A2, A3, A4⟩ := app ht es
          exact ⟨A1, ⟨_, _, rfl⟩, A2, A3, A4, lowS⟩
        | some v =>
          have hv : ws[ws.length - 1]? = some v := by rw [← List.getLast?_eq_getElem?]; exact hlast
          obtain ⟨b, q', rfl, hq, hb⟩ := pw'.get hv
          have hq' : acc.getLast? = some q' := by rw [List.getLast?_eq_getElem?, ← lw]; exact hq
          rw [show (!acc.isEmpty) = true by
            cases acc with
            | nil => cases hq'
            | cons _ _ => rfl]
          refine iteT ⟨_, rfl, 1, rfl, r, _, -1, _, rfl, rfl, .inl (.inl hws'), last_at hv, b, _, 0, _, rfl, rfl, .inl (.inl hb), atI_nat (j := 0) rfl, _, rfl, rfl, _, rfl, ite2 (fun e => ?_) (fun e => ?_)⟩
          · have e1 : q'.1 = p.1 := S_inj (V.str.inj (of_decide_eq_true e))
            have es : stepT acc p = acc.dropLast ++ [(p.1, p.2 + q'.2)] := by unfold stepT; rw [if_neg np, hq']; simp [e1]
            obtain ⟨sl1, sl2⟩ := set_last (v := V.ref b) hv
            refine ⟨_, rfl, _, rfl, 1, rfl, r, _, -1, _, rfl, rfl, .inl (.inl hws'), last_at hv, b, _, 1, _, rfl, rfl, .inl (.inl hb), atI_nat (j := 1) rfl, _, rfl, _, _, rfl, rfl, by show 2 ≤ sizeLine; decide, fun t ht => ?_⟩
            have st := sameNew (o := .tup [V.str (S p.1), V.int ((q'.2 : Int) + (p.2 : Int))]) ht
            have tr : t ≠ r := fun z => by rw [z, hws'] at ht; cases ht
            refine ⟨_, rfl, 1, rfl, r, _, -1, ws.length - 1, rfl, rfl, st _ _ hws', sl1, ?_⟩
            refine ⟨same_upd2 hr0 (s3.trans st), ⟨_, _, rfl⟩, by rw [upd_ne Dr]; exact st _ _ hD3, (pq3.same st).upd (st _ _ hws'), ?_, lowS⟩
            rw [es]
            refine ⟨_, upd_same, ?_⟩
            rw [(set_last hv).2]
            refine ((pw'.init.same st).upd (st _ _ hws')).app (.one ?_)
            rw [upd_ne tr, upd_same]
            exact congrArg (fun z => some (HO.tup [V.str (S p.1), V.int z])) (by show (q'.2 : Int) + p.2 = ((p.2 + q'.2 : Nat) : Int); omega)
          · have e1 : ¬ q'.1 = p.1 := fun z => e (by rw [z]; exact decide_eq_true rfl)
            have es : stepT acc p = acc ++ [p] := by unfold stepT; rw [if_neg np, hq']; simp [e1]
            refine ⟨_, rfl, .inl ⟨rfl, _, .inl (.inl hws')⟩, _, rfl, _, rfl, by show 2 ≤ sizeLine; decide, fun t ht => ⟨r, _, _, rfl, rfl, sameNew ht _ _ hws', acc1000, ?_⟩⟩
            obtain ⟨A1, A2, A3, A4⟩ := app ht es
            exact ⟨A1, ⟨_, _, rfl⟩, A2, A3, A4, lowS⟩
      · obtain ⟨s2, ⟨y2, y3, rfl⟩, hD2, pq, PR, _⟩ := p
        rw [lus, List.take_length, ef] at PR
        exact ⟨_, rfl, q r H' s2 hr0 PR⟩
end
end K03

set_option Elab.async false
set_option linter.all false
set_option maxRecDepth 100000
set_option maxHeartbeats 4000000
namespace K03
open PySem PySem.Spec PyProof.Rows L2 CK SX KM
/-! ### the law's part: a stretch only where there is one -/
def cutL (lo hi s : Nat) (p : Pc) : List Pc := if max lo s - s < min hi (s + plen p) - s then two p.1 (lo - s) (min hi (s + plen p) - s) else []
def cutLF (lo hi : Nat) (s : Nat) : List Pc → List Pc
  | [] => []
  | p :: r => cutL lo hi s p ++ cutLF lo hi (s + plen p) r
theorem cutL_fold {lo hi s : Nat} {p : Pc} (hle : lo ≤ hi) (ne : p.1 ≠ []) (acc : List Pc) : (cutL lo hi s p).foldl stepT acc = (cut1 lo hi s p).foldl stepT acc := by
  have n0 := List.length_pos_iff.mpr ne
  unfold cutL cut1
  by_cases h : max lo s - s < min hi (s + plen p) - s
  · rw [if_pos h, if_pos ⟨by omega, by omega⟩]
  · rw [if_neg h]
    by_cases g : s < hi ∧ lo < s + plen p
    · rw [if_pos g]
      have e : min hi (s + plen p) - s - (lo - s) = 0 := by omega
      unfold two
      rw [e, Nat.zero_div, Nat.zero_mod]
      simp [stepT]
    · rw [if_neg g]
theorem cutLF_fold {lo hi : Nat} (hle : lo ≤ hi) : ∀ (ps : List Pc) (s : Nat) (acc : List Pc), (∀ p ∈ ps, p.1 ≠ []) → (cutLF lo hi s ps).foldl stepT acc = (cutF lo hi s ps).foldl stepT acc
  | [], _, _, _ => rfl
  | p :: r, s, acc, h => by
    rw [cutLF, cutF, List.foldl_append, List.foldl_append, cutL_fold hle (h p List.mem_cons_self), cutLF_fold hle r _ _ fun q hq => h q (List.mem_cons_of_mem _ hq)]
theorem cutL_sub {lo hi s : Nat} {p : Pc} : cutL lo hi s p = [] ∨ cutL lo hi s p = cut1 lo hi s p := by
  unfold cutL cut1
  by_cases h : max lo s - s < min hi (s + plen p) - s
  · rw [if_pos h, if_pos ⟨by omega, by omega⟩]
    exact .inr rfl
  · rw [if_neg h]
    exact .inl rfl
theorem cutLF_app (lo hi : Nat) : ∀ (a b : List Pc) (s : Nat), cutLF lo hi s (a ++ b) = cutLF lo hi s a ++ cutLF lo hi (s + long a) b
  | [], b, s => by simp [cutLF, long]
  | p :: r, b, s => by
    rw [List.cons_append, cutLF, cutLF, cutLF_app lo hi r b, List.append_assoc]
    simp [long, Nat.add_assoc]
theorem cutLF_take {ps : List Pc} {i lo hi : Nat} {p : Pc} (h : ps[i]? = some p) : cutLF lo hi 0 (ps.take (i + 1)) = cutLF lo hi 0 (ps.take i) ++ cutL lo hi (long (ps.take i)) p := by
  have e : ps.take (i + 1) = ps.take i ++ [p] := by rw [List.take_succ, h]; rfl
  rw [e, cutLF_app]
  simp [cutLF]
theorem OK.cutL {lo hi n : Nat} {ps : List Pc} (h : OK n ps) (ne : ∀ p ∈ ps, p.1 ≠ []) : OK (2 * n) (cutLF lo hi 0 ps) := by
  have key : ∀ (ps : List Pc) (s : Nat), (∀ p ∈ ps, p.1.length ≤ 4 ∧ Low p.1) → (∀ p ∈ ps, p.1 ≠ []) →
      (∀ q ∈ cutLF lo hi s ps, q.1.length ≤ 4 ∧ Low q.1) ∧ ((cutLF lo hi s ps).map (·.2)).sum ≤ (ps.map (·.2)).sum + ps.length ∧ (cutLF lo hi s ps).length ≤ 2 * ps.length := by
    intro ps
    induction ps with
    | nil => exact fun s _ _ => ⟨fun q hq => absurd hq List.not_mem_nil, Nat.zero_le _, Nat.zero_le _⟩
    | cons p r ih =>
      intro s h1 h2
      obtain ⟨a, b⟩ := ok_cut1 (lo := lo) (hi := hi) (s := s) (h1 p List.mem_cons_self) (h2 p List.mem_cons_self)
      obtain ⟨c, d, e⟩ := ih (s + plen p) (fun q hq => h1 q (List.mem_cons_of_mem _ hq)) (fun q hq => h2 q (List.mem_cons_of_mem _ hq))
      have l1 : (cut1 lo hi s p).length ≤ 2 := by unfold cut1 two; split <;> simp
      have f : (∀ q ∈ K03.cutL lo hi s p, q.1.length ≤ 4 ∧ Low q.1) ∧ ((K03.cutL lo hi s p).map (·.2)).sum ≤ p.2 + 1 ∧ (K03.cutL lo hi s p).length ≤ 2 := by
        rcases cutL_sub (lo := lo) (hi := hi) (s := s) (p := p) with z | z
        · rw [z]
          exact ⟨fun q hq => absurd hq List.not_mem_nil, Nat.zero_le _, Nat.zero_le _⟩
        · rw [z]
          exact ⟨a, b, l1⟩
      refine ⟨fun q hq => ?_, ?_, ?_⟩
      · rcases List.mem_append.mp hq with z | z
        · exact f.1 q z
        · exact c q z
      · rw [cutLF, List.map_append, List.sum_append]
        simp
        omega
      · rw [cutLF, List.length_append, List.length_cons]
        omega
  obtain ⟨a, b, c⟩ := key ps 0 h.word ne
  have := h.len
  refine ⟨by omega, a, ?_⟩
  have h3 := h.num
  have h4 : 2 * n * 2 ^ 200 = n * 2 ^ 200 + n * 2 ^ 200 := by rw [Nat.mul_assoc, Nat.two_mul]
  have h5 : n ≤ n * 2 ^ 200 := Nat.le_mul_of_pos_right _ (Nat.two_pow_pos _)
  omega
theorem law_part_eq {lo hi : Nat} {ps : List Pc} (hle : lo ≤ hi) (h : ∀ p ∈ ps, p.1 ≠ []) : tidy (cutLF lo hi 0 ps) = KM.part ps lo hi := cutLF_fold hle ps 0 [] h
theorem rot_map {w : List Nat} (k : Nat) : (List.range w.length).map (fun i => V.str (S [(rot w k).getD i 0])) = ((rot w k).map fun c => S [c]).map V.str := by
  refine List.ext_getElem? fun i => ?_
  have rl := rot_len w k
  by_cases hi : i < w.length
  · rw [List.getElem?_map, List.getElem?_range hi, List.getElem?_map, List.getElem?_map, List.getElem?_eq_getElem (by omega)]
    show some (V.str (S [(rot w k).getD i 0])) = some (V.str (S [(rot w k)[i]]))
    rw [List.getD_eq_getElem?_getD, List.getElem?_eq_getElem (by omega)]
    rfl
  · rw [List.getElem?_eq_none (by simp; omega), List.getElem?_eq_none (by simp; omega)]
section
variable {P : Program} {w : World} {K : PySem.W.Frag} {mg : Str → Option Value} {base : Heap} {C : Addr}
def sp_lpart : Sp := fun vs H Q _ => ∃ (l : Addr) (ps : List Pc) (n lo hi : Nat), vs = [.ref l, .int lo, .int hi] ∧ PL H l ps ∧ OK n ps ∧ 2 * n ≤ 1000 ∧ (∀ p ∈ ps, p.1 ≠ []) ∧ lo ≤ hi ∧ ∀ r H', Same H H' → H r = none → PL H' r (KM.part ps lo hi) → Q (.ref r) H'
theorem c_law_part (T : Txt K mg C) : C8.Cal P w K mg base 2 "_law_part" sp_lpart [] := by
  refine calF T.d_law_part sc_law_part (fun vs H Q E h => ?_) (fun f cdv A outer s H vs Q E hr h => ?_)
  · obtain ⟨_, _, _, _, _, rfl, _⟩ := h; rfl
  · obtain ⟨l, ps, n, lo, hi, rfl, ⟨vs, hl, hp⟩, ok, hn, ne, hle, q⟩ := h
    have len := hp.len
    have okl := ok.len
    refine ⟨_, (pss_cons (ps_par (i := 3) (j := 4) (by rfl) sc_law_part.nd rfl rfl (by decide) rfl rfl (pa_cons (pe_lst pa_nil) (pa_cons pe_int pa_nil)) (by rfl))
    (pss_cons (ps_for PassesOwn.never rfl (pi_list (pv 0)) (pg_two (K := K) (i := 5) (j := 6) rfl rfl sc_law_part.nd rfl rfl (Or.inr rfl) (Or.inl rfl))
    (pss_cons (ps_set (i := 7) sc_law_part.nd rfl (Or.inl rfl) (pe_op op_add (pv 4) (pe_op op_mulZ (pe_callB call_len_str (by rfl) T.m_len (by decide +kernel) (pa_cons (pv 5) pa_nil)) (pv 6))))
    (pss_cons (ps_asg (pe_tup (pa_cons (pe_op op_sub (pe_callB (call_max2 rfl) (by rfl) T.m_max (by decide +kernel) (pa_cons (pv 1) (pa_cons (pv 4) pa_nil))) (pv 4)) (pa_cons (pe_op op_sub (pe_callB (call_min2 rfl) (by rfl) T.m_min (by decide +kernel) (pa_cons (pv 2) (pa_cons (pv 7) pa_nil))) (pv 4)) pa_nil))) (pg_two (K := K) (i := 8) (j := 9) rfl rfl sc_law_part.nd rfl rfl (Or.inr rfl) (Or.inl rfl)))
    (pss_cons (ps_if (pt_cmpR op_lt (pv 8) (pv 9) (nomark _))
    (pss_cons (ps_set (i := 10) sc_law_part.nd rfl (Or.inl rfl) (pe_join pe_str (pe_lc (own := [("_law_at", 11)]) (by rfl) sc_law_part.nd (pi_range1 (by rfl) T.m_range (pa_cons (pe_callB call_len_str (by rfl) T.m_len (by decide +kernel) (pa_cons (pv 5) pa_nil)) pa_nil)) (blkOk_by (N := ["_law_pieces_here", "_law_low", "_law_high", "_law_found", "_law_start", "_law_word_here", "_law_times", "_law_end", "_law_one", "_law_other", "_law_ahead", "_law_at"]) (sc := C8.fnScope (topS 45)) (own := [("_law_at", 11)]) (by decide +kernel)) (fun _ _ _ _ _ => (pg_name (i := 11) sc_law_part.nd rfl (Or.inl rfl))) (fun _ _ _ _ _ => pts_nil) (fun _ _ _ _ _ => (pe_ix ix_str (pv 5) (pe_op op_modZ (pe_callTy call_int1 (by rfl) T.m_int (by decide +kernel) (pa_cons (pe_op op_add (pv 8) (pv 11)) pa_nil)) (pe_callB call_len_str (by rfl) T.m_len (by decide +kernel) (pa_cons (pv 5) pa_nil))) (fun _ _ => rfl))))))
    (pss_cons (ps_expr (pe_bm PySem.F.plainAttrs_list PySem.F.slot_list_append PySem.F.type_list_append mt_append (pv 3) (pa_cons (pe_tup (pa_cons (pv 10) (pa_cons (pe_op op_fdivZ (pe_op op_sub (pv 9) (pv 8)) (pe_callB call_len_str (by rfl) T.m_len (by decide +kernel) (pa_cons (pv 5) pa_nil))) pa_nil))) pa_nil)))
    (pss_one (ps_expr (pe_bm PySem.F.plainAttrs_list PySem.F.slot_list_append PySem.F.type_list_append mt_append (pv 3) (pa_cons (pe_tup (pa_cons (pe_slice C8.sl_txt (pv 10) po_none (po_some (pe_op op_modZ (pe_callTy call_int1 (by rfl) T.m_int (by decide +kernel) (pa_cons (pe_op op_sub (pv 9) (pv 8)) pa_nil)) (pe_callB call_len_str (by rfl) T.m_len (by decide +kernel) (pa_cons (pv 5) pa_nil))))) (pa_cons pe_int pa_nil))) pa_nil))))))
    pss_nil)
    (pss_one (ps_set (i := 4) sc_law_part.nd rfl (Or.inl rfl) (pv 7)))))))
    (pss_one (ps_ret (C8.pe_c (c_law_tidied T) hr (by decide) (by rfl) (pa_cons (pv 3) pa_nil)))))), ?_⟩
    refine ⟨by show 0 ≤ sizeLine; omega, fun r hr0 => ⟨_, _, rfl, ?_⟩⟩
    have s0 := sameNew (o := .lst []) hr0
    refine ⟨_, rfl, l, rfl, ⟨_, .inl (.inl (s0 _ _ hl))⟩, for_list (K := K) (a := l) (xs := vs) (fun i σ H' => Same H H' ∧ (∃ (z : Int) (y5 y6 y7 y8 y9 y10 : Option V), σ = [some (.ref l), some (.int lo), some (.int hi), some (.ref r), some (.int z), y5, y6, y7, y8, y9, y10, none] ∧ z = ((long (ps.take i) : Nat) : Int)) ∧ PL H' r (cutLF lo hi 0 (ps.take i)) ∧ (cutLF lo hi 0 (ps.take i)).length ≤ 2 * i)
      ⟨s0, ⟨0, none, none, none, none, none, none, rfl, rfl⟩, ⟨[], upd_same, .nil⟩, Nat.zero_le _⟩ (fun i σ H' _ p => .inl (.inl (p.1 _ _ hl))) (fun i y σ H' hi' p => ?_) (fun σ H' p => ?_)⟩
    · obtain ⟨s1, ⟨z, y5, y6, y7, y8, y9, y10, rfl, rfl⟩, ⟨ws, hws, pw⟩, hcl⟩ := p
      obtain ⟨a, p, rfl, hpi, ha⟩ := hp.get hi'
      have hmem := List.mem_of_getElem? hpi
      have hwp := ok.word p hmem
      have htp := ok.times (by omega) hmem
      have hnep := ne p hmem
      have n0 := List.length_pos_iff.mpr hnep
      have hii := (List.getElem?_eq_some_iff.mp hpi).1
      have lw := pw.len
      have pe : plen p = p.1.length * p.2 := rfl
      have lt := long_take hpi
      rw [show cutLF lo hi 0 (ps.take (i + 1)) = _ from cutLF_take hpi]
      generalize hs : long (ps.take i) = s0' at lt
      refine ⟨a, _, rfl, .inl (.inl (s1 _ _ ha)), rfl, _, _, rfl, _, _, rfl, rfl, ?_⟩
      refine ⟨_, rfl, _, rfl, S p.1, rfl, len_line (by omega), _, rfl, p.1.length, p.2, congrArg (fun n : Nat => V.int n) (S_len _), rfl, by omega, by omega, _, _, rfl, rfl, ?_⟩
      refine ⟨_, rfl, _, rfl, _, _, rfl, _, rfl, _, _, rfl, rfl, _, rfl, _, rfl, _, _, rfl, _, rfl, _, _, rfl, rfl, by show 2 ≤ sizeLine; decide, fun t ht => ?_⟩
      refine ⟨t, _, rfl, .inl (.inl upd_same), rfl, _, _, rfl, _, _, rfl, rfl, ?_⟩
      have st := sameNew (o := .tup [V.int ((if ((s0' : Nat) : Int) > (lo : Int) then ((s0' : Nat) : Int) else (lo : Int)) - ((s0' : Nat) : Int)), V.int ((if ((s0' : Nat) : Int) + ((p.1.length * p.2 : Nat) : Int) < (hi : Int) then ((s0' : Nat) : Int) + ((p.1.length * p.2 : Nat) : Int) else (hi : Int)) - ((s0' : Nat) : Int))]) ht
      have x1 : (if ((s0' : Nat) : Int) > (lo : Int) then ((s0' : Nat) : Int) else (lo : Int)) - ((s0' : Nat) : Int) = ((lo - s0' : Nat) : Int) := by split <;> omega
      refine ⟨_, rfl, _, rfl, _, _, rfl, rfl, _, rfl, ite2 (fun c => ?_) (fun c => ?_)⟩
      · have c' := of_decide_eq_true c
        have x2 : (if ((s0' : Nat) : Int) + ((p.1.length * p.2 : Nat) : Int) < (hi : Int) then ((s0' : Nat) : Int) + ((p.1.length * p.2 : Nat) : Int) else (hi : Int)) - ((s0' : Nat) : Int) = ((min hi (s0' + plen p) - s0' : Nat) : Int) := by
          split at c' <;> split at c' <;> split <;> omega
        have cc : max lo s0' - s0' < min hi (s0' + plen p) - s0' := by
          split at c' <;> split at c' <;> omega
        have ec : cutL lo hi s0' p = two p.1 (lo - s0') (min hi (s0' + plen p) - s0') := by unfold cutL; rw [if_pos cc]
        generalize hb : min hi (s0' + plen p) - s0' = b at x2 ec
        generalize ha' : lo - s0' = a' at x1 ec
        have rl := rot_len p.1 (a' % p.1.length)
        have hm := Nat.mod_lt a' n0
        refine ⟨⟨_, rfl⟩, _, rfl, S p.1, rfl, len_line (by omega), _, rfl, by rw [S_len]; omega, by rw [S_len]; omega, fun D hD => ?_⟩
        refine lcR_map (lo := 0) (n := (((S p.1).length : Nat) : Int).toNat) (fun i => V.str (S [(rot p.1 (a' % p.1.length)).getD i 0])) (small1000 (by rw [S_len]; omega)) (fun j H3 R hj s3 q' => ?_) hD fun H3 s3 hL => ?_
        · rw [S_len, Int.toNat_natCast] at hj
          refine ⟨rfl, _, rfl, _, rfl, _, rfl, _, _, rfl, rfl, .inl ⟨_, rfl, _, rfl, S p.1, rfl, len_line (by omega), a' + j, p.1.length, congrArg V.int (by rw [x1]; omega), congrArg (fun n : Nat => V.int n) (S_len _), by omega, ?_⟩⟩
          refine ⟨_, _, (rot p.1 (a' % p.1.length)).getD j 0, rfl, rfl, len_line (by omega), atI_nat (xs := p.1) ?_, q' _ (Same.refl _)⟩
          rw [← Nat.mod_add_mod, ← rot_get hm hj, List.getD_eq_getElem?_getD, List.getElem?_eq_getElem (by omega)]
          rfl
        · rw [S_len, Int.toNat_natCast, rot_map] at hL
          have ll : ∀ l : List Nat, ((l.map fun c => S [c]).map fun x => x.length).sum = l.length := by
            intro l
            induction l with
            | nil => rfl
            | cons c r ih => rw [List.map_cons, List.map_cons, List.sum_cons, ih, S_len]; simp; omega
          refine ⟨Str.ofString "", D, (rot p.1 (a' % p.1.length)).map fun c => S [c], rfl, rfl, .inl (.inl (.inl hL)), by rw [ll, List.length_map, show (Str.ofString "").length = 0 by decide +kernel]; omega, ?_⟩
          rw [join_S1]
          have s4 := st.trans s3
          have hw4 := s4 _ _ hws
          have hab : a' ≤ b := by omega
          refine ⟨_, rfl, .inl ⟨rfl, _, .inl (.inl hw4)⟩, _, rfl, _, rfl, _, rfl, _, _, rfl, rfl, _, rfl, S p.1, rfl, len_line (by omega), b - a', p.1.length, congrArg V.int (by rw [x2, x1]; omega), congrArg (fun n : Nat => V.int n) (S_len _), by omega, by omega, by show 2 ≤ sizeLine; decide, fun t1 h1 => ⟨r, _, _, rfl, rfl, sameNew h1 _ _ hw4, by rw [sizeLine_eq]; omega, ?_⟩⟩
          have A := app_end (s1.trans s4) hr0 hw4 (pw.same s4) h1 (p := (rot p.1 (a' % p.1.length), (b - a') / p.1.length))
          refine ⟨_, rfl, .inl ⟨rfl, _, .inl (.inl upd_same)⟩, _, rfl, _, rfl, _, rfl, _, _, rfl, rfl, .inl ⟨_, rfl, _, rfl, S p.1, rfl, len_line (by omega), b - a', p.1.length, congrArg V.int (by rw [x2, x1]; omega), congrArg (fun n : Nat => V.int n) (S_len _), by omega, ?_⟩⟩
          refine ⟨_, rfl, S (rot p.1 (a' % p.1.length)), rfl, len_line (by omega), ?_⟩
          rw [SX.slice_to (by omega), Int.toNat_natCast]
          refine ⟨by show 2 ≤ sizeLine; decide, fun t2 h2 => ⟨r, _, _, rfl, rfl, sameNew h2 _ _ upd_same, by rw [List.length_append, sizeLine_eq]; simp; omega, ?_⟩⟩
          obtain ⟨ws2, hws2, pw2⟩ := A.2
          have hws3 := upd_same.symm.trans hws2
          cases hws3
          have B := app_end A.1 hr0 hws2 pw2 h2 (p := ((rot p.1 (a' % p.1.length)).take ((b - a') % p.1.length), 1))
          refine ⟨_, rfl, B.1, ⟨_, _, _, _, _, _, _, rfl, by rw [lt, pe]; omega⟩, ?_, ?_⟩
          · have e : cutLF lo hi 0 (ps.take i) ++ two p.1 a' b = cutLF lo hi 0 (ps.take i) ++ [(rot p.1 (a' % p.1.length), (b - a') / p.1.length)] ++ [((rot p.1 (a' % p.1.length)).take ((b - a') % p.1.length), 1)] := by
              rw [List.append_assoc]
              rfl
            rw [ec, e]
            exact B.2
          · rw [ec, List.length_append]
            show _ + 2 ≤ _
            omega
      · have c' : ¬ _ := fun z => c (decide_eq_true z)
        have cc : ¬ (max lo s0' - s0' < min hi (s0' + plen p) - s0') := fun z => c' (by split <;> split <;> omega)
        have ec : cutL lo hi s0' p = [] := by unfold cutL; rw [if_neg cc]
        refine ⟨_, rfl, s1.trans st, ⟨_, _, _, _, _, _, _, rfl, by rw [lt, pe]; omega⟩, ?_, ?_⟩
        · rw [ec, List.append_nil]
          exact ⟨ws, st _ _ hws, pw.same st⟩
        · rw [ec, List.append_nil]
          omega
    · obtain ⟨s1, ⟨z, y5, y6, y7, y8, y9, y10, rfl, _⟩, h, hcl⟩ := p
      rw [len, List.take_length] at h
      have okL := ok.cutL (lo := lo) (hi := hi) ne
      refine ⟨_, rfl, r, _, 2 * n, rfl, h, okL, hn, fun r2 H2 s2 n2 P2 => ?_⟩
      rw [law_part_eq hle ne] at P2
      exact q r2 H2 (s1.trans s2) (s1.free n2) P2
end
end K03

set_option Elab.async false
set_option linter.all false
set_option maxRecDepth 100000
set_option maxHeartbeats 4000000
namespace K03
open PySem PySem.Spec PyProof.Rows L2 CK SX KM
theorem PL.sameX {g : Addr} {H H' : Hp} {l : Addr} {ps : List Pc} {n : Nat} (h : PL H l ps) (G : Gn n H g) (s : SameX g H H') : PL H' l ps := by
  obtain ⟨vs, e, p⟩ := h
  refine ⟨vs, s _ _ (fun z => ?_) e, p.mono fun a xs ha => s.tup G ha⟩
  subst z
  obtain ⟨a, b, c, h1, _⟩ := G
  rw [e] at h1
  cases h1
  cases p
theorem PL.ne {g : Addr} {H : Hp} {l : Addr} {ps : List Pc} {n : Nat} (h : PL H l ps) (G : Gn n H g) : l ≠ g := fun z => by
  obtain ⟨vs, e, p⟩ := h
  subst z
  obtain ⟨a, b, c, h1, _⟩ := G
  rw [e] at h1
  cases h1
  cases p
theorem get_int {xs : List Int} {i : Nat} {v : V} (h : (xs.map V.int)[i]? = some v) : ∃ z, z ∈ xs ∧ xs[i]? = some z ∧ v = .int z := by
  rw [List.getElem?_map] at h
  cases e : xs[i]? with
  | none => rw [e] at h; cases h
  | some z =>
    rw [e] at h
    exact ⟨z, List.mem_of_getElem? e, rfl, (Option.some.inj h).symm⟩
theorem small5 {n : Nat} (h : n ≤ 5) : n < sizeLine := small1000 (by omega)
/-- a list of places -/
def NL (H : Hp) (a : Addr) (ks : List Nat) : Prop := H a = some (.lst (ks.map fun k => V.int (k : Nat)))
theorem NL.same {H H' : Hp} {a : Addr} {ks : List Nat} (h : NL H a ks) (s : Same H H') : NL H' a ks := s _ _ h
theorem nats_of : ∀ {ns : List Int}, (∀ z ∈ ns, 0 ≤ z) → ns.map V.int = (ns.map Int.toNat).map fun k => V.int (k : Nat)
  | [], _ => rfl
  | z :: r, h => by
    have h0 := h z List.mem_cons_self
    rw [List.map_cons, List.map_cons, List.map_cons, nats_of fun y hy => h y (List.mem_cons_of_mem _ hy)]
    congr 2
    omega
def inZ (m : Nat) (z : Int) : Bool := decide (0 ≤ z) && decide (z ≤ m)
section
variable {P : Program} {w : World} {K : PySem.W.Frag} {mg : Str → Option Value} {base : Heap} {C : Addr}
def sp_places : Sp := fun vs H Q _ => ∃ (g l : Addr) (ps : List Pc) (m n : Nat), vs = [.ref g, .ref l] ∧ PL H l ps ∧ OK m ps ∧ m ≤ 100 ∧ long ps < 2 ^ 190 ∧ Gn (n + 4) H g ∧
  ∀ r (ks : List Nat) H', SameX g H H' → Gn n H' g → H r = none → NL H' r ks → ks.Pairwise (· ≤ ·) → (∀ k ∈ ks, k ≤ long ps) → ks ≠ [] → ks.length ≤ 1000 → Q (.ref r) H'
theorem c_law_places (T : Txt K mg C) : C8.Cal P w K mg base 3 "_law_places" sp_places [] := by
  refine calF T.d_law_places sc_law_places (fun vs H Q E h => ?_) (fun f cdv A outer s H vs Q E hr h => ?_)
  · obtain ⟨_, _, _, _, _, rfl, _⟩ := h; rfl
  · obtain ⟨g, l, ps, m, n, rfl, pl, ok, hm, hlong, G, q⟩ := h
    refine ⟨_, (pss_cons (ps_asg (pe_tup (pa_cons (pe_lst (pa_cons pe_int pa_nil)) (pa_cons pe_int (pa_cons (C8.pe_c (c_law_long T) hr (by decide) (by rfl) (pa_cons (pv 1) pa_nil)) pa_nil)))) (pg_tup rfl (pgs_cons (pg_name (i := 2) sc_law_places.nd rfl (Or.inl rfl)) (pgs_cons (pg_name (i := 3) sc_law_places.nd rfl (Or.inr rfl)) (pgs_cons (pg_name (i := 4) sc_law_places.nd rfl (Or.inr rfl)) pgs_nil)))))
    (pss_cons (ps_for PassesOwn.never rfl (pi_list (pv 1)) (pg_two (K := K) (i := 5) (j := 6) rfl rfl sc_law_places.nd rfl rfl (Or.inl rfl) (Or.inl rfl))
    (pss_cons (ps_set (i := 3) sc_law_places.nd rfl (Or.inr rfl) (pe_op op_add (pv 3) (pe_op op_mulZ (pe_callB call_len_str (by rfl) T.m_len (by decide +kernel) (pa_cons (pv 5) pa_nil)) (pv 6))))
    (pss_one (ps_set (i := 2) sc_law_places.nd rfl (Or.inl rfl) (pe_op op_cat (pv 2) (pe_lc (own := [("_law_at", 7)]) (by rfl) sc_law_places.nd (pi_list (pe_lst (pa_cons (pe_un un_neg pe_int) (pa_cons (pe_un un_neg pe_int) (pa_cons pe_int (pa_cons pe_int (pa_cons pe_int pa_nil))))))) (blkOk_by (N := ["_law_generator_here", "_law_pieces_here", "_law_found", "_law_start", "_law_long_here", "_law_word_here", "_law_times", "_law_at", "_law_turn"]) (sc := C8.fnScope (topS 46)) (own := [("_law_at", 7)]) (by decide +kernel)) (fun _ _ _ _ _ => (pg_name (i := 7) sc_law_places.nd rfl (Or.inl rfl))) (fun _ _ _ _ _ => pts_nil) (fun _ _ _ _ _ => (pe_op op_add (pv 3) (pv 7)))))))))
    (pss_cons (ps_set (i := 2) sc_law_places.nd rfl (Or.inl rfl) (pe_op op_cat (pv 2) (pe_lc (own := [("_law_turn", 8)]) (by rfl) sc_law_places.nd (pi_range1 (by rfl) T.m_range (pa_cons pe_int pa_nil)) (blkOk_by (N := ["_law_generator_here", "_law_pieces_here", "_law_found", "_law_start", "_law_long_here", "_law_word_here", "_law_times", "_law_at", "_law_turn"]) (sc := C8.fnScope (topS 46)) (own := [("_law_turn", 8)]) (by decide +kernel)) (fun _ _ _ _ _ => (pg_name (i := 8) sc_law_places.nd rfl (Or.inl rfl))) (fun _ _ _ _ _ => pts_nil) (fun _ _ _ _ _ => (C8.pe_c (c_law_random T) hr (by decide) (by rfl) (pa_cons (pv 0) (pa_cons (pe_op op_add (pv 4) pe_int) pa_nil)))))))
    (pss_one (ps_ret (pe_callB cr_sortedI (by rfl) T.m_sorted (by decide +kernel) (pa_cons (pe_lc (own := [("_law_at", 7)]) (by rfl) sc_law_places.nd (pi_list (pv 2)) (blkOk_by (N := ["_law_generator_here", "_law_pieces_here", "_law_found", "_law_start", "_law_long_here", "_law_word_here", "_law_times", "_law_at", "_law_turn"]) (sc := C8.fnScope (topS 46)) (own := [("_law_at", 7)]) (by decide +kernel)) (fun _ _ _ _ _ => (pg_name (i := 7) sc_law_places.nd rfl (Or.inl rfl))) (fun _ _ _ _ _ => (pts_one (PW.pt (pw_and (pt_cmpR op_le pe_int (pv 7) (nomark _)) (pw_and1 (pt_cmpR op_le (pv 7) (pv 4) (nomark _))))))) (fun _ _ _ _ _ => (pv 7))) pa_nil))))))), ?_⟩
    refine ⟨by show 1 ≤ sizeLine; decide, fun L hL => ?_⟩
    have s0 := sameNew (o := .lst [V.int 0]) hL
    have Lg := G.ne hL
    refine ⟨_, rfl, l, ps, m, rfl, pl.same s0, ok, by omega, fun H1 s1 => ⟨by show 3 ≤ sizeLine; decide, fun t ht => ?_⟩⟩
    have st := sameNew (o := .tup [V.ref L, V.int 0, V.int (long ps : Nat)]) ht
    refine ⟨t, _, rfl, .inl (.inl upd_same), rfl, _, _, rfl, _, _, rfl, _, _, rfl, rfl, ?_⟩
    have sA := (s0.trans s1).trans st
    obtain ⟨vs, hl, hp⟩ := pl.same sA
    have len := hp.len
    have okl := ok.len
    refine ⟨_, rfl, l, rfl, ⟨_, .inl (.inl hl)⟩, for_list (K := K) (a := l) (xs := vs) (fun i σ H' => Same (upd H1 t (.tup [V.ref L, V.int 0, V.int (long ps : Nat)])) H' ∧ i ≤ ps.length ∧ ∃ (F : Addr) (z : Int) (y5 y6 : Option V) (zs : List Int), σ = [some (.ref g), some (.ref l), some (.ref F), some (.int z), some (.int (long ps : Nat)), y5, y6, none, none] ∧ z = ((long (ps.take i) : Nat) : Int) ∧ F ≠ g ∧ H' F = some (.lst (zs.map V.int)) ∧ zs.length = 1 + 5 * i ∧ 0 ∈ zs)
      ⟨Same.refl _, Nat.zero_le _, L, 0, none, none, [0], rfl, rfl, Lg, st _ _ (s1 _ _ upd_same), rfl, List.mem_cons_self⟩ (fun i σ H' _ p => .inl (.inl (p.1 _ _ hl))) (fun i y σ H' hi p => ?_) (fun σ H' p => ?_)⟩
    · obtain ⟨s2, _, F, z, y5, y6, zs, rfl, rfl, Fg, hF, lz, m0⟩ := p
      obtain ⟨a, p, rfl, hpi, ha⟩ := hp.get hi
      have hmem := List.mem_of_getElem? hpi
      have hw := ok.word p hmem
      have ht' := ok.times (by omega) hmem
      have hii := (List.getElem?_eq_some_iff.mp hpi).1
      have lt := long_take hpi
      have pe : plen p = p.1.length * p.2 := rfl
      refine ⟨a, _, rfl, .inl (.inl (s2 _ _ ha)), rfl, _, _, rfl, _, _, rfl, rfl, ?_⟩
      refine ⟨_, rfl, _, rfl, S p.1, rfl, len_line (by omega), _, rfl, p.1.length, p.2, congrArg (fun n : Nat => V.int n) (S_len _), rfl, by omega, by omega, _, _, rfl, rfl, ?_⟩
      refine ⟨_, rfl, 2, rfl, 1, rfl, by show 5 ≤ sizeLine; decide, fun M hM => ⟨M, rfl, ⟨_, .inl (.inl upd_same)⟩, fun D hD => ?_⟩⟩
      have sM := sameNew (o := .lst [V.int (-2), V.int (-1), V.int 0, V.int 1, V.int 2]) hM
      refine lcL_map (K := K) (a := M) (xs := [(-2 : Int), -1, 0, 1, 2].map V.int) (fun v => match v with | .int j => .int (((long (ps.take i) : Nat) : Int) + ((p.1.length * p.2 : Nat) : Int) + j) | _ => .non) upd_same (small1000 (by decide)) (fun j x H3 R hx s3 q' => ?_) hD fun H3 s3 hD3 => ?_
      · obtain ⟨j', _, rfl⟩ := List.mem_map.mp (List.mem_of_getElem? hx)
        exact ⟨rfl, _, rfl, _, rfl, _, _, rfl, rfl, q' _ (Same.refl _)⟩
      · have hF3 := s3 _ _ (sM _ _ hF)
        refine ⟨F, D, _, _, rfl, rfl, hF3, hD3, ?_, fun p' hp' => ?_⟩
        · rw [List.length_map, List.length_map, lz, sizeLine_eq]
          show 1 + 5 * i + 5 ≤ _
          omega
        · refine ⟨(s2.trans sM).trans (s3.trans (sameNew hp')), hii, p', _, _, _, zs ++ [(-2 : Int), -1, 0, 1, 2].map (fun j => ((long (ps.take i) : Nat) : Int) + ((p.1.length * p.2 : Nat) : Int) + j), rfl, by rw [lt, pe]; omega, ?_, ?_, by rw [List.length_append, lz]; show 1 + 5 * i + 5 = _; omega, List.mem_append_left _ m0⟩
          · intro e
            obtain ⟨xs, hx⟩ := G.at
            have := (s2.trans sM).trans s3 _ _ (sA _ _ hx)
            rw [e, this] at hp'
            cases hp'
          · rw [upd_same, List.map_append]
            rfl
    · obtain ⟨s2, _, F, z, y5, y6, zs, rfl, rfl, Fg, hF, lz, m0⟩ := p
      have sB := sA.trans s2
      have G2 := G.same sB
      refine ⟨_, rfl, 4, rfl, by decide, by decide, fun D hD => ?_⟩
      refine lcD_draw (cnt := 4) (n := n) (g := g) (most := (long ps : Nat)) (small5 (by omega)) hD G2 (fun i H3 R hi s3 G3 q' => ?_) fun H3 ns s3 G3 hD3 hl3 hb => ?_
      · exact ⟨rfl, _, rfl, _, rfl, _, 1, rfl, rfl, g, _, _, rfl, G3, by omega, by omega, fun r H4 s4 G4 r0 r1 => q' r H4 s4 G4 r0 (by omega)⟩
      · have hF3 := s3 _ _ Fg hF
        refine ⟨F, D, _, _, rfl, rfl, hF3, hD3, by rw [List.length_map, List.length_map, lz, hl3, sizeLine_eq]; omega, fun F2 hF2 => ?_⟩
        have hF2' : (upd H3 F2 (.lst (zs.map V.int ++ ns.map V.int))) F2 = some (.lst ((zs ++ ns).map V.int)) := by rw [upd_same, List.map_append]
        have s4 := sameNew (o := .lst (zs.map V.int ++ ns.map V.int)) hF2
        generalize hH4 : upd H3 F2 (.lst (zs.map V.int ++ ns.map V.int)) = H4 at hF2' s4
        have lall : (zs ++ ns).length ≤ 900 := by rw [List.length_append, lz, hl3]; omega
        have mall : 0 ∈ zs ++ ns := List.mem_append_left _ m0
        generalize hal : zs ++ ns = al at hF2' lall mall
        refine ⟨_, rfl, F2, rfl, ⟨_, .inl (.inl hF2')⟩, fun D2 hD2 => ?_⟩
        refine lc_list (K := K) (a := F2) (xs := al.map V.int) (fun i H5 => Same H4 H5 ∧ H5 D2 = some (.lst (((al.take i).filter (inZ (long ps))).map V.int))) ⟨sameNew hD2, by rw [upd_same]; rfl⟩ (fun i H5 _ p => .inl (.inl (p.1 _ _ hF2'))) (fun i y H5 hi p => ?_) fun H5 p => ?_
        · obtain ⟨s5, hD5⟩ := p
          obtain ⟨z, mz, hz, rfl⟩ := get_int hi
          have hii := (List.getElem?_eq_some_iff.mp hz).1
          have tk : (al.take (i + 1)).filter (inZ (long ps)) = (al.take i).filter (inZ (long ps)) ++ (if inZ (long ps) z = true then [z] else []) := by
            rw [List.take_succ, hz, List.filter_append]
            congr 1
            simp [List.filter_cons]
          have no : inZ (long ps) z = false → Same H4 H5 ∧ H5 D2 = some (.lst (((al.take (i + 1)).filter (inZ (long ps))).map V.int)) := fun k => by
            rw [tk, k]
            simp only [Bool.false_eq_true, if_false, List.append_nil]
            exact ⟨s5, hD5⟩
          refine ⟨rfl, _, rfl, 0, z, rfl, rfl, _, rfl, ite2 (fun e => ?_) (fun e => ?_)⟩
          · refine ⟨_, rfl, _, rfl, z, _, rfl, rfl, _, rfl, ite2 (fun e2 => ?_) (fun e2 => ?_)⟩
            · have k : inZ (long ps) z = true := by unfold inZ; rw [e, e2]; rfl
              refine ⟨_, rfl, _, hD5, ?_, same_upd2 hD2 s5, ?_⟩
              · rw [List.length_map]
                have := List.length_filter_le (inZ (long ps)) (al.take i)
                rw [List.length_take] at this
                rw [sizeLine_eq]
                omega
              · rw [upd_same, tk, if_pos k, List.map_append]
                rfl
            · refine no ?_
              unfold inZ
              rw [Bool.not_eq_true] at e2
              rw [e2, Bool.and_false]
          · refine no ?_
            unfold inZ
            rw [Bool.not_eq_true] at e
            rw [e, Bool.false_and]
        · obtain ⟨s5, hD5⟩ := p
          rw [List.length_map, List.take_length] at hD5
          refine ⟨D2, _, rfl, .inl (.inl hD5), fun ns' r perm pw hr' => ?_⟩
          have mem : ∀ z ∈ ns', 0 ≤ z ∧ z ≤ (long ps : Nat) := fun z hz => by
            have := (List.mem_filter.mp (perm.mem_iff.mp hz)).2
            unfold inZ at this
            simp only [Bool.and_eq_true, decide_eq_true_eq] at this
            exact this
          have sx : SameX g H (upd H5 r (.lst (ns'.map V.int))) := (SameX.of sB).trans (s3.trans (.of (s4.trans (s5.trans (sameNew hr')))))
          refine q r (ns'.map Int.toNat) _ sx (((G3.same s4).same s5).same (sameNew hr')) ?_ ?_ ?_ ?_ ?_ ?_
          · cases e : H r with
            | none => rfl
            | some o =>
              by_cases hg : r = g
              · obtain ⟨xs, hx⟩ := ((G3.same s4).same s5).at
                rw [hg, hx] at hr'
                cases hr'
              · have := s5 _ _ (s4 _ _ (s3 _ _ hg (sB _ _ e)))
                rw [this] at hr'
                cases hr'
          · unfold NL
            rw [upd_same, nats_of fun z hz => (mem z hz).1]
          · refine List.pairwise_map.mpr (pw.imp fun h => ?_)
            omega
          · intro k hk
            obtain ⟨z, hz, rfl⟩ := List.mem_map.mp hk
            have := mem z hz
            omega
          · intro e
            have h0 : (0 : Int) ∈ al.filter (inZ (long ps)) := List.mem_filter.mpr ⟨mall, by unfold inZ; simp⟩
            have := perm.mem_iff.mpr h0
            rw [List.map_eq_nil_iff.mp e] at this
            cases this
          · rw [List.length_map, perm.length_eq]
            have := List.length_filter_le (inZ (long ps)) al
            omega
end
end K03

set_option Elab.async false
set_option linter.all false
set_option maxRecDepth 100000
set_option maxHeartbeats 4000000
namespace K03
open PySem PySem.Spec PyProof.Rows L2 CK SX KM
theorem shaped_nil : SeqAt.shaped (.list []) = true := shaped_pcs (ps := []) (fun p h => absurd h List.not_mem_nil)
theorem eqv_nil2 : PyData.eqv (.list []) (.list []) = true := SeqAt.eqv_refl (.list []) (SeqAt.canLay_of_shaped shaped_nil)
theorem NL.get {H : Hp} {b : Addr} {ks : List Nat} {i : Nat} {v : V} (h : (ks.map fun k => V.int (k : Nat))[i]? = some v) : ∃ k, ks[i]? = some k ∧ v = .int (k : Nat) := by
  rw [List.getElem?_map] at h
  cases e : ks[i]? with
  | none => rw [e] at h; cases h
  | some k =>
    rw [e] at h
    exact ⟨k, rfl, (Option.some.inj h).symm⟩
section
variable {P : Program} {w : World} {K : PySem.W.Frag} {mg : Str → Option Value} {base : Heap} {C : Addr}
def sp_lright (C : Addr) : Sp := fun vs H Q _ => ∃ (p l b : Addr) (ps : List Pc) (n : Nat) (ks : List Nat), vs = [.ref p, .ref l, .ref b] ∧ KW C H p ps ∧ PL H l ps ∧ OK n ps ∧ n ≤ 1000 ∧ NL H b ks ∧ ks.length ≤ 1000 ∧ ∀ H', Same H H' → Q (.bl true) H'
theorem c_law_letters_right (T : Txt K mg C) : C8.Cal P w K mg base 5 "_law_letters_right" (sp_lright C) [] := by
  refine calF T.d_law_letters_right sc_law_letters_right (fun vs H Q E h => ?_) (fun f cdv A outer s H vs Q E hr h => ?_)
  · obtain ⟨_, _, _, _, _, _, rfl, _⟩ := h; rfl
  · obtain ⟨p, l, b, ps, n, ks, rfl, kw, pl, ok, hn, nl, hk, q⟩ := h
    have low : ∀ p ∈ ps, Low p.1 := fun p hp => (ok.word p hp).2
    refine ⟨_, (pss_cons (ps_if (PW.pt (pw_or (pt_cmpR (op_neSame hr.units) (C8.pe_mt0 (m_KeptWord_pieces T) hr (by decide) (pv 0)) (pv 1) (nomark _)) (pw_or1 (pt_cmpR op_ne (C8.pe_mt0 (m_KeptWord_length T) hr (by decide) (pv 0)) (C8.pe_c (c_law_long T) hr (by decide) (by rfl) (pa_cons (pv 1) pa_nil)) (nomark _)))))
    (pss_one (ps_ret pe_bl))
    pss_nil)
    (pss_one (ps_ret (pe_cmpR (op_eqD hr.units) (pe_lc (own := [("_law_at", 3)]) (by rfl) sc_law_letters_right.nd (pi_list (pv 2)) (blkOk_by (N := ["_law_kept", "_law_pieces_here", "_law_places_here", "_law_at"]) (sc := C8.fnScope (topS 47)) (own := [("_law_at", 3)]) (by decide +kernel)) (fun _ _ _ _ _ => (pg_name (i := 3) sc_law_letters_right.nd rfl (Or.inl rfl))) (fun _ _ _ _ _ => (pts_one (PW.pt (pw_and (pt_cmpR op_lt (pv 3) (C8.pe_c (c_law_long T) hr (by decide) (by rfl) (pa_cons (pv 1) pa_nil)) (nomark _)) (pw_and1 (pt_cmpR op_ne (C8.pe_mt (m_KeptWord_letter T) hr (by decide) (pv 0) (pa_cons (pv 3) pa_nil)) (C8.pe_c (c_law_letter T) hr (by decide) (by rfl) (pa_cons (pv 1) (pa_cons (pv 3) pa_nil))) (nomark _))))))) (fun _ _ _ _ _ => (pv 3))) (pe_lst pa_nil) (nomark _))))), ?_⟩
    obtain ⟨dx, l0, e0, hp, _, _⟩ := id kw
    have no : ∀ m : Str, ¬ m = "_pieces" → ¬ m = "_ends" → (KF l0 e0).lookup m = none := fun m => kf_no l0 e0
    refine ⟨_, rfl, p, dx, _, rfl, hp, no _ (by decide +kernel) (by decide +kernel), p, ps, rfl, kw, fun l1 H1 s1 n1 P1 => ?_⟩
    refine ⟨_, rfl, .list (ps.map dPc), dp_pcs P1, dp_pcs (pl.same s1), shaped_pcs low, _, rfl, iteF ?_⟩
    refine ⟨_, rfl, p, dx, _, rfl, s1 _ _ hp, no _ (by decide +kernel) (by decide +kernel), p, ps, rfl, kw.same s1, _, rfl, l, ps, n, rfl, pl.same s1, ok, hn, fun H2 s2 => ⟨rfl, _, rfl, iteNS rfl ?_⟩⟩
    have s12 := s1.trans s2
    have hb2 := nl.same s12
    refine ⟨_, rfl, b, rfl, ⟨_, .inl (.inl hb2)⟩, fun D hD => ?_⟩
    refine lc_list (K := K) (a := b) (xs := ks.map fun k => V.int (k : Nat)) (fun i H5 => Same H2 H5 ∧ H5 D = some (.lst [])) ⟨sameNew hD, upd_same⟩ (fun i H5 _ p => .inl (.inl (p.1 _ _ hb2))) (fun i y H5 hi p => ?_) fun H5 p => ?_
    · obtain ⟨s5, hD5⟩ := p
      obtain ⟨k, hki, rfl⟩ := NL.get (H := H2) (b := b) hi
      have sx := s12.trans s5
      refine ⟨rfl, _, rfl, _, rfl, l, ps, n, rfl, pl.same sx, ok, hn, fun H6 s6 => ⟨_, _, rfl, rfl, _, rfl, ite2 (fun e => ?_) (fun e => ?_)⟩⟩
      · have e' : k < long ps := by
          have := of_decide_eq_true e
          omega
        obtain ⟨c, hc⟩ : ∃ c, (wr ps)[k]? = some c := ⟨_, List.getElem?_eq_getElem (by rw [wr_len]; exact e')⟩
        have s7 := sx.trans s6
        refine ⟨_, rfl, p, dx, _, rfl, s7 _ _ hp, no _ (by decide +kernel) (by decide +kernel), _, rfl, p, ps, n, k, c, rfl, kw.same s7, ok, hn, hc, _, rfl, _, rfl, l, ps, n, k, c, rfl, pl.same s7, ok, hn, hc, rfl, _, rfl, iteNS rfl ⟨s5.trans s6, s6 _ _ hD5⟩⟩
      · exact ⟨s5.trans s6, s6 _ _ hD5⟩
    · obtain ⟨s5, hD5⟩ := p
      refine ⟨by show 0 ≤ sizeLine; omega, fun M hM => ⟨.list [], .list [], .lst (.inl (.inl (sameNew hM _ _ hD5))) .nil, .lst (.inl (.inl upd_same)) .nil, shaped_nil, shaped_nil, ?_⟩⟩
      rw [eqv_nil2]
      exact q _ ((s12.trans s5).trans (sameNew hM))
end
end K03

set_option Elab.async false
set_option linter.all false
set_option maxRecDepth 100000
set_option maxHeartbeats 4000000
namespace K03
open PySem PySem.Spec PyProof.Rows L2 CK SX KM
theorem cutV_mid (xs : List V) {i j : Nat} (h : i ≤ j) (hj : j ≤ xs.length) : cutV xs (some (i : Int)) (some (j : Int)) = (xs.drop i).take (j - i) := by
  unfold cutV
  rw [HT.sIx_nat, HT.sIx_nat, Nat.min_eq_left (show i ≤ xs.length by omega)]
  congr 2
  omega
theorem long_tidy (ps : List Pc) : long (tidy ps) = long ps := by rw [← wr_len, wr_tidy, wr_len]
/-- a kept word that shares nothing with the generator -/
def KG (C g : Addr) (H : Hp) (p : Addr) (ps : List Pc) : Prop := ∃ dx l e, H p = some (.ins C dx (KF l e)) ∧ PL H l ps ∧ EL H e ps ∧ e ≠ g
theorem KG.kw {C g : Addr} {H : Hp} {p : Addr} {ps : List Pc} (h : KG C g H p ps) : KW C H p ps := by
  obtain ⟨dx, l, e, h1, h2, h3, _⟩ := h
  exact ⟨dx, l, e, h1, h2, h3⟩
theorem KG.sameX {C g : Addr} {H H' : Hp} {p : Addr} {ps : List Pc} {n : Nat} (h : KG C g H p ps) (G : Gn n H g) (s : SameX g H H') : KG C g H' p ps := by
  obtain ⟨dx, l, e, h1, h2, h3, h4⟩ := h
  refine ⟨dx, l, e, s _ _ (fun z => ?_) h1, h2.sameX G s, s _ _ h4 h3, h4⟩
  obtain ⟨xs, hx⟩ := G.at
  rw [z, hx] at h1
  cases h1
theorem KWf.kg {C g : Addr} {H0 H : Hp} {p : Addr} {ps : List Pc} {n : Nat} (h : KWf C H0 H p ps) (G : Gn n H0 g) : KG C g H p ps := by
  obtain ⟨dx, l, e, h1, h2, h3, h4⟩ := h
  refine ⟨dx, l, e, h1, h2, h3, fun z => ?_⟩
  obtain ⟨xs, hx⟩ := G.at
  rw [z, hx] at h4
  cases h4
theorem pw_get {ks : List Nat} (h : ks.Pairwise (· ≤ ·)) {i j : Nat} {a b : Nat} (hij : i ≤ j) (ha : ks[i]? = some a) (hb : ks[j]? = some b) : a ≤ b := by
  obtain ⟨hi, rfl⟩ := List.getElem?_eq_some_iff.mp ha
  obtain ⟨hj, rfl⟩ := List.getElem?_eq_some_iff.mp hb
  rcases Nat.lt_or_eq_of_le hij with z | z
  · exact List.pairwise_iff_getElem.mp h i j hi hj z
  · subst z
    exact Nat.le_refl _
theorem shift_map {cs : List Nat} {a : Nat} (h : ∀ k ∈ cs, a ≤ k) : (cs.map fun k => V.int (k : Nat)).map (fun v => match v with | .int j => .int (j - (a : Int)) | _ => .non) = (cs.map fun k => k - a).map fun k => V.int (k : Nat) := by
  rw [List.map_map, List.map_map]
  refine List.map_congr_left fun k hk => ?_
  have := h k hk
  show V.int ((k : Int) - (a : Int)) = V.int ((k - a : Nat) : Int)
  congr 1
  omega
section
variable {P : Program} {w : World} {K : PySem.W.Frag} {mg : Str → Option Value} {base : Heap} {C : Addr}
def sp_pright (C : Addr) : Sp := fun vs H Q _ => ∃ (g p l b : Addr) (ps : List Pc) (m n : Nat) (ks : List Nat), vs = [.ref g, .ref p, .ref l, .ref b] ∧ Gn (n + 100) H g ∧ KG C g H p ps ∧ PL H l ps ∧ OK m ps ∧ m ≤ 100 ∧ long ps < 2 ^ 190 ∧ Ty ps ∧ NL H b ks ∧ b ≠ g ∧
  ks.length ≤ 1000 ∧ ks ≠ [] ∧ ks.Pairwise (· ≤ ·) ∧ (∀ k ∈ ks, k ≤ long ps) ∧ ∀ H', SameX g H H' → Gn n H' g → Q (.bl true) H'
theorem c_law_parts_right (T : Txt K mg C) : C8.Cal P w K mg base 9 "_law_parts_right" (sp_pright C) [] := by
  refine calF T.d_law_parts_right sc_law_parts_right (fun vs H Q E h => ?_) (fun f cdv A outer s H vs Q E hr h => ?_)
  · obtain ⟨_, _, _, _, _, _, _, _, rfl, _⟩ := h; rfl
  · obtain ⟨g, p, l, b, ps, m, n, ks, rfl, G, kw, pl, ok, hm, hlong, ty, nl, bg, hk, kne, kpw, kle, q⟩ := h
    have ne : ∀ p ∈ ps, p.1 ≠ [] := fun p hp => (ty.all p hp).1
    have low : ∀ p ∈ ps, Low p.1 := fun p hp => (ok.word p hp).2
    have k0 := List.length_pos_iff.mpr kne
    have noP : ∀ l e, (KF l e).lookup ("pieces" : Str) = none := fun l e => kf_no l e (by decide +kernel) (by decide +kernel)
    have noA : ∀ l e, (KF l e).lookup ("part" : Str) = none := fun l e => kf_no l e (by decide +kernel) (by decide +kernel)
    have noL : ∀ l e, (KF l e).lookup ("length" : Str) = none := fun l e => kf_no l e (by decide +kernel) (by decide +kernel)
    have noE : ∀ l e, (KF l e).lookup ("letter" : Str) = none := fun l e => kf_no l e (by decide +kernel) (by decide +kernel)
    refine ⟨_, (pss_cons (ps_for PassesOwn.never rfl (pi_range1 (by rfl) T.m_range (pa_cons pe_int pa_nil)) (pg_name (i := 4) sc_law_parts_right.nd rfl (Or.inl rfl))
    (pss_cons (ps_set (i := 5) sc_law_parts_right.nd rfl (Or.inl rfl) (C8.pe_c (c_law_random T) hr (by decide) (by rfl) (pa_cons (pv 0) (pa_cons (pe_callB call_len_seq (by rfl) T.m_len (by decide +kernel) (pa_cons (pv 3) pa_nil)) pa_nil))))
    (pss_cons (ps_set (i := 6) sc_law_parts_right.nd rfl (Or.inl rfl) (pe_op op_add (pv 5) (C8.pe_c (c_law_random T) hr (by decide) (by rfl) (pa_cons (pv 0) (pa_cons (pe_op op_sub (pe_callB call_len_seq (by rfl) T.m_len (by decide +kernel) (pa_cons (pv 3) pa_nil)) (pv 5)) pa_nil)))))
    (pss_cons (ps_asg (pe_tup (pa_cons (pe_ix ix_list (pv 3) (pv 5) (fun _ _ => rfl)) (pa_cons (pe_ix ix_list (pv 3) (pv 6) (fun _ _ => rfl)) pa_nil))) (pg_two (K := K) (i := 7) (j := 8) rfl rfl sc_law_parts_right.nd rfl rfl (Or.inr rfl) (Or.inl rfl)))
    (pss_cons (ps_set (i := 9) sc_law_parts_right.nd rfl (Or.inl rfl) (C8.pe_mt (m_KeptWord_part T) hr (by decide) (pv 1) (pa_cons (pv 7) (pa_cons (pv 8) pa_nil))))
    (pss_cons (ps_set (i := 10) sc_law_parts_right.nd rfl (Or.inl rfl) (C8.pe_c (c_law_part T) hr (by decide) (by rfl) (pa_cons (pv 2) (pa_cons (pv 7) (pa_cons (pv 8) pa_nil)))))
    (pss_cons (ps_if (PW.pt (pw_or (pt_cmpR (op_neSame hr.units) (C8.pe_mt0 (m_KeptWord_pieces T) hr (by decide) (pv 9)) (pv 10) (nomark _)) (pw_or1 (pt_cmpR op_ne (C8.pe_mt0 (m_KeptWord_length T) hr (by decide) (pv 9)) (pe_op op_sub (pv 8) (pv 7)) (nomark _)))))
    (pss_one (ps_ret pe_bl))
    pss_nil)
    (pss_cons (ps_setLc (i := 11) (own := [("_law_at", 12)]) rfl sc_law_parts_right.nd rfl rfl (sw_true rfl rfl rfl (by decide +kernel)) (pi_list (pe_slice sl_list (pv 3) (po_some (pv 5)) (po_some (pe_op op_add (pv 6) pe_int)))) (blkOk_by (N := ["_law_generator_here", "_law_kept", "_law_pieces_here", "_law_places_here", "_law_turn", "_law_one", "_law_other", "_law_low", "_law_high", "_law_part_here", "_law_due", "_law_inner", "_law_at", "_law_start"]) (sc := C8.fnScope (topS 48)) (own := [("_law_at", 12)]) (by decide +kernel)) (fun _ _ _ _ _ => (pg_name (i := 12) sc_law_parts_right.nd rfl (Or.inl rfl))) (fun _ _ _ _ _ => pts_nil) (fun _ _ _ _ _ => (pe_op op_sub (pv 12) (pv 7))))
    (pss_cons (ps_if (pt_not (pt_val (C8.pe_c (c_law_letters_right T) hr (by decide) (by rfl) (pa_cons (pv 9) (pa_cons (pv 10) (pa_cons (pv 11) pa_nil))))))
    (pss_one (ps_ret pe_bl))
    pss_nil)
    (pss_cons (ps_set (i := 13) sc_law_parts_right.nd rfl (Or.inl rfl) (pe_ix ix_list (pv 11) (C8.pe_c (c_law_random T) hr (by decide) (by rfl) (pa_cons (pv 0) (pa_cons (pe_callB call_len_seq (by rfl) T.m_len (by decide +kernel) (pa_cons (pv 11) pa_nil)) pa_nil))) (fun _ _ => rfl)))
    (pss_cons (ps_if (pt_cmpR (op_neSame hr.units) (C8.pe_mt0 (m_KeptWord_pieces T) hr (by decide) (C8.pe_mt (m_KeptWord_part T) hr (by decide) (pv 9) (pa_cons (pv 13) (pa_cons (pe_op op_sub (pv 8) (pv 7)) pa_nil)))) (C8.pe_c (c_law_part T) hr (by decide) (by rfl) (pa_cons (pv 10) (pa_cons (pv 13) (pa_cons (pe_op op_sub (pv 8) (pv 7)) pa_nil)))) (nomark _))
    (pss_one (ps_ret pe_bl))
    pss_nil)
    (pss_one (ps_for PassesOwn.never rfl (pi_list (pv 11)) (pg_name (i := 12) sc_law_parts_right.nd rfl (Or.inl rfl))
    (pss_one (ps_if (PW.pt (pw_and (pt_cmpR op_lt (pv 12) (pe_op op_sub (pv 8) (pv 7)) (nomark _)) (pw_and1 (pt_cmpR op_ne (C8.pe_mt (m_KeptWord_letter T) hr (by decide) (pv 9) (pa_cons (pv 12) pa_nil)) (C8.pe_c (c_law_letter T) hr (by decide) (by rfl) (pa_cons (pv 2) (pa_cons (pe_op op_add (pv 7) (pv 12)) pa_nil))) (nomark _)))))
    (pss_one (ps_ret pe_bl))
    pss_nil)))))))))))))))
    (pss_one (ps_ret (pe_cmpR (op_eqD hr.units) (C8.pe_mt0 (m_KeptWord_pieces T) hr (by decide) (C8.pe_mt (m_KeptWord_part T) hr (by decide) (pv 1) (pa_cons pe_int (pa_cons (C8.pe_c (c_law_long T) hr (by decide) (by rfl) (pa_cons (pv 2) pa_nil)) pa_nil)))) (pv 2) (nomark _))))), ?_⟩
    refine ⟨16, rfl, by decide, by decide, ?_⟩
    refine for_it walk_range (fun i σ H' => SameX g H H' ∧ Gn (n + 5 * (16 - i)) H' g ∧ i ≤ 16 ∧ ∃ y4 y5 y6 y7 y8 y9 y10 y11 y12 y13 : Option V, σ = [some (.ref g), some (.ref p), some (.ref l), some (.ref b), y4, y5, y6, y7, y8, y9, y10, y11, y12, y13])
      ⟨.refl _ _, G.le (by omega), by decide, _, _, _, _, _, _, _, _, _, _, rfl⟩ (fun _ _ _ _ _ => True.intro) (fun i x σ H0 H0' hi pI yy => ?_) fun σ H' pI => ?_
    · obtain ⟨s0, G0, _, y4, y5, y6, y7, y8, y9, y10, y11, y12, y13, rfl⟩ := pI
      obtain ⟨rfl, rfl⟩ := yy
      have i16 : i < 16 := hi
      have eG : n + 5 * (16 - i) = (n + 5 * (16 - (i + 1))) + 2 + 1 + 1 + 1 := by omega
      rw [eG] at G0
      generalize n + 5 * (16 - (i + 1)) = n' at G0
      have kw0 := kw.sameX G s0
      have pl0 := pl.sameX G s0
      have nl0 : NL H0' b ks := s0 _ _ bg nl
      have lk : (ks.map fun k => V.int (k : Nat)).length = ks.length := List.length_map ..
      refine ⟨_, rfl, _, rfl, b, _, rfl, .inl (.inl (.inl nl0)), g, _, n' + 2 + 1 + 1, rfl, G0, by rw [lk]; omega, by rw [lk]; omega, fun r1 H1 s1 G1 r10 r11 => ?_⟩
      rw [lk] at r11
      have nl1 : NL H1 b ks := s1 _ _ bg nl0
      refine ⟨_, rfl, _, rfl, _, rfl, b, _, rfl, .inl (.inl (.inl nl1)), _, rfl, _, _, rfl, rfl, g, _, n' + 2 + 1, rfl, G1, by rw [lk]; omega, by rw [lk]; omega, fun r2 H2 s2 G2 r20 r21 => ⟨_, _, rfl, rfl, ?_⟩⟩
      rw [lk] at r21
      have nl2 : NL H2 b ks := s2 _ _ bg nl1
      obtain ⟨i1, rfl⟩ : ∃ i1 : Nat, r1 = i1 := ⟨r1.toNat, by omega⟩
      obtain ⟨i2, hi2⟩ : ∃ i2 : Nat, (i1 : Int) + r2 = i2 := ⟨((i1 : Int) + r2).toNat, by omega⟩
      have i12 : i1 ≤ i2 := by omega
      have i2k : i2 < ks.length := by omega
      have hk1 : ks[i1]? = some ks[i1] := List.getElem?_eq_getElem (by omega)
      have hk2 : ks[i2]? = some ks[i2] := List.getElem?_eq_getElem i2k
      have k12 := pw_get kpw i12 hk1 hk2
      have k2l := kle _ (List.mem_of_getElem? hk2)
      have in1 : ∀ k ∈ (ks.drop i1).take (i2 + 1 - i1), ks[i1] ≤ k ∧ k ≤ ks[i2] := fun k hk' => by
        obtain ⟨j, hj⟩ := List.getElem?_of_mem hk'
        rw [List.getElem?_take] at hj
        split at hj
        · rw [List.getElem?_drop] at hj
          exact ⟨pw_get kpw (by omega) hk1 hj, pw_get kpw (by omega) hj hk2⟩
        · cases hj
      generalize ks[i1] = k1 at hk1 k12 in1
      generalize ks[i2] = k2 at hk2 k12 in1 k2l
      have at1 : (ks.map fun k => V.int (k : Nat))[i1]? = some (.int (k1 : Nat)) := by rw [List.getElem?_map, hk1]; rfl
      have at2 : (ks.map fun k => V.int (k : Nat))[i2]? = some (.int (k2 : Nat)) := by rw [List.getElem?_map, hk2]; rfl
      refine ⟨_, rfl, _, rfl, b, _, _, _, rfl, rfl, .inl (.inl nl2), atI_nat at1, _, rfl, _, rfl, b, _, _, _, rfl, congrArg V.int hi2, .inl (.inl nl2), atI_nat at2, by show 2 ≤ sizeLine; decide, fun t ht => ?_⟩
      refine ⟨t, _, rfl, .inl (.inl upd_same), rfl, _, _, rfl, _, _, rfl, rfl, ?_⟩
      have st := sameNew (o := .tup [V.int (k1 : Nat), V.int (k2 : Nat)]) ht
      generalize upd H2 t (.tup [V.int (k1 : Nat), V.int (k2 : Nat)]) = H3 at st
      have s3 : SameX g H0' H3 := (s1.trans s2).trans (.of st)
      have G3 := G2.same st
      have kw3 := kw0.sameX G0 s3
      have pl3 := pl0.sameX G0 s3
      obtain ⟨dx, l0, e0, hp3, _, _, _⟩ := id kw3
      refine ⟨_, rfl, p, dx, _, rfl, hp3, noA _ _, _, rfl, _, rfl, p, ps, m, k1, k2, rfl, kw3.kw, ok, by omega, ne, k12, k2l, fun p2 H4 s4 n4 kf4 => ?_⟩
      have kg4 := kf4.kg G3
      refine ⟨_, rfl, _, rfl, _, rfl, l, ps, m, k1, k2, rfl, pl3.same s4, ok, by omega, ne, k12, fun r5 H5 s5 n5 P5 => ?_⟩
      have okq : OK (2 * m) (KM.part ps k1 k2) := (ok.cut ne).tidy
      have tyq : Ty (KM.part ps k1 k2) := ty_tidy _
      have lenq : long (KM.part ps k1 k2) = k2 - k1 := part_len ne k2l
      have getq : ∀ {i : Nat}, i < k2 - k1 → (wr (KM.part ps k1 k2))[i]? = (wr ps)[k1 + i]? := fun {i} h => part_get ne h
      generalize KM.part ps k1 k2 = qs at kg4 P5 okq tyq lenq getq kf4
      have neq : ∀ p ∈ qs, p.1 ≠ [] := fun p hp => (tyq.all p hp).1
      have lowq : ∀ p ∈ qs, Low p.1 := fun p hp => (okq.word p hp).2
      obtain ⟨dx2, l2, e2, hp4, _, _, _⟩ := id kg4
      have hp5 := s5 _ _ hp4
      have kq5 := kf4.kw.same s5
      refine ⟨_, rfl, p2, dx2, _, rfl, hp5, noP _ _, p2, qs, rfl, kq5, fun l6 H6 s6 n6 P6 => ?_⟩
      refine ⟨_, rfl, .list (qs.map dPc), dp_pcs P6, dp_pcs (P5.same s6), shaped_pcs lowq, _, rfl, iteF ?_⟩
      refine ⟨_, rfl, p2, dx2, _, rfl, s6 _ _ hp5, noL _ _, p2, qs, rfl, kq5.same s6, _, rfl, _, rfl, _, _, rfl, rfl, rfl, _, rfl, iteNS (congrArg V.int (by omega)) ?_⟩
      have s36 := (s4.trans s5).trans s6
      have nl6 : NL H6 b ks := s36 _ _ (st _ _ nl2)
      refine ⟨_, rfl, _, rfl, _, rfl, _, rfl, _, _, rfl, rfl, _, rfl, b, _, rfl, .inl (.inl nl6), fun M hM => ?_⟩
      have eM : cutV (ks.map fun k => V.int (k : Nat)) (some (i1 : Int)) (some ((i1 : Int) + r2 + 1)) = ((ks.drop i1).take (i2 + 1 - i1)).map fun k => V.int (k : Nat) := by
        rw [hi2, show (i2 : Int) + 1 = ((i2 + 1 : Nat) : Int) by omega, cutV_mid _ (by omega) (by rw [lk]; omega), ← List.map_drop, ← List.map_take]
      rw [eM]
      have sM := sameNew (o := .lst (((ks.drop i1).take (i2 + 1 - i1)).map fun k => V.int (k : Nat))) hM
      have lcs : ((ks.drop i1).take (i2 + 1 - i1)).length = i2 + 1 - i1 := by rw [List.length_take, List.length_drop]; omega
      generalize (ks.drop i1).take (i2 + 1 - i1) = cs at sM lcs in1
      have hMM : (upd H6 M (.lst (cs.map fun k => V.int (k : Nat)))) M = some (.lst (cs.map fun k => V.int (k : Nat))) := upd_same
      generalize upd H6 M (.lst (cs.map fun k => V.int (k : Nat))) = H7 at sM hMM
      refine ⟨M, rfl, ⟨_, .inl (.inl hMM)⟩, fun D hD => ?_⟩
      refine lcL_map (K := K) (a := M) (xs := cs.map fun k => V.int (k : Nat)) (fun v => match v with | .int j => .int (j - (k1 : Nat)) | _ => .non) hMM (small1000 (by rw [List.length_map]; omega)) (fun j x H8 R hx s8 q' => ?_) hD fun H8 s8 hD8 => ?_
      · obtain ⟨k, _, rfl⟩ := NL.get (H := H) (b := b) hx
        exact ⟨rfl, _, rfl, _, rfl, _, _, rfl, rfl, q' _ (Same.refl _)⟩
      rw [shift_map fun k hk => (in1 k hk).1] at hD8
      have nD : NL H8 D (cs.map fun k => k - k1) := hD8
      have s38 := s36.trans (sM.trans s8)
      have s58 := (s6.trans sM).trans s8
      have ljs : (cs.map fun k => k - k1).length = i2 + 1 - i1 := by rw [List.length_map, lcs]
      have injs : ∀ j ∈ cs.map fun k => k - k1, j ≤ k2 - k1 := fun j hj => by
        obtain ⟨k, hk, rfl⟩ := List.mem_map.mp hj
        have := in1 k hk
        omega
      generalize (cs.map fun k => k - k1) = js at nD ljs injs
      have fresh : ∀ {z : Addr} {Hz : Hp}, Hz z = none → SameX g H0' Hz → Gn 0 Hz g → H0' z = none := fun {z Hz} hz sz Gz => by
        cases e : H0' z with
        | none => rfl
        | some o =>
          by_cases hg : z = g
          · obtain ⟨xs, hx⟩ := Gz.at
            rw [hg, hx] at hz
            cases hz
          · rw [sz _ _ hg e] at hz
            cases hz
      have G8 := G3.same s38
      have Dg : D ≠ g := ((G3.same s36).same sM).ne hD
      refine ⟨_, rfl, _, rfl, _, rfl, p2, r5, D, qs, 2 * m, js, rfl, kq5.same s58, P5.same s58, okq, by omega, nD, by omega, fun H9 s9 => ⟨_, rfl, iteF ?_⟩⟩
      have G9 := G8.same s9
      have nD9 := nD.same s9
      have lj : (js.map fun k => V.int (k : Nat)).length = i2 + 1 - i1 := by rw [List.length_map, ljs]
      refine ⟨_, rfl, _, rfl, _, rfl, D, _, rfl, .inl (.inl (.inl nD9)), g, _, n' + 2, rfl, G9, by rw [lj]; omega, by rw [lj]; omega, fun r3 Ha sa Ga r30 r31 => ?_⟩
      rw [lj] at r31
      obtain ⟨i3, rfl⟩ : ∃ i3 : Nat, r3 = i3 := ⟨r3.toNat, by omega⟩
      have hj3 : js[i3]? = some js[i3] := List.getElem?_eq_getElem (by omega)
      have j3l := injs _ (List.mem_of_getElem? hj3)
      generalize js[i3] = j3 at hj3 j3l
      have at3 : (js.map fun k => V.int (k : Nat))[i3]? = some (.int (j3 : Nat)) := by rw [List.getElem?_map, hj3]; rfl
      have nDa : NL Ha D js := sa _ _ Dg nD9
      refine ⟨D, _, _, _, rfl, rfl, .inl (.inl nDa), atI_nat at3, ?_⟩
      have s49 := (s5.trans s58).trans s9
      have kga := (kf4.kg G3)
      have kg9 : KG C g H9 p2 qs := by
        obtain ⟨a1, a2, a3, a4, a5, a6, a7⟩ := kga
        exact ⟨a1, a2, a3, s49 _ _ a4, a5.same s49, s49 _ _ a6, a7⟩
      have kgA := kg9.sameX G9 sa
      have P5a := (P5.same (s58.trans s9)).sameX G9 sa
      have pla := ((pl3.same s38).same s9).sameX G9 sa
      obtain ⟨dx3, l3, e3, hp3a, _, _, _⟩ := id kgA
      refine ⟨_, rfl, p2, dx3, _, rfl, hp3a, noA _ _, _, rfl, _, rfl, _, rfl, _, _, rfl, rfl, p2, qs, 2 * m, j3, k2 - k1, congrArg (fun z => [V.ref p2, V.int (j3 : Nat), V.int z]) (by omega), kgA.kw, okq, by omega, neq, j3l, by omega, fun p3 Hb sb nb kfb => ?_⟩
      obtain ⟨dx4, l4, e4, hp4b, _, _, _⟩ := id kfb
      refine ⟨p3, dx4, _, rfl, hp4b, noP _ _, p3, _, rfl, kfb.kw, fun lc Hc sc nc Pc' => ?_⟩
      refine ⟨_, rfl, _, rfl, _, rfl, _, rfl, _, _, rfl, rfl, r5, qs, 2 * m, j3, k2 - k1, congrArg (fun z => [V.ref r5, V.int (j3 : Nat), V.int z]) (by omega), P5a.same (sb.trans sc), okq, by omega, neq, j3l, fun rd Hd sd nd Pd => ?_⟩
      have lowr : ∀ p ∈ KM.part qs j3 (k2 - k1), Low p.1 := fun p hp => ((okq.cut neq).tidy.word p hp).2
      refine ⟨.list ((KM.part qs j3 (k2 - k1)).map dPc), dp_pcs (Pc'.same sd), dp_pcs Pd, shaped_pcs lowr, _, rfl, iteF ?_⟩
      have sad := (sb.trans sc).trans sd
      have nDd := nDa.same sad
      refine ⟨_, rfl, D, rfl, ⟨_, .inl (.inl nDd)⟩, for_list (K := K) (a := D) (xs := js.map fun k => V.int (k : Nat)) (fun i σ H' => Same Hd H' ∧ ∃ (z11 : Int) (z12 z13 : Option V), σ = [some (.ref g), some (.ref p), some (.ref l), some (.ref b), some (.int z11), some (.int (i1 : Nat)), some (.int ((i1 : Nat) + r2)), some (.int (k1 : Nat)), some (.int (k2 : Nat)), some (.ref p2), some (.ref r5), some (.ref D), z12, z13])
        ⟨Same.refl _, _, _, _, rfl⟩ (fun i σ H' _ p => .inl (.inl (p.1 _ _ nDd))) (fun i y σ H' hy pJ => ?_) (fun σ H' pJ => ?_)⟩
      · obtain ⟨sH, z11, z12, z13, rfl⟩ := pJ
        obtain ⟨k, hk', rfl⟩ := NL.get (H := H) (b := b) hy
        refine ⟨_, rfl, _, rfl, _, rfl, _, _, rfl, rfl, _, _, rfl, rfl, _, rfl, ite2 (fun e => ?_) (fun e => ?_)⟩
        · have e' : k < k2 - k1 := by
            have := of_decide_eq_true e
            omega
          obtain ⟨c, hc⟩ : ∃ c, (wr qs)[k]? = some c := ⟨_, List.getElem?_eq_getElem (by rw [wr_len, lenq]; exact e')⟩
          have hc2 := hc
          rw [getq e'] at hc2
          have se := sad.trans sH
          refine ⟨_, rfl, p2, dx3, _, rfl, se _ _ hp3a, noE _ _, _, rfl, p2, qs, 2 * m, k, c, rfl, kgA.kw.same se, okq, by omega, hc, _, rfl, _, rfl, _, rfl, _, _, rfl, rfl, l, ps, m, k1 + k, c, congrArg (fun z => [V.ref l, V.int z]) (by omega), pla.same se, ok, by omega, hc2, rfl, _, rfl, iteNS rfl ⟨sH, _, _, _, rfl⟩⟩
        · exact ⟨sH, _, _, _, rfl⟩
      · obtain ⟨sH, z11, z12, z13, rfl⟩ := pJ
        have sE : SameX g H0' H' := s3.trans ((SameX.of (s38.trans s9)).trans (sa.trans (.of (sad.trans sH))))
        exact ⟨s0.trans sE, ((Ga.same sad).same sH).le (by omega), by omega, _, _, _, _, _, _, _, _, _, _, rfl⟩
    · obtain ⟨s0, G0, _, y4, y5, y6, y7, y8, y9, y10, y11, y12, y13, rfl⟩ := pI
      have kw0 := kw.sameX G s0
      have pl0 := pl.sameX G s0
      obtain ⟨dx, l0, e0, hp, _, _, _⟩ := id kw0
      refine ⟨_, rfl, p, dx, _, rfl, hp, noA _ _, _, rfl, l, ps, m, rfl, pl0, ok, by omega, fun H1 s1 => ?_⟩
      refine ⟨p, ps, m, 0, long ps, rfl, kw0.kw.same s1, ok, by omega, ne, Nat.zero_le _, Nat.le_refl _, fun p2 H2 s2 n2 kf2 => ?_⟩
      rw [part_all ty] at kf2
      obtain ⟨dx2, l2, e2, hp2, _, _, _⟩ := id kf2
      refine ⟨p2, dx2, _, rfl, hp2, noP _ _, p2, ps, rfl, kf2.kw, fun l3 H3 s3 n3 P3 => ?_⟩
      refine ⟨_, rfl, .list (ps.map dPc), .list (ps.map dPc), dp_pcs P3, dp_pcs (pl0.same ((s1.trans s2).trans s3)), shaped_pcs low, shaped_pcs low, ?_⟩
      rw [SeqAt.eqv_refl _ (SeqAt.canLay_of_shaped (shaped_pcs low))]
      exact q H3 (s0.trans (.of ((s1.trans s2).trans s3))) ((G0.le (by omega)).same ((s1.trans s2).trans s3))
end
end K03

set_option Elab.async false
set_option linter.all false
set_option maxRecDepth 100000
set_option maxHeartbeats 8000000
namespace K03
open PySem PySem.Spec PyProof.Rows L2 CK SX KM
theorem mk_kept {C : Addr} {Hc : Hp} {x dx l : Addr} {ps : List Pc} {n : Nat} {R : V → Hp → Prop} {E : XK} (nx : Hc x = none) (ndx : Hc dx = none) (nex : dx ≠ x) (pl : PL Hc l ps) (ok : OK n ps) (hn : n ≤ 1000)
    (q : ∀ H', Same Hc H' → KWf C Hc H' x (tidy ps) → R .non H') : sp_init C [.ref x, .ref l] (upd (upd Hc dx (.own x)) x (.ins C dx [])) R E := by
  have s0 : Same Hc (upd (upd Hc dx (.own x)) x (.ins C dx [])) := fun b o e => by
    rw [upd_ne (ne_of_none e nx), upd_ne (ne_of_none e ndx)]
    exact e
  refine ⟨x, dx, l, ps, n, rfl, upd_same, pl.same s0, ok, hn, fun H1 s1 k1 => q H1 (fun b o e => ?_) (k1.pre s0)⟩
  exact s1 _ _ (fun z => by rw [z, nx] at e; cases e) (s0 _ _ e)
theorem Good.long {k : Nat} {ps : List Pc} (h : Good k ps) : long ps ≤ k * (4 * 2 ^ 110) := by
  have e : ∀ l : List Pc, (∀ p ∈ l, p.1.length ≤ 4 ∧ Low p.1 ∧ p.2 ≤ 2 ^ 110) → KM.long l ≤ l.length * (4 * 2 ^ 110) := by
    intro l
    induction l with
    | nil => intro _; exact Nat.zero_le _
    | cons p r ih =>
      intro h
      have a := ih fun q hq => h q (List.mem_cons_of_mem _ hq)
      have b := h p List.mem_cons_self
      have c : plen p ≤ 4 * 2 ^ 110 := Nat.mul_le_mul b.1 b.2.2
      show plen p + KM.long r ≤ _
      rw [List.length_cons, Nat.add_mul]
      omega
  exact Nat.le_trans (e ps h.2) (Nat.mul_le_mul_right _ h.1)
theorem long_app (a b : List Pc) : long (a ++ b) = long a + long b := by simp [KM.long]
theorem long_mir (ps : List Pc) : long (mir ps) = long ps := by rw [← wr_len, wr_mir, List.length_reverse, wr_len]
theorem mir_get {ps : List Pc} {i : Nat} (h : i < long ps) : (wr (mir ps))[long ps - 1 - i]? = (wr ps)[i]? := by
  rw [wr_mir, List.getElem?_reverse (by rw [wr_len]; omega), wr_len]
  congr 1
  omega
def farP : List Pc := [([97, 98], 10 ^ 45), ([99], 1)]
theorem far_low : ∀ p ∈ farP, p.1.length ≤ 4 ∧ Low p.1 := by
  have : ∀ p ∈ farP, p.1.length ≤ 4 ∧ ∀ c ∈ p.1, 97 ≤ c ∧ c ≤ 122 := by unfold farP; decide
  exact this
theorem far_ok : OK 2 farP := ⟨by decide, far_low, by decide +kernel⟩
theorem far_tidy : tidy farP = farP := by decide +kernel
theorem far_part : KM.part farP (10 ^ 44 + 1) (10 ^ 45 + 2) = [([98, 97], 45 * 10 ^ 43), ([98], 1)] := by decide +kernel
theorem far_len : long farP = 2 * 10 ^ 45 + 1 := by decide +kernel
theorem far_c : (wr farP)[2 * 10 ^ 45]? = some 99 := by rw [← let1_eq]; decide +kernel
theorem far_b : (wr farP)[2 * 10 ^ 45 - 1]? = some 98 := by rw [← let1_eq]; decide +kernel
theorem st_ab : (V.str "ab") = V.str (S [97, 98]) := by decide +kernel
theorem st_ba : (V.str "ba") = V.str (S [98, 97]) := by decide +kernel
theorem st_a : (V.str "b") = V.str (S [98]) := by decide +kernel
theorem st_c : (V.str "c") = V.str (S [99]) := by decide +kernel
theorem re_st {t : TS} {D : Ends} {σ σ' : L2.St} {H : Hp} (e : σ = σ') (h : t D σ' H) : t D σ H := by
  subst e
  exact h
def sp_law (K : PySem.W.Frag) : Sp := fun vs H Q _ => ∃ (a : Addr) (ns : List Int), vs = [.ref a] ∧ SqL K H a (ns.map V.int) ∧ ns.length ≤ 63 ∧ ∀ H', Q (.bl true) H'
theorem law_end {l : PySem.W.OpenLaw} {w : World} {K : PySem.W.Frag} {mg : Str → Option Value} {fa C : Addr} (T : Txt K mg C) (hfa : mg "law" = some (.ref fa)) :
    ∃ fd : FuncData, (∀ (s : Shared) (v : Value), BindsTo s fd ⟨[v], []⟩ [("_law_script", v)]) ∧ ∀ base : Heap, K.In base → base.Ns mainGlobals mg → FnOk l.prog w K mg base C8.CX0 12 fa fd ["_law_script"] (sp_law K) := by
  obtain ⟨f, fd, hm, hb, hF⟩ := T.d_law.one
  have e := hfa.symm.trans hm
  cases e
  refine ⟨fd, hb, fun base _ _ => hF sc_law (fun vs H Q E h => ?_) (fun f cdv A outer s H vs Q E hr h => ?_)⟩
  · obtain ⟨_, _, rfl, _⟩ := h; rfl
  · obtain ⟨a, ns, rfl, hS, hl, q⟩ := h
    have noP : ∀ l e, (KF l e).lookup ("pieces" : Str) = none := fun l e => kf_no l e (by decide +kernel) (by decide +kernel)
    have noA : ∀ l e, (KF l e).lookup ("part" : Str) = none := fun l e => kf_no l e (by decide +kernel) (by decide +kernel)
    have noL : ∀ l e, (KF l e).lookup ("length" : Str) = none := fun l e => kf_no l e (by decide +kernel) (by decide +kernel)
    have noE : ∀ l e, (KF l e).lookup ("letter" : Str) = none := fun l e => kf_no l e (by decide +kernel) (by decide +kernel)
    refine ⟨_, (pss_cons (ps_for PassesOwn.never rfl (pi_range1 (by rfl) T.m_range (pa_cons pe_int pa_nil)) (pg_name (i := 1) sc_law.nd rfl (Or.inl rfl))
    (pss_cons (ps_set (i := 2) sc_law.nd rfl (Or.inl rfl) (C8.pe_c (c_law_generator T) hr (by decide) (by rfl) (pa_cons (pv 0) (pa_cons (pv 1) pa_nil))))
    (pss_cons (ps_set (i := 3) sc_law.nd rfl (Or.inl rfl) (C8.pe_c (c_law_letters T) hr (by decide) (by rfl) (pa_cons (pv 2) pa_nil)))
    (pss_cons (ps_asg (pe_tup (pa_cons (C8.pe_c (c_law_pieces T) hr (by decide) (by rfl) (pa_cons (pv 2) (pa_cons (pv 3) (pa_cons pe_int (pa_cons pe_bl pa_nil))))) (pa_cons (C8.pe_c (c_law_pieces T) hr (by decide) (by rfl) (pa_cons (pv 2) (pa_cons (pv 3) (pa_cons pe_int (pa_cons pe_bl pa_nil))))) pa_nil))) (pg_two (K := K) (i := 4) (j := 5) rfl rfl sc_law.nd rfl rfl (Or.inr rfl) (Or.inl rfl)))
    (pss_cons (ps_par (i := 6) (j := 7) (by rfl) sc_law.nd rfl rfl (by decide) rfl rfl (pa_cons (C8.pe_mk (n_KeptWord T) hr (by decide) (by rfl) (pa_cons (pe_callTy call_list_of (by rfl) T.m_list (by decide +kernel) (pa_cons (pv 4) pa_nil)) pa_nil)) (pa_cons (C8.pe_mk (n_KeptWord T) hr (by decide) (by rfl) (pa_cons (pe_callTy call_list_of (by rfl) T.m_list (by decide +kernel) (pa_cons (pv 5) pa_nil)) pa_nil)) pa_nil)) (by rfl))
    (pss_cons (ps_asg (pe_tup (pa_cons (C8.pe_c (c_law_tidied T) hr (by decide) (by rfl) (pa_cons (pv 4) pa_nil)) (pa_cons (C8.pe_c (c_law_tidied T) hr (by decide) (by rfl) (pa_cons (pv 5) pa_nil)) pa_nil))) (pg_two (K := K) (i := 4) (j := 5) rfl rfl sc_law.nd rfl rfl (Or.inr rfl) (Or.inl rfl)))
    (pss_cons (ps_set (i := 8) sc_law.nd rfl (Or.inl rfl) (C8.pe_c (c_law_places T) hr (by decide) (by rfl) (pa_cons (pv 2) (pa_cons (pv 4) pa_nil))))
    (pss_cons (ps_if (PW.pt (pw_or (pt_not (pt_val (C8.pe_c (c_law_letters_right T) hr (by decide) (by rfl) (pa_cons (pv 6) (pa_cons (pv 4) (pa_cons (pv 8) pa_nil)))))) (pw_or1 (pt_not (pt_val (C8.pe_c (c_law_parts_right T) hr (by decide) (by rfl) (pa_cons (pv 2) (pa_cons (pv 6) (pa_cons (pv 4) (pa_cons (pv 8) pa_nil))))))))))
    (pss_one (ps_ret pe_bl))
    pss_nil)
    (pss_cons (ps_set (i := 9) sc_law.nd rfl (Or.inl rfl) (C8.pe_c (c_law_tidied T) hr (by decide) (by rfl) (pa_cons (pe_op op_cat (pv 4) (pv 5)) pa_nil)))
    (pss_cons (ps_if (pt_not (pt_val (C8.pe_c (c_law_letters_right T) hr (by decide) (by rfl) (pa_cons (C8.pe_c (c_joined_kept T) hr (by decide) (by rfl) (pa_cons (pv 6) (pa_cons (pv 7) pa_nil))) (pa_cons (pv 9) (pa_cons (C8.pe_c (c_law_places T) hr (by decide) (by rfl) (pa_cons (pv 2) (pa_cons (pv 9) pa_nil))) pa_nil))))))
    (pss_one (ps_ret pe_bl))
    pss_nil)
    (pss_cons (ps_asg (pe_tup (pa_cons (C8.pe_c (c_mirrored_kept T) hr (by decide) (by rfl) (pa_cons (pv 6) pa_nil)) (pa_cons (C8.pe_c (c_law_long T) hr (by decide) (by rfl) (pa_cons (pv 4) pa_nil)) pa_nil))) (pg_two (K := K) (i := 10) (j := 11) rfl rfl sc_law.nd rfl rfl (Or.inr rfl) (Or.inr rfl)))
    (pss_cons (ps_setLc (i := 12) (own := [("_law_word_here", 13), ("_law_times", 14)]) rfl sc_law.nd rfl rfl (sw_true rfl rfl rfl (by decide +kernel)) (pi_list (pe_revL (pv 4))) (blkOk_by (N := ["_law_script", "_law_index", "_law_generator_here", "_law_letters_here", "_law_ones", "_law_others", "_law_one", "_law_other", "_law_places_here", "_law_both", "_law_back", "_law_long_here", "_law_turned", "_law_word_here", "_law_times", "_law_at", "_law_far"]) (sc := C8.fnScope (topS 49)) (own := [("_law_word_here", 13), ("_law_times", 14)]) (by decide +kernel)) (fun _ _ _ _ _ => (pg_two (K := K) (i := 13) (j := 14) rfl rfl sc_law.nd rfl rfl (Or.inl rfl) (Or.inl rfl))) (fun _ _ _ _ _ => pts_nil) (fun _ _ _ _ _ => (pe_tup (pa_cons (pe_revS (pv 13)) (pa_cons (pv 14) pa_nil)))))
    (pss_cons (ps_if (pt_not (pt_val (C8.pe_c (c_law_letters_right T) hr (by decide) (by rfl) (pa_cons (pv 10) (pa_cons (pv 12) (pa_cons (C8.pe_c (c_law_places T) hr (by decide) (by rfl) (pa_cons (pv 2) (pa_cons (pv 12) pa_nil))) pa_nil))))))
    (pss_one (ps_ret pe_bl))
    pss_nil)
    (pss_one (ps_if (pt_cmpR (op_neSame hr.units) (pe_lc (own := [("_law_at", 15)]) (by rfl) sc_law.nd (pi_list (pv 8)) (blkOk_by (N := ["_law_script", "_law_index", "_law_generator_here", "_law_letters_here", "_law_ones", "_law_others", "_law_one", "_law_other", "_law_places_here", "_law_both", "_law_back", "_law_long_here", "_law_turned", "_law_word_here", "_law_times", "_law_at", "_law_far"]) (sc := C8.fnScope (topS 49)) (own := [("_law_at", 15)]) (by decide +kernel)) (fun _ _ _ _ _ => (pg_name (i := 15) sc_law.nd rfl (Or.inl rfl))) (fun _ _ _ _ _ => (pts_one (PW.pt (pw_and (pt_cmpR op_lt (pv 15) (pv 11) (nomark _)) (pw_and1 (pt_cmpR op_ne (C8.pe_mt (m_KeptWord_letter T) hr (by decide) (pv 10) (pa_cons (pe_op op_sub (pe_op op_sub (pv 11) pe_int) (pv 15)) pa_nil)) (C8.pe_c (c_law_letter T) hr (by decide) (by rfl) (pa_cons (pv 4) (pa_cons (pv 15) pa_nil))) (nomark _))))))) (fun _ _ _ _ _ => (pv 15))) (pe_lst pa_nil) (nomark _))
    (pss_one (ps_ret pe_bl))
    pss_nil)))))))))))))))
    (pss_cons (ps_set (i := 16) sc_law.nd rfl (Or.inl rfl) (C8.pe_mk (n_KeptWord T) hr (by decide) (by rfl) (pa_cons (pe_lst (pa_cons (pe_tup (pa_cons pe_str (pa_cons (pe_op op_powB pe_int pe_int) pa_nil))) (pa_cons (pe_tup (pa_cons pe_str (pa_cons pe_int pa_nil))) pa_nil))) pa_nil)))
    (pss_cons (ps_if (pt_cmpR (op_neSame hr.units) (C8.pe_mt0 (m_KeptWord_pieces T) hr (by decide) (C8.pe_mt (m_KeptWord_part T) hr (by decide) (pv 16) (pa_cons (pe_op op_add (pe_op op_powB pe_int pe_int) pe_int) (pa_cons (pe_op op_add (pe_op op_powB pe_int pe_int) pe_int) pa_nil)))) (pe_lst (pa_cons (pe_tup (pa_cons pe_str (pa_cons (pe_op op_mulW pe_int (pe_op op_powB pe_int pe_int)) pa_nil))) (pa_cons (pe_tup (pa_cons pe_str (pa_cons pe_int pa_nil))) pa_nil))) (nomark _))
    (pss_one (ps_ret pe_bl))
    pss_nil)
    (pss_one (ps_ret (pe_and (pe_cmpR op_eq (C8.pe_mt (m_KeptWord_letter T) hr (by decide) (pv 16) (pa_cons (pe_op op_mulW pe_int (pe_op op_powB pe_int pe_int)) pa_nil)) pe_str (nomark _)) (pe_and (pe_cmpR op_eq (C8.pe_mt (m_KeptWord_letter T) hr (by decide) (pv 16) (pa_cons (pe_op op_sub (pe_op op_mulW pe_int (pe_op op_powB pe_int pe_int)) pe_int) pa_nil)) pe_str (nomark _)) (pe_one (pe_cmpR op_eq (C8.pe_mt0 (m_KeptWord_length T) hr (by decide) (pv 16)) (pe_op op_add (pe_op op_mulW pe_int (pe_op op_powB pe_int pe_int)) pe_int) (nomark _)))))))))), ?_⟩
    refine ⟨3, rfl, by decide, by decide, ?_⟩
    refine for_it walk_range (fun i σ H' => Same H H' ∧ ∃ y1 y2 y3 y4 y5 y6 y7 y8 y9 y10 y11 y12 : Option V, σ = [some (.ref a), y1, y2, y3, y4, y5, y6, y7, y8, y9, y10, y11, y12, none, none, none, none]) ⟨Same.refl _, none, none, none, none, none, none, none, none, none, none, none, none, rfl⟩ (fun _ _ _ _ _ => True.intro) (fun i x σ H' H'' hi p y => ?_) fun σ H' p => ?_
    · obtain ⟨s0, y1, y2, y3, y4, y5, y6, y7, y8, y9, y10, y11, y12, rfl⟩ := p
      obtain ⟨rfl, rfl⟩ := y
      have i3 : i < 3 := hi
      refine ⟨_, rfl, _, rfl, a, ns, i, by show [V.ref a, V.int (0 + (i : Int))] = _; rw [Int.zero_add], s0.seq hS, by omega, fun g H1 H2 s1 n1 s2 G2 => ?_⟩
      refine ⟨_, rfl, g, 90000, rfl, G2.le (by decide), fun l3 cs H3 s3 G3 n3 lt3 => ?_⟩
      have lg3 := G2.ne n3
      refine ⟨_, rfl, _, rfl, g, l3, cs, 80000, 8, rfl, lt3, lg3, G3.le (by decide), by decide, by decide, fun L4 ps H4 gr4 G4 gd4 => ?_⟩
      have lt4 := lt3.sameX gr4.1 lg3
      refine ⟨_, rfl, _, rfl, g, l3, cs, 70000, 4, rfl, lt4, lg3, G4.le (by decide), by decide, by decide, fun L5 qs H5 gr5 G5 gd5 => ⟨by show 2 ≤ sizeLine; decide, fun t6 ht6 => ?_⟩⟩
      refine ⟨t6, _, rfl, .inl (.inl upd_same), rfl, _, _, rfl, _, _, rfl, rfl, ?_⟩
      have st6 := sameNew (o := .tup [V.ref L4, V.ref L5]) ht6
      have gr4' := gr4.go G4 gr5.1
      have P6 := gr4'.2.1.same st6
      have Q6 := gr5.2.1.same st6
      have G6 := G5.same st6
      have sX6 : SameX g H2 (upd H5 t6 (.tup [V.ref L4, V.ref L5])) := (s3.trans gr4.1).trans (gr5.1.trans (.of st6))
      generalize upd H5 t6 (.tup [V.ref L4, V.ref L5]) = H6 at P6 Q6 G6 sX6
      have okp := gd4.ok
      have okq := gd5.ok
      -- the two kept words
      obtain ⟨us, hus, pus⟩ := id P6
      refine ⟨_, rfl, L4, us, rfl, .inl (.inl (.inl hus)), fun L7 n7 => ?_⟩
      have s7 := sameNew (o := .lst us) n7
      have P7 : PL (upd H6 L7 (.lst us)) L7 ps := ⟨us, upd_same, pus.same s7⟩
      intro x8 dx8 nx8 ndx8 nex8
      refine mk_kept nx8 ndx8 nex8 P7 okp (by decide) fun H8 s8 kf8 => ⟨rfl, ?_⟩
      have s68 := s7.trans s8
      obtain ⟨ws, hws, pws⟩ := Q6.same s68
      refine ⟨_, rfl, L5, ws, rfl, .inl (.inl (.inl hws)), fun L9 n9 => ?_⟩
      have s9 := sameNew (o := .lst ws) n9
      have P9 : PL (upd H8 L9 (.lst ws)) L9 qs := ⟨ws, upd_same, pws.same s9⟩
      intro xa dxa nxa ndxa nexa
      refine mk_kept nxa ndxa nexa P9 okq (by decide) fun Ha sa kfa => ⟨rfl, _, _, rfl, ?_⟩
      have s6a := s68.trans (s9.trans sa)
      have G7 := G6.same s7
      have k8 : KG C g Ha x8 (tidy ps) := (kf8.kg G7).sameX ((G6.same s68)) (.of (s9.trans sa))
      have ka : KG C g Ha xa (tidy qs) := kfa.kg ((G6.same s68).same s9)
      -- tidied
      refine ⟨_, rfl, L4, ps, 8, rfl, P6.same s6a, okp, by decide, fun rb Hb sb nb Pb => ?_⟩
      refine ⟨_, rfl, L5, qs, 4, rfl, Q6.same (s6a.trans sb), okq, by decide, fun rc Hc sc nc Qc => ⟨by show 2 ≤ sizeLine; decide, fun td htd => ?_⟩⟩
      refine ⟨td, _, rfl, .inl (.inl upd_same), rfl, _, _, rfl, _, _, rfl, rfl, ?_⟩
      have std := sameNew (o := .tup [V.ref rb, V.ref rc]) htd
      have Pd := (Pb.same sc).same std
      have Qd := Qc.same std
      have sad := (sb.trans sc).trans std
      have Gd := (G6.same s6a).same sad
      have k8d := k8.sameX (G6.same s6a) (.of sad)
      have kad := ka.sameX (G6.same s6a) (.of sad)
      have sXd : SameX g H2 (upd Hc td (.tup [V.ref rb, V.ref rc])) := sX6.trans (.of (s6a.trans sad))
      generalize upd Hc td (.tup [V.ref rb, V.ref rc]) = Hd at Pd Qd Gd k8d kad sXd
      have okp' := okp.tidy
      have okq' := okq.tidy
      have lp : long (tidy ps) ≤ 8 * (4 * 2 ^ 110) := by rw [long_tidy]; exact gd4.long
      have lq : long (tidy qs) ≤ 4 * (4 * 2 ^ 110) := by rw [long_tidy]; exact gd5.long
      have typ := ty_tidy ps
      generalize tidy ps = ps at Pd k8d okp' lp typ
      generalize tidy qs = qs at Qd kad okq' lq
      refine ⟨_, rfl, _, rfl, g, rb, ps, 8, 60000, rfl, Pd, okp', by decide, by omega, Gd.le (by decide), fun b ks He se Ge nbe nl kpw kle kne klen => ?_⟩
      have bg : b ≠ g := Gd.ne nbe
      have k8e := k8d.sameX Gd se
      have Pe := Pd.sameX Gd se
      refine ⟨_, rfl, _, rfl, _, rfl, x8, rb, b, ps, 8, ks, rfl, k8e.kw, Pe, okp', by decide, nl, klen, fun Hf sf => ⟨_, rfl, iteF ?_⟩⟩
      have Gf := Ge.same sf
      have k8f := k8e.sameX Ge (.of sf)
      have Pf := Pe.same sf
      have nlf := nl.same sf
      refine ⟨_, rfl, _, rfl, _, rfl, _, rfl, g, x8, rb, b, ps, 8, 50000, ks, rfl, Gf.le (by decide), k8f, Pf, okp', by decide, by omega, typ, nlf, bg, klen, kne, kpw, kle, fun Hg sg Gg => ⟨_, rfl, iteF ?_⟩⟩
      have k8g := k8f.sameX Gf sg
      have kag := ((kad.sameX Gd se).sameX Ge (.of sf)).sameX Gf sg
      have Pg := Pf.sameX Gf sg
      have Qg := ((Qd.sameX Gd se).same sf).sameX Gf sg
      have nlg : NL Hg b ks := sg _ _ bg nlf
      have sXg : SameX g H2 Hg := sXd.trans (se.trans ((SameX.of sf).trans sg))
      -- both
      obtain ⟨us, hus, pus⟩ := id Pg
      obtain ⟨ws, hws, pws⟩ := id Qg
      have lus := pus.len
      have lws := pws.len
      have okpl := okp'.len
      have okql := okq'.len
      refine ⟨_, rfl, _, rfl, rb, rc, _, _, rfl, rfl, hus, hws, by rw [sizeLine_eq]; omega, fun l2 nl2 => ?_⟩
      have s2' := sameNew (o := .lst (us ++ ws)) nl2
      refine ⟨l2, ps ++ qs, 12, rfl, ⟨_, upd_same, (pus.same s2').app (pws.same s2')⟩, okp'.app okq', by decide, fun rh Hh sh nh Ph => ?_⟩
      have sgh := s2'.trans sh
      have Gh := Gg.same sgh
      have okb : OK 12 (tidy (ps ++ qs)) := (okp'.app okq').tidy
      have lb : long (tidy (ps ++ qs)) ≤ 12 * (4 * 2 ^ 110) := by rw [long_tidy, long_app]; omega
      refine ⟨_, rfl, _, rfl, x8, xa, ps, qs, 8, rfl, (k8g.sameX Gg (.of sgh)).kw, (kag.sameX Gg (.of sgh)).kw, okp', okq'.le (by decide), by decide, fun pj Hj sj nj kfj => ?_⟩
      have kj := kfj.kg Gh
      have Gj := Gh.same sj
      have Pj := Ph.same sj
      generalize tidy (ps ++ qs) = bs at kj Pj okb lb Ph kfj
      refine ⟨_, rfl, _, rfl, _, rfl, g, rh, bs, 12, 40000, rfl, Pj, okb, by decide, by omega, Gj.le (by decide), fun b2 ks2 Hk sk Gk nb2 nl2k _ _ _ klen2 => ?_⟩
      refine ⟨pj, rh, b2, bs, 12, ks2, rfl, (kj.sameX Gj sk).kw, Pj.sameX Gj sk, okb, by decide, nl2k, klen2, fun Hl sl => ⟨_, rfl, iteF ?_⟩⟩
      have sgl : SameX g Hg Hl := (SameX.of (sgh.trans sj)).trans (sk.trans (.of sl))
      have Gl := Gk.same sl
      have k8l := k8g.sameX Gg sgl
      have Pl := Pg.sameX Gg sgl
      have nll : NL Hl b ks := sgl _ _ bg nlg
      -- mirrored
      refine ⟨_, rfl, x8, ps, 8, rfl, k8l.kw, okp', by decide, fun pm Hm sm nm kfm => ?_⟩
      have km := kfm.kg Gl
      rw [tidy_id (ty_mir typ)] at km
      refine ⟨_, rfl, rb, ps, 8, rfl, Pl.same sm, okp', by decide, fun Hn sn => ⟨by show 2 ≤ sizeLine; decide, fun to hto => ?_⟩⟩
      refine ⟨to, _, rfl, .inl (.inl upd_same), rfl, _, _, rfl, _, _, rfl, rfl, ?_⟩
      have sto := sameNew (o := .tup [V.ref pm, V.int (long ps : Nat)]) hto
      have sno := sn.trans sto
      have ko := km.sameX (Gl.same sm) (.of sno)
      have slo := sm.trans sno
      have Go := Gl.same slo
      have Po := Pl.same slo
      have nlo := nll.same slo
      have sXo : SameX g H2 (upd Hn to (.tup [V.ref pm, V.int (long ps : Nat)])) := (sXg.trans sgl).trans (.of slo)
      generalize upd Hn to (.tup [V.ref pm, V.int (long ps : Nat)]) = Ho at ko Go Po nlo sXo
      obtain ⟨us, hus, pus⟩ := id Po
      have lus := pus.len
      refine re_st (σ' := [some (.ref a), some (.int (0 + (i : Int))), some (.ref g), some (.ref l3), some (.ref rb), some (.ref rc), some (.ref x8), some (.ref xa), some (.ref b), some (.ref rh), some (.ref pm), some (.int (long ps : Nat)), y12, none, none, none, none]) rfl ?_
      refine ⟨_, rfl, rb, us, rfl, .inl (.inl hus), fun lr nlr => ?_⟩
      have slr := sameNew (o := .lst us.reverse) nlr
      have hlr : (upd Ho lr (.lst us.reverse)) lr = some (.lst us.reverse) := upd_same
      generalize upd Ho lr (.lst us.reverse) = Hp1 at slr hlr
      refine ⟨lr, rfl, ⟨_, .inl (.inl hlr)⟩, fun D hD => ?_⟩
      have usP := pus.same slr
      refine lc_list (K := K) (a := lr) (xs := us.reverse) (fun i H' => Same Hp1 H' ∧ PL H' D ((ps.reverse.take i).map fun p => (p.1.reverse, p.2)) ∧ i ≤ ps.length) ⟨sameNew hD, ⟨[], upd_same, .nil⟩, Nat.zero_le _⟩ (fun i H' _ p => .inl (.inl (p.1 _ _ hlr))) (fun i x H' hi' p => ?_) fun H' p => ?_
      · obtain ⟨s2, ⟨vs, hu, pu⟩, _⟩ := p
        have hil := (List.getElem?_eq_some_iff.mp hi').1
        rw [List.length_reverse] at hil
        rw [List.getElem?_reverse hil] at hi'
        obtain ⟨bb, p, rfl, hpi, hb⟩ := usP.get hi'
        have hw := okp'.word p (List.mem_of_getElem? hpi)
        have hri : ps.reverse[i]? = some p := by
          rw [List.getElem?_reverse (by omega), ← lus]
          exact hpi
        refine ⟨bb, _, rfl, .inl (.inl (s2 _ _ hb)), rfl, _, _, rfl, _, _, rfl, rfl, rfl, ?_⟩
        refine ⟨_, rfl, p.1, rfl, by rw [sizeLine_eq]; omega, _, rfl, by show 2 ≤ sizeLine; decide, fun t ht => ?_⟩
        have st := sameNew (o := .tup [.str (S p.1.reverse), .int p.2]) ht
        have lu := pu.len
        have hDt : t ≠ D := fun z => by rw [z, hu] at ht; cases ht
        refine ⟨vs, st _ _ hu, by rw [lu, List.length_map, List.length_take, List.length_reverse, sizeLine_eq]; omega, same_upd2 hD (s2.trans st), ⟨_, upd_same, ?_⟩, by omega⟩
        rw [List.take_succ, hri, List.map_append]
        refine ((pu.same st).upd (st _ _ hu)).app (.one ?_)
        rw [upd_ne hDt, upd_same]
      obtain ⟨sD2, PD, _⟩ := p
      rw [List.length_reverse, lus, ← List.length_reverse (as := ps), List.take_length] at PD
      have PDm : PL H' D (mir ps) := PD
      have sp' := slr.trans sD2
      have kp := ko.sameX Go (.of sp')
      have Gp := Go.same sp'
      have Pp := Po.same sp'
      have nlp := nlo.same sp'
      have sXp := sXo.trans (.of sp')
      have lm : long (mir ps) ≤ 8 * (4 * 2 ^ 110) := by rw [long_mir]; exact lp
      refine ⟨_, rfl, _, rfl, _, rfl, _, rfl, g, D, mir ps, 8, 30000, rfl, PDm, okp'.mir, by decide, by omega, Gp.le (by decide), fun b3 ks3 Hq sq Gq nb3 nl3 _ _ _ klen3 => ?_⟩
      have kq := kp.sameX Gp sq
      refine ⟨pm, D, b3, mir ps, 8, ks3, rfl, kq.kw, PDm.sameX Gp sq, okp'.mir, by decide, nl3, klen3, fun Hr sr => ⟨_, rfl, iteF ?_⟩⟩
      have kr := kq.kw.same sr
      have Pr := (Pp.sameX Gp sq).same sr
      have nlr' : NL Hr b ks := sr _ _ (sq _ _ bg nlp)
      have sXr := sXp.trans (sq.trans (.of sr))
      obtain ⟨dxr, lr0, er0, hpr, _, _⟩ := id kr
      refine re_st (σ' := [some (.ref a), some (.int (0 + (i : Int))), some (.ref g), some (.ref l3), some (.ref rb), some (.ref rc), some (.ref x8), some (.ref xa), some (.ref b), some (.ref rh), some (.ref pm), some (.int (long ps : Nat)), some (.ref D), none, none, none, none]) rfl ?_
      refine ⟨_, rfl, b, rfl, ⟨_, .inl (.inl nlr')⟩, fun D2 hD2 => ?_⟩
      refine lc_list (K := K) (a := b) (xs := ks.map fun k => V.int (k : Nat)) (fun i H5 => Same Hr H5 ∧ H5 D2 = some (.lst [])) ⟨sameNew hD2, upd_same⟩ (fun i H5 _ p => .inl (.inl (p.1 _ _ nlr'))) (fun i y H5 hi p => ?_) fun H5 p => ?_
      · obtain ⟨s5, hD5⟩ := p
        obtain ⟨k, hki, rfl⟩ := NL.get (H := H2) (b := b) hi
        refine ⟨rfl, _, rfl, _, rfl, _, _, rfl, rfl, _, rfl, ite2 (fun e => ?_) (fun e => ?_)⟩
        · have e' : k < long ps := by
            have := of_decide_eq_true e
            omega
          obtain ⟨c, hc⟩ : ∃ c, (wr ps)[k]? = some c := ⟨_, List.getElem?_eq_getElem (by rw [wr_len]; exact e')⟩
          have hc2 : (wr (mir ps))[long ps - 1 - k]? = some c := by rw [mir_get e']; exact hc
          refine ⟨_, rfl, pm, dxr, _, rfl, s5 _ _ hpr, noE _ _, _, rfl, _, _, rfl, rfl, _, rfl, _, _, rfl, rfl, pm, mir ps, 8, long ps - 1 - k, c, congrArg (fun z => [V.ref pm, V.int z]) (by omega), kr.same s5, okp'.mir, by decide, hc2, _, rfl, _, rfl, rb, ps, 8, k, c, rfl, Pr.same s5, okp', by decide, hc, rfl, _, rfl, iteNS rfl ⟨s5, hD5⟩⟩
        · exact ⟨s5, hD5⟩
      · obtain ⟨s5, hD5⟩ := p
        refine ⟨by show 0 ≤ sizeLine; omega, fun M hM => ⟨.list [], .lst (.inl (.inl (sameNew hM _ _ hD5))) .nil, .lst (.inl (.inl upd_same)) .nil, shaped_nil, _, rfl, iteF ⟨fun bb o e => ?_, _, _, _, _, _, _, _, _, _, _, _, _, rfl⟩⟩⟩
        have e1 := s1 _ _ (s0 bb o e)
        exact sameNew hM _ _ (s5 _ _ (sXr bb o (fun z => by rw [z, n1] at e1; cases e1) (s2 _ _ e1)))
    · obtain ⟨s0, y1, y2, y3, y4, y5, y6, y7, y8, y9, y10, y11, y12, rfl⟩ := p
      have e45 : (10 : Int) ^ Int.toNat 45 = ((10 ^ 45 : Nat) : Int) := by decide +kernel
      have e44 : (10 : Int) ^ Int.toNat 44 + 1 = ((10 ^ 44 + 1 : Nat) : Int) := by decide +kernel
      have e46 : (10 : Int) ^ Int.toNat 45 + 2 = ((10 ^ 45 + 2 : Nat) : Int) := by decide +kernel
      have e43 : (45 : Int) * (10 : Int) ^ Int.toNat 43 = ((45 * 10 ^ 43 : Nat) : Int) := by decide +kernel
      have e2 : (2 : Int) * (10 : Int) ^ Int.toNat 45 = ((2 * 10 ^ 45 : Nat) : Int) := by decide +kernel
      have e21 : (2 : Int) * (10 : Int) ^ Int.toNat 45 - 1 = ((2 * 10 ^ 45 - 1 : Nat) : Int) := by decide +kernel
      have e22 : (2 : Int) * (10 : Int) ^ Int.toNat 45 + 1 = ((2 * 10 ^ 45 + 1 : Nat) : Int) := by decide +kernel
      have wide1 : ∀ k : Int, k.natAbs < 2 ^ 10 → ∀ j : Nat, j ≤ 100 → CMulW k (10 ^ j) := fun k h j hj => wide_mul (a := 10) (b := 400) h (by
        rw [Int.natAbs_pow]
        exact Nat.lt_of_le_of_lt (Nat.pow_le_pow_right (by decide) hj) (by decide +kernel)) (by decide) (by decide) (by decide)
      refine ⟨_, _, rfl, rfl, ⟨by decide, by decide⟩, by show 2 ≤ sizeLine; decide, fun t1 h1 => ⟨by show 2 ≤ sizeLine; decide, fun t2 h2 => ⟨by show 2 ≤ sizeLine; decide, fun L hL => ?_⟩⟩⟩
      intro x dx nx ndx nex
      have P0 : PL (upd (upd (upd H' t1 (.tup [V.str "ab", V.int ((10 : Int) ^ Int.toNat 45)])) t2 (.tup [V.str "c", V.int 1])) L (.lst [.ref t1, .ref t2])) L farP := by
        refine ⟨_, upd_same, .cons (a := t1) ?_ (.cons (a := t2) ?_ .nil)⟩
        · rw [upd_ne (fun z => by rw [← z, upd_ne (fun y => by rw [← y, upd_same] at h2; cases h2), upd_same] at hL; cases hL), upd_ne (fun y => by rw [← y, upd_same] at h2; cases h2), upd_same, st_ab, e45]
        · rw [upd_ne (fun z => by rw [← z, upd_same] at hL; cases hL), upd_same, st_c]
          rfl
      refine mk_kept nx ndx nex P0 far_ok (by decide) fun H1 s1 kf1 => ⟨rfl, ?_⟩
      rw [far_tidy] at kf1
      have kw1 := kf1.kw
      clear P0 kf1 s1
      obtain ⟨dx1, l1, e1, hx1, _, _⟩ := id kw1
      have ne : ∀ p ∈ farP, p.1 ≠ [] := by unfold farP; decide
      refine ⟨_, rfl, x, dx1, _, rfl, hx1, noA _ _, _, _, rfl, rfl, ⟨by decide, by decide⟩, _, _, rfl, rfl, _, _, rfl, rfl, ⟨by decide, by decide⟩, _, _, rfl, rfl, x, farP, 2, 10 ^ 44 + 1, 10 ^ 45 + 2, by rw [← e44, ← e46]; rfl, kw1, far_ok, by decide, ne, by decide +kernel, by rw [far_len]; decide +kernel, fun p2 H2 s2 n2 kf2 => ?_⟩
      rw [far_part] at kf2
      obtain ⟨dx2, l2, e2', hp2, _, _, _⟩ := id kf2
      refine ⟨p2, dx2, _, rfl, hp2, noP _ _, p2, _, rfl, kf2.kw, fun l3 H3 s3 n3 P3 => ?_⟩
      refine ⟨_, _, rfl, rfl, ⟨by decide, by decide⟩, _, _, rfl, rfl, wide1 45 (by decide) 43 (by decide), by show 2 ≤ sizeLine; decide, fun t3 h3 => ⟨by show 2 ≤ sizeLine; decide, fun t4 h4 => ⟨by show 2 ≤ sizeLine; decide, fun L2 hL2 => ?_⟩⟩⟩
      have P4 : PL (upd (upd (upd H3 t3 (.tup [V.str "ba", V.int ((45 : Int) * (10 : Int) ^ Int.toNat 43)])) t4 (.tup [V.str "b", V.int 1])) L2 (.lst [.ref t3, .ref t4])) L2 [([98, 97], 45 * 10 ^ 43), ([98], 1)] := by
        refine ⟨_, upd_same, .cons (a := t3) ?_ (.cons (a := t4) ?_ .nil)⟩
        · rw [upd_ne (fun z => by rw [← z, upd_ne (fun y => by rw [← y, upd_same] at h4; cases h4), upd_same] at hL2; cases hL2), upd_ne (fun y => by rw [← y, upd_same] at h4; cases h4), upd_same, st_ba, e43]
        · rw [upd_ne (fun z => by rw [← z, upd_same] at hL2; cases hL2), upd_same, st_a]
          rfl
      have s34 := ((sameNew (o := .tup [V.str "ba", V.int ((45 : Int) * (10 : Int) ^ Int.toNat 43)]) h3).trans (sameNew (o := .tup [V.str "b", V.int 1]) h4)).trans (sameNew (o := .lst [.ref t3, .ref t4]) hL2)
      have low4 : ∀ p ∈ ([([98, 97], 45 * 10 ^ 43), ([98], 1)] : List Pc), Low p.1 := by
        have : ∀ p ∈ ([([98, 97], 45 * 10 ^ 43), ([98], 1)] : List Pc), ∀ c ∈ p.1, 97 ≤ c ∧ c ≤ 122 := by decide
        exact this
      refine ⟨_, dp_pcs (P3.same s34), dp_pcs P4, shaped_pcs low4, _, rfl, iteF ?_⟩
      have kw4 := kw1.same ((s2.trans s3).trans s34)
      generalize (upd (upd (upd H3 t3 (.tup [V.str "ba", V.int ((45 : Int) * (10 : Int) ^ Int.toNat 43)])) t4 (.tup [V.str "b", V.int 1])) L2 (.lst [.ref t3, .ref t4])) = H5 at kw4
      obtain ⟨dx5, l5, e5, hx5, _, _⟩ := id kw4
      refine ⟨_, rfl, x, dx5, _, rfl, hx5, noE _ _, _, _, rfl, rfl, ⟨by decide, by decide⟩, _, _, rfl, rfl, wide1 2 (by decide) 45 (by decide), x, farP, 2, 2 * 10 ^ 45, 99, by rw [← e2]; rfl, kw4, far_ok, by decide, far_c, rfl, _, rfl, ite2 (fun _ => ?_) (fun e => absurd (decide_eq_true st_c.symm) e)⟩
      refine ⟨_, rfl, x, dx5, _, rfl, hx5, noE _ _, _, _, rfl, rfl, ⟨by decide, by decide⟩, _, _, rfl, rfl, wide1 2 (by decide) 45 (by decide), _, _, rfl, rfl, x, farP, 2, 2 * 10 ^ 45 - 1, 98, by rw [← e21]; rfl, kw4, far_ok, by decide, far_b, rfl, _, rfl, ite2 (fun _ => ?_) (fun e => absurd (decide_eq_true st_a.symm) e)⟩
      refine ⟨_, rfl, x, dx5, _, rfl, hx5, noL _ _, x, farP, rfl, kw4, _, _, rfl, rfl, ⟨by decide, by decide⟩, _, _, rfl, rfl, wide1 2 (by decide) 45 (by decide), _, _, rfl, rfl, rfl, ?_⟩
      rw [far_len, decide_eq_true (congrArg V.int e22.symm)]
      exact q _
end K03

open PySem PySem.W PyProof.Rows
set_option maxHeartbeats 0 in
theorem PySem.Challenge.cw_countscribe_k03_kept_words_of_any_length_holds : PySem.Challenge.rw_countscribe_k03_kept_words_of_any_length.Holds := by
  w_on; o_law; k_head; (case hw => w_witness2)
  k_fill
  refine L2.walk_of (l := PySem.Challenge.rw_countscribe_k03_kept_words_of_any_length) (n := 63) (k := 12) (x := "_law_script") (CX := fun _ => C8.CX0) (sp := fun w => K03.sp_law _) rfl (by decide) rfl ⟨rfl, by decide, by decide⟩ (fun w h Y => PySem.W.kIn_of Y) ?F (fun _ _ a ns hl _ hS => ⟨a, ns, rfl, hS, hl, fun _ => rfl⟩) (fun _ _ _ _ _ h => h)
  case F =>
    intro w mg fa h KX G hmg
    refine' CK.with_cls KX "KeptWord" (CK.clF_mk KX G ?a ?pg ?hd ?po ?sa ?mk ?kp ?ha ?hn ?htk ?hm) fun k_KeptWord => ?_
    (case a => k_is); (case pg => k_is); (case hd => k_is); (case po => k_is); (case sa => k_is); (case mk => k_is); (case kp => k_is); (case ha => k_is); (case hn => k_is); (case htk => k_is); (case hm => k_is)
    have f_ends : L2.NoAttr _ _ "_ends" := CK.noA k_KeptWord "_ends" (by k_is)
    have f_pieces : L2.NoAttr _ _ "_pieces" := CK.noA k_KeptWord "_pieces" (by k_is)
    refine' CK.with_def KX "_wall" (K03.topS 0) ["k"] (CK.defF_mk KX G ?a ?l ?c ?k fun _ _ _ _ _ _ us hl => match us, hl with | [_], _ => rfl) fun d_wall => ?_
    (case a => k_is); (case l => k_is); (case c => k_is); (case k => k_is)
    refine' CK.with_def KX "is_whole" (K03.topS 9) ["value"] (CK.defF_mk KX G ?a ?l ?c ?k fun _ _ _ _ _ _ us hl => match us, hl with | [_], _ => rfl) fun d_is_whole => ?_
    (case a => k_is); (case l => k_is); (case c => k_is); (case k => k_is)
    refine' CK.with_def KX "is_count" (K03.topS 10) ["value"] (CK.defF_mk KX G ?a ?l ?c ?k fun _ _ _ _ _ _ us hl => match us, hl with | [_], _ => rfl) fun d_is_count => ?_
    (case a => k_is); (case l => k_is); (case c => k_is); (case k => k_is)
    refine' CK.with_def KX "is_within" (K03.topS 11) ["value", "low", "high"] (CK.defF_mk KX G ?a ?l ?c ?k fun _ _ _ _ _ _ us hl => match us, hl with | [_, _, _], _ => rfl) fun d_is_within => ?_
    (case a => k_is); (case l => k_is); (case c => k_is); (case k => k_is)
    refine' CK.with_def KX "is_lettered" (K03.topS 12) ["value", "most"] (CK.defF_mk KX G ?a ?l ?c ?k fun _ _ _ _ _ _ us hl => match us, hl with | [_, _], _ => rfl) fun d_is_lettered => ?_
    (case a => k_is); (case l => k_is); (case c => k_is); (case k => k_is)
    refine' CK.with_def KX "need_within" (K03.topS 13) ["value", "low", "high"] (CK.defF_mk KX G ?a ?l ?c ?k fun _ _ _ _ _ _ us hl => match us, hl with | [_, _, _], _ => rfl) fun d_need_within => ?_
    (case a => k_is); (case l => k_is); (case c => k_is); (case k => k_is)
    refine' CK.with_def KX "turned_word" (K03.topS 15) ["word", "by"] (CK.defF_mk KX G ?a ?l ?c ?k fun _ _ _ _ _ _ us hl => match us, hl with | [_, _], _ => rfl) fun d_turned_word => ?_
    (case a => k_is); (case l => k_is); (case c => k_is); (case k => k_is)
    refine' CK.with_def KX "is_kept_piece" (K03.topS 20) ["value"] (CK.defF_mk KX G ?a ?l ?c ?k fun _ _ _ _ _ _ us hl => match us, hl with | [_], _ => rfl) fun d_is_kept_piece => ?_
    (case a => k_is); (case l => k_is); (case c => k_is); (case k => k_is)
    refine' CK.with_def KX "need_kept_pieces" (K03.topS 21) ["value"] (CK.defF_mk KX G ?a ?l ?c ?k fun _ _ _ _ _ _ us hl => match us, hl with | [_], _ => rfl) fun d_need_kept_pieces => ?_
    (case a => k_is); (case l => k_is); (case c => k_is); (case k => k_is)
    refine' CK.with_def KX "put_together" (K03.topS 22) ["pieces"] (CK.defF_mk KX G ?a ?l ?c ?k fun _ _ _ _ _ _ us hl => match us, hl with | [_], _ => rfl) fun d_put_together => ?_
    (case a => k_is); (case l => k_is); (case c => k_is); (case k => k_is)
    refine' CK.with_def KX "ends_of" (K03.topS 23) ["pieces"] (CK.defF_mk KX G ?a ?l ?c ?k fun _ _ _ _ _ _ us hl => match us, hl with | [_], _ => rfl) fun d_ends_of => ?_
    (case a => k_is); (case l => k_is); (case c => k_is); (case k => k_is)
    refine' CK.with_def KX "stretch_pieces" (K03.topS 24) ["word", "low", "high"] (CK.defF_mk KX G ?a ?l ?c ?k fun _ _ _ _ _ _ us hl => match us, hl with | [_, _, _], _ => rfl) fun d_stretch_pieces => ?_
    (case a => k_is); (case l => k_is); (case c => k_is); (case k => k_is)
    refine' CK.with_met k_KeptWord "__init__" "KeptWord.__init__" (L2.inClass (K03.topS 25) 0) ["self", "pieces"] (CK.metF_mk k_KeptWord _ _ _ _ ?a ?i ?l ?c ?k fun _ _ _ _ _ _ us hl => match us, hl with | [_, _], _ => rfl) fun d_KeptWord___init__ => ?_
    (case a => k_is); (case i => k_is); (case l => k_is); (case c => k_is); (case k => k_is)
    refine' CK.with_met k_KeptWord "pieces" "KeptWord.pieces" (L2.inClass (K03.topS 25) 1) ["self"] (CK.metF_mk k_KeptWord _ _ _ _ ?a ?i ?l ?c ?k fun _ _ _ _ _ _ us hl => match us, hl with | [_], _ => rfl) fun d_KeptWord_pieces => ?_
    (case a => k_is); (case i => k_is); (case l => k_is); (case c => k_is); (case k => k_is)
    refine' CK.with_met k_KeptWord "length" "KeptWord.length" (L2.inClass (K03.topS 25) 2) ["self"] (CK.metF_mk k_KeptWord _ _ _ _ ?a ?i ?l ?c ?k fun _ _ _ _ _ _ us hl => match us, hl with | [_], _ => rfl) fun d_KeptWord_length => ?_
    (case a => k_is); (case i => k_is); (case l => k_is); (case c => k_is); (case k => k_is)
    refine' CK.with_met k_KeptWord "letter" "KeptWord.letter" (L2.inClass (K03.topS 25) 3) ["self", "at"] (CK.metF_mk k_KeptWord _ _ _ _ ?a ?i ?l ?c ?k fun _ _ _ _ _ _ us hl => match us, hl with | [_, _], _ => rfl) fun d_KeptWord_letter => ?_
    (case a => k_is); (case i => k_is); (case l => k_is); (case c => k_is); (case k => k_is)
    refine' CK.with_met k_KeptWord "part" "KeptWord.part" (L2.inClass (K03.topS 25) 4) ["self", "low", "high"] (CK.metF_mk k_KeptWord _ _ _ _ ?a ?i ?l ?c ?k fun _ _ _ _ _ _ us hl => match us, hl with | [_, _, _], _ => rfl) fun d_KeptWord_part => ?_
    (case a => k_is); (case i => k_is); (case l => k_is); (case c => k_is); (case k => k_is)
    refine' CK.with_met k_KeptWord "plain" "KeptWord.plain" (L2.inClass (K03.topS 25) 5) ["self"] (CK.metF_mk k_KeptWord _ _ _ _ ?a ?i ?l ?c ?k fun _ _ _ _ _ _ us hl => match us, hl with | [_], _ => rfl) fun d_KeptWord_plain => ?_
    (case a => k_is); (case i => k_is); (case l => k_is); (case c => k_is); (case k => k_is)
    refine' CK.with_def KX "piece_index" (K03.topS 26) ["ends", "at"] (CK.defF_mk KX G ?a ?l ?c ?k fun _ _ _ _ _ _ us hl => match us, hl with | [_, _], _ => rfl) fun d_piece_index => ?_
    (case a => k_is); (case l => k_is); (case c => k_is); (case k => k_is)
    refine' CK.with_def KX "stretch_of" (K03.topS 27) ["pieces", "ends", "low", "high"] (CK.defF_mk KX G ?a ?l ?c ?k fun _ _ _ _ _ _ us hl => match us, hl with | [_, _, _, _], _ => rfl) fun d_stretch_of => ?_
    (case a => k_is); (case l => k_is); (case c => k_is); (case k => k_is)
    refine' CK.with_def KX "kept_of" (K03.topS 28) ["pieces"] (CK.defF_mk KX G ?a ?l ?c ?k fun _ _ _ _ _ _ us hl => match us, hl with | [_], _ => rfl) fun d_kept_of => ?_
    (case a => k_is); (case l => k_is); (case c => k_is); (case k => k_is)
    refine' CK.with_def KX "need_kept" (K03.topS 29) ["value"] (CK.defF_mk KX G ?a ?l ?c ?k fun _ _ _ _ _ _ us hl => match us, hl with | [_], _ => rfl) fun d_need_kept => ?_
    (case a => k_is); (case l => k_is); (case c => k_is); (case k => k_is)
    refine' CK.with_def KX "joined_kept" (K03.topS 30) ["one", "other"] (CK.defF_mk KX G ?a ?l ?c ?k fun _ _ _ _ _ _ us hl => match us, hl with | [_, _], _ => rfl) fun d_joined_kept => ?_
    (case a => k_is); (case l => k_is); (case c => k_is); (case k => k_is)
    refine' CK.with_def KX "mirrored_kept" (K03.topS 31) ["kept"] (CK.defF_mk KX G ?a ?l ?c ?k fun _ _ _ _ _ _ us hl => match us, hl with | [_], _ => rfl) fun d_mirrored_kept => ?_
    (case a => k_is); (case l => k_is); (case c => k_is); (case k => k_is)
    refine' CK.with_def KX "_law_cell" (K03.topS 33) ["_law_script", "_law_index"] (CK.defF_mk KX G ?a ?l ?c ?k fun _ _ _ _ _ _ us hl => match us, hl with | [_, _], _ => rfl) fun d_law_cell => ?_
    (case a => k_is); (case l => k_is); (case c => k_is); (case k => k_is)
    refine' CK.with_def KX "_law_hash" (K03.topS 34) ["_law_seed", "_law_index"] (CK.defF_mk KX G ?a ?l ?c ?k fun _ _ _ _ _ _ us hl => match us, hl with | [_, _], _ => rfl) fun d_law_hash => ?_
    (case a => k_is); (case l => k_is); (case c => k_is); (case k => k_is)
    refine' CK.with_def KX "_law_generator" (K03.topS 35) ["_law_script", "_law_index"] (CK.defF_mk KX G ?a ?l ?c ?k fun _ _ _ _ _ _ us hl => match us, hl with | [_, _], _ => rfl) fun d_law_generator => ?_
    (case a => k_is); (case l => k_is); (case c => k_is); (case k => k_is)
    refine' CK.with_def KX "_law_random" (K03.topS 36) ["_law_generator_here", "_law_bound"] (CK.defF_mk KX G ?a ?l ?c ?k fun _ _ _ _ _ _ us hl => match us, hl with | [_, _], _ => rfl) fun d_law_random => ?_
    (case a => k_is); (case l => k_is); (case c => k_is); (case k => k_is)
    refine' CK.with_def KX "_law_letters" (K03.topS 37) ["_law_generator_here"] (CK.defF_mk KX G ?a ?l ?c ?k fun _ _ _ _ _ _ us hl => match us, hl with | [_], _ => rfl) fun d_law_letters => ?_
    (case a => k_is); (case l => k_is); (case c => k_is); (case k => k_is)
    refine' CK.with_def KX "_law_word" (K03.topS 38) ["_law_generator_here", "_law_letters_here", "_law_least", "_law_most"] (CK.defF_mk KX G ?a ?l ?c ?k fun _ _ _ _ _ _ us hl => match us, hl with | [_, _, _, _], _ => rfl) fun d_law_word => ?_
    (case a => k_is); (case l => k_is); (case c => k_is); (case k => k_is)
    refine' CK.with_def KX "_law_base" (K03.topS 39) ["_law_generator_here", "_law_letters_here"] (CK.defF_mk KX G ?a ?l ?c ?k fun _ _ _ _ _ _ us hl => match us, hl with | [_, _], _ => rfl) fun d_law_base => ?_
    (case a => k_is); (case l => k_is); (case c => k_is); (case k => k_is)
    refine' CK.with_def KX "_law_count" (K03.topS 40) ["_law_generator_here", "_law_great"] (CK.defF_mk KX G ?a ?l ?c ?k fun _ _ _ _ _ _ us hl => match us, hl with | [_, _], _ => rfl) fun d_law_count => ?_
    (case a => k_is); (case l => k_is); (case c => k_is); (case k => k_is)
    refine' CK.with_def KX "_law_pieces" (K03.topS 41) ["_law_generator_here", "_law_letters_here", "_law_most", "_law_great"] (CK.defF_mk KX G ?a ?l ?c ?k fun _ _ _ _ _ _ us hl => match us, hl with | [_, _, _, _], _ => rfl) fun d_law_pieces => ?_
    (case a => k_is); (case l => k_is); (case c => k_is); (case k => k_is)
    refine' CK.with_def KX "_law_tidied" (K03.topS 42) ["_law_pieces_here"] (CK.defF_mk KX G ?a ?l ?c ?k fun _ _ _ _ _ _ us hl => match us, hl with | [_], _ => rfl) fun d_law_tidied => ?_
    (case a => k_is); (case l => k_is); (case c => k_is); (case k => k_is)
    refine' CK.with_def KX "_law_long" (K03.topS 43) ["_law_pieces_here"] (CK.defF_mk KX G ?a ?l ?c ?k fun _ _ _ _ _ _ us hl => match us, hl with | [_], _ => rfl) fun d_law_long => ?_
    (case a => k_is); (case l => k_is); (case c => k_is); (case k => k_is)
    refine' CK.with_def KX "_law_letter" (K03.topS 44) ["_law_pieces_here", "_law_at"] (CK.defF_mk KX G ?a ?l ?c ?k fun _ _ _ _ _ _ us hl => match us, hl with | [_, _], _ => rfl) fun d_law_letter => ?_
    (case a => k_is); (case l => k_is); (case c => k_is); (case k => k_is)
    refine' CK.with_def KX "_law_part" (K03.topS 45) ["_law_pieces_here", "_law_low", "_law_high"] (CK.defF_mk KX G ?a ?l ?c ?k fun _ _ _ _ _ _ us hl => match us, hl with | [_, _, _], _ => rfl) fun d_law_part => ?_
    (case a => k_is); (case l => k_is); (case c => k_is); (case k => k_is)
    refine' CK.with_def KX "_law_places" (K03.topS 46) ["_law_generator_here", "_law_pieces_here"] (CK.defF_mk KX G ?a ?l ?c ?k fun _ _ _ _ _ _ us hl => match us, hl with | [_, _], _ => rfl) fun d_law_places => ?_
    (case a => k_is); (case l => k_is); (case c => k_is); (case k => k_is)
    refine' CK.with_def KX "_law_letters_right" (K03.topS 47) ["_law_kept", "_law_pieces_here", "_law_places_here"] (CK.defF_mk KX G ?a ?l ?c ?k fun _ _ _ _ _ _ us hl => match us, hl with | [_, _, _], _ => rfl) fun d_law_letters_right => ?_
    (case a => k_is); (case l => k_is); (case c => k_is); (case k => k_is)
    refine' CK.with_def KX "_law_parts_right" (K03.topS 48) ["_law_generator_here", "_law_kept", "_law_pieces_here", "_law_places_here"] (CK.defF_mk KX G ?a ?l ?c ?k fun _ _ _ _ _ _ us hl => match us, hl with | [_, _, _, _], _ => rfl) fun d_law_parts_right => ?_
    (case a => k_is); (case l => k_is); (case c => k_is); (case k => k_is)
    refine' CK.with_def KX "law" (K03.topS 49) ["_law_script"] (CK.defF_mk KX G ?a ?l ?c ?k fun _ _ _ _ _ _ us hl => match us, hl with | [_], _ => rfl) fun d_law => ?_
    (case a => k_is); (case l => k_is); (case c => k_is); (case k => k_is)
    have m_bool : mg "bool" = none := by
      refine' PySem.W.mg_none_of KX G ?z
      (case z => k_is)
    have m_int : mg "int" = none := by
      refine' PySem.W.mg_none_of KX G ?z
      (case z => k_is)
    have m_isinstance : mg "isinstance" = none := by
      refine' PySem.W.mg_none_of KX G ?z
      (case z => k_is)
    have m_len : mg "len" = none := by
      refine' PySem.W.mg_none_of KX G ?z
      (case z => k_is)
    have m_list : mg "list" = none := by
      refine' PySem.W.mg_none_of KX G ?z
      (case z => k_is)
    have m_max : mg "max" = none := by
      refine' PySem.W.mg_none_of KX G ?z
      (case z => k_is)
    have m_min : mg "min" = none := by
      refine' PySem.W.mg_none_of KX G ?z
      (case z => k_is)
    have m_range : mg "range" = none := by
      refine' PySem.W.mg_none_of KX G ?z
      (case z => k_is)
    have m_reversed : mg "reversed" = none := by
      refine' PySem.W.mg_none_of KX G ?z
      (case z => k_is)
    have m_sorted : mg "sorted" = none := by
      refine' PySem.W.mg_none_of KX G ?z
      (case z => k_is)
    have m_str : mg "str" = none := by
      refine' PySem.W.mg_none_of KX G ?z
      (case z => k_is)
    have m_sum : mg "sum" = none := by
      refine' PySem.W.mg_none_of KX G ?z
      (case z => k_is)
    have m_tuple : mg "tuple" = none := by
      refine' PySem.W.mg_none_of KX G ?z
      (case z => k_is)
    have m_zip : mg "zip" = none := by
      refine' PySem.W.mg_none_of KX G ?z
      (case z => k_is)
    have k_MOST_KEPT_LETTERS : ∃ u, mg "MOST_KEPT_LETTERS" = some u ∧ L2.RelV (.int 10000) u := by
      refine' ⟨?u_MOST_KEPT_LETTERS, PySem.W.mg_of KX G ?z_MOST_KEPT_LETTERS, ?r_MOST_KEPT_LETTERS⟩
      (case z_MOST_KEPT_LETTERS => k_is)
      all_goals exact ⟨_, rfl⟩
    have k_MOST_KEPT_PIECES : ∃ u, mg "MOST_KEPT_PIECES" = some u ∧ L2.RelV (.int 5000) u := by
      refine' ⟨?u_MOST_KEPT_PIECES, PySem.W.mg_of KX G ?z_MOST_KEPT_PIECES, ?r_MOST_KEPT_PIECES⟩
      (case z_MOST_KEPT_PIECES => k_is)
      all_goals exact ⟨_, rfl⟩
    have k_MOST_KEPT_WORD : ∃ u, mg "MOST_KEPT_WORD" = some u ∧ L2.RelV (.int 2000) u := by
      refine' ⟨?u_MOST_KEPT_WORD, PySem.W.mg_of KX G ?z_MOST_KEPT_WORD, ?r_MOST_KEPT_WORD⟩
      (case z_MOST_KEPT_WORD => k_is)
      all_goals exact ⟨_, rfl⟩
    have T : K03.Txt _ mg _ := ⟨k_KeptWord, f_ends, f_pieces, d_wall, d_is_whole, d_is_count, d_is_within, d_is_lettered, d_need_within, d_turned_word, d_is_kept_piece, d_need_kept_pieces, d_put_together, d_ends_of, d_stretch_pieces, d_KeptWord___init__, d_KeptWord_pieces, d_KeptWord_length, d_KeptWord_letter, d_KeptWord_part, d_KeptWord_plain, d_piece_index, d_stretch_of, d_kept_of, d_need_kept, d_joined_kept, d_mirrored_kept, d_law_cell, d_law_hash, d_law_generator, d_law_random, d_law_letters, d_law_word, d_law_base, d_law_count, d_law_pieces, d_law_tidied, d_law_long, d_law_letter, d_law_part, d_law_places, d_law_letters_right, d_law_parts_right, d_law, m_bool, m_int, m_isinstance, m_len, m_list, m_max, m_min, m_range, m_reversed, m_sorted, m_str, m_sum, m_tuple, m_zip, k_MOST_KEPT_LETTERS, k_MOST_KEPT_PIECES, k_MOST_KEPT_WORD⟩
    exact K03.law_end T hmg
