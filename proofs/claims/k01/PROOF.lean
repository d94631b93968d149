import PyProof.Rows.All
import Wide.All
import OpenK.AllK
import Wide.FinOn
import HandS.Base
import HandS.Call
import HandS.List
import HandS.Text
import PyProof.ListStr
import PyProof.StrOps2
import PyProof.SliceStr2
import KE.KRevSl
import HandS.ForMost
import HandS.NoneIn
import HandS.IsInst
import KE.SortKeyHeap
import HandS.SortKw
import KE.SortData
import HandS.ExcInit
import HandS.ExcSuper
import KE.KExcSuper
import KE.KSuper
import HandS.Exc
import HandS.WordsExc
import HandS.CallSlots
import HandS.Replace
import HandS.HotCalls
import HandS.ExcIs
import KE.KExcIs
import PyProof.ReprRoads
import PyProof.ReprReads
import HandS.ExcCtx
import HandS.ExcField
import HandS.Ends
import PySem.Challenge.RW_handcarried_k01_papers_and_lags
set_option Elab.async false
set_option linter.all false
set_option maxRecDepth 100000
set_option maxHeartbeats 2000000
/-! Br1 -/
/-! Rules of my own over the layer: list(text), text * n, text[::-1]. -/
namespace K1
open PySem PySem.Spec PyProof.Rows L2

theorem vals_pt : ∀ {xs : List V} {us : List Value}, xs.length = us.length → (∀ (j : Nat) (x : V) (u : Value), xs[j]? = some x → us[j]? = some u → RelV x u) → Vals xs us
  | [], [], _, _ => .nil
  | [], _ :: _, h, _ => by simp at h
  | _ :: _, [], h, _ => by simp at h
  | x :: xs, u :: us, h, k => .cons (k 0 x u rfl rfl) (vals_pt (by simpa using h) fun j y w a b => k (j + 1) y w (by simpa using a) (by simpa using b))

/-- the signs of a text, each a text -/
def sgn (z : Str) : List Str := z.cps.toList.map fun c => ⟨#[c]⟩

theorem call_listS {X : Cx} (hh : X.A.handled = none) : CallR X (.type "list") (fun xs H Q => ∃ z : Str, xs = [.str z] ∧ z.length ≤ sizeLine ∧ ∀ l, H l = none → Q (.ref l) (upd H l (.lst ((sgn z).map V.str)))) := by
  intro pins s σ H xs us Q I r h
  obtain ⟨z, rfl, hz, q⟩ := h
  obtain ⟨u, rfl, rx⟩ := vals1 r
  obtain ⟨t, rfl⟩ := rx
  refine call_list_str hh z t (hn := hz) fun h' tk acc c kp hS hacc => ?_
  refine ⟨.ref s.heap.objs.size, _, I.laid (t' := tk) (o := .lst ((sgn z).map V.str)) kp (Nat.le_refl _) ?_, rfl, q _ (I.hok.fresh (Nat.le_refl _))⟩
  refine ⟨?_, acc.toList, c, ?_, ?_⟩
  · have e : ((sgn z).map V.str).length = z.length := by simp [sgn, Str.length]
    rw [e]; exact hz
  · refine vals_pt ?_ ?_
    · simp [sgn, hacc.1]
    · intro j x u hx hu
      obtain ⟨c, w, hc, rfl⟩ := hacc.2 j u (by simpa using hu)
      have : x = V.str ⟨#[c]⟩ := by
        simp [sgn, hc] at hx
        exact hx.symm
      subst this
      exact ⟨w, rfl⟩
  · simpa using hS

/-- a text n times -/
def repS (z : Str) (n : Nat) : Str := ⟨(List.replicate n z.cps).foldl (· ++ ·) #[]⟩
theorem op_mul_str {X : Cx} : OpR X (binaryOp .Mult) (fun x y H Q => ∃ (z : Str) (k : Int), x = .str z ∧ y = .int k ∧ 1 ≤ k ∧ k ≤ 1000000 ∧ 1 ≤ z.length ∧ z.length * k.toNat ≤ sizeLine ∧ Q (.str (repS z k.toNat)) H) := by
  intro pins s σ H x y v u Q I rx ry h
  obtain ⟨z, k, rfl, rfl, h1, h2, h3, h4, q⟩ := h
  obtain ⟨t, rfl⟩ := rx
  obtain ⟨w, rfl⟩ := ry
  have hsl := sizeLine_eq
  refine P.mul_str ?_ ?_ ?_ ?_
  · have a1 : ¬ k < -(2 ^ 63 : Int) := by omega
    have a2 : ¬ k ≥ 2 ^ 63 := by omega
    rw [decide_eq_false a1, decide_eq_false a2]; rfl
  · intro _ _ hgt
    have hlen : (z.length : Int) ≤ 16777216 := by
      have : z.length * 1 ≤ z.length * k.toNat := Nat.mul_le_mul_left _ (by omega)
      omega
    have hq : (16777216 : Int) ≤ (2 ^ 63 - 1) / k := by
      rw [Int.le_ediv_iff_mul_le (by omega)]
      omega
    omega
  · intro _ _
    unfold Builtin.Str.tooLong
    exact decide_eq_false (by omega)
  · rw [if_neg (by omega)]
    by_cases c : (k == 1 || z.length == 0) = true
    · rw [if_pos c]
      have hk : k = 1 := by
        have h0 : (z.length == 0) = false := by simp; omega
        rw [h0, Bool.or_false] at c
        exact eq_of_beq c
      subst hk
      have e : repS z (1 : Int).toNat = z := by
        show (⟨(List.replicate 1 z.cps).foldl (· ++ ·) #[]⟩ : Str) = z
        simp [List.replicate]
      rw [e] at q
      exact ⟨.str z, H, I, ⟨t, rfl⟩, q⟩
    · rw [if_neg c]
      refine ⟨?_, .str _, H, I.tok _, ⟨_, rfl⟩, q⟩
      have e : ∀ (n : Nat) (a : Array Nat), ((List.replicate n z.cps).foldl (· ++ ·) a).size = a.size + n * z.cps.size := by
        intro n
        induction n with
        | zero => intro a; simp
        | succ n ih => intro a; rw [List.replicate_succ, List.foldl_cons, ih, Array.size_append, Nat.add_mul]; omega
      show ((List.replicate k.toNat z.cps).foldl (· ++ ·) #[]).size ≤ sizeLine
      rw [e]
      have : k.toNat * z.cps.size = z.length * k.toNat := Nat.mul_comm _ _
      simp only [Array.size_empty, Nat.zero_add]
      omega

/-- a text read from its end -/
def revS (z : Str) : Str := ⟨z.cps.toList.reverse.toArray⟩
def tRevS (te : TE) : TE := fun σ H Q => te σ H fun x H1 => ∃ z : Str, x = .str z ∧ z.length ≤ sizeLine ∧ Q (.str (revS z)) H1
theorem picked_rev (z : Str) (u : Tok) : ((slicePicked z none none (some (-1, u))).filterMap (z.cps[·]?)).toArray = z.cps.toList.reverse.toArray := by
  have e : slicePicked z none none (some (-1, u)) = sliceRange ((z.cps.size : Int) - 1) (-1) (-1) := by
    first
      | rfl
      | simp [slicePicked, Builtin.Str.strSliceIndices, Str.length]
  rw [e, PySem.W.krv_sliceRange, PySem.W.krv_range, List.filterMap_reverse, PySem.W.krv_all]
section
variable {X : Cx}
theorem pe_revS {e : Expr} {te : TE} {k : Nat} {p1 p2 p3 pos : Pos} (he : PE X e te) : PE X (.Subscript e (.Slice none none (some (.UnaryOp .USub (.Constant (.int 1) k p1) p2)) p3) pos) (tRevS te) := by
  refine ⟨fun pins s σ H Q I h => ?_⟩
  refine Subscript_ (thn (he.run pins s σ H _ I h) fun v s1 ⟨x, H1, I1, r1, z, ez, hz, q⟩ => ?_)
  subst ez
  obtain ⟨t, rfl⟩ := r1
  have hst : PO X (some (.UnaryOp .USub (.Constant (.int 1) k p1) p2)) (tPart (tUn (rU fun i => .int (-i)) (tC (.int 1)))) := po_some (pe_un un_neg pe_int)
  refine wpAny_Slice (thn (po_none.run pins s1 σ H1 (fun o G => o = none ∧ G = H1) I1 ⟨rfl, rfl⟩) fun vl s2 ⟨l, G2, I2, pl, el, g2⟩ => ?_)
  subst el g2
  refine thn (po_none.run pins s2 σ G2 (fun o G => o = none ∧ G = G2) I2 ⟨rfl, rfl⟩) fun vu s3 ⟨u, G3, I3, pu, eu, g3⟩ => ?_
  subst eu g3
  refine thn (hst.run pins s3 σ G3 (fun o G => o = some (-1) ∧ G = G3) I3 ⟨1, rfl, -1, rfl, rfl, rfl⟩) fun vs s4 ⟨o, G4, I4, ps, eo, g4⟩ => ?_
  subst eo g4
  obtain ⟨l', el, fl⟩ := IsPart.raw pl
  obtain ⟨u', eu, fu⟩ := IsPart.raw pu
  obtain ⟨w', ew, fw⟩ := IsPart.raw ps
  have l0 : l' = none := by cases l' <;> simp_all
  have u0 : u' = none := by cases u' <;> simp_all
  obtain ⟨tw, w0⟩ : ∃ tw, w' = some (-1, tw) := by
    cases w' with
    | none => simp at fw
    | some p => obtain ⟨a, b⟩ := p; simp at fw; exact ⟨b, by rw [← fw]⟩
  subst l0 u0 w0
  have I5 : Inv X pins σ G4 { s4 with heap := s4.heap.push { cls := .type "slice", data := .fields #[vl, vu, vs] } } := I4.kept (t' := s4.toks) fun b ob q => Heap.get?_push_of_some _ q
  show wpAny (model X.prog X.w) X.A (subscriptTail e (.Slice none none (some (.UnaryOp .USub (.Constant (.int 1) k p1) p2)) p3) (.str z t) (.ref s4.heap.objs.size)) (EP X pins σ Q) X.xe { s4 with heap := s4.heap.push { cls := .type "slice", data := .fields #[vl, vu, vs] } }
  refine tail_any (ops := [.str z t, .ref s4.heap.objs.size]) (typeIs_str _ _ _) (PySem.F.slot_str_getitem.lookup) ?_ (by with_unfolding_all rfl)
  have hsl : Heap.IsSlice (s4.heap.push { cls := .type "slice", data := .fields #[vl, vu, vs] }) s4.heap.objs.size none none (some (-1, tw)) := by
    rw [el, eu, ew]
    exact ⟨_, Heap.get?_push_size _ rfl, rfl, rfl⟩
  refine wpAny_getItem_str_slice (l := none) (u := none) (st := some (-1, tw)) hsl rfl ?_
  have em : sliceMade z t none none (some (-1, tw)) = Made.str (revS z) := by
    unfold sliceMade
    rw [if_neg (by simp), picked_rev]
    rfl
  rw [em]
  refine ⟨?_, .str _, G4, I5.tok _, ⟨_, rfl⟩, q⟩
  simpa [revS, Str.length] using hz
end
end K1

/-! Br2 -/
/-! Readings, backwards: one lemma for each word of a reading, so that straight code runs by itself. -/
namespace K1
open PySem L2
section
variable {σ : L2.St} {H : Hp} {Q : VK} {v : V} {i : Nat} {ta tb te : TE} {t : TA} {nx : L2.St → Hp → Prop} {rt : VK} {bk ct : L2.St → Hp → Prop}
theorem r_var (h : σ[i]? = some (some v)) (q : Q v H) : tVar i σ H Q := ⟨v, h, q⟩
theorem r_c (q : Q v H) : tC v σ H Q := q
theorem r_op {r : R2} (q : ta σ H fun x H1 => tb σ H1 fun y H2 => r x y H2 Q) : tOp r ta tb σ H Q := q
theorem r_un {r : V → Hp → VK → Prop} (q : ta σ H fun x H1 => r x H1 Q) : tUn r ta σ H Q := q
theorem r_I0 {g : Int → Int → V} {a b : Int} (q : Q (g a b) H) : rI0 g (.int a) (.int b) H Q := ⟨a, b, rfl, rfl, q⟩
theorem r_I {C : Int → Int → Prop} {g : Int → Int → V} {a b : Int} (c : C a b) (q : Q (g a b) H) : rI C g (.int a) (.int b) H Q := ⟨a, b, rfl, rfl, c, q⟩
theorem r_test {R : Bool → Hp → Prop} (q : te σ H fun x H' => ∃ k, x = .bl k ∧ R k H') : tTest te σ H R := q
theorem r_bl {b : Bool} {R : Bool → Hp → Prop} (q : R b H) : ∃ k, V.bl b = .bl k ∧ R k H := ⟨b, rfl, q⟩
theorem r_if {c : TT} (q : c σ H fun b H1 => if b = true then ta σ H1 Q else tb σ H1 Q) : tIf c ta tb σ H Q := q
theorem r_ifs {c : TT} {u w : TS} {D : Ends} (q : c σ H fun b H1 => if b = true then u D σ H1 else w D σ H1) : tIfS c u w D σ H := q
theorem r_ite {p : Prop} {dp : Decidable p} {A B : Prop} (h1 : p → A) (h2 : ¬ p → B) : if decide p = true then A else B := by
  by_cases h : p
  · rw [decide_eq_true h, if_pos rfl]; exact h1 h
  · rw [decide_eq_false h, if_neg Bool.false_ne_true]; exact h2 h
theorem r_iteN {p : Prop} {dp : Decidable p} {A B : Prop} (h1 : ¬ p → A) (h2 : p → B) : if (!decide p) = true then A else B := by
  by_cases h : p
  · rw [decide_eq_true h]; exact h2 h
  · rw [decide_eq_false h]; exact h1 h
theorem r_iteT {A B : Prop} (h1 : A) : if true = true then A else B := h1
theorem r_iteF {A B : Prop} (h1 : B) : if false = true then A else B := h1
theorem r_iteB {b : Bool} {A B : Prop} (h1 : b = true → A) (h2 : b = false → B) : if b = true then A else B := by
  cases b
  · exact h2 rfl
  · exact h1 rfl
theorem r_and {c d : TT} {R : Bool → Hp → Prop} (q : c σ H fun b H1 => if b = true then d σ H1 R else R false H1) : tAnd c d σ H R := q
theorem r_or {c d : TT} {R : Bool → Hp → Prop} (q : c σ H fun b H1 => if b = true then R true H1 else d σ H1 R) : tOr c d σ H R := q
theorem r_not {c : TT} {R : Bool → Hp → Prop} (q : c σ H fun b H1 => R (!b) H1) : tNot c σ H R := q
theorem r_tB {R : Bool → Hp → Prop} (q : te σ H fun x H' => ∃ k, x = .bl k ∧ R k H') : tB te σ H R := q
theorem r_andV (q : ta σ H fun x H1 => ∃ c, x = .bl c ∧ if c = true then tb σ H1 Q else Q (.bl false) H1) : tAndV ta tb σ H Q := q
theorem r_orV (q : ta σ H fun x H1 => ∃ c, x = .bl c ∧ if c = true then Q (.bl true) H1 else tb σ H1 Q) : tOrV ta tb σ H Q := q
theorem r_notV (q : ta σ H fun x H1 => ∃ c, x = .bl c ∧ Q (.bl (!c)) H1) : tNotV ta σ H Q := q
theorem r_cb {r : List V → Hp → VK → Prop} (q : t σ H fun vs H1 => r vs H1 Q) : tCB r t σ H Q := q
theorem r_cons {tr : TA} {R : List V → Hp → Prop} (q : ta σ H fun x H1 => tr σ H1 fun xs H2 => R (x :: xs) H2) : tCons ta tr σ H R := q
theorem r_nil {R : List V → Hp → Prop} (q : R [] H) : tNil σ H R := q
theorem r_seq {u w : TS} (q : u ⟨w ⟨nx, rt, bk, ct⟩, rt, bk, ct⟩ σ H) : tSeq u w ⟨nx, rt, bk, ct⟩ σ H := q
theorem r_asg {g : TG} (q : te σ H fun x H1 => g x σ H1 nx) : tAsg te g ⟨nx, rt, bk, ct⟩ σ H := q
theorem r_name {R : L2.St → Hp → Prop} (q : R (σ.set i (some v)) H) : gName i v σ H R := q
theorem r_ret (q : te σ H rt) : tRet te ⟨nx, rt, bk, ct⟩ σ H := q
theorem r_next (q : nx σ H) : tNext ⟨nx, rt, bk, ct⟩ σ H := q
theorem r_drop (q : te σ H fun _ H1 => nx σ H1) : tDrop te ⟨nx, rt, bk, ct⟩ σ H := q
theorem r_lst (q : t σ H fun xs H1 => xs.length ≤ sizeLine ∧ ∀ p, H1 p = none → Q (.ref p) (upd H1 p (.lst xs))) : tLst t σ H Q := q
theorem r_tup (q : t σ H fun xs H1 => xs.length ≤ sizeLine ∧ ∀ p, H1 p = none → Q (.ref p) (upd H1 p (.tup xs))) : tTup t σ H Q := q
theorem r_call {sp : Sp} {dvs : List V} {E : XK} (q : t σ H fun vs H1 => sp (vs ++ dvs) H1 Q E) : tCall sp dvs E t σ H Q := q
theorem r_gsub {to ti : TE} {s : TSet} {R : L2.St → Hp → Prop} (q : to σ H fun o H1 => ti σ H1 fun i H2 => s o i v H2 fun H3 => R σ H3) : gSub to ti s v σ H R := q
theorem r_for {wi : TI} {g : TG} {u : TS} {D : Ends} (q : wi σ H fun J H1 => ∃ W : Nat → Nat → L2.St → Hp → Prop, (∃ m, W 0 m σ H1) ∧ ∀ i m σ H, W i m σ H →
    ((J.stop i H ∧ D.nx σ H) ∨ (J.go i H ∧ ∃ N : L2.St → Hp → Prop, (∀ σ' H', N σ' H' → ∃ m', m' < m ∧ W (i + 1) m' σ' H') ∧ ∀ x H', J.yld i H x H' → g x σ H' fun σ2 H2 => u { D with nx := N, ct := N, bk := D.nx } σ2 H2))) : tFor wi g u D σ H := q
end
section
variable {K : PySem.W.Frag} {σ : L2.St} {H : Hp} {Q : VK} {v : V} {a : Addr} {xs : List V}
theorem lenL (h : SqL K H a xs) : LenV K (.ref a) H xs.length := .inl ⟨_, h, rfl⟩
theorem lenT (h : SqT K H a xs) : LenV K (.ref a) H xs.length := .inr ⟨_, h, rfl⟩
theorem lenS {x : Str} (h : x.length ≤ sizeLine) : LenV K (.str x) H x.length := ⟨h, rfl⟩
theorem r_len {y : V} {n : Nat} {R : VK} (h : LenV K y H n) (q : R (.int n) H) : ∃ x n, [y] = [x] ∧ LenV K x H n ∧ R (V.int n) H := ⟨y, n, rfl, h, q⟩
theorem r_ixL {i : Int} (h : SqL K H a xs) (e : atI xs i = some v) (q : Q v H) : rIxL K (.ref a) (.int i) H Q := ⟨a, xs, i, v, rfl, rfl, h, e, q⟩
theorem r_ixT {i : Int} (h : SqT K H a xs) (e : atI xs i = some v) (q : Q v H) : rIxT K (.ref a) (.int i) H Q := ⟨a, xs, i, v, rfl, rfl, h, e, q⟩
theorem r_ixS {x : Str} {i : Int} {c : Nat} (h : x.length ≤ sizeLine) (e : atI x.cps.toList i = some c) (q : Q (.str ⟨#[c]⟩) H) : rIxS (.str x) (.int i) H Q := ⟨x, i, c, rfl, rfl, h, e, q⟩
theorem r_sum {ns : List Int} (h : SqL K H a (ns.map V.int)) (q : Q (.int ns.sum) H) : rSum K [.ref a] H Q := ⟨a, ns, rfl, h, q⟩
theorem at_int {ns : List Int} {i : Int} (h0 : 0 ≤ i) (h1 : i < ns.length) : ∃ z, atI (ns.map V.int) i = some (.int z) ∧ z ∈ ns := by
  obtain ⟨j, rfl⟩ : ∃ j : Nat, i = j := ⟨i.toNat, by omega⟩
  have hj : j < ns.length := by omega
  exact ⟨ns[j], atI_nat (by simp [hj]), List.getElem_mem _⟩
theorem r_setL {i : Int} {j : Nat} {R : Hp → Prop} (h : H a = some (.lst xs)) (e : ixN xs.length i = some j) (q : R (upd H a (.lst (xs.set j v)))) : rSetL (.ref a) (.int i) v H R := ⟨a, xs, i, j, rfl, rfl, h, e, q⟩
end
section
variable {K : PySem.W.Frag} {σ : L2.St} {H : Hp} {a D : Addr} {xs : List V} {vs : List Nat} {te : TE} {Qd : Hp → Prop}
theorem same_new {o : HO} (h : H D = none) : Same H (upd H D o) := fun b u e => by
  rw [upd_ne (ne_of_none e h)]
  exact e
theorem sqL_new {o : HO} (h : H D = none) (q : SqL K H a xs) : SqL K (upd H D o) a xs := (same_new h).seq q
/-- [f x for x in xs], the element's value told, the heap left as it was -/
theorem lc_map {i : Nat} (f : V → V) (hS : SqL K H a xs) (hD : H D = none) (hz : xs.length ≤ sizeLine) (hw : ∀ x, wipe ((wipe σ vs).set i (some x)) vs = wipe σ vs)
    (he : ∀ x ∈ xs, ∀ (H' : Hp) (R : VK), Same H H' → R (f x) H' → te ((wipe σ vs).set i (some x)) H' R) (hd : Qd (upd H D (.lst (xs.map f)))) :
    ∃ W : Nat → Nat → Hp → Prop, (∃ m, W 0 m (upd H D (.lst []))) ∧ ∀ i₁ m H, W i₁ m H →
      ((Itl K a).stop i₁ H ∧ Qd H) ∨ ((Itl K a).go i₁ H ∧ ∃ Nx : Hp → Prop, (∀ H', Nx H' → ∃ m', m' < m ∧ W (i₁ + 1) m' H') ∧ ∀ x H', (Itl K a).yld i₁ H x H' → gName i x (wipe σ vs) H' fun σ2 H2 => wipe σ2 vs = wipe σ vs ∧ tYes σ2 H2 fun b H3 =>
        if b = true then te σ2 H3 fun y H4 => ∃ acc, H4 D = some (.lst acc) ∧ acc.length < sizeLine ∧ Nx (upd H4 D (.lst (acc ++ [y]))) else Nx H3) := by
  refine lc_list (K := K) (a := a) (xs := xs) (fun j H' => H' = upd H D (.lst ((xs.take j).map f))) (by simp) (fun j H' _ e => by rw [e]; exact sqL_new hD hS) ?_ (fun H' e => by rw [e, List.take_length]; exact hd)
  rintro j x H' hx rfl
  have hj : j < xs.length := (List.getElem?_eq_some_iff.mp hx).1
  have hm : x ∈ xs := List.mem_of_getElem? hx
  refine ⟨hw x, ?_⟩
  show te _ _ _
  refine he x hm _ _ (same_new hD) ⟨_, upd_same, ?_, ?_⟩
  · simp only [List.length_map, List.length_take]
    omega
  · rw [upd_upd, List.take_succ, hx]
    simp
end
/-! ### own defs -/
def Own (P : Program) (w : World) (K : PySem.W.Frag) (mg : Str → Option Value) (base : Heap) (x : Str) (k : Nat) (ps : List Str) (sp : Sp) : Prop :=
  ∃ (f : Addr) (fd : FuncData), FnOk P w K mg base CX0 k f fd ps sp ∧ mg x = some (.ref f) ∧ PySem.W.keepIn K (.ref f) = true ∧ Binds K fd ps []
theorem pe_own {X : Cx} {x : Str} {k : Nat} {ps : List Str} {sp : Sp} {e : Expr} {es : List Expr} {t : TA} {p pos : Pos} (O : Own X.prog X.w X.K X.mg X.base x k ps sp) (hr : Room k X.A) (ha : PA X (e :: es) t) (hg : Gl X x := by rfl)
    (hdb : (x == ("__debug__" : Str)) = false := by decide) (he : starEach (e :: es) X.env = (false, eval e X.env) :: starEach es X.env := by rfl) (hpl : (backTo pos (starEach es X.env)).any (·.1) = false := by rfl) :
    PE X (.Call (.Name x p) (e :: es) [] pos) (tCall sp [] E0 t) := by
  obtain ⟨f, fd, G, m, kp, b⟩ := O
  exact pe_call G hr hg m kp b .nil pass0 ha hdb he hpl
theorem Own.imp {P : Program} {w : World} {K : PySem.W.Frag} {mg : Str → Option Value} {base : Heap} {x : Str} {k : Nat} {ps : List Str} {sp sp' : Sp} (O : Own P w K mg base x k ps sp) (h : ∀ vs H Q E, sp' vs H Q E → sp vs H Q E) : Own P w K mg base x k ps sp' := by
  obtain ⟨f, fd, G, r⟩ := O
  exact ⟨f, fd, G.imp h, r⟩
/-- everywhere but at b the heap is the same -/
def Off (b : Addr) (H H' : Hp) : Prop := ∀ c, c ≠ b → H' c = H c
theorem Off.refl (b : Addr) (H : Hp) : Off b H H := fun _ _ => rfl
theorem Off.trans {b : Addr} {H H1 H2 : Hp} (x : Off b H H1) (y : Off b H1 H2) : Off b H H2 := fun c h => (y c h).trans (x c h)
theorem Off.upd {b : Addr} {H : Hp} {o : HO} : Off b H (upd H b o) := fun _ h => upd_ne h
theorem Off.at {b c : Addr} {H H' : Hp} {o : HO} (x : Off b H H') (h : c ≠ b) (e : H c = some o) : H' c = some o := (x c h).trans e
theorem Off.none {b c : Addr} {H H' : Hp} {u : HO} (x : Off b H H') (hb : H b = some u) (hb' : ∃ u, H' b = some u) (e : H c = none) : H' c = none := by
  by_cases h : c = b
  · subst h; rw [hb] at e; cases e
  · exact (x c h).trans e
theorem Off.free {b c : Addr} {H H' : Hp} (x : Off b H H') (hb' : ∃ u, H' b = some u) (e : H' c = Option.none) : c ≠ b ∧ H c = Option.none := by
  have h : c ≠ b := fun h => by obtain ⟨u, q⟩ := hb'; rw [h, q] at e; cases e
  exact ⟨h, (x c h).symm.trans e⟩
section
variable {K : PySem.W.Frag} {σ : L2.St} {H : Hp} {Q : VK} {v : V} {a : Addr} {xs : List V} {te to : TE} {t : TA} {lo hi : Option Int}
theorem r_bm {T : String} {r : V → List V → Hp → VK → Prop} (q : to σ H fun x H1 => tyV K T x H1 ∧ t σ H1 fun ys H2 => r x ys H2 Q) : tBM K T r to t σ H Q := q
theorem r_bm0 {T : String} {r : V → List V → Hp → VK → Prop} (q : to σ H fun x H1 => tyV K T x H1 ∧ r x [] H1 Q) : tBM0 K T r to σ H Q := q
theorem r_sl {r : V → Option Int → Option Int → Hp → VK → Prop} {tl th : TO} (q : te σ H fun x H1 => tl σ H1 fun l H2 => th σ H2 fun u H3 => r x l u H3 Q) : tSl r te tl th σ H Q := q
theorem r_noPart {R : Option Int → Hp → Prop} (q : R none H) : tNoPart σ H R := q
theorem r_part {R : Option Int → Hp → Prop} (q : te σ H fun x H1 => ∃ i, x = .int i ∧ R (some i) H1) : tPart te σ H R := q
theorem r_slS {z : Str} (h : z.length ≤ sizeLine) (q : Q (.str (cutS z lo hi)) H) : rSlS (.str z) lo hi H Q := ⟨z, rfl, h, q⟩
theorem r_slL (h : SqL K H a xs) (q : ∀ p, H p = none → Q (.ref p) (upd H p (.lst (cutV xs lo hi)))) : rSlL K (.ref a) lo hi H Q := ⟨a, xs, rfl, h, q⟩
theorem r_iStr {R : It → Hp → Prop} (q : te σ H fun w H1 => ∃ x, w = .str x ∧ R (Its x) H1) : iStr te σ H R := q
theorem r_iRng1 {R : It → Hp → Prop} (q : t σ H fun vs H1 => ∃ j : Int, vs = [.int j] ∧ -(2 ^ 62) ≤ j ∧ j < 2 ^ 62 ∧ R (Itr 0 j.toNat) H1) : iRng1 t σ H R := q
theorem r_m1 {r : V → List V → Hp → VK → Prop} (q : to σ H fun x H1 => (∃ z, x = .str z) ∧ te σ H1 fun y H2 => r x [y] H2 Q) : tM1 r to te σ H Q := q
theorem tyL {H : Hp} (h : SqL K H a xs) : tyV K "list" (.ref a) H := .inl ⟨rfl, _, h⟩
theorem SqL.off {b : Addr} {H' : Hp} (h : SqL K H a xs) (n : a ≠ b) (o : Off b H H') : SqL K H' a xs := by
  rcases h with (h | ⟨u, h⟩) | h
  · exact .inl (.inl (o.at n h))
  · exact .inl (.inr ⟨u, o.at n h⟩)
  · exact .inr h
/-- what was tracked stands, but at b -/
def Kp (b : Addr) (H H' : Hp) : Prop := ∀ c o, c ≠ b → H c = some o → H' c = some o
theorem Kp.refl (b : Addr) (H : Hp) : Kp b H H := fun _ _ _ e => e
theorem Kp.trans {b : Addr} {H H1 H2 : Hp} (x : Kp b H H1) (y : Kp b H1 H2) : Kp b H H2 := fun c o n e => y c o n (x c o n e)
theorem Off.kp {b : Addr} {H H' : Hp} (x : Off b H H') : Kp b H H' := fun c o n e => x.at n e
theorem Same.kp {b : Addr} {H H' : Hp} (x : Same H H') : Kp b H H' := fun c o _ e => x c o e
theorem Kp.seq {b : Addr} {H' : Hp} (o : Kp b H H') (n : a ≠ b) (h : SqL K H a xs) : SqL K H' a xs := by
  rcases h with (h | ⟨u, h⟩) | h
  · exact .inl (.inl (o _ _ n h))
  · exact .inl (.inr ⟨u, o _ _ n h⟩)
  · exact .inr h
theorem Kp.free {b c : Addr} {H' : Hp} {u : HO} (o : Kp b H H') (hb : H' b = some u) (e : H' c = none) : H c = none := by
  cases q : H c with
  | none => rfl
  | some w =>
    have n : c ≠ b := fun z => by rw [z, hb] at e; cases e
    rw [o c w n q] at e
    cases e
theorem Kp.off {b c : Addr} {H' H2 : Hp} {u : HO} (o : Kp b H H') (x : Off c H' H2) (hc : H c = none) (hb : H b = some u) : Kp b H H2 := fun d w n e => by
  have z : d ≠ c := fun z => by rw [z, hc] at e; cases e
  exact x.at z (o d w n e)
theorem Kp.same {b : Addr} {H' : Hp} (o : Kp b H H') (hb : H b = none) : Same H H' := fun c w e => o c w (fun z => by rw [z, hb] at e; cases e) e
/-- a row: a text's signs, or a list's items -/
def RowAt (K : PySem.W.Frag) (H : Hp) (b : Addr) (r : V) (items : List V) : Prop :=
  (∃ z : Str, r = .str z ∧ items = (sgn z).map V.str ∧ z.length ≤ 1000) ∨ ∃ l, r = .ref l ∧ SqL K H l items ∧ l ≠ b ∧ items.length ≤ 1000
theorem sgn_len (z : Str) : (sgn z).length = z.length := by simp [sgn, Str.length]
theorem small_line {n : Nat} (h : n ≤ 1000) : n ≤ sizeLine := Nat.le_of_lt (small1000 h)
theorem RowAt.len {K : PySem.W.Frag} {H : Hp} {b : Addr} {r : V} {items : List V} (h : RowAt K H b r items) : LenV K r H items.length ∧ items.length ≤ 1000 := by
  rcases h with ⟨z, rfl, rfl, hz⟩ | ⟨l, rfl, h, _, hz⟩
  · rw [List.length_map, sgn_len]
    exact ⟨lenS (small_line hz), hz⟩
  · exact ⟨lenL h, hz⟩
theorem r_rowix {b : Addr} {r : V} {items : List V} {i : Int} {x : V} (h : RowAt K H b r items) (e : atI items i = some x) (q : Q x H) : rIx K r (.int i) H Q := by
  rcases h with ⟨z, rfl, rfl, hz⟩ | ⟨l, rfl, h, _, hz⟩
  · refine .inr (.inr ?_)
    have e' : atI z.cps.toList i = (atI z.cps.toList i) := rfl
    unfold atI at e
    have el : ((sgn z).map V.str).length = z.cps.toList.length := by simp [sgn]
    rw [el] at e
    cases hj : ixN z.cps.toList.length i with
    | none => rw [hj] at e; cases e
    | some j =>
      rw [hj] at e
      have e2 : ((sgn z).map V.str)[j]? = some x := e
      cases hc : z.cps.toList[j]? with
      | none =>
        rw [sgn, List.map_map, List.getElem?_map, hc] at e2
        cases e2
      | some c =>
        rw [sgn, List.map_map, List.getElem?_map, hc] at e2
        have e3 : x = V.str ⟨#[c]⟩ := (Option.some.inj e2).symm
        subst e3
        exact r_ixS (small_line hz) (by unfold atI; rw [hj]; exact hc) q
  · exact .inl (r_ixL h e q)
theorem RowAt.off {b : Addr} {r : V} {items : List V} {H' : Hp} (h : RowAt K H b r items) (o : Off b H H') : RowAt K H' b r items := by
  rcases h with ⟨z, e⟩ | ⟨l, rfl, h, n, hz⟩
  · exact .inl ⟨z, e⟩
  · exact .inr ⟨l, rfl, SqL.off h n o, n, hz⟩
theorem at_nat' {α : Type} {xs : List α} {i : Int} (h0 : 0 ≤ i) (h1 : i < xs.length) : ∃ x, atI xs i = some x ∧ x ∈ xs ∧ xs[i.toNat]? = some x := by
  obtain ⟨j, rfl⟩ : ∃ j : Nat, i = j := ⟨i.toNat, by omega⟩
  have hj : j < xs.length := by omega
  exact ⟨xs[j], atI_nat (by simp [hj]), List.getElem_mem _, by simp [hj]⟩
end
section
variable {K : PySem.W.Frag} {a : Addr} {xs : List V} {lo : Int} {n : Nat} {g : TG} {tb : TS} {nx : L2.St → Hp → Prop} {rt : VK} {σ : L2.St} {H : Hp}
/-- a for over a range, the ends written out -/
theorem fr_range (Pv : Nat → L2.St → Hp → Prop) (h0 : Pv 0 σ H)
    (hs : ∀ i σ H, i < n → Pv i σ H → g (.int (lo + i)) σ H fun σ2 H2 => tb ⟨Pv (i + 1), rt, nx, Pv (i + 1)⟩ σ2 H2) (hd : ∀ σ H, Pv n σ H → nx σ H) :
    ∃ W : Nat → Nat → L2.St → Hp → Prop, (∃ m, W 0 m σ H) ∧ ∀ i m σ H, W i m σ H →
      ((Itr lo n).stop i H ∧ nx σ H) ∨ ((Itr lo n).go i H ∧ ∃ N : L2.St → Hp → Prop, (∀ σ' H', N σ' H' → ∃ m', m' < m ∧ W (i + 1) m' σ' H') ∧ ∀ x H', (Itr lo n).yld i H x H' → g x σ H' fun σ2 H2 => tb ⟨N, rt, nx, N⟩ σ2 H2) :=
  for_range (D := ⟨nx, rt, nx, nx⟩) Pv h0 hs hd
/-- a for over a list -/
theorem fr_list (Pv : Nat → L2.St → Hp → Prop) (h0 : Pv 0 σ H) (hl : ∀ i σ H, i ≤ xs.length → Pv i σ H → SqL K H a xs)
    (hs : ∀ i x σ H, xs[i]? = some x → Pv i σ H → g x σ H fun σ2 H2 => tb ⟨Pv (i + 1), rt, nx, Pv (i + 1)⟩ σ2 H2) (hd : ∀ σ H, Pv xs.length σ H → nx σ H) :
    ∃ W : Nat → Nat → L2.St → Hp → Prop, (∃ m, W 0 m σ H) ∧ ∀ i m σ H, W i m σ H →
      ((Itl K a).stop i H ∧ nx σ H) ∨ ((Itl K a).go i H ∧ ∃ N : L2.St → Hp → Prop, (∀ σ' H', N σ' H' → ∃ m', m' < m ∧ W (i + 1) m' σ' H') ∧ ∀ x H', (Itl K a).yld i H x H' → g x σ H' fun σ2 H2 => tb ⟨N, rt, nx, N⟩ σ2 H2) :=
  for_list (D := ⟨nx, rt, nx, nx⟩) Pv h0 hl hs hd
theorem fr_tup (Pv : Nat → L2.St → Hp → Prop) (h0 : Pv 0 σ H) (hl : ∀ i σ H, i ≤ xs.length → Pv i σ H → SqT K H a xs)
    (hs : ∀ i x σ H, xs[i]? = some x → Pv i σ H → g x σ H fun σ2 H2 => tb ⟨Pv (i + 1), rt, nx, Pv (i + 1)⟩ σ2 H2) (hd : ∀ σ H, Pv xs.length σ H → nx σ H) :
    ∃ W : Nat → Nat → L2.St → Hp → Prop, (∃ m, W 0 m σ H) ∧ ∀ i m σ H, W i m σ H →
      ((Itt K a).stop i H ∧ nx σ H) ∨ ((Itt K a).go i H ∧ ∃ N : L2.St → Hp → Prop, (∀ σ' H', N σ' H' → ∃ m', m' < m ∧ W (i + 1) m' σ' H') ∧ ∀ x H', (Itt K a).yld i H x H' → g x σ H' fun σ2 H2 => tb ⟨N, rt, nx, N⟩ σ2 H2) :=
  for_tup (D := ⟨nx, rt, nx, nx⟩) Pv h0 hl hs hd
end
end K1

/-! K01A -/
/-! The law's draws: a bag off a cell, a number off a bag. -/

local macro_rules | `(tactic| walk_at "go") => `(tactic| repeat (first
  | with_reducible apply K1.r_seq
  | with_reducible apply K1.r_asg
  | ((with_reducible apply K1.r_name); (try dsimp only [List.set]))
  | ((with_reducible apply K1.r_var); (focus rfl))
  | with_reducible apply K1.r_c
  | with_reducible apply K1.r_op
  | with_reducible apply K1.r_un
  | with_reducible apply K1.r_I0
  | with_reducible apply K1.r_test
  | with_reducible apply K1.r_if
  | with_reducible apply K1.r_ifs
  | with_reducible apply K1.r_iteT
  | with_reducible apply K1.r_iteF
  | with_reducible apply K1.r_and
  | with_reducible apply K1.r_or
  | with_reducible apply K1.r_not
  | with_reducible apply K1.r_tB
  | with_reducible apply K1.r_andV
  | with_reducible apply K1.r_orV
  | with_reducible apply K1.r_notV
  | with_reducible apply K1.r_cb
  | with_reducible apply K1.r_cons
  | with_reducible apply K1.r_nil
  | with_reducible apply K1.r_ret
  | with_reducible apply K1.r_next
  | with_reducible apply K1.r_drop
  | with_reducible apply K1.r_lst
  | with_reducible apply K1.r_tup
  | with_reducible apply K1.r_call
  | with_reducible apply K1.r_gsub
  | with_reducible apply K1.r_for
  | refine ⟨_, rfl, ?_⟩
  | refine Or.inl ⟨_, rfl, ?_⟩
  | dsimp only))

namespace K1
open PySem L2

def top (i : Nat) : Stmt := PySem.Challenge.pw_handcarried_k01_papers_and_lags.main.body.getD i (.Pass ⟨0, 0, 0, 0⟩)

/-- the built-ins that the module's names leave alone -/
structure Bl (mg : Str → Option Value) : Prop where
  len : mg "len" = none
  sum : mg "sum" = none
  abs : mg "abs" = none
  int : mg "int" = none
  range : mg "range" = none
  list : mg "list" = none
  tuple : mg "tuple" = none
  str : mg "str" = none
  bool : mg "bool" = none
  sorted : mg "sorted" = none
  all : mg "all" = none
  min : mg "min" = none
  isin : mg "isinstance" = none
  repr : mg "repr" = none

/-- a bag: digits that are left, salt, count of mixed draws (at most n) -/
def IsBag (H : Hp) (b : Addr) (n : Nat) : Prop := ∃ d s c : Int, H b = some (.lst [.int d, .int s, .int c]) ∧ 0 ≤ d ∧ 0 ≤ s ∧ s < 2 ^ 40 ∧ 0 ≤ c ∧ c ≤ n

abbrev sBagOf : Stmt := top 34
abbrev sPick : Stmt := top 35
abbrev nBagOf : List Str := ["_law_script", "_law_at", "_law_cell", "_law_size", "_law_digits", "_law_one"]
theorem scBagOf : FnScope nBagOf ["_law_script", "_law_at"] (defScope sBagOf) := ⟨rfl, rfl, rfl, by decide +kernel, rfl, by decide +kernel, by decide +kernel⟩
abbrev nPick : List Str := ["_law_bag", "_law_many", "_law_digit", "_law_one", "_law_two"]
theorem scPick : FnScope nPick ["_law_bag", "_law_many"] (defScope sPick) := ⟨rfl, rfl, rfl, by decide +kernel, rfl, by decide +kernel, by decide +kernel⟩

def spBagOf (K : PySem.W.Frag) : Sp := fun vs H Q _ => ∃ (a : Addr) (ns : List Int) (at_ : Int), vs = [.ref a, .int at_] ∧ SqL K H a (ns.map V.int) ∧ ns.length ≤ 63 ∧ 0 ≤ at_ ∧ at_ ≤ 1000 ∧
  ∀ H' p, Same H H' → H p = none → IsBag H' p 0 → Q (.ref p) H'

section
variable {P : Program} {w : World} {K : PySem.W.Frag} {mg : Str → Option Value} {base : Heap}

theorem ok_bagOf {f : Addr} {fd : FuncData} (F : Fun K "_law_bag_of" "_law_bag_of" sBagOf f fd) (B : Bl mg) : FnOk P w K mg base CX0 1 f fd ["_law_script", "_law_at"] (spBagOf K) := by
  refine F.ok scBagOf (fun vs H Q E h => ?_) (fun cdv A outer s H vs Q E hr h => ?_)
  · obtain ⟨a, ns, at_, rfl, _⟩ := h
    rfl
  · obtain ⟨a, ns, at_, rfl, hS, hlen, h0, h1, k⟩ := h
    refine ⟨_, pss_cons (ps_set (i := 2) scBagOf.nd rfl (Or.inl rfl)
        (pe_ifExp (pt_cmpR op_lt (pv 1) (pe_callB call_len (by rfl) B.len PySem.boot_len (pa_cons (pv 0) pa_nil)) (nomark _))
          (pe_ix ix_list (pv 0) (pv 1) (fun _ _ => rfl))
          (pe_op op_add (pe_callB (cr_sum rfl) (by rfl) B.sum (by decide +kernel) (pa_cons
              (pe_lc (own := [("_law_one", 5)]) (g := gName 5) (tt := tYes) rfl scBagOf.nd (pi_list (pv 0)) (blkOk_by (N := nBagOf) (sc := defScope sBagOf) (by decide +kernel)) (fun _ _ _ _ _ => pg_name (i := 5) scBagOf.nd rfl (Or.inl rfl)) (fun _ _ _ _ _ => pts_nil)
                (fun _ _ _ _ _ => pe_op op_add (pe_op op_fdiv (pe_callB call_abs (by rfl) B.abs (by decide +kernel) (pa_cons (pv 5) pa_nil)) pe_int) pe_int)) pa_nil))
            (pe_op op_mul pe_int (pe_op op_add (pv 1) pe_int)))))
      (pss_cons (ps_set (i := 3) scBagOf.nd rfl (Or.inl rfl) (pe_callB call_abs (by rfl) B.abs (by decide +kernel) (pa_cons (pv 2) pa_nil)))
      (pss_cons (ps_set (i := 4) scBagOf.nd rfl (Or.inl rfl) (pe_ifExp (pt_cmpR op_ge (pv 3) pe_int (nomark _)) (pv 3) pe_int))
      (pss_one (ps_ret (pe_lst (pa_cons (pv 4) (pa_cons (pe_op op_add (pe_op op_add (pe_op op_mod (pe_callTy call_int1 (by rfl) B.int (by decide +kernel) (pa_cons (pv 3) pa_nil)) pe_int) (pe_op op_mul pe_int (pv 1)))
        (pe_ifExp (pt_cmpR op_lt (pv 2) pe_int (nomark _)) pe_int pe_int)) (pa_cons pe_int pa_nil)))))))), ?_⟩
    dsimp only [cxOf, Cx.nox, Cx.wish]
    walk_at "go"
    refine ⟨_, _, rfl, lenL hS, ?_⟩
    walk_at "go"
    refine r_ite (fun h => ?_) (fun h => ?_)
    rotate_left
    walk_at "go"
    refine ⟨⟨_, hS⟩, fun D hD => lc_map (fun x => match x with | .int z => .int ((if z < 0 then -z else z) / 3 + 5) | y => y) hS hD (by rw [List.length_map, sizeLine_eq]; omega) (fun _ => rfl) (fun x hx H' R sm r => ?_) ?_⟩
    · obtain ⟨z, _, rfl⟩ := List.mem_map.mp hx
      walk_at "go"
      refine r_I ⟨by decide, by decide⟩ ?_
      walk_at "go"
      exact r
    walk_at "go"
    have hD' : (upd H D (.lst ((ns.map V.int).map fun x => match x with | .int z => .int ((if z < 0 then -z else z) / 3 + 5) | y => y))) D = some (.lst ((ns.map fun z => (if z < 0 then -z else z) / 3 + 5).map V.int)) := by
      rw [upd_same, List.map_map, List.map_map]
      rfl
    refine r_sum (SqL.of hD') ?_
    walk_at "go"
    refine r_I (.inl ⟨by decide, by decide⟩) ?_
    walk_at "go"
    have sm := same_new (o := HO.lst ((ns.map V.int).map fun x => match x with | .int z => .int ((if z < 0 then -z else z) / 3 + 5) | y => y)) hD
    revert sm
    generalize (ns.map fun z => (if z < 0 then -z else z) / 3 + 5).sum + 7919 * (at_ + 1) = zz
    rotate_left
    obtain ⟨z, hz, _⟩ := at_int (ns := ns) h0 (by simpa using h)
    walk_at "go"
    refine r_ixL hS hz ?_
    walk_at "go"
    have sm : Same H H := Same.refl H
    revert sm
    all_goals
      intro sm
      refine r_ite (fun hh => ?_) (fun hh => ?_)
    all_goals
      walk_at "go"
      refine r_I (by decide) ?_
      walk_at "go"
      refine r_I (.inl ⟨by decide, by decide⟩) ?_
      walk_at "go"
      refine r_ite (fun hn => ?_) (fun hn => ?_)
    all_goals
      walk_at "go"
      refine ⟨(by show 3 ≤ sizeLine; decide), fun p hp => ?_⟩
      refine k _ p (sm.trans (same_new hp)) (sm.free hp) ⟨_, _, _, upd_same, ?_, ?_, ?_, ?_, ?_⟩
    all_goals (first | omega | (split <;> omega))

def spPick : Sp := fun vs H Q _ => ∃ (b : Addr) (m : Int) (n : Nat), vs = [.ref b, .int m] ∧ IsBag H b n ∧ n ≤ 2 ^ 40 ∧ m < 1073741824 ∧
  ∀ r H', 0 ≤ r → (r < m ∨ (m < 2 ∧ r = 0)) → IsBag H' b (n + 1) → Off b H H' → Q (.int r) H'

theorem ok_pick {f : Addr} {fd : FuncData} (F : Fun K "_law_pick" "_law_pick" sPick f fd) (B : Bl mg) : FnOk P w K mg base CX0 1 f fd ["_law_bag", "_law_many"] spPick := by
  refine F.ok scPick (fun vs H Q E h => ?_) (fun cdv A outer s H vs Q E hr h => ?_)
  · obtain ⟨a, m, n, rfl, _⟩ := h
    rfl
  · obtain ⟨b, m, n, rfl, ⟨d, sl, c, hb, d0, s0, s1, c0, c1⟩, hn, hm, k⟩ := h
    refine ⟨_, pss_cons (ps_if (pt_cmpR op_lt (pv 1) pe_int (nomark _)) (pss_one (ps_ret pe_int)) pss_nil)
      (pss_cons (ps_if (pt_cmpR op_gt (pe_ix ix_list (pv 0) pe_int (fun _ _ => rfl)) pe_int (nomark _))
        (pss_cons (ps_set (i := 2) scPick.nd rfl (Or.inl rfl) (pe_op op_modN (pe_callTy call_int1 (by rfl) B.int (by decide +kernel) (pa_cons (pe_ix ix_list (pv 0) pe_int (fun _ _ => rfl)) pa_nil)) (pv 1)))
        (pss_cons (ps_asg (pe_op op_fdivN (pe_ix ix_list (pv 0) pe_int (fun _ _ => rfl)) (pv 1)) (pg_sub (pv 0) pe_int set_list))
        (pss_one (ps_ret (pv 2))))) pss_nil)
      (pss_cons (ps_asg (pe_op op_add (pe_ix ix_list (pv 0) pe_int (fun _ _ => rfl)) pe_int) (pg_sub (pv 0) pe_int set_list))
      (pss_cons (ps_set (i := 3) scPick.nd rfl (Or.inl rfl) (pe_op op_mod (pe_callTy call_int1 (by rfl) B.int (by decide +kernel) (pa_cons
          (pe_op op_add (pe_op op_mul (pe_ix ix_list (pv 0) pe_int (fun _ _ => rfl)) pe_int) (pe_op op_mul (pe_ix ix_list (pv 0) pe_int (fun _ _ => rfl)) pe_int)) pa_nil)) pe_int))
      (pss_cons (ps_set (i := 4) scPick.nd rfl (Or.inl rfl) (pe_op op_mod (pe_callTy call_int1 (by rfl) B.int (by decide +kernel) (pa_cons
          (pe_op op_add (pe_op op_add (pe_op op_mul (pv 3) (pv 3)) (pe_ix ix_list (pv 0) pe_int (fun _ _ => rfl))) (pe_op op_mul (pe_ix ix_list (pv 0) pe_int (fun _ _ => rfl)) pe_int)) pa_nil)) pe_int))
      (pss_one (ps_ret (pe_op op_modN (pe_callTy call_int1 (by rfl) B.int (by decide +kernel) (pa_cons (pe_op op_fdiv (pv 4) pe_int) pa_nil)) (pv 1)))))))), ?_⟩
    dsimp only [cxOf, Cx.nox, Cx.wish]
    walk_at "go"
    refine r_ite (fun h => ?_) (fun h => ?_)
    · walk_at "go"
      exact k 0 H (Int.le_refl 0) (.inr ⟨h, rfl⟩) ⟨d, sl, c, hb, d0, s0, s1, c0, by omega⟩ (Off.refl _ _)
    walk_at "go"
    refine r_ixL (SqL.of hb) rfl ?_
    walk_at "go"
    refine r_ite (fun h2 => ?_) (fun h2 => ?_)
    · walk_at "go"
      refine r_ixL (SqL.of hb) rfl ?_
      walk_at "go"
      refine r_I (by omega) ?_
      walk_at "go"
      refine r_ixL (SqL.of hb) rfl ?_
      walk_at "go"
      refine r_I ⟨by omega, by omega⟩ ?_
      walk_at "go"
      refine r_setL hb rfl ?_
      walk_at "go"
      refine k _ _ ?_ (.inl ?_) ⟨_, _, _, upd_same, ?_, s0, s1, c0, by omega⟩ Off.upd
      · exact Int.fmod_nonneg (by omega) (by omega)
      · exact Int.fmod_lt_of_pos _ (by omega)
      · exact Int.fdiv_nonneg (by omega) (by omega)
    walk_at "go"
    refine r_ixL (SqL.of hb) rfl ?_
    walk_at "go"
    refine r_setL hb rfl ?_
    have hb2 := upd_same (H := H) (a := b) (o := HO.lst (List.set [V.int d, V.int sl, V.int c] 2 (V.int (c + 1))))
    walk_at "go"
    refine r_ixL (SqL.of hb2) rfl ?_
    walk_at "go"
    refine r_I (.inr ⟨by decide, by decide⟩) ?_
    walk_at "go"
    refine r_ixL (SqL.of hb2) rfl ?_
    walk_at "go"
    refine r_I (.inr ⟨by decide, by decide⟩) ?_
    walk_at "go"
    refine r_I (by decide) ?_
    have o0 := Int.emod_nonneg (sl * 48271 + (c + 1) * 69621) (show (2147483647 : Int) ≠ 0 by decide)
    have o1 := Int.emod_lt_of_pos (sl * 48271 + (c + 1) * 69621) (show (0 : Int) < 2147483647 by decide)
    revert o0 o1
    generalize (sl * 48271 + (c + 1) * 69621) % 2147483647 = one
    intro o0 o1
    walk_at "go"
    refine r_I (.inl ⟨by omega, by omega⟩) ?_
    walk_at "go"
    refine r_ixL (SqL.of hb2) rfl ?_
    walk_at "go"
    refine r_ixL (SqL.of hb2) rfl ?_
    walk_at "go"
    refine r_I (.inr ⟨by decide, by decide⟩) ?_
    walk_at "go"
    refine r_I (by decide) ?_
    walk_at "go"
    refine r_I ⟨by decide, by decide⟩ ?_
    walk_at "go"
    refine r_I (by omega) ?_
    walk_at "go"
    refine k _ _ ?_ (.inl ?_) ⟨_, _, _, upd_same, d0, s0, s1, by omega, by omega⟩ Off.upd
    · exact Int.fmod_nonneg (by omega) (by omega)
    · exact Int.fmod_lt_of_pos _ (by omega)
end
end K1

/-! K01B -/
local macro_rules | `(tactic| walk_at "go") => `(tactic| repeat (first
  | with_reducible apply K1.r_seq
  | with_reducible apply K1.r_asg
  | ((with_reducible apply K1.r_name); (try dsimp only [List.set]))
  | ((with_reducible apply K1.r_var); (focus rfl))
  | with_reducible apply K1.r_c
  | with_reducible apply K1.r_op
  | with_reducible apply K1.r_un
  | with_reducible apply K1.r_I0
  | with_reducible apply K1.r_test
  | with_reducible apply K1.r_if
  | with_reducible apply K1.r_ifs
  | with_reducible apply K1.r_iteT
  | with_reducible apply K1.r_iteF
  | with_reducible apply K1.r_and
  | with_reducible apply K1.r_or
  | with_reducible apply K1.r_not
  | with_reducible apply K1.r_tB
  | with_reducible apply K1.r_andV
  | with_reducible apply K1.r_orV
  | with_reducible apply K1.r_notV
  | with_reducible apply K1.r_cb
  | with_reducible apply K1.r_cons
  | with_reducible apply K1.r_nil
  | with_reducible apply K1.r_ret
  | with_reducible apply K1.r_next
  | with_reducible apply K1.r_drop
  | with_reducible apply K1.r_lst
  | with_reducible apply K1.r_tup
  | with_reducible apply K1.r_call
  | with_reducible apply K1.r_gsub
  | with_reducible apply K1.r_for
  | with_reducible apply K1.r_bm
  | with_reducible apply K1.r_bm0
  | with_reducible apply K1.r_sl
  | with_reducible apply K1.r_noPart
  | with_reducible apply K1.r_part
  | with_reducible apply K1.r_iStr
  | with_reducible apply K1.r_iRng1
  | with_reducible apply K1.r_m1
  | refine ⟨_, rfl, ?_⟩
  | refine Or.inl ⟨_, rfl, ?_⟩
  | dsimp only))
namespace K1
open PySem L2
abbrev sOneOf : Stmt := top 36
abbrev sMixed : Stmt := top 37
abbrev sPaperOf : Stmt := top 38
theorem scOneOf : FnScope ["_law_bag", "_law_row"] ["_law_bag", "_law_row"] (defScope sOneOf) := ⟨rfl, rfl, rfl, by decide +kernel, rfl, by decide +kernel, by decide +kernel⟩
abbrev nMixed : List Str := ["_law_bag", "_law_row", "_law_left", "_law_told", "_law_k"]
theorem scMixed : FnScope nMixed ["_law_bag", "_law_row"] (defScope sMixed) := ⟨rfl, rfl, rfl, by decide +kernel, rfl, by decide +kernel, by decide +kernel⟩
abbrev nPaperOf : List Str := ["_law_bag", "_law_signs", "_law_most", "_law_told", "_law_k"]
theorem scPaperOf : FnScope nPaperOf ["_law_bag", "_law_signs", "_law_most"] (defScope sPaperOf) := ⟨rfl, rfl, rfl, by decide +kernel, rfl, by decide +kernel, by decide +kernel⟩

abbrev OPick (P : Program) (w : World) (K : PySem.W.Frag) (mg : Str → Option Value) (base : Heap) : Prop := Own P w K mg base "_law_pick" 1 ["_law_bag", "_law_many"] spPick
def spOneOf (K : PySem.W.Frag) : Sp := fun vs H Q _ => ∃ (b : Addr) (r : V) (items : List V) (n : Nat), vs = [.ref b, r] ∧ IsBag H b n ∧ n ≤ 2 ^ 40 ∧ RowAt K H b r items ∧ items ≠ [] ∧
  ∀ x H', x ∈ items → IsBag H' b (n + 1) → Off b H H' → Q x H'
abbrev OOneOf (P : Program) (w : World) (K : PySem.W.Frag) (mg : Str → Option Value) (base : Heap) : Prop := Own P w K mg base "_law_one_of" 2 ["_law_bag", "_law_row"] (spOneOf K)
def spMixed : Sp := fun vs H Q _ => ∃ (b : Addr) (z : Str) (n : Nat), vs = [.ref b, .str z] ∧ IsBag H b n ∧ n + z.length ≤ 2 ^ 40 ∧ z.length ≤ 1000 ∧
  ∀ (ys : List Str) H' p, ys.Perm (sgn z) → IsBag H' b (n + z.length) → Kp b H H' → H p = none → H' p = some (.lst (ys.map V.str)) → p ≠ b → Q (.ref p) H'
def spPaperOf : Sp := fun vs H Q _ => ∃ (b : Addr) (z : Str) (m : Nat) (n : Nat), vs = [.ref b, .str z, .int m] ∧ IsBag H b n ∧ n + m + 1 ≤ 2 ^ 40 ∧ z.length ≤ 1000 ∧ 1 ≤ z.length ∧ m ≤ 1000 ∧
  ∀ (y : Str) H', y.length ≤ m → (∀ c ∈ y.cps.toList, c ∈ z.cps.toList) → IsBag H' b (n + m + 1) → Off b H H' → Q (.str y) H'
theorem IsBag.mono {H : Hp} {b : Addr} {n m : Nat} (h : IsBag H b n) (l : n ≤ m) : IsBag H b m := by
  obtain ⟨d, s, c, e, a1, a2, a3, a4, a5⟩ := h
  exact ⟨d, s, c, e, a1, a2, a3, a4, by omega⟩

section
variable {P : Program} {w : World} {K : PySem.W.Frag} {mg : Str → Option Value} {base : Heap}
theorem ok_oneOf {f : Addr} {fd : FuncData} (F : Fun K "_law_one_of" "_law_one_of" sOneOf f fd) (B : Bl mg) (Op : OPick P w K mg base) : FnOk P w K mg base CX0 2 f fd ["_law_bag", "_law_row"] (spOneOf K) := by
  refine F.ok scOneOf (fun vs H Q E h => ?_) (fun cdv A outer s H vs Q E hr h => ?_)
  · obtain ⟨b, r, items, n, rfl, _⟩ := h
    rfl
  · obtain ⟨b, r, items, n, rfl, hb, hn, hrow, hne, k⟩ := h
    refine ⟨_, pss_one (ps_ret (pe_ix ix_seq (pv 1) (pe_own Op hr (pa_cons (pv 0) (pa_cons (pe_callB call_len (by rfl) B.len PySem.boot_len (pa_cons (pv 1) pa_nil)) pa_nil))) (fun _ _ => rfl))), ?_⟩
    try dsimp only [cxOf, Cx.nox, Cx.wish]
    walk_at "go"
    refine ⟨_, _, rfl, hrow.len.1, ?_⟩
    walk_at "go"
    have hl := hrow.len.2
    have hpos : 0 < items.length := List.length_pos_iff.mpr hne
    refine ⟨_, _, n, rfl, hb, hn, by omega, fun r' H' r0 r1 hb' off => ?_⟩
    obtain ⟨x, ex, hx, _⟩ := at_nat' (xs := items) r0 (by omega)
    exact r_rowix (hrow.off off) ex (k x H' hx hb' off)

theorem seqIx {n : Nat} {i : Int} (h0 : 0 ≤ i) (h1 : i < n) : seqIndex? i n = some i.toNat := by
  have e : ixN n i = some i.toNat := by
    unfold ixN
    rw [if_pos h0, if_pos h1]
  exact (ixN_seq e).1
theorem erase_map {α β : Type} (f : α → β) : ∀ (l : List α) (i : Nat), (l.map f).eraseIdx i = (l.eraseIdx i).map f
  | [], _ => rfl
  | _ :: _, 0 => rfl
  | x :: l, i + 1 => by
    show f x :: (l.map f).eraseIdx i = f x :: (l.eraseIdx i).map f
    rw [erase_map f l i]
theorem erase_perm {α : Type} : ∀ {l : List α} {i : Nat} (h : i < l.length), (l[i] :: l.eraseIdx i).Perm l
  | [], _, h => absurd h (by simp)
  | _ :: _, 0, _ => List.Perm.refl _
  | x :: l, i + 1, h => by
    have h' : i < l.length := by simpa using h
    show (l[i] :: x :: l.eraseIdx i).Perm (x :: l)
    exact (List.Perm.swap x l[i] _).trans (List.Perm.cons x (erase_perm h'))
theorem ok_mixed {f : Addr} {fd : FuncData} (F : Fun K "_law_mixed" "_law_mixed" sMixed f fd) (B : Bl mg) (Op : OPick P w K mg base) : FnOk P w K mg base CX0 2 f fd ["_law_bag", "_law_row"] spMixed := by
  refine F.ok scMixed (fun vs H Q E h => ?_) (fun cdv A outer s H vs Q E hr h => ?_)
  · obtain ⟨b, z, n, rfl, _⟩ := h
    rfl
  · obtain ⟨b, z, n, rfl, hb, hn, hz, k⟩ := h
    have hd := hr.hd
    refine ⟨_, pss_cons (ps_set (i := 2) scMixed.nd rfl (Or.inl rfl) (pe_callTy (call_listS hd) (by rfl) B.list (by decide +kernel) (pa_cons (pv 1) pa_nil)))
      (pss_cons (ps_set (i := 3) scMixed.nd rfl (Or.inl rfl) (pe_lst pa_nil))
      (pss_cons (ps_for PassesOwn.never rfl (pi_range1 rfl B.range (pa_cons (pe_callB call_len (by rfl) B.len PySem.boot_len (pa_cons (pv 1) pa_nil)) pa_nil)) (pg_name (i := 4) scMixed.nd rfl (Or.inl rfl))
        (pss_one (ps_expr (pe_bm PySem.F.plainAttrs_list PySem.F.slot_list_append PySem.F.type_list_append mt_append (pv 3) (pa_cons
          (pe_bm PySem.F.plainAttrs_list PySem.F.slot_list_pop PySem.F.type_list_pop mt_popAt (pv 2) (pa_cons
            (pe_own Op hr (pa_cons (pv 0) (pa_cons (pe_callB call_len (by rfl) B.len PySem.boot_len (pa_cons (pv 2) pa_nil)) pa_nil))) pa_nil)) pa_nil)))))
      (pss_one (ps_ret (pv 3))))), ?_⟩
    try dsimp only [cxOf, Cx.nox, Cx.wish]
    have hsl := small_line hz
    walk_at "go"
    refine ⟨hsl, fun L hL => ?_⟩
    walk_at "go"
    refine ⟨Nat.zero_le _, fun T hT => ?_⟩
    have nLb : L ≠ b := fun q => by obtain ⟨_, _, _, e, _⟩ := hb; rw [q, e] at hL; cases hL
    have nTL : T ≠ L := fun q => by rw [q, upd_same] at hT; cases hT
    rw [upd_ne nTL] at hT
    have nTb : T ≠ b := fun q => by obtain ⟨_, _, _, e, _⟩ := hb; rw [q, e] at hT; cases hT
    walk_at "go"
    refine ⟨_, _, rfl, lenS hsl, ?_⟩
    walk_at "go"
    refine ⟨by omega, by omega, fr_range (lo := 0) (n := z.length) (fun i σ H' => ∃ (kk : Option V) (xs ys : List Str), σ = [some (.ref b), some (.str z), some (.ref L), some (.ref T), kk] ∧ H' L = some (.lst (xs.map V.str)) ∧ H' T = some (.lst (ys.map V.str)) ∧
        (ys ++ xs).Perm (sgn z) ∧ ys.length = i ∧ IsBag H' b (n + i) ∧ Kp b H H') ?_ ?_ ?_⟩
    · refine ⟨none, sgn z, [], rfl, ?_, upd_same, List.Perm.refl _, rfl, ?_, ?_⟩
      · rw [upd_ne nTL.symm, upd_same]
      · obtain ⟨d, s, c, e, r⟩ := hb
        exact ⟨d, s, c, by rw [upd_ne nTb.symm, upd_ne nLb.symm]; exact e, r⟩
      · exact Same.kp (Same.trans (same_new (o := HO.lst ((sgn z).map V.str)) hL) (same_new (by rw [upd_ne nTL]; exact hT)))
    · rintro i σ H' hi ⟨kk, xs, ys, rfl, eL, eT, pm, ly, hb', kp⟩
      have lxs : xs.length = z.length - i := by
        have := pm.length_eq
        rw [List.length_append, sgn_len] at this
        omega
      walk_at "go"
      refine ⟨tyL (SqL.of eT), ?_⟩
      walk_at "go"
      refine ⟨tyL (SqL.of eL), ?_⟩
      walk_at "go"
      refine ⟨_, _, rfl, lenL (SqL.of eL), ?_⟩
      walk_at "go"
      refine ⟨_, _, _, rfl, hb', by omega, by rw [List.length_map]; omega, fun r H2 r0 r1 hb2 off => ?_⟩
      rw [List.length_map] at r1
      have hr1 : r < xs.length := by omega
      have hj : r.toNat < xs.length := by omega
      walk_at "go"
      have eL2 := off.at nLb eL
      have eT2 := off.at nTb eT
      refine ⟨L, xs.map V.str, r, r.toNat, .str xs[r.toNat], rfl, rfl, eL2, by omega, by omega, by rw [List.length_map]; exact seqIx r0 hr1, by simp [hj], ?_⟩
      walk_at "go"
      refine ⟨T, ys.map V.str, _, rfl, rfl, by rw [upd_ne nTL]; exact eT2, by rw [List.length_map]; exact small1000 (by omega), ?_⟩
      walk_at "go"
      refine ⟨some (.int (0 + i)), xs.eraseIdx r.toNat, ys ++ [xs[r.toNat]], rfl, ?_, ?_, ?_, by simp [ly], ?_, ?_⟩
      · rw [upd_ne nTL.symm, upd_same, erase_map]
      · rw [upd_same]; simp
      · refine List.Perm.trans ?_ pm
        rw [List.append_assoc]
        exact (List.Perm.append_left ys (erase_perm hj))
      · obtain ⟨d, s, c, e, q⟩ := hb2
        exact ⟨d, s, c, by rw [upd_ne nTb.symm, upd_ne nLb.symm]; exact e, q⟩
      · intro c o hc e
        have n1 : c ≠ L := fun q => by rw [q, hL] at e; cases e
        have n2 : c ≠ T := fun q => by rw [q, hT] at e; cases e
        rw [upd_ne n2, upd_ne n1]
        exact off.at hc (kp c o hc e)
    · rintro σ H' ⟨kk, xs, ys, rfl, eL, eT, pm, ly, hb', kp⟩
      walk_at "go"
      have lx : xs = [] := by
        have := pm.length_eq
        rw [List.length_append, sgn_len] at this
        exact List.eq_nil_of_length_eq_zero (by omega)
      subst lx
      rw [List.append_nil] at pm
      exact k ys H' T pm hb' kp hT eT nTb

theorem app_cps (x y : Str) : (x ++ y).cps.toList = x.cps.toList ++ y.cps.toList := by
  show (x.cps ++ y.cps).toList = _
  exact Array.toList_append
theorem len_cps (x : Str) : x.length = x.cps.toList.length := by simp [Str.length]
theorem mem_sgn {z : Str} {x : V} (h : x ∈ (sgn z).map V.str) : ∃ c, c ∈ z.cps.toList ∧ x = .str ⟨#[c]⟩ := by
  obtain ⟨y, hy, rfl⟩ := List.mem_map.mp h
  obtain ⟨c, hc, rfl⟩ := List.mem_map.mp hy
  exact ⟨c, hc, rfl⟩
theorem ok_paperOf {f : Addr} {fd : FuncData} (F : Fun K "_law_paper_of" "_law_paper_of" sPaperOf f fd) (B : Bl mg) (Op : OPick P w K mg base) (Oo : OOneOf P w K mg base) :
    FnOk P w K mg base CX0 3 f fd ["_law_bag", "_law_signs", "_law_most"] spPaperOf := by
  refine F.ok scPaperOf (fun vs H Q E h => ?_) (fun cdv A outer s H vs Q E hr h => ?_)
  · obtain ⟨b, z, m, n, rfl, _⟩ := h
    rfl
  · obtain ⟨b, z, m, n, rfl, hb, hn, hz, hz1, hm, k⟩ := h
    have hr1 : Room 1 _ := hr.mono (by decide)
    refine ⟨_, pss_cons (ps_set (i := 3) scPaperOf.nd rfl (Or.inl rfl) pe_str)
      (pss_cons (ps_for PassesOwn.never rfl (pi_range1 rfl B.range (pa_cons (pe_own Op hr1 (pa_cons (pv 0) (pa_cons (pe_op op_add (pv 2) pe_int) pa_nil))) pa_nil)) (pg_name (i := 4) scPaperOf.nd rfl (Or.inl rfl))
        (pss_one (ps_set (i := 3) scPaperOf.nd rfl (Or.inl rfl) (pe_op op_add_str (pv 3) (pe_own Oo hr (pa_cons (pv 0) (pa_cons (pv 1) pa_nil)))))))
      (pss_one (ps_ret (pv 3)))), ?_⟩
    try dsimp only [cxOf, Cx.nox, Cx.wish]
    walk_at "go"
    refine ⟨_, _, n, rfl, hb, by omega, by omega, fun r H1 r0 r1 hb1 off1 => ?_⟩
    walk_at "go"
    refine ⟨by omega, by omega, fr_range (lo := 0) (n := r.toNat) (fun i σ H' => ∃ (kk : Option V) (y : Str), σ = [some (.ref b), some (.str z), some (.int m), some (.str y), kk] ∧ y.length = i ∧ (∀ c ∈ y.cps.toList, c ∈ z.cps.toList) ∧
        IsBag H' b (n + 1 + i) ∧ Off b H H') ?_ ?_ ?_⟩
    · exact ⟨none, _, rfl, rfl, (fun c hc => absurd (show c ∈ ([] : List Nat) from hc) (by simp)), hb1, off1⟩
    · rintro i σ H' hi ⟨kk, y, rfl, ly, hy, hb', off⟩
      walk_at "go"
      refine ⟨_, _, _, _, rfl, hb', by omega, .inl ⟨z, rfl, rfl, hz⟩, ?_, fun x H2 hx hb2 off2 => ?_⟩
      · intro q
        have := congrArg List.length q
        rw [List.length_map, sgn_len, List.length_nil] at this
        omega
      obtain ⟨c, hc, rfl⟩ := mem_sgn hx
      walk_at "go"
      refine ⟨_, _, rfl, rfl, ?_, ?_⟩
      · rw [ly]
        exact small_line (by show i + 1 ≤ 1000; omega)
      walk_at "go"
      refine ⟨_, _, rfl, ?_, ?_, hb2, off.trans off2⟩
      · rw [len_cps, app_cps, List.length_append, ← len_cps, ly]
        rfl
      · intro d hd
        rw [app_cps] at hd
        rcases List.mem_append.mp hd with hd | hd
        · exact hy d hd
        · have : d = c := by simpa using hd
          rw [this]; exact hc
    · rintro σ H' ⟨kk, y, rfl, ly, hy, hb', off⟩
      walk_at "go"
      exact k y H' (by omega) hy (hb'.mono (by omega)) off
end
end K1

/-! M1 -/
/-! Texts as lists of signs; the good signs. -/
namespace K1
open PySem L2 PyProof.Rows
def one (c : Nat) : Str := ⟨#[c]⟩
abbrev tl (z : Str) : List Nat := z.cps.toList
theorem str_ext {x y : Str} (h : tl x = tl y) : x = y := by
  cases x with | mk a => cases y with | mk b => exact congrArg Str.mk (Array.toList_inj.mp h)
theorem tl_inj {x y : Str} : tl x = tl y ↔ x = y := ⟨str_ext, fun h => by rw [h]⟩
theorem one_inj {a b : Nat} (h : one a = one b) : a = b := by
  have := congrArg tl h
  simpa [one] using this
abbrev ALL : Str := "0123456789ABCDEFGHIJKLMNOPQRSTUVWXYZ"
/-- signs of a house -/
structure Good (z : Str) : Prop where
  lo : 2 ≤ (tl z).length
  hi : (tl z).length ≤ 12
  up : (tl z).Pairwise (· < ·)
  all : ∀ c ∈ tl z, c ∈ tl ALL
theorem sgn_one (z : Str) : sgn z = (tl z).map one := rfl
theorem ones : ∀ {zs : List Str}, (∀ y ∈ zs, ∃ c, y = one c) → ∃ l : List Nat, zs = l.map one
  | [], _ => ⟨[], rfl⟩
  | y :: zs, h => by
    obtain ⟨c, rfl⟩ := h y (by simp)
    obtain ⟨l, rfl⟩ := ones (zs := zs) fun z hz => h z (List.mem_cons_of_mem _ hz)
    exact ⟨c :: l, rfl⟩
theorem lt_one (a b : Nat) : Spec.ltCps (tl (one a)) (tl (one b)) = decide (a < b) := by
  show (decide (a < b) || (a == b && false)) = decide (a < b)
  rw [Bool.and_false, Bool.or_false]
theorem rising_le : ∀ (l : List Nat) (p : Nat), risingS (one p) (l.map one) = true → (p :: l).Pairwise (· ≤ ·)
  | [], p, _ => by simp
  | c :: l, p, h => by
    have h1 : p ≤ c ∧ risingS (one c) (l.map one) = true := by
      have e : risingS (one p) ((c :: l).map one) = (!Spec.ltCps (tl (one c)) (tl (one p)) && risingS (one c) (l.map one)) := rfl
      rw [e, lt_one] at h
      simpa using h
    have h2 := rising_le l c h1.2
    rw [List.pairwise_cons] at h2 ⊢
    refine ⟨fun d hd => ?_, by rw [List.pairwise_cons]; exact h2⟩
    rcases List.mem_cons.mp hd with rfl | hd
    · exact h1.1
    · exact Nat.le_trans h1.1 (h2.1 d hd)
theorem sorted_le (l : List Nat) (h : sortedS (l.map one) = true) : l.Pairwise (· ≤ ·) := by
  cases l with
  | nil => exact List.Pairwise.nil
  | cons c l => exact rising_le l c h
theorem join_ones : ∀ l : List Nat, tl (Str.join "" (l.map one)) = l
  | [] => rfl
  | [c] => rfl
  | c :: d :: l => by
    have ih := join_ones (d :: l)
    show tl (one c ++ "" ++ Str.join "" ((d :: l).map one)) = _
    rw [tl, app_cps, app_cps]
    rw [tl] at ih
    rw [ih]
    rfl
theorem nodup_all : (sgn ALL).Nodup := by decide +kernel
/-- what sorted of the first m of a mixed row of all signs, put together, is -/
theorem good_of {ys zs : List Str} {m : Nat} (hy : ys.Perm (sgn ALL)) (h2 : 2 ≤ m) (h12 : m ≤ 12) (hz : zs.Perm (ys.take m)) (hs : sortedS zs = true) :
    Good (Str.join "" zs) ∧ (tl (Str.join "" zs)).length = m ∧ (∀ y ∈ zs, y.length = 1) ∧ zs.length = m := by
  have hlen : ys.length = 36 := by rw [hy.length_eq]; decide +kernel
  have ht : (ys.take m).length = m := by rw [List.length_take]; omega
  have hzl : zs.length = m := by rw [hz.length_eq, ht]
  have hmem : ∀ y ∈ zs, ∃ c, y = one c ∧ c ∈ tl ALL := fun y q => by
    have a := hz.mem_iff.mp q
    have b := hy.mem_iff.mp (List.mem_of_mem_take a)
    obtain ⟨c, hc, rfl⟩ := List.mem_map.mp b
    exact ⟨c, rfl, hc⟩
  obtain ⟨l, rfl⟩ := ones (zs := zs) fun y q => by obtain ⟨c, e, _⟩ := hmem y q; exact ⟨c, e⟩
  have hnd : (l.map one).Nodup := hz.nodup_iff.mpr ((hy.nodup_iff.mpr nodup_all).sublist (List.take_sublist _ _))
  have hne : l.Pairwise (· ≠ ·) := (List.pairwise_map.mp hnd).imp fun h e => h (by rw [e])
  have hlt : l.Pairwise (· < ·) := ((sorted_le l hs).and hne).imp fun ⟨a, b⟩ => by omega
  have hl : l.length = m := by rw [← hzl, List.length_map]
  refine ⟨⟨?_, ?_, ?_, ?_⟩, ?_, ?_, hzl⟩
  · rw [join_ones, hl]; exact h2
  · rw [join_ones, hl]; exact h12
  · rw [join_ones]; exact hlt
  · rw [join_ones]
    intro c hc
    obtain ⟨d, e, hd⟩ := hmem (one c) (List.mem_map_of_mem hc)
    rw [one_inj e]; exact hd
  · rw [join_ones, hl]
  · intro y q
    obtain ⟨c, rfl, _⟩ := hmem y q
    rfl
end K1

/-! K01C -/
local macro_rules | `(tactic| walk_at "go") => `(tactic| repeat (first
  | with_reducible apply K1.r_seq
  | with_reducible apply K1.r_asg
  | ((with_reducible apply K1.r_name); (try dsimp only [List.set]))
  | ((with_reducible apply K1.r_var); (focus rfl))
  | with_reducible apply K1.r_c
  | with_reducible apply K1.r_op
  | with_reducible apply K1.r_un
  | with_reducible apply K1.r_I0
  | with_reducible apply K1.r_test
  | with_reducible apply K1.r_if
  | with_reducible apply K1.r_ifs
  | with_reducible apply K1.r_iteT
  | with_reducible apply K1.r_iteF
  | with_reducible apply K1.r_and
  | with_reducible apply K1.r_or
  | with_reducible apply K1.r_not
  | with_reducible apply K1.r_tB
  | with_reducible apply K1.r_andV
  | with_reducible apply K1.r_orV
  | with_reducible apply K1.r_notV
  | with_reducible apply K1.r_cb
  | with_reducible apply K1.r_cons
  | with_reducible apply K1.r_nil
  | with_reducible apply K1.r_ret
  | with_reducible apply K1.r_next
  | with_reducible apply K1.r_drop
  | with_reducible apply K1.r_lst
  | with_reducible apply K1.r_tup
  | with_reducible apply K1.r_call
  | with_reducible apply K1.r_gsub
  | with_reducible apply K1.r_for
  | with_reducible apply K1.r_bm
  | with_reducible apply K1.r_bm0
  | with_reducible apply K1.r_sl
  | with_reducible apply K1.r_noPart
  | with_reducible apply K1.r_part
  | with_reducible apply K1.r_iStr
  | with_reducible apply K1.r_iRng1
  | with_reducible apply K1.r_m1
  | refine ⟨_, rfl, ?_⟩
  | refine ⟨⟨_, rfl⟩, ?_⟩
  | refine Or.inl ⟨_, rfl, ?_⟩
  | dsimp only))

namespace K1
open PySem L2
abbrev sMany : Stmt := top 45
theorem scMany : FnScope ["_law_bag", "_law_many"] ["_law_bag"] (defScope sMany) := ⟨rfl, rfl, rfl, by decide +kernel, rfl, by decide +kernel, by decide +kernel⟩
abbrev OMixed (P : Program) (w : World) (K : PySem.W.Frag) (mg : Str → Option Value) (base : Heap) : Prop := Own P w K mg base "_law_mixed" 2 ["_law_bag", "_law_row"] spMixed
def spMany : Sp := fun vs H Q _ => ∃ (b : Addr) (n : Nat), vs = [.ref b] ∧ IsBag H b n ∧ n + 40 ≤ 2 ^ 40 ∧ ∀ (z : Str) H', Good z → IsBag H' b (n + 40) → Kp b H H' → Q (.str z) H'
section
variable {P : Program} {w : World} {K : PySem.W.Frag} {mg : Str → Option Value} {base : Heap}
theorem IsBag.new {H : Hp} {b p : Addr} {n : Nat} {o : HO} (h : IsBag H b n) (hp : H p = none) : IsBag (upd H p o) b n := by
  obtain ⟨d, s, c, e, r⟩ := h
  exact ⟨d, s, c, by rw [upd_ne (ne_of_none e hp)]; exact e, r⟩
theorem IsBag.ne {H : Hp} {b p : Addr} {n : Nat} (h : IsBag H b n) (hp : H p = none) : p ≠ b := fun q => by
  obtain ⟨_, _, _, e, _⟩ := h
  rw [q, e] at hp; cases hp
theorem cutV_take {xs : List V} {m : Int} (h0 : 0 ≤ m) : cutV xs none (some m) = xs.take m.toNat := by
  unfold cutV
  obtain ⟨k, rfl⟩ : ∃ k : Nat, m = k := ⟨m.toNat, by omega⟩
  rw [HT.sIx_none, HT.sIx_nat, List.drop_zero, Nat.sub_zero, Int.toNat_natCast]
  by_cases h : k ≤ xs.length
  · rw [Nat.min_eq_left h]
  · rw [Nat.min_eq_right (by omega), List.take_length, List.take_of_length_le (by omega)]
theorem ok_many {f : Addr} {fd : FuncData} (F : Fun K "_law_many_signs" "_law_many_signs" sMany f fd) (B : Bl mg) (Op : OPick P w K mg base) (Om : OMixed P w K mg base) : FnOk P w K mg base CX0 3 f fd ["_law_bag"] spMany := by
  refine F.ok scMany (fun vs H Q E h => ?_) (fun cdv A outer s H vs Q E hr h => ?_)
  · obtain ⟨b, n, rfl, _⟩ := h
    rfl
  · obtain ⟨b, n, rfl, hb, hn, k⟩ := h
    have hr1 : Room 1 _ := hr.mono (by decide)
    refine ⟨_, pss_cons (ps_set (i := 1) scMany.nd rfl (Or.inl rfl) (pe_op op_add pe_int (pe_own Op hr1 (pa_cons (pv 0) (pa_cons (pe_ix ix_list (pe_lst (pa_cons pe_int (pa_cons pe_int pa_nil)))
          (pe_own Op hr1 (pa_cons (pv 0) (pa_cons pe_int pa_nil))) (fun _ _ => rfl)) pa_nil)))))
      (pss_one (ps_ret (pe_join pe_str (pe_callB cr_sortedS (by rfl) B.sorted (by decide +kernel) (pa_cons (pe_slice sl_list (pe_own Om hr (pa_cons (pv 0) (pa_cons pe_str pa_nil))) po_none (po_some (pv 1))) pa_nil))))), ?_⟩
    try dsimp only [cxOf, Cx.nox, Cx.wish]
    walk_at "go"
    refine ⟨(by show 2 ≤ sizeLine; decide), fun p hp => ?_⟩
    have npb := hb.ne hp
    walk_at "go"
    refine ⟨_, _, n, rfl, hb.new hp, by omega, by decide, fun r H1 r0 r1 hb1 off1 => ?_⟩
    obtain ⟨v, ev, hv, _⟩ := at_nat' (xs := [V.int 3, V.int 11]) r0 (by show r < 2; omega)
    obtain ⟨q, rfl, q0, q1⟩ : ∃ q : Int, v = .int q ∧ 3 ≤ q ∧ q ≤ 11 := by
      rcases List.mem_cons.mp hv with rfl | hv
      · exact ⟨3, rfl, by decide, by decide⟩
      · rcases List.mem_cons.mp hv with rfl | hv
        · exact ⟨11, rfl, by decide, by decide⟩
        · cases hv
    refine r_ixL (SqL.of (off1.at npb upd_same)) ev ?_
    walk_at "go"
    refine ⟨_, _, _, rfl, hb1, by omega, by omega, fun r' H2 s0 s1 hb2 off2 => ?_⟩
    walk_at "go"
    refine ⟨_, _, _, rfl, hb2, (by show n + 1 + 1 + 36 ≤ 2 ^ 40; omega), (by decide), fun ys H3 l pm hb3 kp3 hl el nlb => ?_⟩
    walk_at "go"
    refine r_slL (SqL.of el) (fun l2 hl2 => ?_)
    walk_at "go"
    have ec : cutV (ys.map V.str) none (some (2 + r')) = (ys.take (2 + r').toNat).map V.str := by rw [cutV_take (by omega), List.map_take]
    refine ⟨l2, ys.take (2 + r').toNat, rfl, SqL.of (by rw [upd_same, ec]), ?_, fun zs l3 pz sz hl3 => ?_⟩
    · rw [List.length_take]; omega
    obtain ⟨gd, gl, g1, gz⟩ := good_of pm (m := (2 + r').toNat) (by omega) (by omega) pz sz
    walk_at "go"
    refine ⟨_, l3, zs, rfl, rfl, .inl (SqL.of upd_same), ?_, ?_⟩
    · have e1 : zs.map (·.length) = zs.map fun _ => 1 := List.map_congr_left g1
      rw [e1, gz]
      have e2 : ∀ l : List Str, (l.map fun _ => 1).sum = l.length := fun l => by induction l with | nil => rfl | cons a l ih => simp [ih]; omega
      rw [e2, gz]
      show (2 + r').toNat + (2 + r').toNat * 0 ≤ 16777216
      omega
    have ej : Txt.join ("" : Str) zs = Str.join "" zs := eq_of_beq (PyProof.Rows.join_plain_closes "" zs)
    show Q (.str (Txt.join ("" : Str) zs)) _
    rw [ej]
    refine k _ _ gd ?_ ?_
    · exact ((hb3.new hl2).new hl3).mono (by show n + 1 + 1 + 36 ≤ n + 40; omega)
    · refine Kp.trans (Same.kp (same_new hp)) (Kp.trans off1.kp (Kp.trans off2.kp (Kp.trans kp3 (Same.kp (Same.trans (same_new hl2) (same_new hl3))))))
end
end K1

/-! M2 -/
/-! Lags. -/
namespace K1
open PySem L2 PyProof.Rows
theorem pref_take : ∀ (y x : List Nat), y.isPrefixOf x = (decide (y.length ≤ x.length) && (x.take y.length == y))
  | [], x => by simp
  | b :: y, [] => by simp
  | b :: y, a :: x => by
    rw [List.isPrefixOf, pref_take y x]
    simp only [List.length_cons, List.take_succ_cons, Nat.add_le_add_iff_right]
    by_cases e : b = a
    · subst e; simp
    · have e' : ¬ a = b := fun q => e q.symm
      have b1 : (b == a) = false := by simpa using e
      have b2 : (a == b) = false := by simpa using e'
      have b3 : (a :: x.take y.length == b :: y) = false := by simp [e']
      rw [b1, Bool.false_and]
      simp [e']
theorem starts_iff (x y : Str) : Txt.startswith x y = (tl y).isPrefixOf (tl x) := by
  unfold Txt.startswith
  rw [PySem.StrLaws.subAt_eq, pref_take, List.drop_zero, Nat.zero_add, len_cps x, len_cps y]
theorem starts_app (x y : Str) : Txt.startswith x y = true ↔ ∃ r, tl x = tl y ++ r := by
  rw [starts_iff, List.isPrefixOf_iff_prefix]
  exact ⟨fun ⟨r, h⟩ => ⟨r, h.symm⟩, fun ⟨r, h⟩ => ⟨r, h.symm⟩⟩
/-- the lag of two papers -/
def lagL : List Nat → List Nat → List Nat
  | [], [] => [61]
  | a :: x, [] => 43 :: a :: x
  | [], b :: y => 45 :: b :: y
  | a :: x, b :: y => if a = b then lagL x y else [35]
def onL (l x y : List Nat) : List Nat := if l = [35] then [35] else if l.head? = some 45 then lagL x (l.tail ++ y) else lagL (l.tail ++ x) y
theorem lag_self : ∀ x : List Nat, lagL x x = [61]
  | [] => rfl
  | a :: x => by show (if a = a then lagL x x else [35]) = _; rw [if_pos rfl, lag_self x]
theorem lag_pre : ∀ (y r : List Nat), r ≠ [] → lagL (y ++ r) y = 43 :: r
  | [], [], h => absurd rfl h
  | [], a :: r, _ => rfl
  | b :: y, r, h => by show (if b = b then lagL (y ++ r) y else [35]) = _; rw [if_pos rfl, lag_pre y r h]
theorem lag_pre' : ∀ (x r : List Nat), r ≠ [] → lagL x (x ++ r) = 45 :: r
  | [], [], h => absurd rfl h
  | [], a :: r, _ => rfl
  | b :: y, r, h => by show (if b = b then lagL y (y ++ r) else [35]) = _; rw [if_pos rfl, lag_pre' y r h]
theorem lag_part : ∀ (x y : List Nat), (∀ r, x ≠ y ++ r) → (∀ r, y ≠ x ++ r) → lagL x y = [35]
  | [], y, _, h => absurd rfl (h y)
  | a :: x, [], h, _ => absurd rfl (h (a :: x))
  | a :: x, b :: y, h1, h2 => by
    show (if a = b then lagL x y else [35]) = _
    by_cases e : a = b
    · subst e
      rw [if_pos rfl]
      exact lag_part x y (fun r q => h1 r (by rw [q]; rfl)) (fun r q => h2 r (by rw [q]; rfl))
    · rw [if_neg e]
theorem lag_drop : ∀ (s : Nat) (x y : List Nat), s ≤ x.length → s ≤ y.length → x.take s = y.take s → lagL x y = lagL (x.drop s) (y.drop s)
  | 0, x, y, _, _, _ => rfl
  | s + 1, [], _, h, _, _ => absurd h (by simp)
  | s + 1, _ :: _, [], _, h, _ => absurd h (by simp)
  | s + 1, a :: x, b :: y, h1, h2, e => by
    have e' : a = b ∧ x.take s = y.take s := by simpa using e
    show (if a = b then lagL x y else [35]) = _
    rw [if_pos e'.1]
    exact lag_drop s x y (by simpa using h1) (by simpa using h2) e'.2
/-- a lag goes on -/
theorem lag_on : ∀ (u v x y : List Nat), onL (lagL u v) x y = lagL (u ++ x) (v ++ y)
  | [], [], x, y => rfl
  | a :: u, [], x, y => rfl
  | [], b :: v, x, y => rfl
  | a :: u, b :: v, x, y => by
    show onL (if a = b then lagL u v else [35]) x y = if a = b then lagL (u ++ x) (v ++ y) else [35]
    by_cases e : a = b
    · rw [if_pos e, if_pos e]; exact lag_on u v x y
    · rw [if_neg e, if_neg e]; rfl
def turnL (l : List Nat) : List Nat := if l.head? = some 43 then 45 :: l.tail else if l.head? = some 45 then 43 :: l.tail else l
theorem lag_turn : ∀ (u v : List Nat), lagL v u = turnL (lagL u v)
  | [], [] => rfl
  | _ :: _, [] => rfl
  | [], _ :: _ => rfl
  | a :: u, b :: v => by
    show (if b = a then lagL v u else [35]) = turnL (if a = b then lagL u v else [35])
    by_cases e : a = b
    · rw [if_pos e, if_pos e.symm]; exact lag_turn u v
    · rw [if_neg e, if_neg (fun q => e q.symm)]; rfl
theorem lag_ne : ∀ (u v : List Nat), lagL u v ≠ []
  | [], [] => by simp [lagL]
  | _ :: _, [] => by simp [lagL]
  | [], _ :: _ => by simp [lagL]
  | a :: u, b :: v => by
    show (if a = b then lagL u v else [35]) ≠ []
    by_cases e : a = b
    · rw [if_pos e]; exact lag_ne u v
    · rw [if_neg e]; simp
theorem lag_len : ∀ (u v : List Nat), (lagL u v).length ≤ u.length + v.length + 1
  | [], [] => by simp [lagL]
  | _ :: _, [] => by simp [lagL]
  | [], _ :: _ => by simp [lagL]
  | a :: u, b :: v => by
    show (if a = b then lagL u v else [35]).length ≤ _
    have := lag_len u v
    by_cases e : a = b
    · rw [if_pos e]; simp only [List.length_cons]; omega
    · rw [if_neg e]; simp only [List.length_cons, List.length_nil]; omega
def strL (l : List Nat) : Str := ⟨l.toArray⟩
theorem tl_str (l : List Nat) : tl (strL l) = l := rfl
theorem str_tl (x : Str) : strL (tl x) = x := str_ext rfl
theorem tl_cut_from (z : Str) (i : Nat) : tl (cutS z (some (i : Int)) none) = (tl z).drop i := by
  show ((((tl z).drop (HT.sIx z.length 0 (some (i : Int)))).take (HT.sIx z.length z.length none - HT.sIx z.length 0 (some (i : Int)))).toArray).toList = _
  rw [HT.sIx_none, HT.sIx_nat]
  have hl : z.length = (tl z).length := len_cps z
  by_cases h : i ≤ z.length
  · rw [Nat.min_eq_left h, List.take_of_length_le (by rw [List.length_drop]; omega)]
  · rw [Nat.min_eq_right (by omega)]
    have e1 : (tl z).drop i = [] := List.drop_eq_nil_of_le (by omega)
    have e2 : (tl z).drop z.length = [] := List.drop_eq_nil_of_le (by omega)
    rw [e1, e2]
    simp
theorem tl_cut_to (z : Str) (i : Nat) : tl (cutS z none (some (i : Int))) = (tl z).take i := by
  show ((((tl z).drop (HT.sIx z.length 0 none)).take (HT.sIx z.length z.length (some (i : Int)) - HT.sIx z.length 0 none)).toArray).toList = _
  rw [HT.sIx_none, HT.sIx_nat, List.drop_zero, Nat.sub_zero]
  have hl : z.length = (tl z).length := len_cps z
  by_cases h : i ≤ z.length
  · rw [Nat.min_eq_left h]
  · rw [Nat.min_eq_right (by omega), List.take_of_length_le (by omega), List.take_of_length_le (by omega)]
theorem tl_cut_mid (z : Str) (i j : Nat) : tl (cutS z (some (i : Int)) (some (j : Int))) = ((tl z).drop i).take (j - i) := by
  show ((((tl z).drop (HT.sIx z.length 0 (some (i : Int)))).take (HT.sIx z.length z.length (some (j : Int)) - HT.sIx z.length 0 (some (i : Int)))).toArray).toList = _
  rw [HT.sIx_nat, HT.sIx_nat]
  have hl : z.length = (tl z).length := len_cps z
  by_cases h : i ≤ z.length
  · rw [Nat.min_eq_left h]
    by_cases h2 : j ≤ z.length
    · rw [Nat.min_eq_left h2]
    · rw [Nat.min_eq_right (by omega), List.take_of_length_le (by rw [List.length_drop]; omega), List.take_of_length_le (by rw [List.length_drop]; omega)]
  · have hi : min i z.length = z.length := Nat.min_eq_right (by omega)
    rw [hi]
    have e1 : (tl z).drop i = [] := List.drop_eq_nil_of_le (by omega)
    have e2 : (tl z).drop z.length = [] := List.drop_eq_nil_of_le (by omega)
    rw [e1, e2]
    simp
end K1

/-! Br3 -/
namespace K1
open PySem L2
section
variable {K : PySem.W.Frag} {σ : L2.St} {H : Hp} {Q : VK} {x y v : V} {vs : List V}
theorem r_eq (h : scal x y = true) (q : Q (.bl (decide (x = y))) H) : rEq x y H Q := ⟨h, q⟩
theorem r_ne (h : scal x y = true) (q : Q (.bl (!decide (x = y))) H) : rNe x y H Q := ⟨h, q⟩
theorem r_gnil {R : L2.St → Hp → Prop} (q : R σ H) : gNil [] σ H R := ⟨rfl, q⟩
theorem r_gcons {t : TG} {u : TGs} {R : L2.St → Hp → Prop} (q : t v σ H fun σ' H' => u vs σ' H' R) : gCons t u (v :: vs) σ H R := ⟨v, vs, rfl, q⟩
theorem r_isi {c : V} {t u : Value} {b : Bool} (hc : ClsV c u) (ht : TyX K H x t) (hk : PySem.W.kitOne K t u = some b) (q : Q (.bl b) H) : rIsi K [x, c] H Q := ⟨x, c, t, u, b, rfl, hc, ht, hk, q⟩
theorem r_all {a : Addr} {bs : List Bool} (h : SqL K H a (bs.map V.bl)) (q : Q (.bl (bs.all id)) H) : rAll K [.ref a] H Q := ⟨a, bs, rfl, h, q⟩
theorem r_yes {p : Prop} {dp : Decidable p} {A B : Prop} (h : p) (q : A) : if decide p = true then A else B := by
  rw [decide_eq_true h, if_pos rfl]; exact q
theorem r_no {p : Prop} {dp : Decidable p} {A B : Prop} (h : ¬ p) (q : B) : if decide p = true then A else B := by
  rw [decide_eq_false h, if_neg Bool.false_ne_true]; exact q
end
end K1

/-! K01D -/
local macro_rules | `(tactic| walk_at "go") => `(tactic| repeat (first
  | with_reducible apply K1.r_seq
  | with_reducible apply K1.r_asg
  | ((with_reducible apply K1.r_name); (try dsimp only [List.set]))
  | ((with_reducible apply K1.r_var); (focus rfl))
  | with_reducible apply K1.r_c
  | with_reducible apply K1.r_op
  | with_reducible apply K1.r_un
  | with_reducible apply K1.r_I0
  | with_reducible apply K1.r_test
  | with_reducible apply K1.r_if
  | with_reducible apply K1.r_ifs
  | with_reducible apply K1.r_iteT
  | with_reducible apply K1.r_iteF
  | with_reducible apply K1.r_and
  | with_reducible apply K1.r_or
  | with_reducible apply K1.r_not
  | with_reducible apply K1.r_tB
  | with_reducible apply K1.r_andV
  | with_reducible apply K1.r_orV
  | with_reducible apply K1.r_notV
  | with_reducible apply K1.r_cb
  | with_reducible apply K1.r_cons
  | with_reducible apply K1.r_nil
  | with_reducible apply K1.r_ret
  | with_reducible apply K1.r_next
  | with_reducible apply K1.r_drop
  | with_reducible apply K1.r_lst
  | with_reducible apply K1.r_tup
  | with_reducible apply K1.r_call
  | with_reducible apply K1.r_gsub
  | with_reducible apply K1.r_for
  | with_reducible apply K1.r_bm
  | with_reducible apply K1.r_bm0
  | with_reducible apply K1.r_sl
  | with_reducible apply K1.r_noPart
  | with_reducible apply K1.r_part
  | with_reducible apply K1.r_iStr
  | with_reducible apply K1.r_iRng1
  | with_reducible apply K1.r_m1
  | ((with_reducible apply K1.r_eq); (focus rfl))
  | ((with_reducible apply K1.r_ne); (focus rfl))
  | with_reducible apply K1.r_gnil
  | with_reducible apply K1.r_gcons
  | refine ⟨_, rfl, ?_⟩
  | refine ⟨⟨_, rfl⟩, ?_⟩
  | refine Or.inl ⟨_, rfl, ?_⟩
  | dsimp only))

namespace K1
open PySem L2
abbrev sLagOf : Stmt := top 31
abbrev sLagOn : Stmt := top 32
abbrev sLawLag : Stmt := top 41
abbrev sTurned : Stmt := top 48
theorem scLagOf : FnScope ["first", "second"] ["first", "second"] (defScope sLagOf) := ⟨rfl, rfl, rfl, by decide +kernel, rfl, by decide +kernel, by decide +kernel⟩
theorem scLagOn : FnScope ["lag", "first", "second", "rest"] ["lag", "first", "second"] (defScope sLagOn) := ⟨rfl, rfl, rfl, by decide +kernel, rfl, by decide +kernel, by decide +kernel⟩
theorem scLawLag : FnScope ["_law_first", "_law_second", "_law_same"] ["_law_first", "_law_second"] (defScope sLawLag) := ⟨rfl, rfl, rfl, by decide +kernel, rfl, by decide +kernel, by decide +kernel⟩
theorem scTurned : FnScope ["_law_lag"] ["_law_lag"] (defScope sTurned) := ⟨rfl, rfl, rfl, by decide +kernel, rfl, by decide +kernel, by decide +kernel⟩
def spLagOf : Sp := fun vs H Q _ => ∃ x y : Str, vs = [.str x, .str y] ∧ x.length ≤ 100000 ∧ y.length ≤ 100000 ∧ Q (.str (strL (lagL (tl x) (tl y)))) H
def spLagOn : Sp := fun vs H Q _ => ∃ l x y : Str, vs = [.str l, .str x, .str y] ∧ l.length ≤ 50000 ∧ x.length ≤ 50000 ∧ y.length ≤ 50000 ∧ Q (.str (strL (onL (tl l) (tl x) (tl y)))) H
def spTurned : Sp := fun vs H Q _ => ∃ l : Str, vs = [.str l] ∧ tl l ≠ [] ∧ l.length ≤ 100000 ∧ Q (.str (strL (turnL (tl l)))) H
theorem big_line {n : Nat} (h : n ≤ 1000000) : n ≤ sizeLine := by rw [sizeLine_eq]; omega
theorem slc (z : Str) (i : Nat) (r : List Nat) (e : tl z = r) : cutS z (some (i : Int)) none = strL (r.drop i) := str_ext (by rw [tl_cut_from, e]; rfl)
theorem plus_str (c : Nat) (r : List Nat) : (⟨#[c]⟩ : Str) ++ strL r = strL (c :: r) := str_ext (by show tl _ = _; rw [tl, app_cps]; rfl)
section
variable {P : Program} {w : World} {K : PySem.W.Frag} {mg : Str → Option Value} {base : Heap}
theorem ok_lagOf {f : Addr} {fd : FuncData} (F : Fun K "lag_of" "lag_of" sLagOf f fd) (B : Bl mg) : FnOk P w K mg base CX0 1 f fd ["first", "second"] spLagOf := by
  refine F.ok scLagOf (fun vs H Q E h => ?_) (fun cdv A outer s H vs Q E hr h => ?_)
  · obtain ⟨x, y, rfl, _⟩ := h
    rfl
  · obtain ⟨x, y, rfl, hx, hy, k⟩ := h
    refine ⟨_, pss_cons (ps_if (pt_cmpR op_eq (pv 0) (pv 1) (nomark _)) (pss_one (ps_ret pe_str)) pss_nil)
      (pss_cons (ps_if (pt_val (pe_m1 PySem.F.slot_str_startswith PySem.F.type_str_startswith mt_startswith (pv 0) (pv 1))) (pss_one (ps_ret (pe_op op_add_str pe_str (pe_slice sl_str (pv 0) (po_some (pe_callB call_len (by rfl) B.len PySem.boot_len (pa_cons (pv 1) pa_nil))) po_none)))) pss_nil)
      (pss_cons (ps_if (pt_val (pe_m1 PySem.F.slot_str_startswith PySem.F.type_str_startswith mt_startswith (pv 1) (pv 0))) (pss_one (ps_ret (pe_op op_add_str pe_str (pe_slice sl_str (pv 1) (po_some (pe_callB call_len (by rfl) B.len PySem.boot_len (pa_cons (pv 0) pa_nil))) po_none)))) pss_nil)
      (pss_one (ps_ret pe_str)))), ?_⟩
    try dsimp only [cxOf, Cx.nox, Cx.wish]
    have lx : x.length = (tl x).length := len_cps x
    have ly : y.length = (tl y).length := len_cps y
    walk_at "go"
    refine r_ite (fun h => ?_) (fun h => ?_)
    · obtain rfl : x = y := V.str.inj h
      walk_at "go"
      rw [lag_self] at k
      exact k
    walk_at "go"
    refine ⟨x, y, rfl, rfl, _, rfl, ?_⟩
    refine r_iteB (fun h1 => ?_) (fun h1 => ?_)
    · obtain ⟨r, er⟩ := (starts_app x y).mp h1
      walk_at "go"
      refine ⟨_, _, rfl, lenS (big_line (by omega)), ?_⟩
      walk_at "go"
      refine ⟨big_line (by omega), ?_⟩
      have ec : cutS x (some (y.length : Int)) none = strL r := by
        rw [slc x y.length _ er, ly, List.drop_left]
      rw [ec]
      have hr0 : r ≠ [] := fun q => h (by rw [q, List.append_nil] at er; rw [str_ext er])
      rw [er, lag_pre _ _ hr0, ← plus_str] at k
      refine ⟨_, _, rfl, rfl, big_line ?_, k⟩
      have : (tl x).length = (tl y).length + r.length := by rw [er, List.length_append]
      show 1 + (strL r).length ≤ _
      rw [len_cps]
      show 1 + r.length ≤ 1000000
      omega
    walk_at "go"
    refine ⟨y, x, rfl, rfl, _, rfl, ?_⟩
    refine r_iteB (fun h2 => ?_) (fun h2 => ?_)
    · obtain ⟨r, er⟩ := (starts_app y x).mp h2
      walk_at "go"
      refine ⟨_, _, rfl, lenS (big_line (by omega)), ?_⟩
      walk_at "go"
      refine ⟨big_line (by omega), ?_⟩
      have ec : cutS y (some (x.length : Int)) none = strL r := by
        rw [slc y x.length _ er, lx, List.drop_left]
      rw [ec]
      have hr0 : r ≠ [] := fun q => h (by rw [q, List.append_nil] at er; rw [str_ext er])
      rw [er, lag_pre' _ _ hr0, ← plus_str] at k
      refine ⟨_, _, rfl, rfl, big_line ?_, k⟩
      have : (tl y).length = (tl x).length + r.length := by rw [er, List.length_append]
      show 1 + (strL r).length ≤ _
      rw [len_cps]
      show 1 + r.length ≤ 1000000
      omega
    walk_at "go"
    rw [lag_part (tl x) (tl y)] at k
    · exact k
    · intro r q
      have := (starts_app x y).mpr ⟨r, q⟩
      rw [h1] at this
      cases this
    · intro r q
      have := (starts_app y x).mpr ⟨r, q⟩
      rw [h2] at this
      cases this

abbrev OLagOf (P : Program) (w : World) (K : PySem.W.Frag) (mg : Str → Option Value) (base : Heap) : Prop := Own P w K mg base "lag_of" 1 ["first", "second"] spLagOf
theorem len_tl' (x : Str) : x.length = (tl x).length := len_cps x
theorem len_str (l : List Nat) : (strL l).length = l.length := by rw [len_tl']; rfl
theorem add_str (a b : Str) : a ++ b = strL (tl a ++ tl b) := str_ext (by show tl (a ++ b) = _; rw [tl, app_cps]; rfl)
theorem ok_lagOn {f : Addr} {fd : FuncData} (F : Fun K "lag_on" "lag_on" sLagOn f fd) (B : Bl mg) (Ol : OLagOf P w K mg base) : FnOk P w K mg base CX0 2 f fd ["lag", "first", "second"] spLagOn := by
  refine F.ok scLagOn (fun vs H Q E h => ?_) (fun cdv A outer s H vs Q E hr h => ?_)
  · obtain ⟨l, x, y, rfl, _⟩ := h
    rfl
  · obtain ⟨l, x, y, rfl, hl, hx, hy, k⟩ := h
    refine ⟨_, pss_cons (ps_if (pt_cmpR op_eq (pv 0) pe_str (nomark _)) (pss_one (ps_ret (pv 0))) pss_nil)
      (pss_cons (ps_set (i := 3) scLagOn.nd rfl (Or.inl rfl) (pe_slice sl_str (pv 0) (po_some pe_int) po_none))
      (pss_cons (ps_if (pt_val (pe_m1 PySem.F.slot_str_startswith PySem.F.type_str_startswith mt_startswith (pv 0) pe_str)) (pss_one (ps_ret (pe_own Ol hr (pa_cons (pv 1) (pa_cons (pe_op op_add_str (pv 3) (pv 2)) pa_nil))))) pss_nil)
      (pss_one (ps_ret (pe_own Ol hr (pa_cons (pe_op op_add_str (pv 3) (pv 1)) (pa_cons (pv 2) pa_nil))))))), ?_⟩
    try dsimp only [cxOf, Cx.nox, Cx.wish]
    have ll := len_tl' l
    have lx := len_tl' x
    have ly := len_tl' y
    walk_at "go"
    refine r_ite (fun h => ?_) (fun h => ?_)
    · obtain rfl : l = "#" := V.str.inj h
      walk_at "go"
      exact k
    walk_at "go"
    refine ⟨big_line (by omega), ?_⟩
    have h35 : tl l ≠ [35] := fun q => h (by rw [show l = "#" from str_ext q])
    have ec : cutS l (some (1 : Int)) none = strL (tl l).tail := by
      have := slc l 1 _ rfl
      rw [show ((1 : Nat) : Int) = 1 from rfl] at this
      rw [this]
      cases tl l <;> rfl
    rw [ec]
    have lt : (strL (tl l).tail).length ≤ 50000 := by rw [len_str, List.length_tail]; omega
    have ls : (strL (tl l).tail).length = (tl l).tail.length := len_str _
    walk_at "go"
    refine ⟨_, _, rfl, rfl, _, rfl, ?_⟩
    have hon : onL (tl l) (tl x) (tl y) = if (tl l).head? = some 45 then lagL (tl x) ((tl l).tail ++ tl y) else lagL ((tl l).tail ++ tl x) (tl y) := by
      unfold onL; rw [if_neg h35]
    rw [hon] at k
    have hst : Txt.startswith l "-" = true ↔ (tl l).head? = some 45 := by
      rw [starts_app]
      constructor
      · rintro ⟨r, e⟩; rw [e]; rfl
      · intro e
        cases q : tl l with
        | nil => rw [q] at e; cases e
        | cons c r => rw [q] at e; exact ⟨r, by rw [show c = 45 from Option.some.inj e]; rfl⟩
    refine r_iteB (fun h1 => ?_) (fun h1 => ?_)
    · rw [if_pos (hst.mp h1)] at k
      walk_at "go"
      refine ⟨_, _, rfl, rfl, big_line (by omega), ?_⟩
      walk_at "go"
      refine ⟨_, _, rfl, by omega, ?_, ?_⟩
      · rw [add_str, len_str, List.length_append, tl_str]; omega
      · rw [add_str, tl_str, tl_str]; exact k
    · have h1' : ¬ (tl l).head? = some 45 := fun q => by rw [hst.mpr q] at h1; cases h1
      rw [if_neg h1'] at k
      walk_at "go"
      refine ⟨_, _, rfl, rfl, big_line (by omega), ?_⟩
      walk_at "go"
      refine ⟨_, _, rfl, ?_, by omega, ?_⟩
      · rw [add_str, len_str, List.length_append, tl_str]; omega
      · rw [add_str, tl_str, tl_str]; exact k
theorem ok_turned {f : Addr} {fd : FuncData} (F : Fun K "_law_turned" "_law_turned" sTurned f fd) (B : Bl mg) : FnOk P w K mg base CX0 1 f fd ["_law_lag"] spTurned := by
  refine F.ok scTurned (fun vs H Q E h => ?_) (fun cdv A outer s H vs Q E hr h => ?_)
  · obtain ⟨l, rfl, _⟩ := h
    rfl
  · obtain ⟨l, rfl, hne, hl, k⟩ := h
    refine ⟨_, pss_cons (ps_if (pt_cmpR op_eq (pe_ix ix_str (pv 0) pe_int (fun _ _ => rfl)) pe_str (nomark _)) (pss_one (ps_ret (pe_op op_add_str pe_str (pe_slice sl_str (pv 0) (po_some pe_int) po_none)))) pss_nil)
      (pss_one (ps_ret (pe_ifExp (pt_cmpR op_eq (pe_ix ix_str (pv 0) pe_int (fun _ _ => rfl)) pe_str (nomark _)) (pe_op op_add_str pe_str (pe_slice sl_str (pv 0) (po_some pe_int) po_none)) (pv 0)))), ?_⟩
    try dsimp only [cxOf, Cx.nox, Cx.wish]
    have ll := len_tl' l
    obtain ⟨c, r, e⟩ : ∃ c r, tl l = c :: r := by
      cases q : tl l with
      | nil => exact absurd q hne
      | cons c r => exact ⟨c, r, rfl⟩
    have hat : atI l.cps.toList 0 = some c := by
      rw [show l.cps.toList = c :: r from e]
      exact atI_nat (j := 0) rfl
    have ec : cutS l (some (1 : Int)) none = strL r := by
      have := slc l 1 _ rfl
      rw [show ((1 : Nat) : Int) = 1 from rfl] at this
      rw [this, e]; rfl
    have lr : (strL r).length + 1 = l.length := by rw [len_str, ll, e]; rfl
    have ht : turnL (tl l) = if c = 43 then 45 :: r else if c = 45 then 43 :: r else tl l := by
      rw [e]; unfold turnL
      simp
    rw [ht] at k
    walk_at "go"
    refine r_ixS (big_line (by omega)) hat ?_
    walk_at "go"
    refine r_ite (fun h => ?_) (fun h => ?_)
    · rw [if_pos (show c = 43 from one_inj (V.str.inj h))] at k
      walk_at "go"
      refine ⟨big_line (by omega), ?_⟩
      rw [ec]
      refine ⟨_, _, rfl, rfl, big_line (by show 1 + (strL r).length ≤ _; omega), ?_⟩
      have := plus_str 45 r
      rw [← this] at k
      exact k
    have h' : ¬ c = 43 := fun q => h (by rw [q]; rfl)
    rw [if_neg h'] at k
    walk_at "go"
    refine r_ixS (big_line (by omega)) hat ?_
    walk_at "go"
    refine r_ite (fun h2 => ?_) (fun h2 => ?_)
    · rw [if_pos (show c = 45 from one_inj (V.str.inj h2))] at k
      walk_at "go"
      refine ⟨big_line (by omega), ?_⟩
      rw [ec]
      refine ⟨_, _, rfl, rfl, big_line (by show 1 + (strL r).length ≤ _; omega), ?_⟩
      have := plus_str 43 r
      rw [← this] at k
      exact k
    · have h2' : ¬ c = 45 := fun q => h2 (by rw [q]; rfl)
      rw [if_neg h2', str_tl] at k
      walk_at "go"
      exact k

theorem ok_lawLag {f : Addr} {fd : FuncData} (F : Fun K "_law_lag_of" "_law_lag_of" sLawLag f fd) (B : Bl mg) : FnOk P w K mg base CX0 1 f fd ["_law_first", "_law_second"] spLagOf := by
  refine F.ok scLawLag (fun vs H Q E h => ?_) (fun cdv A outer s H vs Q E hr h => ?_)
  · obtain ⟨x, y, rfl, _⟩ := h
    rfl
  · obtain ⟨x, y, rfl, hx, hy, k⟩ := h
    have lenOf : ∀ (i : Nat), i = i := fun _ => rfl
    refine ⟨_, pss_cons (ps_set (i := 2) scLawLag.nd rfl (Or.inl rfl) pe_int)
      (pss_cons (ps_while PassesOwn.never (PW.pt (pw_and (pt_cmpR op_lt (pv 2) (pe_callB call_len (by rfl) B.len PySem.boot_len (pa_cons (pv 0) pa_nil)) (nomark _))
          (pw_and (pt_cmpR op_lt (pv 2) (pe_callB call_len (by rfl) B.len PySem.boot_len (pa_cons (pv 1) pa_nil)) (nomark _))
          (pw_and1 (pt_cmpR op_eq (pe_ix ix_str (pv 0) (pv 2) (fun _ _ => rfl)) (pe_ix ix_str (pv 1) (pv 2) (fun _ _ => rfl)) (nomark _))))))
        (pss_one (ps_set (i := 2) scLawLag.nd rfl (Or.inl rfl) (pe_op op_add (pv 2) pe_int))))
      (pss_cons (ps_if (PW.pt (pw_and (pt_cmpR op_lt (pv 2) (pe_callB call_len (by rfl) B.len PySem.boot_len (pa_cons (pv 0) pa_nil)) (nomark _))
          (pw_and1 (pt_cmpR op_lt (pv 2) (pe_callB call_len (by rfl) B.len PySem.boot_len (pa_cons (pv 1) pa_nil)) (nomark _))))) (pss_one (ps_ret pe_str)) pss_nil)
      (pss_cons (ps_if (pt_cmpR op_lt (pv 2) (pe_callB call_len (by rfl) B.len PySem.boot_len (pa_cons (pv 0) pa_nil)) (nomark _)) (pss_one (ps_ret (pe_op op_add_str pe_str (pe_slice sl_str (pv 0) (po_some (pv 2)) po_none)))) pss_nil)
      (pss_one (ps_ret (pe_ifExp (pt_cmpR op_lt (pv 2) (pe_callB call_len (by rfl) B.len PySem.boot_len (pa_cons (pv 1) pa_nil)) (nomark _)) (pe_op op_add_str pe_str (pe_slice sl_str (pv 1) (po_some (pv 2)) po_none)) pe_str)))))), ?_⟩
    try dsimp only [cxOf, Cx.nox, Cx.wish]
    have lx := len_tl' x
    have ly := len_tl' y
    walk_at "go"
    refine ⟨fun m σ H' => ∃ t : Nat, σ = [some (.str x), some (.str y), some (.int t)] ∧ H' = H ∧ t ≤ x.length ∧ t ≤ y.length ∧ (tl x).take t = (tl y).take t ∧ m = x.length - t, ⟨_, 0, rfl, rfl, Nat.zero_le _, Nat.zero_le _, rfl, rfl⟩, ?_⟩
    rintro m σ H' ⟨t, rfl, rfl, t1, t2, te, rfl⟩
    have ex : x.length ≤ sizeLine := big_line (by omega)
    have ey : y.length ≤ sizeLine := big_line (by omega)
    -- behind the loop
    have fin : (∀ h : (t : Int) < x.length ∧ (t : Int) < y.length, (tl x)[t]? ≠ (tl y)[t]?) → (Q (.str (if (t : Int) < x.length ∧ (t : Int) < y.length then "#" else if (t : Int) < x.length then strL (43 :: (tl x).drop t) else if (t : Int) < y.length then strL (45 :: (tl y).drop t) else "=")) H' ) := by
      intro hne
      have ed := lag_drop t (tl x) (tl y) (by omega) (by omega) te
      rw [ed] at k
      by_cases c1 : (t : Int) < x.length
      · by_cases c2 : (t : Int) < y.length
        · rw [if_pos ⟨c1, c2⟩]
          have q1 : (tl x).drop t = (tl x)[t]'(by omega) :: (tl x).drop (t + 1) := List.drop_eq_getElem_cons (by omega)
          have q2 : (tl y).drop t = (tl y)[t]'(by omega) :: (tl y).drop (t + 1) := List.drop_eq_getElem_cons (by omega)
          rw [q1, q2] at k
          have nn : ¬ (tl x)[t]'(by omega) = (tl y)[t]'(by omega) := fun q => hne ⟨c1, c2⟩ (by rw [List.getElem?_eq_getElem (by omega), List.getElem?_eq_getElem (by omega), q])
          unfold lagL at k
          rw [if_neg nn] at k
          exact k
        · rw [if_neg (fun q => c2 q.2), if_pos c1]
          have q2 : (tl y).drop t = [] := List.drop_eq_nil_of_le (by omega)
          have q1 : (tl x).drop t ≠ [] := fun q => by have := List.drop_eq_nil_iff.mp q; omega
          rw [q2] at k
          have := lag_pre [] _ q1
          rw [List.nil_append] at this
          rw [this] at k
          exact k
      · rw [if_neg (fun q => c1 q.1), if_neg c1]
        have q1 : (tl x).drop t = [] := List.drop_eq_nil_of_le (by omega)
        by_cases c2 : (t : Int) < y.length
        · rw [if_pos c2]
          have q2 : (tl y).drop t ≠ [] := fun q => by have := List.drop_eq_nil_iff.mp q; omega
          rw [q1] at k
          have := lag_pre' [] _ q2
          rw [List.nil_append] at this
          rw [this] at k
          exact k
        · rw [if_neg c2]
          have q2 : (tl y).drop t = [] := List.drop_eq_nil_of_le (by omega)
          rw [q1, q2] at k
          exact k
    walk_at "go"
    refine ⟨_, _, rfl, lenS ex, ?_⟩
    walk_at "go"
    have sx : ∀ z : Str, z.length ≤ 100000 → (t : Int) < z.length → ∃ c, (tl z)[t]? = some c ∧ atI z.cps.toList (t : Int) = some c := fun z _ hz => by
      have lz := len_tl' z
      have : t < (tl z).length := by omega
      exact ⟨(tl z)[t], List.getElem?_eq_getElem this, atI_nat (List.getElem?_eq_getElem this)⟩
    have cutx : cutS x (some (t : Int)) none = strL ((tl x).drop t) := slc x t _ rfl
    have cuty : cutS y (some (t : Int)) none = strL ((tl y).drop t) := slc y t _ rfl
    have bx : 1 + (strL ((tl x).drop t)).length ≤ sizeLine := big_line (by rw [len_str, List.length_drop]; omega)
    have by_ : 1 + (strL ((tl y).drop t)).length ≤ sizeLine := big_line (by rw [len_str, List.length_drop]; omega)
    refine r_ite (fun c1 => ?_) (fun c1 => ?_)
    · walk_at "go"
      refine ⟨_, _, rfl, lenS ey, ?_⟩
      walk_at "go"
      refine r_ite (fun c2 => ?_) (fun c2 => ?_)
      · obtain ⟨a, ea, aa⟩ := sx x hx c1
        obtain ⟨b, eb, ab⟩ := sx y hy c2
        walk_at "go"
        refine r_ixS ex aa ?_
        walk_at "go"
        refine r_ixS ey ab ?_
        walk_at "go"
        refine r_ite (fun c3 => ?_) (fun c3 => ?_)
        · have eab : a = b := one_inj (V.str.inj c3)
          refine ⟨fun σ' H2 => ∃ t' : Nat, σ' = [some (.str x), some (.str y), some (.int t')] ∧ H2 = H' ∧ t' ≤ x.length ∧ t' ≤ y.length ∧ (tl x).take t' = (tl y).take t' ∧ t' = t + 1, ?_, ?_⟩
          · rintro σ' H2 ⟨t', e1, e2, e3, e4, e5, e6⟩
            exact ⟨x.length - t', by omega, t', e1, e2, e3, e4, e5, rfl⟩
          · walk_at "go"
            refine ⟨rfl, by omega, by omega, ?_, rfl⟩
            rw [List.take_succ, List.take_succ, te, ea, eb, eab]
        · have fq := fin (fun _ q => c3 (by rw [ea, eb] at q; rw [Option.some.inj q]))
          rw [if_pos ⟨c1, c2⟩] at fq
          walk_at "go"
          refine ⟨_, _, rfl, lenS ex, ?_⟩
          walk_at "go"
          refine r_yes c1 ?_
          walk_at "go"
          refine ⟨_, _, rfl, lenS ey, ?_⟩
          walk_at "go"
          refine r_yes c2 ?_
          walk_at "go"
          exact fq
      · have fq := fin (fun q => absurd q.2 c2)
        rw [if_neg (fun q => c2 q.2), if_pos c1, ← plus_str, ← cutx] at fq
        walk_at "go"
        refine ⟨_, _, rfl, lenS ex, ?_⟩
        walk_at "go"
        refine r_yes c1 ?_
        walk_at "go"
        refine ⟨_, _, rfl, lenS ey, ?_⟩
        walk_at "go"
        refine r_no c2 ?_
        walk_at "go"
        refine ⟨_, _, rfl, lenS ex, ?_⟩
        walk_at "go"
        refine r_yes c1 ?_
        walk_at "go"
        refine ⟨ex, ?_⟩
        refine ⟨_, _, rfl, rfl, ?_, fq⟩
        rw [cutx]; exact bx
    · have fq := fin (fun q => absurd q.1 c1)
      rw [if_neg (fun q => c1 q.1), if_neg c1] at fq
      walk_at "go"
      refine ⟨_, _, rfl, lenS ex, ?_⟩
      walk_at "go"
      refine r_no c1 ?_
      walk_at "go"
      refine ⟨_, _, rfl, lenS ex, ?_⟩
      walk_at "go"
      refine r_no c1 ?_
      walk_at "go"
      refine ⟨_, _, rfl, lenS ey, ?_⟩
      walk_at "go"
      refine r_ite (fun c2 => ?_) (fun c2 => ?_)
      · rw [if_pos c2, ← plus_str, ← cuty] at fq
        walk_at "go"
        refine ⟨ey, ?_⟩
        refine ⟨_, _, rfl, rfl, ?_, fq⟩
        rw [cuty]; exact by_
      · rw [if_neg c2] at fq
        walk_at "go"
        exact fq
end
end K1

/-! K01E -/

namespace K1
open PySem L2
abbrev sLags : Stmt := top 49
abbrev nLags : List Str := ["_law_pieces", "_law_first", "_law_second", "_law_lag", "_law_one", "_law_two", "_law_due", "_law_told", "_law_each"]
theorem scLags : FnScope nLags ["_law_pieces"] (defScope sLags) := ⟨rfl, rfl, rfl, by decide +kernel, rfl, by decide +kernel, by decide +kernel⟩
abbrev OLagOn (P : Program) (w : World) (K : PySem.W.Frag) (mg : Str → Option Value) (base : Heap) : Prop := Own P w K mg base "lag_on" 2 ["lag", "first", "second"] spLagOn
abbrev OLawLag (P : Program) (w : World) (K : PySem.W.Frag) (mg : Str → Option Value) (base : Heap) : Prop := Own P w K mg base "_law_lag_of" 1 ["_law_first", "_law_second"] spLagOf
abbrev OTurned (P : Program) (w : World) (K : PySem.W.Frag) (mg : Str → Option Value) (base : Heap) : Prop := Own P w K mg base "_law_turned" 1 ["_law_lag"] spTurned
/-- pairs of pieces -/
def PiecesAt (K : PySem.W.Frag) (H : Hp) (p : Addr) (es : List (Addr × Str × Str)) : Prop :=
  SqL K H p (es.map fun e => V.ref e.1) ∧ es.length ≤ 100 ∧ ∀ e ∈ es, H e.1 = some (.lst [.str e.2.1, .str e.2.2]) ∧ e.2.1.length ≤ 100 ∧ e.2.2.length ≤ 100
def spLags (K : PySem.W.Frag) : Sp := fun vs H Q _ => ∃ (p : Addr) (es : List (Addr × Str × Str)), vs = [.ref p] ∧ PiecesAt K H p es ∧ ∀ H', Same H H' → Q (.bl true) H'
section
variable {P : Program} {w : World} {K : PySem.W.Frag} {mg : Str → Option Value} {base : Heap}
theorem ok_lags {f : Addr} {fd : FuncData} (F : Fun K "_law_lags" "_law_lags" sLags f fd) (B : Bl mg) (Oo : OLagOf P w K mg base) (On : OLagOn P w K mg base) (Ow : OLawLag P w K mg base) (Ot : OTurned P w K mg base) :
    FnOk P w K mg base CX0 3 f fd ["_law_pieces"] (spLags K) := by
  refine F.ok scLags (fun vs H Q E h => ?_) (fun cdv A outer s H vs Q E hr h => ?_)
  · obtain ⟨p, es, rfl, _⟩ := h
    rfl
  · obtain ⟨p, es, rfl, ⟨hp, hel, hes⟩, k⟩ := h
    have hr1 : Room 1 _ := hr.mono (by decide)
    refine ⟨_, (pss_cons (ps_set (i := 1) scLags.nd rfl (Or.inl rfl) pe_str) (pss_cons (ps_set (i := 2) scLags.nd rfl (Or.inl rfl) pe_str) (pss_cons (ps_set (i := 3) scLags.nd rfl (Or.inl rfl) pe_str) (pss_cons (ps_for PassesOwn.never rfl (pi_list (pv 0)) (pg_unl rfl (pgs_cons (pg_name (i := 4) scLags.nd rfl (Or.inl rfl)) (pgs_cons (pg_name (i := 5) scLags.nd rfl (Or.inl rfl)) pgs_nil))) (pss_cons (ps_set (i := 1) scLags.nd rfl (Or.inl rfl) (pe_op op_add_str (pv 1) (pv 4))) (pss_cons (ps_set (i := 2) scLags.nd rfl (Or.inl rfl) (pe_op op_add_str (pv 2) (pv 5))) (pss_cons (ps_set (i := 6) scLags.nd rfl (Or.inr rfl) (pe_own Ow hr1 (pa_cons (pv 1) (pa_cons (pv 2) pa_nil)))) (pss_cons (ps_set (i := 7) scLags.nd rfl (Or.inl rfl) (pe_lst (pa_cons (pe_own On hr (pa_cons (pv 3) (pa_cons (pv 4) (pa_cons (pv 5) pa_nil)))) (pa_cons (pe_own On hr (pa_cons (pe_own On hr (pa_cons (pv 3) (pa_cons (pv 4) (pa_cons pe_str pa_nil)))) (pa_cons pe_str (pa_cons (pv 5) pa_nil)))) (pa_cons (pe_own On hr (pa_cons (pe_own On hr (pa_cons (pv 3) (pa_cons pe_str (pa_cons (pv 5) pa_nil)))) (pa_cons (pv 4) (pa_cons pe_str pa_nil)))) pa_nil))))) (pss_cons (ps_set (i := 7) scLags.nd rfl (Or.inl rfl) (pe_op op_cat (pv 7) (pe_lst (pa_cons (pe_own Oo hr1 (pa_cons (pv 1) (pa_cons (pv 2) pa_nil))) (pa_cons (pe_own On hr (pa_cons pe_str (pa_cons (pv 1) (pa_cons (pv 2) pa_nil)))) pa_nil))))) (pss_cons (ps_if (pt_not (pt_val (pe_callB (cr_all rfl) (by rfl) B.all (by decide +kernel) (pa_cons (pe_lc (own := [("_law_each", 8)]) (g := gName 8) (tt := tYes) rfl scLags.nd (pi_list (pv 7)) (blkOk_by (N := nLags) (sc := defScope sLags) (by decide +kernel)) (fun _ _ _ _ _ => (pg_name (i := 8) scLags.nd rfl (Or.inl rfl))) (fun _ _ _ _ _ => pts_nil) (fun _ _ _ _ _ => (pe_and (pe_callB (id := "isinstance") (r := rIsi K) call_isi (by rfl) B.isin (by decide +kernel) (pa_cons (pv 8) (pa_cons (pe_bltn (v := .ty "str") (by rfl) B.str (by decide +kernel) rfl) pa_nil))) (pe_one (pe_cmpR op_eq (pv 8) (pv 6) (nomark _)))))) pa_nil)))) (pss_one (ps_ret pe_bl)) pss_nil) (pss_cons (ps_if (PW.pt (pw_or (pt_cmpR op_ne (pe_own Oo hr1 (pa_cons (pv 2) (pa_cons (pv 1) pa_nil))) (pe_own Ot hr1 (pa_cons (pv 6) pa_nil)) (nomark _)) (pw_or1 (pt_cmpR op_ne (pe_own On hr (pa_cons (pv 6) (pa_cons pe_str (pa_cons pe_str pa_nil)))) (pv 6) (nomark _))))) (pss_one (ps_ret pe_bl)) pss_nil) (pss_one (ps_set (i := 3) scLags.nd rfl (Or.inl rfl) (pe_ix ix_list (pv 7) pe_int (fun _ _ => rfl)))))))))))) (pss_one (ps_ret pe_bl)))))), ?_⟩
    try dsimp only [cxOf, Cx.nox, Cx.wish]
    walk_at "go"
    refine ⟨⟨_, hp⟩, fr_list (K := K) (a := p) (xs := es.map fun e => V.ref e.1) (fun i σ H' => ∃ (x y : Str) (o4 o5 o6 o7 : Option V), σ = [some (.ref p), some (.str x), some (.str y), some (.str (strL (lagL (tl x) (tl y)))), o4, o5, o6, o7, none] ∧
        x.length ≤ 100 * i ∧ y.length ≤ 100 * i ∧ Same H H') ⟨"", "", none, none, none, none, rfl, Nat.zero_le _, Nat.zero_le _, Same.refl _⟩ (fun i σ H' _ ⟨_, _, _, _, _, _, _, _, _, sm⟩ => sm.seq hp) ?_ ?_⟩
    rotate_left
    · rintro σ H' ⟨x, y, o4, o5, o6, o7, rfl, _, _, sm⟩
      walk_at "go"
      exact k H' sm
    rintro i v σ H1 hi ⟨x, y, o4, o5, o6, o7, rfl, lx, ly, sm⟩
    have hil : i < es.length := by have := (List.getElem?_eq_some_iff.mp hi).1; rwa [List.length_map] at this
    obtain ⟨e, he, rfl⟩ : ∃ e, e ∈ es ∧ v = V.ref e.1 := by
      obtain ⟨e, he, q⟩ := List.mem_map.mp (List.mem_of_getElem? hi)
      exact ⟨e, he, q.symm⟩
    obtain ⟨hE, l1, l2⟩ := hes e he
    obtain ⟨ea, a, b⟩ := e
    have hE1 := sm _ _ hE
    refine ⟨ea, _, rfl, SqL.of hE1, rfl, ?_⟩
    walk_at "go"
    dsimp only at l1 l2 hE
    have la : (x ++ a).length = x.length + a.length := by rw [add_str, len_str, List.length_append, len_tl' x, len_tl' a]
    have lb : (y ++ b).length = y.length + b.length := by rw [add_str, len_str, List.length_append, len_tl' y, len_tl' b]
    refine ⟨_, _, rfl, rfl, big_line (by omega), ?_⟩
    walk_at "go"
    refine ⟨_, _, rfl, rfl, big_line (by omega), ?_⟩
    walk_at "go"
    refine ⟨_, _, rfl, by omega, by omega, ?_⟩
    have lD : ∀ u v : Str, (strL (lagL (tl u) (tl v))).length ≤ u.length + v.length + 1 := fun u v => by
      rw [len_str, len_tl' u, len_tl' v]
      exact lag_len _ _
    have on1 : ∀ u v a b : Str, strL (onL (tl (strL (lagL (tl u) (tl v)))) (tl a) (tl b)) = strL (lagL (tl (u ++ a)) (tl (v ++ b))) := fun u v a b => by
      rw [tl_str, lag_on, add_str u a, add_str v b, tl_str, tl_str]
    have app0 : ∀ u : Str, u ++ ("" : Str) = u := fun u => str_ext (by rw [add_str, tl_str]; show tl u ++ [] = tl u; rw [List.append_nil])
    have lo : ∀ u v : Str, u.length ≤ 100 * i + 100 → v.length ≤ 100 * i + 100 → (strL (lagL (tl u) (tl v))).length ≤ 50000 := fun u v hu hv => by
      have := lD u v; omega
    have la' : (x ++ a).length ≤ 100 * i + 100 := by omega
    have lb' : (y ++ b).length ≤ 100 * i + 100 := by omega
    have l0 := lo x y (by omega) (by omega)
    have z0 : ("" : Str).length ≤ 50000 := by decide
    have z1 : ("=" : Str).length ≤ 50000 := by decide
    walk_at "go"
    refine ⟨_, _, _, rfl, l0, by omega, by omega, ?_⟩
    rw [on1]
    walk_at "go"
    refine ⟨_, _, _, rfl, l0, by omega, z0, ?_⟩
    rw [on1, app0]
    walk_at "go"
    refine ⟨_, _, _, rfl, lo _ _ (by omega) (by omega), z0, by omega, ?_⟩
    rw [on1, app0]
    walk_at "go"
    refine ⟨_, _, _, rfl, l0, z0, by omega, ?_⟩
    rw [on1, app0]
    walk_at "go"
    refine ⟨_, _, _, rfl, lo _ _ (by omega) (by omega), by omega, z0, ?_⟩
    rw [on1, app0]
    have on0 : ∀ u v : Str, strL (onL (tl ("=" : Str)) (tl u) (tl v)) = strL (lagL (tl u) (tl v)) := fun u v => congrArg strL (lag_on [] [] (tl u) (tl v))
    have hT : strL (lagL (tl (y ++ b)) (tl (x ++ a))) = strL (turnL (tl (strL (lagL (tl (x ++ a)) (tl (y ++ b)))))) := by rw [lag_turn, tl_str]
    have hself : strL (onL (tl (strL (lagL (tl (x ++ a)) (tl (y ++ b))))) (tl ("" : Str)) (tl ("" : Str))) = strL (lagL (tl (x ++ a)) (tl (y ++ b))) := by rw [on1, app0, app0]
    have hDne : tl (strL (lagL (tl (x ++ a)) (tl (y ++ b)))) ≠ [] := lag_ne _ _
    have hDl := lo (x ++ a) (y ++ b) la' lb'
    generalize hD : strL (lagL (tl (x ++ a)) (tl (y ++ b))) = D at *
    walk_at "go"
    refine ⟨(by show 3 ≤ sizeLine; decide), fun p1 hp1 => ?_⟩
    walk_at "go"
    refine ⟨_, _, rfl, by omega, by omega, ?_⟩
    rw [hD]
    walk_at "go"
    refine ⟨_, _, _, rfl, z1, by omega, by omega, ?_⟩
    rw [on0, hD]
    walk_at "go"
    refine ⟨(by show 2 ≤ sizeLine; decide), fun p2 hp2 => ?_⟩
    have n21 : p2 ≠ p1 := fun q => by rw [q, upd_same] at hp2; cases hp2
    refine ⟨p1, p2, _, _, rfl, rfl, (by rw [upd_ne n21.symm, upd_same]), upd_same, (by show 5 ≤ sizeLine; decide), fun p3 hp3 => ?_⟩
    walk_at "go"
    have s1 := same_new (o := HO.lst [V.str D, V.str D, V.str D]) hp1
    have s2 := same_new (o := HO.lst [V.str D, V.str D]) hp2
    have s3 := same_new (o := HO.lst ([V.str D, V.str D, V.str D] ++ [V.str D, V.str D])) hp3
    refine ⟨⟨_, SqL.of upd_same⟩, fun p4 hp4 => lc_map (fun _ => .bl true) (SqL.of upd_same) hp4 (by show 5 ≤ sizeLine; decide) (fun _ => rfl) (fun z hz H' R sm' r => ?_) ?_⟩
    · obtain rfl : z = .str D := by simpa using hz
      walk_at "go"
      refine r_isi (b := true) (.ty "str") (.base (.str _)) (kit_ty (by decide +kernel)) ?_
      walk_at "go"
      rw [decide_eq_true rfl]
      exact r
    have s4 := same_new (o := HO.lst (([V.str D, V.str D, V.str D] ++ [V.str D, V.str D]).map fun _ => V.bl true)) hp4
    walk_at "go"
    refine r_all (bs := [true, true, true, true, true]) (SqL.of upd_same) ?_
    walk_at "go"
    refine ⟨_, _, rfl, by omega, by omega, ?_⟩
    walk_at "go"
    refine ⟨hDne, by omega, ?_⟩
    rw [hT]
    walk_at "go"
    refine r_iteN (fun q => absurd rfl q) (fun _ => ?_)
    walk_at "go"
    refine ⟨_, _, _, rfl, hDl, z0, z0, ?_⟩
    rw [hself]
    walk_at "go"
    refine r_iteN (fun q => absurd rfl q) (fun _ => ?_)
    walk_at "go"
    refine r_ixL (SqL.of (s4 _ _ upd_same)) rfl ?_
    walk_at "go"
    exact ⟨x ++ a, y ++ b, some (.str a), some (.str b), some (.str D), some (.ref p3), by rw [hD], by omega, by omega, (((sm.trans s1).trans s2).trans s3).trans s4⟩
end
end K1

/-! K01F -/

namespace K1
open PySem L2
abbrev sPieces : Stmt := top 47
abbrev nPieces : List Str := ["_law_script","_law_signs","_law_bag","_law_word","_law_k","_law_base","_law_many","_law_spoilt","_law_told","_law_ends","_law_pair","_law_side","_law_size","_law_at"]
theorem scPieces : FnScope nPieces ["_law_script", "_law_signs"] (defScope sPieces) := ⟨rfl, rfl, rfl, by decide +kernel, rfl, by decide +kernel, by decide +kernel⟩
abbrev OBagOf (P : Program) (w : World) (K : PySem.W.Frag) (mg : Str → Option Value) (base : Heap) : Prop := Own P w K mg base "_law_bag_of" 1 ["_law_script", "_law_at"] (spBagOf K)
def spPieces (K : PySem.W.Frag) : Sp := fun vs H Q _ => ∃ (a : Addr) (ns : List Int) (z : Str), vs = [.ref a, .str z] ∧ SqL K H a (ns.map V.int) ∧ ns.length ≤ 63 ∧ 1 ≤ z.length ∧ z.length ≤ 1000 ∧
  ∀ H' p es, Same H H' → PiecesAt K H' p es → Q (.ref p) H'
theorem Same.set {H H' : Hp} {b : Addr} {o : HO} (s : Same H H') (hb : H b = none) : Same H (upd H' b o) := fun c u e => by
  rw [upd_ne (ne_of_none e hb)]; exact s c u e
theorem Same.offs {H H1 H2 : Hp} {b : Addr} (s : Same H H1) (hb : H b = none) (o : Off b H1 H2) : Same H H2 := fun c u e => o.at (ne_of_none e hb) (s c u e)
theorem cut_len {z : Str} {e c : Int} (h0 : 0 ≤ e) (h1 : 0 ≤ c) : (cutS z (some e) (some (e + c))).length ≤ c.toNat := by
  obtain ⟨i, rfl⟩ : ∃ i : Nat, e = i := ⟨e.toNat, by omega⟩
  obtain ⟨j, rfl⟩ : ∃ j : Nat, c = j := ⟨c.toNat, by omega⟩
  have e2 : (i : Int) + (j : Int) = ((i + j : Nat) : Int) := by omega
  rw [e2, len_tl', tl_cut_mid, List.length_take]
  omega
theorem set_map {α β : Type} (f : α → β) (l : List α) (i : Nat) (x : α) : (l.map f).set i (f x) = (l.set i x).map f := by rw [List.map_set]
theorem mem_set' {α : Type} {l : List α} {i : Nat} {x y : α} (h : y ∈ l.set i x) : y ∈ l ∨ y = x := List.mem_or_eq_of_mem_set h
theorem ix_two {n : Nat} {i : Int} (h0 : 0 ≤ i) (h1 : i < n) : ixN n i = some i.toNat := by unfold ixN; rw [if_pos h0, if_pos h1]
section
variable {P : Program} {w : World} {K : PySem.W.Frag} {mg : Str → Option Value} {base : Heap}
theorem ok_pieces {f : Addr} {fd : FuncData} (F : Fun K "_law_pieces_of" "_law_pieces_of" sPieces f fd) (B : Bl mg) (Ob : OBagOf P w K mg base) (Op : OPick P w K mg base) (Oo : OOneOf P w K mg base) :
    FnOk P w K mg base CX0 3 f fd ["_law_script", "_law_signs"] (spPieces K) := by
  refine F.ok scPieces (fun vs H Q E h => ?_) (fun cdv A outer s H vs Q E hr h => ?_)
  · obtain ⟨a, ns, z, rfl, _⟩ := h
    rfl
  · obtain ⟨a, ns, z, rfl, hS, hlen, z1, z2, k⟩ := h
    have hr1 : Room 1 _ := hr.mono (by decide)
    refine ⟨_, (pss_cons (ps_set (i := 2) scPieces.nd rfl (Or.inl rfl) (pe_own Ob hr1 (pa_cons (pv 0) (pa_cons pe_int pa_nil)))) (pss_cons (ps_set (i := 3) scPieces.nd rfl (Or.inl rfl) pe_str) (pss_cons (ps_for PassesOwn.never rfl (pi_range1 rfl B.range (pa_cons (pe_op op_add pe_int (pe_own Op hr1 (pa_cons (pv 2) (pa_cons (pe_ix ix_list (pe_lst (pa_cons pe_int (pa_cons pe_int pa_nil))) (pe_own Op hr1 (pa_cons (pv 2) (pa_cons pe_int pa_nil))) (fun _ _ => rfl)) pa_nil)))) pa_nil)) (pg_name (i := 4) scPieces.nd rfl (Or.inl rfl)) (pss_one (ps_set (i := 3) scPieces.nd rfl (Or.inl rfl) (pe_op op_add_str (pv 3) (pe_own Oo hr (pa_cons (pv 2) (pa_cons (pv 1) pa_nil))))))) (pss_cons (ps_set (i := 5) scPieces.nd rfl (Or.inl rfl) (pe_op op_mul_str (pv 3) (pe_op op_fdivN pe_int (pe_callB call_len (by rfl) B.len PySem.boot_len (pa_cons (pv 3) pa_nil))))) (pss_cons (ps_set (i := 6) scPieces.nd rfl (Or.inl rfl) (pe_op op_add (pe_op op_add pe_int (pe_own Op hr1 (pa_cons (pv 2) (pa_cons pe_int pa_nil)))) (pe_callB (call_min2 rfl) (by rfl) B.min (by decide +kernel) (pa_cons pe_int (pa_cons (pe_callB call_len (by rfl) B.len PySem.boot_len (pa_cons (pv 0) pa_nil)) pa_nil))))) (pss_cons (ps_set (i := 7) scPieces.nd rfl (Or.inl rfl) (pe_own Op hr1 (pa_cons (pv 2) (pa_cons (pe_op op_add (pv 6) (pv 6)) pa_nil)))) (pss_cons (ps_set (i := 8) scPieces.nd rfl (Or.inl rfl) (pe_lst pa_nil)) (pss_cons (ps_set (i := 9) scPieces.nd rfl (Or.inl rfl) (pe_lst (pa_cons pe_int (pa_cons pe_int pa_nil)))) (pss_cons (ps_for PassesOwn.never rfl (pi_range1 rfl B.range (pa_cons (pv 6) pa_nil)) (pg_name (i := 4) scPieces.nd rfl (Or.inl rfl)) (pss_cons (ps_set (i := 2) scPieces.nd rfl (Or.inl rfl) (pe_own Ob hr1 (pa_cons (pv 0) (pa_cons (pe_op op_add pe_int (pv 4)) pa_nil)))) (pss_cons (ps_set (i := 10) scPieces.nd rfl (Or.inl rfl) (pe_lst pa_nil)) (pss_cons (ps_for PassesOwn.never rfl (pi_range1 rfl B.range (pa_cons pe_int pa_nil)) (pg_name (i := 11) scPieces.nd rfl (Or.inl rfl)) (pss_cons (ps_set (i := 12) scPieces.nd rfl (Or.inl rfl) (pe_ix ix_list (pe_lst (pa_cons pe_int (pa_cons pe_int (pa_cons pe_int (pa_cons pe_int (pa_cons pe_int (pa_cons pe_int (pa_cons pe_int (pa_cons pe_int pa_nil))))))))) (pe_own Op hr1 (pa_cons (pv 2) (pa_cons pe_int pa_nil))) (fun _ _ => rfl))) (pss_cons (ps_expr (pe_bm PySem.F.plainAttrs_list PySem.F.slot_list_append PySem.F.type_list_append mt_append (pv 10) (pa_cons (pe_slice sl_str (pv 5) (po_some (pe_ix ix_list (pv 9) (pv 11) (fun _ _ => rfl))) (po_some (pe_op op_add (pe_ix ix_list (pv 9) (pv 11) (fun _ _ => rfl)) (pv 12)))) pa_nil))) (pss_one (ps_asg (pe_op op_add (pe_ix ix_list (pv 9) (pv 11) (fun _ _ => rfl)) (pv 12)) (pg_sub (pv 9) (pv 11) set_list)))))) (pss_cons (ps_if (pt_cmpR op_eq (pv 4) (pv 7) (nomark _)) (pss_cons (ps_set (i := 11) scPieces.nd rfl (Or.inl rfl) (pe_own Op hr1 (pa_cons (pv 2) (pa_cons pe_int pa_nil)))) (pss_cons (ps_set (i := 13) scPieces.nd rfl (Or.inl rfl) (pe_own Op hr1 (pa_cons (pv 2) (pa_cons (pe_op op_add (pe_callB call_len (by rfl) B.len PySem.boot_len (pa_cons (pe_ix ix_list (pv 10) (pv 11) (fun _ _ => rfl)) pa_nil)) pe_int) pa_nil)))) (pss_one (ps_asg (pe_op op_add_str (pe_op op_add_str (pe_slice sl_str (pe_ix ix_list (pv 10) (pv 11) (fun _ _ => rfl)) po_none (po_some (pv 13))) (pe_own Oo hr (pa_cons (pv 2) (pa_cons (pv 1) pa_nil)))) (pe_slice sl_str (pe_ix ix_list (pv 10) (pv 11) (fun _ _ => rfl)) (po_some (pe_op op_add (pv 13) pe_int)) po_none)) (pg_sub (pv 10) (pv 11) set_list))))) pss_nil) (pss_one (ps_expr (pe_bm PySem.F.plainAttrs_list PySem.F.slot_list_append PySem.F.type_list_append mt_append (pv 8) (pa_cons (pv 10) pa_nil))))))))) (pss_one (ps_ret (pv 8)))))))))))), ?_⟩
    try dsimp only [cxOf, Cx.nox, Cx.wish]
    walk_at "go"
    refine ⟨_, _, _, rfl, hS, hlen, by decide, by decide, fun H1 b sm1 nb hb1 => ?_⟩
    walk_at "go"
    refine ⟨(by show 2 ≤ sizeLine; decide), fun q1 hq1 => ?_⟩
    have sm2 : Same H _ := Same.trans sm1 (same_new (o := HO.lst [V.int 3, V.int 40]) hq1)
    walk_at "go"
    refine ⟨_, _, _, rfl, hb1.new hq1, by decide, by decide, fun r H2 r0 r1 hb2 off2 => ?_⟩
    obtain ⟨v, ev, hv, _⟩ := at_nat' (xs := [V.int 3, V.int 40]) r0 (by show r < 2; omega)
    obtain ⟨c, rfl, c0, c1⟩ : ∃ c : Int, v = .int c ∧ 3 ≤ c ∧ c ≤ 40 := by
      rcases List.mem_cons.mp hv with rfl | hv
      · exact ⟨3, rfl, by decide, by decide⟩
      · rcases List.mem_cons.mp hv with rfl | hv
        · exact ⟨40, rfl, by decide, by decide⟩
        · cases hv
    have nqb := hb1.ne hq1
    refine r_ixL (SqL.of (off2.at nqb upd_same)) ev ?_
    walk_at "go"
    refine ⟨_, _, _, rfl, hb2, by decide, by omega, fun r2 H3 s0 s1 hb3 off3 => ?_⟩
    have sm3 := Same.offs (Same.offs sm2 nb off2) nb off3
    walk_at "go"
    refine ⟨by omega, by omega, fr_range (lo := 0) (n := (1 + r2).toNat) (fun i σ H' => ∃ (kk : Option V) (y : Str), σ = [some (.ref a), some (.str z), some (.ref b), some (.str y), kk, none, none, none, none, none, none, none, none, none] ∧ y.length = i ∧ IsBag H' b (10 + i) ∧ Same H H') ?_ ?_ ?_⟩
    · exact ⟨none, _, rfl, rfl, hb3.mono (by omega), sm3⟩
    · rintro i σ H' hi ⟨kk, y, rfl, ly, hb', sm⟩
      walk_at "go"
      refine ⟨_, _, _, _, rfl, hb', by omega, .inl ⟨z, rfl, rfl, z2⟩, ?_, fun x H4 hx hb4 off4 => ?_⟩
      · intro q
        have := congrArg List.length q
        rw [List.length_map, sgn_len, List.length_nil] at this
        omega
      obtain ⟨c, hc, rfl⟩ := mem_sgn hx
      walk_at "go"
      refine ⟨_, _, rfl, rfl, ?_, ?_⟩
      · rw [ly]; exact small_line (by show i + 1 ≤ 1000; omega)
      walk_at "go"
      refine ⟨_, _, rfl, ?_, hb4, Same.offs sm nb off4⟩
      rw [add_str, len_str, List.length_append, ← len_tl', ly]; rfl
    rintro σ H4 ⟨kk, y, rfl, ly, hb4, sm4⟩
    have ly1 : 1 ≤ y.length := by omega
    have ly2 : y.length ≤ 41 := by omega
    walk_at "go"
    refine ⟨_, _, rfl, lenS (small_line (by omega)), ?_⟩
    walk_at "go"
    refine r_I ⟨by omega, by omega⟩ ?_
    have fd1 : (1 : Int) ≤ Int.fdiv 620 y.length ∧ Int.fdiv 620 y.length ≤ 620 := by
      rw [Int.fdiv_eq_ediv_of_nonneg _ (by omega)]
      refine ⟨?_, Int.ediv_le_self _ (by decide)⟩
      rw [Int.le_ediv_iff_mul_le (by omega)]
      omega
    revert fd1
    generalize Int.fdiv 620 (y.length : Int) = fq
    rintro ⟨f0, f1⟩
    refine ⟨_, _, rfl, rfl, f0, by omega, ly1, ?_, ?_⟩
    · exact Nat.le_trans (Nat.mul_le_mul ly2 (show fq.toNat ≤ 620 by omega)) (big_line (by decide))
    have lbs : (repS y fq.toNat).length ≤ 1000000 := by
      have e : ∀ (n : Nat) (a : Array Nat), ((List.replicate n y.cps).foldl (· ++ ·) a).size = a.size + n * y.cps.size := by
        intro n
        induction n with
        | zero => intro a; simp
        | succ n ih => intro a; rw [List.replicate_succ, List.foldl_cons, ih, Array.size_append, Nat.add_mul]; omega
      show ((List.replicate fq.toNat y.cps).foldl (· ++ ·) #[]).size ≤ _
      rw [e]
      have h1 : fq.toNat * y.cps.size ≤ 620 * 41 := Nat.mul_le_mul (by omega) (by show y.length ≤ 41; omega)
      have h2 : (#[] : Array Nat).size = 0 := rfl
      omega
    revert lbs
    generalize repS y fq.toNat = bs
    intro lbs
    walk_at "go"
    refine ⟨_, _, _, rfl, hb4, by omega, by decide, fun r3 H5 t0 t1 hb5 off5 => ?_⟩
    have sm5 := Same.offs sm4 nb off5
    walk_at "go"
    refine ⟨_, _, rfl, lenL (Same.seq sm5 hS), ?_⟩
    walk_at "go"
    refine ⟨_, _, rfl, ?_⟩
    have hm : ∃ mn : Int, (if ((ns.map V.int).length : Int) < 39 then ((ns.map V.int).length : Int) else 39) = mn ∧ 0 ≤ mn ∧ mn ≤ 39 := ⟨_, rfl, by split <;> omega, by split <;> omega⟩
    obtain ⟨mn, emn, m0, m1⟩ := hm
    rw [emn]
    walk_at "go"
    refine ⟨_, _, _, rfl, hb5, by omega, by omega, fun r4 H6 u0 u1 hb6 off6 => ?_⟩
    have sm6 := Same.offs sm5 nb off6
    walk_at "go"
    refine ⟨Nat.zero_le _, fun T hT => ?_⟩
    walk_at "go"
    refine ⟨(by show 2 ≤ sizeLine; decide), fun En hEn => ?_⟩
    have nET : En ≠ T := fun q => by rw [q, upd_same] at hEn; cases hEn
    have sm7 := Same.trans (Same.trans sm6 (same_new (o := HO.lst []) hT)) (same_new (o := HO.lst [V.int 0, V.int 0]) hEn)
    have fT : H T = none := Same.free sm6 hT
    have fE : H En = none := Same.free sm6 (by rw [upd_ne nET] at hEn; exact hEn)
    obtain ⟨many, emany, ma0, ma1⟩ : ∃ many : Int, 3 + r3 + mn = many ∧ 0 ≤ many ∧ many ≤ 60 := ⟨_, rfl, by omega, by omega⟩
    rw [emany]
    walk_at "go"
    refine ⟨by omega, by omega, fr_range (lo := 0) (n := many.toNat) (fun i σ H' => ∃ (o2 : Option V) (kk o10 o11 o12 o13 : Option V) (es : List (Addr × Str × Str)) (ends : List Int),
        σ = [some (.ref a), some (.str z), o2, some (.str y), kk, some (.str bs), some (.int many), some (.int r4), some (.ref T), some (.ref En), o10, o11, o12, o13] ∧
        H' T = some (.lst (es.map fun e => V.ref e.1)) ∧ H' En = some (.lst (ends.map V.int)) ∧ ends.length = 2 ∧ (∀ e ∈ ends, 0 ≤ e) ∧ es.length = i ∧
        (∀ e ∈ es, e.1 ≠ T ∧ e.1 ≠ En ∧ H' e.1 = some (.lst [.str e.2.1, .str e.2.2]) ∧ e.2.1.length ≤ 100 ∧ e.2.2.length ≤ 100) ∧ Same H H') ?_ ?_ ?_⟩
    · refine ⟨_, _, _, _, _, _, [], [0, 0], rfl, ?_, upd_same, rfl, by simp, rfl, by simp, sm7⟩
      rw [upd_ne nET.symm, upd_same]; rfl
    · rintro i σ H1 hi ⟨o2, kk, o10, o11, o12, o13, es, ends, rfl, eT, eE, le2, e0, les, hes, sm⟩
      walk_at "go"
      refine ⟨_, _, _, rfl, Same.seq sm hS, hlen, by omega, by omega, fun H2 bb smA nbb hbb => ?_⟩
      have nTb : T ≠ bb := fun q => by rw [q, nbb] at eT; cases eT
      have nEb : En ≠ bb := fun q => by rw [q, nbb] at eE; cases eE
      walk_at "go"
      refine ⟨Nat.zero_le _, fun Pr hPr => ?_⟩
      have nPE : Pr ≠ En := fun q => by rw [q, smA _ _ eE] at hPr; cases hPr
      have nPT : Pr ≠ T := fun q => by rw [q, smA _ _ eT] at hPr; cases hPr
      have nPb : Pr ≠ bb := hbb.ne hPr
      have n1P : H1 Pr = none := Same.free smA hPr
      walk_at "go"
      refine ⟨by decide, by decide, fr_range (lo := 0) (n := 2) (fun j σ H' => ∃ (o11 o12 : Option V) (ends' : List Int) (ps : List Str),
          σ = [some (.ref a), some (.str z), some (.ref bb), some (.str y), some (.int (0 + i)), some (.str bs), some (.int many), some (.int r4), some (.ref T), some (.ref En), some (.ref Pr), o11, o12, o13] ∧
          H' Pr = some (.lst (ps.map V.str)) ∧ ps.length = j ∧ (∀ p ∈ ps, p.length ≤ 12) ∧ H' En = some (.lst (ends'.map V.int)) ∧ ends'.length = 2 ∧ (∀ e ∈ ends', 0 ≤ e) ∧ IsBag H' bb j ∧ Kp En H1 H') ?_ ?_ ?_⟩
      · refine ⟨_, _, ends, [], rfl, upd_same, rfl, by simp, ?_, le2, e0, hbb.new hPr, Same.kp (Same.trans smA (same_new hPr))⟩
        rw [upd_ne nPE.symm]; exact smA _ _ eE
      · rintro j σ H' hj ⟨o11, o12, ends', ps, rfl, ePr, lps, hps, eEn, le', ge', hb', kp⟩
        walk_at "go"
        refine ⟨(by show 8 ≤ sizeLine; decide), fun q hq => ?_⟩
        have nqb := hb'.ne hq
        have nqP : q ≠ Pr := fun x => by rw [x, ePr] at hq; cases hq
        have nqE : q ≠ En := fun x => by rw [x, eEn] at hq; cases hq
        walk_at "go"
        refine ⟨_, _, _, rfl, hb'.new hq, by omega, by decide, fun rr H3 x0 x1 hb3 off3 => ?_⟩
        obtain ⟨c, ec, hc⟩ := at_int (ns := [0, 0, 1, 1, 2, 3, 4, 12]) (i := rr) x0 (by show rr < 8; omega)
        have c01 : 0 ≤ c ∧ c ≤ 12 := by
          simp at hc
          omega
        refine r_ixL (SqL.of (off3.at nqb upd_same)) ec ?_
        have ePr3 : H3 Pr = some (.lst (ps.map V.str)) := off3.at nPb (by rw [upd_ne nqP.symm]; exact ePr)
        have eEn3 : H3 En = some (.lst (ends'.map V.int)) := off3.at nEb (by rw [upd_ne nqE.symm]; exact eEn)
        obtain ⟨e, ee, he⟩ := at_int (ns := ends') (i := 0 + (j : Int)) (by omega) (by omega)
        have ge := ge' e he
        walk_at "go"
        refine ⟨tyL (SqL.of ePr3), ?_⟩
        walk_at "go"
        refine r_ixL (SqL.of eEn3) ee ?_
        walk_at "go"
        refine r_ixL (SqL.of eEn3) ee ?_
        walk_at "go"
        refine ⟨big_line lbs, ?_⟩
        have cl := cut_len (z := bs) ge c01.1
        revert cl
        generalize cutS bs (some e) (some (e + c)) = pc
        intro cl
        refine ⟨Pr, ps.map V.str, _, rfl, rfl, ePr3, by rw [List.length_map]; exact small1000 (by omega), ?_⟩
        have eEn4 : (upd H3 Pr (.lst (ps.map V.str ++ [V.str pc]))) En = some (.lst (ends'.map V.int)) := by rw [upd_ne nPE.symm]; exact eEn3
        walk_at "go"
        refine r_ixL (SqL.of eEn4) ee ?_
        walk_at "go"
        refine r_setL eEn4 (ix_two (by omega) (by rw [List.length_map]; omega)) ?_
        refine ⟨_, _, ends'.set (0 + (j : Int)).toNat (e + c), ps ++ [pc], rfl, ?_, by rw [List.length_append, lps]; rfl, ?_, ?_, by rw [List.length_set]; exact le', ?_, ?_, ?_⟩
        · rw [upd_ne nPE, upd_same, List.map_append]; rfl
        · intro p hp
          rcases List.mem_append.mp hp with hp | hp
          · exact hps p hp
          · rw [List.mem_singleton.mp hp]; omega
        · rw [upd_same, ← set_map]
        · intro x hx
          rcases mem_set' hx with hx | rfl
          · exact ge' x hx
          · omega
        · obtain ⟨d, s, cc, e1, rr⟩ := hb3
          exact ⟨d, s, cc, by rw [upd_ne nEb.symm, upd_ne nPb.symm]; exact e1, rr⟩
        · intro x o hx e1
          have y1 : x ≠ Pr := fun z => by rw [z, n1P] at e1; cases e1
          have y2 : x ≠ bb := fun z => by rw [z, nbb] at e1; cases e1
          have e2 := kp x o hx e1
          have y3 : x ≠ q := fun z => by rw [z, hq] at e2; cases e2
          rw [upd_ne hx, upd_ne y1]
          exact off3.at y2 (by rw [upd_ne y3]; exact e2)
      rintro σ H2' ⟨o11', o12', ends', ps, rfl, ePr, lps, hps, eEn, le', ge', hb', kp⟩
      walk_at "go"
      have fin : ∀ (o11 o12 o13 : Option V) (Hx : Hp) (ps2 : List Str), Hx Pr = some (.lst (ps2.map V.str)) → ps2.length = 2 → (∀ p ∈ ps2, p.length ≤ 100) → Hx En = some (.lst (ends'.map V.int)) → Kp En H1 Hx →
          Hx T = some (.lst (es.map fun e => V.ref e.1)) ∧ ∃ (o2 : Option V) (kk o10 o11' o12' o13' : Option V) (es' : List (Addr × Str × Str)) (ends : List Int),
          [some (.ref a), some (.str z), some (.ref bb), some (.str y), some (.int (0 + i)), some (.str bs), some (.int many), some (.int r4), some (.ref T), some (.ref En), some (.ref Pr), o11, o12, o13] =
          [some (.ref a), some (.str z), o2, some (.str y), kk, some (.str bs), some (.int many), some (.int r4), some (.ref T), some (.ref En), o10, o11', o12', o13'] ∧
          (upd Hx T (.lst ((es.map fun e => V.ref e.1) ++ [V.ref Pr]))) T = some (.lst (es'.map fun e => V.ref e.1)) ∧ (upd Hx T (.lst ((es.map fun e => V.ref e.1) ++ [V.ref Pr]))) En = some (.lst (ends.map V.int)) ∧ ends.length = 2 ∧ (∀ e ∈ ends, 0 ≤ e) ∧ es'.length = i + 1 ∧
          (∀ e ∈ es', e.1 ≠ T ∧ e.1 ≠ En ∧ (upd Hx T (.lst ((es.map fun e => V.ref e.1) ++ [V.ref Pr]))) e.1 = some (.lst [.str e.2.1, .str e.2.2]) ∧ e.2.1.length ≤ 100 ∧ e.2.2.length ≤ 100) ∧ Same H (upd Hx T (.lst ((es.map fun e => V.ref e.1) ++ [V.ref Pr]))) := by
        intro o11 o12 o13 Hx ps2 h1 h2 h3 h4 kx
        obtain ⟨u, v, rfl⟩ : ∃ u v, ps2 = [u, v] := by
          match ps2, h2 with
          | [u, v], _ => exact ⟨u, v, rfl⟩
        refine ⟨kx T _ nET.symm eT, some (.ref bb), some (.int (0 + i)), some (.ref Pr), o11, o12, o13, es ++ [(Pr, u, v)], ends', rfl, ?_, ?_, le', ge', by rw [List.length_append, les]; rfl, ?_, ?_⟩
        · rw [upd_same, List.map_append]; rfl
        · rw [upd_ne nET]; exact h4
        · intro e he
          rcases List.mem_append.mp he with he | he
          · obtain ⟨a1, a2, a3, a4⟩ := hes e he
            refine ⟨a1, a2, ?_, a4⟩
            rw [upd_ne a1]; exact kx _ _ a2 a3
          · obtain rfl := List.mem_singleton.mp he
            refine ⟨nPT, nPE, ?_, h3 u (by simp), h3 v (by simp)⟩
            rw [upd_ne nPT]; exact h1
        · exact Same.set (fun c o e => kx c o (ne_of_none e fE) (sm c o e)) fT
      refine r_ite (fun hsp => ?_) (fun hsp => ?_)
      rotate_left
      walk_at "go"
      have hps2 : ∀ p ∈ ps, p.length ≤ 100 := fun p hp => Nat.le_trans (hps p hp) (by decide)
      clear hps hb' hsp
      rotate_left
      walk_at "go"
      refine ⟨_, _, _, rfl, hb', by omega, by decide, fun rr H3 x0 x1 hb3 off3 => ?_⟩
      have ePr3 := off3.at nPb ePr
      have eEn3 := off3.at nEb eEn
      obtain ⟨w0, ew, hw, _⟩ := at_nat' (xs := ps.map V.str) x0 (by rw [List.length_map]; omega)
      obtain ⟨pp, hpp, rfl⟩ := List.mem_map.mp hw
      have lpp := hps pp hpp
      walk_at "go"
      refine r_ixL (SqL.of ePr3) ew ?_
      walk_at "go"
      refine ⟨_, _, rfl, lenS (small_line (by omega)), ?_⟩
      walk_at "go"
      refine ⟨_, _, _, rfl, hb3, by omega, by omega, fun r5 H4 y0 y1 hb4' off4 => ?_⟩
      have ePr4 := off4.at nPb ePr3
      have eEn4 := off4.at nEb eEn3
      walk_at "go"
      refine r_ixL (SqL.of ePr4) ew ?_
      walk_at "go"
      refine ⟨small_line (by omega), ?_⟩
      have c1 := cutS_length pp none (some r5)
      revert c1
      generalize cutS pp none (some r5) = pa
      intro c1
      walk_at "go"
      refine ⟨_, _, _, _, rfl, hb4', by omega, .inl ⟨z, rfl, rfl, z2⟩, ?_, fun x H5' hx hb5' off5' => ?_⟩
      · intro q
        have := congrArg List.length q
        rw [List.length_map, sgn_len, List.length_nil] at this
        omega
      obtain ⟨c, hc, rfl⟩ := mem_sgn hx
      have ePr5 := off5'.at nPb ePr4
      have eEn5 := off5'.at nEb eEn4
      walk_at "go"
      refine ⟨_, _, rfl, rfl, small_line (by show pa.length + 1 ≤ 1000; omega), ?_⟩
      walk_at "go"
      refine r_ixL (SqL.of ePr5) ew ?_
      walk_at "go"
      refine ⟨small_line (by omega), ?_⟩
      have c2 := cutS_length pp (some (r5 + 1)) none
      revert c2
      generalize cutS pp (some (r5 + 1)) none = pb
      intro c2
      have la : (pa ++ (⟨#[c]⟩ : Str)).length = pa.length + 1 := by rw [add_str, len_str, List.length_append, ← len_tl']; rfl
      refine ⟨_, _, rfl, rfl, small_line (by rw [la]; omega), ?_⟩
      have lab : (pa ++ (⟨#[c]⟩ : Str) ++ pb).length ≤ 100 := by rw [add_str, len_str, List.length_append, ← len_tl', ← len_tl', la]; omega
      revert lab
      generalize pa ++ (⟨#[c]⟩ : Str) ++ pb = np
      intro lab
      walk_at "go"
      refine r_setL ePr5 (ix_two x0 (by rw [List.length_map]; omega)) ?_
      have ePr6 : (upd H5' Pr (.lst ((ps.map V.str).set rr.toNat (V.str np)))) Pr = some (.lst ((ps.set rr.toNat np).map V.str)) := by rw [upd_same, ← set_map]
      have eEn6 : (upd H5' Pr (.lst ((ps.map V.str).set rr.toNat (V.str np)))) En = some (.lst (ends'.map V.int)) := by rw [upd_ne nPE.symm]; exact eEn5
      have kp6 : Kp En H1 (upd H5' Pr (.lst ((ps.map V.str).set rr.toNat (V.str np)))) := fun x o hx e1 => by
        have y1 : x ≠ Pr := fun z => by rw [z, n1P] at e1; cases e1
        have y2 : x ≠ bb := fun z => by rw [z, nbb] at e1; cases e1
        rw [upd_ne y1]
        exact off5'.at y2 (off4.at y2 (off3.at y2 (kp x o hx e1)))
      have lps6 : (ps.set rr.toNat np).length = 2 := by rw [List.length_set]; exact lps
      have hps6 : ∀ p ∈ ps.set rr.toNat np, p.length ≤ 100 := fun p hp => by
        rcases mem_set' hp with hp | rfl
        · exact Nat.le_trans (hps p hp) (by decide)
        · exact lab
      obtain ⟨eT6, fin6⟩ := fin (some (.int rr)) o12' (some (.int r5)) _ _ ePr6 lps6 hps6 eEn6 kp6
      walk_at "go"
      refine ⟨tyL (SqL.of eT6), ?_⟩
      walk_at "go"
      refine ⟨T, _, _, rfl, rfl, eT6, by rw [List.length_map]; exact small1000 (by omega), ?_⟩
      walk_at "go"
      exact fin6
      obtain ⟨eT6, fin6⟩ := fin o11' o12' o13 _ _ ePr lps hps2 eEn kp
      walk_at "go"
      refine ⟨tyL (SqL.of eT6), ?_⟩
      walk_at "go"
      refine ⟨T, _, _, rfl, rfl, eT6, by rw [List.length_map]; exact small1000 (by omega), ?_⟩
      walk_at "go"
      exact fin6
    · rintro σ H' ⟨o2, kk, o10, o11, o12, o13, es, ends, rfl, eT, _, _, _, le, hes, sm⟩
      walk_at "go"
      exact k H' T es sm ⟨SqL.of eT, by omega, fun e he => (hes e he).2.2⟩
end
end K1

/-! Br4 -/
namespace K1
open PySem L2
section
variable {K : PySem.W.Frag} {σ : L2.St} {H : Hp} {Q : VK} {D : Addr} {vs : List Nat} {te : TE} {Qd : Hp → Prop} {ta tb tc : TE}
theorem r_chain {r r' : R2} (q : ta σ H fun x H1 => tb σ H1 fun y H2 => r x y H2 fun z H3 => ∃ k, z = .bl k ∧ (if k = true then tc σ H3 fun w' H4 => r' y w' H4 Q else Q (.bl false) H3)) : tChain r r' ta tb tc σ H Q := q
/-- [f i for i in range(n)], the heap left as it was -/
theorem lc_rmap {i n : Nat} (f : Nat → V) (hD : H D = none) (hz : n ≤ sizeLine) (hw : ∀ x, wipe ((wipe σ vs).set i (some x)) vs = wipe σ vs)
    (he : ∀ j, j < n → ∀ (H' : Hp) (R : VK), Same H H' → R (f j) H' → te ((wipe σ vs).set i (some (.int (0 + j)))) H' R) (hd : Qd (upd H D (.lst ((List.range n).map f)))) :
    ∃ W : Nat → Nat → Hp → Prop, (∃ m, W 0 m (upd H D (.lst []))) ∧ ∀ i₁ m H, W i₁ m H →
      ((Itr 0 n).stop i₁ H ∧ Qd H) ∨ ((Itr 0 n).go i₁ H ∧ ∃ Nx : Hp → Prop, (∀ H', Nx H' → ∃ m', m' < m ∧ W (i₁ + 1) m' H') ∧ ∀ x H', (Itr 0 n).yld i₁ H x H' → gName i x (wipe σ vs) H' fun σ2 H2 => wipe σ2 vs = wipe σ vs ∧ tYes σ2 H2 fun b H3 =>
        if b = true then te σ2 H3 fun y H4 => ∃ acc, H4 D = some (.lst acc) ∧ acc.length < sizeLine ∧ Nx (upd H4 D (.lst (acc ++ [y]))) else Nx H3) := by
  refine lc_range (lo := 0) (n := n) (fun j H' => j ≤ n ∧ H' = upd H D (.lst ((List.range j).map f))) ⟨Nat.zero_le _, rfl⟩ ?_ (fun H' ⟨_, e⟩ => by rw [e]; exact hd)
  rintro j H' hj ⟨_, rfl⟩
  refine ⟨hw _, ?_⟩
  show te _ _ _
  refine he j hj _ _ (same_new hD) ⟨_, upd_same, ?_, ?_⟩
  · simp only [List.length_map, List.length_range]; omega
  · refine ⟨by omega, ?_⟩
    rw [upd_upd, List.range_succ, List.map_append]; rfl
/-- [f c for c in text] -/
theorem lc_smap {i : Nat} {z : Str} (f : Nat → V) (hD : H D = none) (hz : z.length ≤ sizeLine) (hw : ∀ x, wipe ((wipe σ vs).set i (some x)) vs = wipe σ vs)
    (he : ∀ c ∈ tl z, ∀ (H' : Hp) (R : VK), Same H H' → R (f c) H' → te ((wipe σ vs).set i (some (.str ⟨#[c]⟩))) H' R) (hd : Qd (upd H D (.lst ((tl z).map f)))) :
    ∃ W : Nat → Nat → Hp → Prop, (∃ m, W 0 m (upd H D (.lst []))) ∧ ∀ i₁ m H, W i₁ m H →
      ((Its z).stop i₁ H ∧ Qd H) ∨ ((Its z).go i₁ H ∧ ∃ Nx : Hp → Prop, (∀ H', Nx H' → ∃ m', m' < m ∧ W (i₁ + 1) m' H') ∧ ∀ x H', (Its z).yld i₁ H x H' → gName i x (wipe σ vs) H' fun σ2 H2 => wipe σ2 vs = wipe σ vs ∧ tYes σ2 H2 fun b H3 =>
        if b = true then te σ2 H3 fun y H4 => ∃ acc, H4 D = some (.lst acc) ∧ acc.length < sizeLine ∧ Nx (upd H4 D (.lst (acc ++ [y]))) else Nx H3) := by
  have hl := len_tl' z
  have hsz : z.cps.size = (tl z).length := by simp
  refine ⟨fun j m H' => m = (tl z).length - j ∧ j ≤ (tl z).length ∧ H' = upd H D (.lst (((tl z).take j).map f)), ⟨_, rfl, Nat.zero_le _, rfl⟩, ?_⟩
  rintro j m H' ⟨rfl, hj, rfl⟩
  by_cases hlt : j < (tl z).length
  · refine .inr ⟨by show j < z.cps.size; omega, fun H' => j + 1 ≤ (tl z).length ∧ H' = upd H D (.lst (((tl z).take (j + 1)).map f)), fun H' ⟨a, b⟩ => ⟨(tl z).length - (j + 1), by omega, rfl, a, b⟩, ?_⟩
    rintro x H' ⟨rfl, c, hc, rfl⟩
    have hc' : (tl z)[j]? = some c := by simpa using hc
    refine ⟨hw _, ?_⟩
    show te _ _ _
    refine he c (List.mem_of_getElem? hc') _ _ (same_new hD) ⟨_, upd_same, ?_, by omega, ?_⟩
    · simp only [List.length_map, List.length_take]; omega
    · rw [upd_upd, List.take_succ, hc']; simp
  · have e : j = (tl z).length := by omega
    refine .inl ⟨by show z.cps.size ≤ j; omega, ?_⟩
    rw [e, List.take_length]; exact hd
end
end K1

/-! K01G -/
local macro_rules | `(tactic| walk_at "go") => `(tactic| repeat (first
  | with_reducible apply K1.r_seq
  | with_reducible apply K1.r_asg
  | ((with_reducible apply K1.r_name); (try dsimp only [List.set]))
  | ((with_reducible apply K1.r_var); (focus rfl))
  | with_reducible apply K1.r_c
  | with_reducible apply K1.r_op
  | with_reducible apply K1.r_un
  | with_reducible apply K1.r_I0
  | with_reducible apply K1.r_test
  | with_reducible apply K1.r_if
  | with_reducible apply K1.r_ifs
  | with_reducible apply K1.r_iteT
  | with_reducible apply K1.r_iteF
  | with_reducible apply K1.r_and
  | with_reducible apply K1.r_or
  | with_reducible apply K1.r_not
  | with_reducible apply K1.r_tB
  | with_reducible apply K1.r_andV
  | with_reducible apply K1.r_orV
  | with_reducible apply K1.r_notV
  | with_reducible apply K1.r_cb
  | with_reducible apply K1.r_cons
  | with_reducible apply K1.r_nil
  | with_reducible apply K1.r_ret
  | with_reducible apply K1.r_next
  | with_reducible apply K1.r_drop
  | with_reducible apply K1.r_lst
  | with_reducible apply K1.r_tup
  | with_reducible apply K1.r_call
  | with_reducible apply K1.r_gsub
  | with_reducible apply K1.r_for
  | with_reducible apply K1.r_bm
  | with_reducible apply K1.r_bm0
  | with_reducible apply K1.r_sl
  | with_reducible apply K1.r_noPart
  | with_reducible apply K1.r_part
  | with_reducible apply K1.r_iStr
  | with_reducible apply K1.r_iRng1
  | with_reducible apply K1.r_m1
  | with_reducible apply K1.r_chain
  | ((with_reducible apply K1.r_eq); (focus rfl))
  | ((with_reducible apply K1.r_ne); (focus rfl))
  | with_reducible apply K1.r_gnil
  | with_reducible apply K1.r_gcons
  | refine ⟨_, rfl, ?_⟩
  | refine ⟨⟨_, rfl⟩, ?_⟩
  | refine Or.inl ⟨_, rfl, ?_⟩
  | dsimp only))

namespace K1
open PySem L2
abbrev sIsText : Stmt := top 20
abbrev sIsAsc : Stmt := top 21
abbrev sAreSigns : Stmt := top 26
abbrev sPaperKey : Stmt := top 29
abbrev sKeyOf : Stmt := top 39
abbrev sIsInt : Stmt := top 43
abbrev nIsText : List Str := ["thing","least","most","characters","character"]
theorem scIsText : FnScope nIsText ["thing","least","most","characters"] (defScope sIsText) := ⟨rfl, rfl, rfl, by decide +kernel, rfl, by decide +kernel, by decide +kernel⟩
abbrev nIsAsc : List Str := ["things", "k"]
theorem scIsAsc : FnScope nIsAsc ["things"] (defScope sIsAsc) := ⟨rfl, rfl, rfl, by decide +kernel, rfl, by decide +kernel, by decide +kernel⟩
theorem scAreSigns : FnScope ["thing"] ["thing"] (defScope sAreSigns) := ⟨rfl, rfl, rfl, by decide +kernel, rfl, by decide +kernel, by decide +kernel⟩
theorem scPaperKey : FnScope ["paper"] ["paper"] (defScope sPaperKey) := ⟨rfl, rfl, rfl, by decide +kernel, rfl, by decide +kernel, by decide +kernel⟩
theorem scKeyOf : FnScope ["_law_paper"] ["_law_paper"] (defScope sKeyOf) := ⟨rfl, rfl, rfl, by decide +kernel, rfl, by decide +kernel, by decide +kernel⟩
theorem scIsInt : FnScope ["_law_thing"] ["_law_thing"] (defScope sIsInt) := ⟨rfl, rfl, rfl, by decide +kernel, rfl, by decide +kernel, by decide +kernel⟩
def ascL (l : List Nat) : Bool := (List.range (l.length - 1)).all fun k => decide (l.getD k 0 < l.getD (k + 1) 0)
def textB (lo hi : Int) (cs y : Str) : Bool := decide (lo ≤ y.length) && (decide ((y.length : Int) ≤ hi) && (tl y).all fun c => decide (c ∈ tl cs))
def signsB (y : Str) : Bool := textB 2 12 ALL y && ascL (tl y)
def NoText (K : PySem.W.Frag) (H : Hp) (x : V) : Prop := ∃ t, TyX K H x (.type t) ∧ PySem.W.kitOne K (.type t) (.type "str") = some false
def spIsText (K : PySem.W.Frag) : Sp := fun vs H Q _ => ∃ (x : V) (lo hi : Int) (cs : Str), vs = [x, .int lo, .int hi, .str cs] ∧ ((∃ y : Str, x = .str y ∧ y.length ≤ 1000 ∧ ∀ H', Same H H' → Q (.bl (textB lo hi cs y)) H') ∨ (NoText K H x ∧ Q (.bl false) H))
def spIsAsc : Sp := fun vs H Q _ => ∃ y : Str, vs = [.str y] ∧ y.length ≤ 1000 ∧ ∀ H', Same H H' → Q (.bl (ascL (tl y))) H'
def spAreSigns (K : PySem.W.Frag) : Sp := fun vs H Q _ => ∃ x : V, vs = [x] ∧ ((∃ y : Str, x = .str y ∧ y.length ≤ 1000 ∧ ∀ H', Same H H' → Q (.bl (signsB y)) H') ∨ (NoText K H x ∧ Q (.bl false) H))
def spKey : Sp := fun vs H Q _ => ∃ y : Str, vs = [.str y] ∧ y.length ≤ 1000000 ∧ ∀ p, H p = none → Q (.ref p) (upd H p (.tup [.int y.length, .str y]))
def spIsInt : Sp := fun vs H Q _ => ∃ i : Int, vs = [.int i] ∧ Q (.bl true) H
theorem all_bl (l : List Nat) (f : Nat → Bool) : l.map (fun c => V.bl (f c)) = (l.map f).map V.bl := by rw [List.map_map]; rfl
section
variable {P : Program} {w : World} {K : PySem.W.Frag} {mg : Str → Option Value} {base : Heap}
theorem ok_isText {f : Addr} {fd : FuncData} (F : Fun K "is_text" "is_text" sIsText f fd) (B : Bl mg) : FnOk P w K mg base CX0 1 f fd ["thing","least","most","characters"] (spIsText K) := by
  refine F.ok scIsText (fun vs H Q E h => ?_) (fun cdv A outer s H vs Q E hr h => ?_)
  · obtain ⟨x, lo, hi, cs, rfl, _⟩ := h
    rfl
  · obtain ⟨x, lo, hi, cs, rfl, h⟩ := h
    refine ⟨_, (pss_cons (ps_if (PW.pt (pw_or (pt_not (pt_val (pe_callB (id := "isinstance") (r := rIsi K) call_isi (by rfl) B.isin (by decide +kernel) (pa_cons (pv 0) (pa_cons (pe_bltn (v := .ty "str") (by rfl) B.str (by decide +kernel) rfl) pa_nil))))) (pw_or1 (pt_not (pt_chain op_le op_le (pv 1) (pe_callB call_len (by rfl) B.len PySem.boot_len (pa_cons (pv 0) pa_nil)) (pv 2)))))) (pss_one (ps_ret pe_bl)) pss_nil) (pss_one (ps_ret (pe_callB (cr_all rfl) (by rfl) B.all (by decide +kernel) (pa_cons (pe_lc (own := [("character", 4)]) (g := gName 4) (tt := tYes) rfl scIsText.nd (pi_str (pv 0)) (blkOk_by (N := nIsText) (sc := defScope sIsText) (by decide +kernel)) (fun _ _ _ _ _ => (pg_name (i := 4) scIsText.nd rfl (Or.inl rfl))) (fun _ _ _ _ _ => pts_nil) (fun _ _ _ _ _ => (pe_cmpR op_in_sign (pv 4) (pv 3) rfl))) pa_nil))))), ?_⟩
    try dsimp only [cxOf, Cx.nox, Cx.wish]
    rcases h with ⟨y, rfl, hy, k⟩ | ⟨⟨t, ht, hk⟩, k⟩
    · walk_at "go"
      refine r_isi (b := true) (.ty "str") (.base (.str _)) (kit_ty (by decide +kernel)) ?_
      walk_at "go"
      refine ⟨_, _, rfl, lenS (small_line hy), ?_⟩
      walk_at "go"
      unfold textB at k
      refine r_ite (fun h1 => ?_) (fun h1 => ?_)
      · rw [decide_eq_true h1, Bool.true_and] at k
        walk_at "go"
        by_cases h2 : (y.length : Int) ≤ hi
        · rw [decide_eq_true h2] at k ⊢
          rw [Bool.true_and] at k
          walk_at "go"
          intro D hD
          refine lc_smap (fun c => .bl (decide (c ∈ tl cs))) hD (small_line hy) (fun _ => rfl) (fun c hc H' R sm r => ?_) ?_
          · walk_at "go"
            exact ⟨c, cs, rfl, rfl, r⟩
          · walk_at "go"
            rw [all_bl]
            refine r_all (SqL.of upd_same) ?_
            have e : ((tl y).map fun c => decide (c ∈ tl cs)).all id = (tl y).all fun c => decide (c ∈ tl cs) := by rw [List.all_map]; rfl
            rw [e]
            exact k _ (same_new hD)
        · rw [decide_eq_false h2] at k ⊢
          walk_at "go"
          exact k H (Same.refl _)
      · rw [decide_eq_false h1] at k
        walk_at "go"
        exact k H (Same.refl _)
    · walk_at "go"
      refine r_isi (b := false) (.ty "str") ht hk ?_
      walk_at "go"
      exact k
theorem lt_ones (a b : Nat) : decide ((⟨#[a]⟩ : Str).cps.toList < (⟨#[b]⟩ : Str).cps.toList) = decide (a < b) := by
  show decide ([a] < [b]) = decide (a < b)
  have : [a] < [b] ↔ a < b := by
    rw [List.cons_lt_cons_iff]
    simp
  by_cases h : a < b
  · rw [decide_eq_true h, decide_eq_true (this.mpr h)]
  · rw [decide_eq_false h, decide_eq_false (fun q => h (this.mp q))]
theorem ok_isAsc {f : Addr} {fd : FuncData} (F : Fun K "is_ascending" "is_ascending" sIsAsc f fd) (B : Bl mg) : FnOk P w K mg base CX0 1 f fd ["things"] spIsAsc := by
  refine F.ok scIsAsc (fun vs H Q E h => ?_) (fun cdv A outer s H vs Q E hr h => ?_)
  · obtain ⟨y, rfl, _⟩ := h
    rfl
  · obtain ⟨y, rfl, hy, k⟩ := h
    refine ⟨_, (pss_one (ps_ret (pe_callB (cr_all rfl) (by rfl) B.all (by decide +kernel) (pa_cons (pe_lc (own := [("k", 1)]) (g := gName 1) (tt := tYes) rfl scIsAsc.nd (pi_range1 rfl B.range (pa_cons (pe_op op_sub (pe_callB call_len (by rfl) B.len PySem.boot_len (pa_cons (pv 0) pa_nil)) pe_int) pa_nil)) (blkOk_by (N := nIsAsc) (sc := defScope sIsAsc) (by decide +kernel)) (fun _ _ _ _ _ => (pg_name (i := 1) scIsAsc.nd rfl (Or.inl rfl))) (fun _ _ _ _ _ => pts_nil) (fun _ _ _ _ _ => (pe_cmpR op_lt_str (pe_ix ix_str (pv 0) (pv 1) (fun _ _ => rfl)) (pe_ix ix_str (pv 0) (pe_op op_add (pv 1) pe_int) (fun _ _ => rfl)) (nomark _)))) pa_nil)))), ?_⟩
    try dsimp only [cxOf, Cx.nox, Cx.wish]
    have ly := len_tl' y
    walk_at "go"
    refine ⟨_, _, rfl, lenS (small_line hy), ?_⟩
    walk_at "go"
    refine ⟨by omega, by omega, fun D hD => lc_rmap (n := ((y.length : Int) - 1).toNat) (fun j => .bl (decide ((tl y).getD j 0 < (tl y).getD (j + 1) 0))) hD (small_line (by omega)) (fun _ => rfl) (fun j hj H' R sm r => ?_) ?_⟩
    · have e1 : atI y.cps.toList (0 + (j : Int)) = some ((tl y).getD j 0) := by
        rw [Int.zero_add]
        refine atI_nat ?_
        show (tl y)[j]? = _
        rw [List.getD_eq_getElem?_getD, List.getElem?_eq_getElem (by omega)]; rfl
      have e2 : atI y.cps.toList (0 + (j : Int) + 1) = some ((tl y).getD (j + 1) 0) := by
        rw [Int.zero_add, show (j : Int) + 1 = ((j + 1 : Nat) : Int) from rfl]
        refine atI_nat ?_
        show (tl y)[j + 1]? = _
        rw [List.getD_eq_getElem?_getD, List.getElem?_eq_getElem (by omega)]; rfl
      walk_at "go"
      refine r_ixS (small_line hy) e1 ?_
      walk_at "go"
      refine r_ixS (small_line hy) e2 ?_
      walk_at "go"
      refine ⟨_, _, rfl, rfl, ?_⟩
      rw [lt_ones]
      exact r
    · walk_at "go"
      have e0 : ((y.length : Int) - 1).toNat = (tl y).length - 1 := by omega
      rw [e0, all_bl]
      refine r_all (SqL.of upd_same) ?_
      have e : ((List.range ((tl y).length - 1)).map fun j => decide ((tl y).getD j 0 < (tl y).getD (j + 1) 0)).all id = ascL (tl y) := by rw [List.all_map]; rfl
      rw [e]
      exact k _ (same_new hD)
structure Gb (mg : Str → Option Value) : Prop where
  least : ∃ t, mg "LEAST_KINDS" = some (.int 2 t)
  most : ∃ t, mg "MOST_KINDS" = some (.int 12 t)
  all : ∃ t, mg "ALL_SIGNS" = some (.str ALL t)
abbrev OIsText (P : Program) (w : World) (K : PySem.W.Frag) (mg : Str → Option Value) (base : Heap) : Prop := Own P w K mg base "is_text" 1 ["thing","least","most","characters"] (spIsText K)
abbrev OIsAsc (P : Program) (w : World) (K : PySem.W.Frag) (mg : Str → Option Value) (base : Heap) : Prop := Own P w K mg base "is_ascending" 1 ["things"] spIsAsc
theorem ok_areSigns {f : Addr} {fd : FuncData} (F : Fun K "are_signs" "are_signs" sAreSigns f fd) (G : Gb mg) (Oi : OIsText P w K mg base) (Oa : OIsAsc P w K mg base) : FnOk P w K mg base CX0 2 f fd ["thing"] (spAreSigns K) := by
  obtain ⟨t1, g1⟩ := G.least
  obtain ⟨t2, g2⟩ := G.most
  obtain ⟨t3, g3⟩ := G.all
  refine F.ok scAreSigns (fun vs H Q E h => ?_) (fun cdv A outer s H vs Q E hr h => ?_)
  · obtain ⟨x, rfl, _⟩ := h
    rfl
  · obtain ⟨x, rfl, h⟩ := h
    refine ⟨_, (pss_one (ps_ret (pe_and (pe_own Oi hr (pa_cons (pv 0) (pa_cons (pe_glob (v := .int 2) rfl g1 ⟨_, rfl⟩) (pa_cons (pe_glob (v := .int 12) rfl g2 ⟨_, rfl⟩) (pa_cons (pe_glob (v := .str ALL) rfl g3 ⟨_, rfl⟩) pa_nil))))) (pe_one (pe_own Oa hr (pa_cons (pv 0) pa_nil)))))), ?_⟩
    try dsimp only [cxOf, Cx.nox, Cx.wish]
    walk_at "go"
    refine ⟨x, 2, 12, ALL, rfl, ?_⟩
    rcases h with ⟨y, rfl, hy, k⟩ | ⟨h, k⟩
    · refine .inl ⟨y, rfl, hy, fun H' sm => ?_⟩
      unfold signsB at k
      cases e : textB 2 12 ALL y with
      | true =>
        rw [e, Bool.true_and] at k
        walk_at "go"
        refine ⟨hy, fun H2 sm2 => ?_⟩
        exact k H2 (Same.trans sm sm2)
      | false =>
        rw [e] at k
        walk_at "go"
        exact k H' sm
    · refine .inr ⟨h, ?_⟩
      walk_at "go"
      exact k
theorem ok_paperKey {f : Addr} {fd : FuncData} (F : Fun K "paper_key" "paper_key" sPaperKey f fd) (B : Bl mg) : FnOk P w K mg base CX0 1 f fd ["paper"] spKey := by
  refine F.ok scPaperKey (fun vs H Q E h => ?_) (fun cdv A outer s H vs Q E hr h => ?_)
  · obtain ⟨y, rfl, _⟩ := h
    rfl
  · obtain ⟨y, rfl, hy, k⟩ := h
    refine ⟨_, (pss_one (ps_ret (pe_tup (pa_cons (pe_callB call_len (by rfl) B.len PySem.boot_len (pa_cons (pv 0) pa_nil)) (pa_cons (pv 0) pa_nil))))), ?_⟩
    try dsimp only [cxOf, Cx.nox, Cx.wish]
    walk_at "go"
    refine ⟨_, _, rfl, lenS (big_line hy), ?_⟩
    walk_at "go"
    exact ⟨(by show 2 ≤ sizeLine; decide), k⟩
theorem ok_keyOf {f : Addr} {fd : FuncData} (F : Fun K "_law_key_of" "_law_key_of" sKeyOf f fd) (B : Bl mg) : FnOk P w K mg base CX0 1 f fd ["_law_paper"] spKey := by
  refine F.ok scKeyOf (fun vs H Q E h => ?_) (fun cdv A outer s H vs Q E hr h => ?_)
  · obtain ⟨y, rfl, _⟩ := h
    rfl
  · obtain ⟨y, rfl, hy, k⟩ := h
    refine ⟨_, (pss_one (ps_ret (pe_tup (pa_cons (pe_callB call_len (by rfl) B.len PySem.boot_len (pa_cons (pv 0) pa_nil)) (pa_cons (pv 0) pa_nil))))), ?_⟩
    try dsimp only [cxOf, Cx.nox, Cx.wish]
    walk_at "go"
    refine ⟨_, _, rfl, lenS (big_line hy), ?_⟩
    walk_at "go"
    exact ⟨(by show 2 ≤ sizeLine; decide), k⟩
theorem ok_isInt {f : Addr} {fd : FuncData} (F : Fun K "_law_is_int" "_law_is_int" sIsInt f fd) (B : Bl mg) : FnOk P w K mg base CX0 1 f fd ["_law_thing"] spIsInt := by
  refine F.ok scIsInt (fun vs H Q E h => ?_) (fun cdv A outer s H vs Q E hr h => ?_)
  · obtain ⟨i, rfl, _⟩ := h
    rfl
  · obtain ⟨i, rfl, k⟩ := h
    refine ⟨_, (pss_one (ps_ret (pe_and (pe_callB (id := "isinstance") (r := rIsi K) call_isi (by rfl) B.isin (by decide +kernel) (pa_cons (pv 0) (pa_cons (pe_bltn (v := .ty "int") (by rfl) B.int (by decide +kernel) rfl) pa_nil))) (pe_one (pe_not (pe_callB (id := "isinstance") (r := rIsi K) call_isi (by rfl) B.isin (by decide +kernel) (pa_cons (pv 0) (pa_cons (pe_bltn (v := .ty "bool") (by rfl) B.bool (by decide +kernel) rfl) pa_nil)))))))), ?_⟩
    try dsimp only [cxOf, Cx.nox, Cx.wish]
    walk_at "go"
    refine r_isi (b := true) (.ty "int") (.base (.int _)) (kit_ty (by decide +kernel)) ?_
    walk_at "go"
    refine r_isi (b := false) (.ty "bool") (.base (.int _)) (kit_ty (by decide +kernel)) ?_
    walk_at "go"
    exact k
end
end K1

/-! Br5 -/
/-! sorted by an own def as key; sorted of pairs of a number and a text. -/
namespace K1
open PySem L2 PyProof.Rows PySem.W PySem.Calls
def kd (y : Str) : PyData := .tuple [.int y.length, .str y]
theorem key_run {P : Program} {w : World} {K : Frag} {mg : Str → Option Value} {base : Heap} {f : Addr} {fd : FuncData} {A : Around} {s : Shared} {y : Str} {t : Tok}
    (F : Fun K "paper_key" "paper_key" sPaperKey f fd) (B : Bl mg) (M : Mod K mg base) (kb : ∀ b o, base.get? b = some o → s.heap.get? b = some o) (hd : A.depth < recursionLimit) (hy : y.length ≤ 1000000) :
    wpAny (model P w) A (call (.ref f) [.str y t]) (KeyPure (kd y) s) (fun _ _ => False) s := by
  obtain ⟨oc, od, kV, doc, pm, an, cdv, ct, osl, rfl, lk, hcd⟩ := F.ex
  have X : K.In s.heap := M.kin.keeps kb
  refine wpAny_call (Att.call_fn (binds := [("paper", .str y t)]) X (M.nolimit.keeps kb) lk hcd hd (BindsTo.of_eq (by first | rfl | with_unfolding_all rfl)) (by first | rfl | decide | with_unfolding_all rfl) (fun s₁ IC => ?_) rfl rfl rfl)
  obtain ⟨h₁, tk₁, rfl, kp⟩ := IC.done
  have hn := IC.toInCall.ns
  show wpAny _ _ (execs (defBody sPaperKey) _) _ _ _
  refine wpAny_execs_cons (wpAny_Return_some (wpAny_Tuple_spliced ?_))
  obtain ⟨mb, hb1, hb2⟩ := M.blt
  have kb1 : ∀ b o, base.get? b = some o → h₁.get? b = some o := fun b o e => kp b o (kb b o e)
  refine spliced_cons ?_
  refine wpAny_Call_Name_kw (Name_function_global rfl (by with_unfolding_all rfl) (loadGlobal_builtin (M.glob.keeps kb1) B.len (hb1.keeps kb1) ((hb2 "len" (by decide)).trans PySem.boot_len) ?_) (by decide))
  refine PyProof.Rows.callWith_builtin1 ?_ (by with_unfolding_all rfl) (by with_unfolding_all rfl)
  have hsl := sizeLine_eq
  refine spliced_cons (wpAny_Name (wpAny_loadName_local rfl (by with_unfolding_all rfl) hn (by with_unfolding_all rfl) ?_) (by decide))
  refine spliced_nil ?_
  refine PyProof.Rows.len_str (by omega) ?_
  refine spliced_cons (wpAny_Name (wpAny_loadName_local rfl (by with_unfolding_all rfl) hn (by with_unfolding_all rfl) ?_) (by decide))
  refine spliced_nil ?_
  refine ⟨(by show 2 ≤ sizeLine; decide), ?_⟩
  refine ⟨_, _, rfl, fun b o e => Heap.get?_push_of_some _ (kp b o e), ?_⟩
  exact .tuple (Heap.get?_push_size _ rfl) rfl rfl (.cons (as := []) (.int _ _) (.cons (as := []) (bs := []) (.str _ _) .nil))

/-- texts in order: by length, then as texts -/
def ordS (ys : List Str) : List Str := ys.mergeSort (dataLe false kd)
theorem ord_idem (ys : List Str) : ordS (ordS ys) = ordS ys := by
  have T : TotalLe (dataLe false kd) := sortLe_total _ _ _
  exact (sort_unique T (sort_pairwise T ys) (fun _ => rfl)).symm
theorem ord_perm (ys : List Str) : (ordS ys).Perm ys := List.mergeSort_perm _ _
def IsS (v : Value) (y : Str) : Prop := ∃ t, v = .str y t
theorem each_of_vals : ∀ {ys : List Str} {us : List Value}, Vals (ys.map V.str) us → EachIs IsS us ys
  | [], _, r => by cases r; exact .nil
  | y :: ys, _, r => by
    cases r with
    | cons h t => exact .cons h (each_of_vals t)
theorem vals_of_each : ∀ {ys : List Str} {us : List Value}, EachIs IsS us ys → Vals (ys.map V.str) us
  | _, _, .nil => .nil
  | _, _, .cons h t => .cons h (vals_of_each t)
theorem alike_kd (a b : Str) : alike (kd a) (kd b) = true := by simp [kd, alike, alikeAll]
/-- the items of a list or a tuple, taken into a fresh list -/
theorem collectS {P : Program} {w : World} {A : Around} {E : Value → Shared → Prop} {s : Shared} {a : Addr} {T : String} {o : Obj} {its : List Value} {n : Nat} {R : List Value → Shared → Prop} (hT : T = "list" ∨ T = "tuple") (ho : s.heap.get? a = some o)
    (hc : o.cls = .type T) (hd : o.data = .seq its.toArray n) (hz : its.length ≤ sizeLine)
    (k : ∀ h1, (∀ b u, s.heap.get? b = some u → h1.get? b = some u) → h1.objs.size = s.heap.objs.size + 1 → R its { s with heap := h1 }) : wpAny (model P w) A (collect (.ref a)) R E s := by
  unfold collect
  refine wpAny_bind (wpAny_runValue (codeAny_builtin entry_proto_collect' ?_))
  change wpAny _ _ (newList [] >>= fun q => again (.builtin "list.__iadd__" ⟨[q, .ref a], []⟩)) _ _ s
  refine wpAny_bind (wpAny_newList (wpAny_pure ⟨Code.quiet_builtin _ (by decide +kernel), codeAny_builtin entry_list_iadd' ?_⟩))
  change wpAny _ _ (Builtin.List.listExtendWith (.ref s.heap.objs.size) (.ref a) (.ref s.heap.objs.size)) _ _ { s with heap := s.heap.push (seqObj "list" #[] 0) }
  have ha' : (s.heap.push (seqObj "list" #[] 0)).get? a = some o := Heap.get?_push_of_some _ ho
  have hs' : (s.heap.push (seqObj "list" #[] 0)).get? s.heap.objs.size = some (seqObj "list" #[] 0) := Heap.get?_push_size _ rfl
  unfold Builtin.List.listExtendWith
  refine wpAny_bind (wpAny_typeOf (T := T) ⟨o, ha', hc⟩ ?_)
  rw [if_pos (by rcases hT with rfl | rfl <;> simp)]
  refine wpAny_bind (listItems_at (s := { s with heap := s.heap.push (seqObj "list" #[] 0) }) ha' hd ?_)
  refine wpAny_bind (listItems_at (s := { s with heap := s.heap.push (seqObj "list" #[] 0) }) (xs := #[]) (n := 0) hs' rfl ?_)
  rw [if_neg (by simp)]
  have hz' : (#[] ++ its.toArray : Array Value).size ≤ sizeLine + 1 := by
    rw [Array.size_append, List.size_toArray]
    show 0 + its.length ≤ _
    omega
  refine wpAny_bind (listUpdate_at (s := { s with heap := s.heap.push (seqObj "list" #[] 0) }) (xs := #[]) (n := 0) hs' rfl ?_ (Nat.zero_le _) hz')
  refine wpAny_pure ?_
  have hg := get?_update_seq hs' (fun xs => xs ++ its.toArray)
  change wpAny (model P w) A (load s.heap.objs.size >>= fun ob => (match ob.data with
      | .seq ys _ => pure ys.toList
      | _ => unsupported "internal:collect")) R E { s with heap := (s.heap.push (seqObj "list" #[] 0)).update s.heap.objs.size (Obj.mapSeq (· ++ its.toArray)) }
  refine wpAny_bind (wpAny_load hg ?_)
  change wpAny _ _ (pure ((#[] : Array Value) ++ its.toArray).toList) R E _
  have ei : ((#[] : Array Value) ++ its.toArray).toList = its := by simp
  rw [ei]
  refine wpAny_pure (k _ (fun b u q => ?_) ?_)
  · rw [Heap.get?_update_ne _ _ _ _ (Nat.ne_of_lt (Heap.lt_size q))]
    exact Heap.get?_push_of_some _ q
  · rw [Heap.size_update, size_push']
theorem cr_sortedKey {X : Cx} {f : Addr} {fd : FuncData} {k : Nat} (F : Fun X.K "paper_key" "paper_key" sPaperKey f fd) (B : Bl X.mg) (hr : Room k X.A) :
    CallRK X (.builtin "sorted") ["key"] (fun xs zs H Q => ∃ (a : Addr) (ys : List Str), xs = [.ref a] ∧ zs = [.ref f] ∧ (SqL X.K H a (ys.map V.str) ∨ SqT X.K H a (ys.map V.str)) ∧ (∀ y ∈ ys, y.length ≤ 1000000) ∧ ys.length ≤ 1000 ∧
      ∀ p, H p = none → Q (.ref p) (upd H p (.lst ((ordS ys).map V.str)))) := by
  intro pins s σ H xs zs us ws Q I rx rz h
  obtain ⟨a, ys, rfl, rfl, hq, hy, hlen, q⟩ := h
  obtain ⟨u, rfl, ru⟩ := vals1 rx
  obtain ⟨v, rfl, rv⟩ := vals1 rz
  cases ru
  cases rv
  have hsl := sizeLine_eq
  obtain ⟨T, o, its, n, hT, ho, hc, hd, r⟩ : ∃ (T : String) (o : Obj) (its : List Value) (n : Nat), (T = "list" ∨ T = "tuple") ∧ s.heap.get? a = some o ∧ o.cls = .type T ∧ o.data = .seq its.toArray n ∧ Vals (ys.map V.str) its := by
    rcases hq with hq | hq
    · obtain ⟨its, r, pl, _⟩ := I.list hq
      obtain ⟨o, ho, hc, n, hd⟩ := pl.isList
      exact ⟨"list", o, its, n, .inl rfl, ho, hc, hd, r⟩
    · obtain ⟨its, r, pl, _⟩ := I.tuple hq
      obtain ⟨o, ho, hc, n, hd⟩ := pl
      exact ⟨"tuple", o, its, n, .inr rfl, ho, hc, hd, r⟩
  have il : its.length = ys.length := by rw [← r.length, List.length_map]
  have e := each_of_vals r
  show wpAny _ _ (call (.builtin "sorted") [.ref a] [(Str.ofString "key", .ref f)]) _ _ _
  refine call_function_entry_kw kind_sorted plain_sorted entry_sorted (ksk_s1 _ _) ?_
  unfold Builtin.«sorted»
  refine wpAny_bind (m := checkCount "sorted" 1 1 _) (wpAny_pure ?_)
  refine wpAny_bind (collectS hT ho hc hd (by omega) fun h1 k1 z1 => ?_)
  have hz : its.length ≤ sizeLine := by omega
  refine wpAny_bind (wpAny_newList ?_ hz)
  have hS : (h1.push (seqObj "list" its.toArray 0)).get? h1.objs.size = some (seqObj "list" its.toArray 0) := Heap.get?_push_size _ rfl
  have kS : ∀ b u, s.heap.get? b = some u → b ≠ h1.objs.size ∧ (h1.push (seqObj "list" its.toArray 0)).get? b = some u := fun b u q =>
    ⟨Nat.ne_of_lt (Nat.lt_of_lt_of_le (Heap.lt_size q) (show s.heap.objs.size ≤ h1.objs.size by omega)), Heap.get?_push_of_some _ (k1 b u q)⟩
  refine wpAny_bind (wpAny_holding (wpAny_call_entry_kw slot_list_sort ⟨_, hS, rfl⟩ entry_list_sort ?_ (by unfold argsOk; kernel_rfl)))
  rw [ksk_t1]
  have T : TotalLe (dataLe false kd) := sortLe_total _ _ _
  refine keyH_tree (kz := ys.map kd) (vs := its) (n := 0) hS (by rw [List.length_map, il]) hz (AllAlike.of alike_kd) (Sortable.tuples fun y => ⟨_, _, rfl⟩) (fun d hd' => ?_)
    (keyH_turns (s := { s with heap := h1.push (seqObj "list" its.toArray 0) }) e fun v x hv hx h2 tk2 kp2 => ?_) fun h2 tk2 out c kp2 hD ko => ?_
  · obtain ⟨y, _, rfl⟩ := List.mem_map.mp hd'
    have := hr.un
    show X.A.in1.in1.units + (kd y).depth < cLine
    have e1 : (kd y).depth = 1 := by simp [kd, PyData.depth, PyData.depthAll]
    rw [e1]
    show X.A.units + 1 + 1 + 1 < cLine
    omega
  · obtain ⟨t, rfl⟩ := hv
    refine key_run (s := { s with heap := h2, toks := tk2 }) F B I.mod (fun b u q => ?_) ?_ (hy x hx)
    · obtain ⟨n1, n2⟩ := kS b u (I.bk b u q)
      exact kp2 b u n1 n2
    · exact hr.depth
  · have eo := keyedOut_each kd ko e
    refine ⟨_, rfl, wpAny_pure ⟨_, rfl, .ref h1.objs.size, upd H h1.objs.size (.lst ((ordS ys).map V.str)), ?_, rfl, q _ ?_⟩⟩
    · refine I.laid (t' := tk2) (h' := h2) (fun b u z => ?_) (show s.heap.objs.size ≤ h1.objs.size by omega) ?_
      · obtain ⟨n1, n2⟩ := kS b u z
        exact kp2 b u n1 n2
      · refine ⟨?_, out, c, vals_of_each eo, hD⟩
        rw [List.length_map, (ord_perm ys).length_eq]
        omega
    · exact I.hok.fresh (show s.heap.objs.size ≤ h1.objs.size by omega)
end K1

/-! Br6 -/
namespace K1
open PySem L2 PyProof.Rows PySem.W PySem.Calls
def IsR (v : Value) (e : Addr × Str) : Prop := v = .ref e.1
theorem each_refs : ∀ {es : List (Addr × Str)} {us : List Value}, Vals (es.map fun e => V.ref e.1) us → EachIs IsR us es
  | [], _, r => by cases r; exact .nil
  | e :: es, _, r => by
    cases r with
    | cons h t => exact .cons h (each_refs t)
theorem refs_each : ∀ {es : List (Addr × Str)} {us : List Value}, EachIs IsR us es → Vals (es.map fun e => V.ref e.1) us
  | _, _, .nil => .nil
  | _, _, .cons h t => .cons h (refs_each t)
theorem each_with {R S : Value → (Addr × Str) → Prop} : ∀ {us : List Value} {es : List (Addr × Str)}, EachIs R us es → (∀ v e, e ∈ es → R v e → S v e) → EachIs S us es
  | _, _, .nil, _ => .nil
  | _, _, .cons h t, k => .cons (k _ _ (by simp) h) (each_with t fun v e m => k v e (by simp [m]))
theorem cr_sortedTup {X : Cx} {k : Nat} (hr : Room k X.A) : CallR X (.builtin "sorted") (fun xs H Q => ∃ (a : Addr) (es : List (Addr × Str)), xs = [.ref a] ∧ SqL X.K H a (es.map fun e => V.ref e.1) ∧ (∀ e ∈ es, SqT X.K H e.1 [.int e.2.length, .str e.2]) ∧ es.length ≤ 1000 ∧
    ∀ (es' : List (Addr × Str)) p, es'.map (·.2) = ordS (es.map (·.2)) → (∀ e ∈ es', e ∈ es) → H p = none → Q (.ref p) (upd H p (.lst (es'.map fun e => V.ref e.1)))) := by
  intro pins s σ H xs us Q I rx h
  obtain ⟨a, es, rfl, hs, ht, hlen, q⟩ := h
  obtain ⟨u, rfl, ru⟩ := vals1 rx
  cases ru
  have hsl := sizeLine_eq
  obtain ⟨its, r, pl, _⟩ := I.list hs
  have er := each_refs r
  have er2 : EachIs (fun v e => ∃ as, Reads s.heap v ((fun e : Addr × Str => kd e.2) e) as) its es := each_with er fun v e he hv =>
    Dp.reads I (kd e.2) (.ref e.1) v (.tup (ht e he) (.cons (.int _) (.cons (.str _) .nil))) hv
  refine sorted_data (enc := fun e : Addr × Str => kd e.2) pl.isList er er2 (AllAlike.of fun b b' => alike_kd _ _) (Sortable.tuples fun e => ⟨_, _, rfl⟩) (by omega) (fun e _ => ?_) fun out hl eo => ?_
  · have := hr.un
    have e1 : (kd e.2).depth = 1 := by simp [kd, PyData.depth, PyData.depthAll]
    show X.A.units + 2 + (kd e.2).depth < cLine
    rw [e1]; omega
  · obtain ⟨ep, at'⟩ := sortedAll_at s.heap its out.toArray
    have pm : (es.mergeSort (dataLe false fun e : Addr × Str => kd e.2)).Perm es := List.mergeSort_perm _ _
    refine ⟨.ref _, upd H (s.heap.objs.size + 1) (.lst ((es.mergeSort (dataLe false fun e : Addr × Str => kd e.2)).map fun e => V.ref e.1)), I.laid (t' := s.toks) (fun b u z => sortedAll_old z) (Nat.le_succ _) ?_, rfl, q _ _ ?_ (fun e he => pm.mem_iff.mp he) (I.hok.fresh (Nat.le_succ _))⟩
    · refine ⟨?_, out, ep, refs_each eo, at'⟩
      rw [List.length_map, pm.length_eq]; omega
    · exact sort_maps (fun e : Addr × Str => e.2) fun x _ y _ => rfl
end K1

/-! K01H -/

namespace K1
open PySem L2
abbrev sNoList : Stmt := top 42
abbrev sSame : Stmt := top 44
abbrev sOrdered : Stmt := top 40
abbrev sInOrder : Stmt := top 30
abbrev nNoList : List Str := ["_law_thing","_law_part"]
theorem scNoList : FnScope nNoList ["_law_thing"] (defScope sNoList) := ⟨rfl, rfl, rfl, by decide +kernel, rfl, by decide +kernel, by decide +kernel⟩
theorem scSame : FnScope ["_law_told","_law_wanted"] ["_law_told","_law_wanted"] (defScope sSame) := ⟨rfl, rfl, rfl, by decide +kernel, rfl, by decide +kernel, by decide +kernel⟩
abbrev nOrdered : List Str := ["_law_papers","_law_key","_law_one"]
theorem scOrdered : FnScope nOrdered ["_law_papers"] (defScope sOrdered) := ⟨rfl, rfl, rfl, by decide +kernel, rfl, by decide +kernel, by decide +kernel⟩
theorem scInOrder : FnScope ["papers"] ["papers"] (defScope sInOrder) := ⟨rfl, rfl, rfl, by decide +kernel, rfl, by decide +kernel, by decide +kernel⟩
/-- numbers and texts -/
def Flat (x : V) : Prop := (∃ i, x = .int i) ∨ ∃ s, x = .str s ∧ PyData.strOk s = true
def spNever : Sp := fun _ _ _ _ => False
def spFlat : Sp := fun vs H Q _ => ∃ x : V, vs = [x] ∧ Flat x ∧ Q (.bl true) H
def spNoList : Sp := fun vs H Q _ => ∃ (a : Addr) (xs : List V), vs = [.ref a] ∧ H a = some (.tup xs) ∧ (∀ x ∈ xs, Flat x) ∧ xs.length ≤ 1000 ∧ ∀ H', Same H H' → Q (.bl true) H'
def spSame : Sp := fun vs H Q _ => ∃ (a b : Addr) (xs : List V), vs = [.ref a, .ref b] ∧ H a = some (.tup xs) ∧ H b = some (.tup xs) ∧ (∀ x ∈ xs, Flat x) ∧ xs.length ≤ 1000 ∧ ∀ H', Same H H' → Q (.bl true) H'
def spOrdered (K : PySem.W.Frag) : Sp := fun vs H Q _ => ∃ (a : Addr) (ys : List Str), vs = [.ref a] ∧ SqL K H a (ys.map V.str) ∧ (∀ y ∈ ys, y.length ≤ 1000) ∧ ys.length ≤ 1000 ∧ ∀ H' p, Same H H' → H p = none → H' p = some (.lst ((ordS ys).map V.str)) → Q (.ref p) H'
def spInOrder (K : PySem.W.Frag) : Sp := fun vs H Q _ => ∃ (a : Addr) (ys : List Str), vs = [.ref a] ∧ (SqL K H a (ys.map V.str) ∨ SqT K H a (ys.map V.str)) ∧ (∀ y ∈ ys, y.length ≤ 1000) ∧ ys.length ≤ 1000 ∧ ∀ H' p, Same H H' → H p = none → H' p = some (.tup ((ordS ys).map V.str)) → Q (.ref p) H'
def fld : V → PyData
  | .int i => .int i
  | .str s => .str s
  | _ => .none
section
variable {P : Program} {w : World} {K : PySem.W.Frag} {mg : Str → Option Value} {base : Heap}
theorem never_ok {f : Addr} {fd : FuncData} {ps : List Str} : FnOk P w K mg base CX0 0 f fd ps spNever := ⟨fun _ _ _ _ h => h.elim, fun _ _ _ _ _ _ _ _ _ _ _ _ _ h => h.elim⟩
theorem flat_str {K : PySem.W.Frag} {H : Hp} {x : V} (h : Flat x) (T : String) (h1 : PySem.W.kitOne K (.type "int") (.type T) = some false) (h2 : PySem.W.kitOne K (.type "str") (.type T) = some false) : ∃ t, TyX K H x (.type t) ∧ PySem.W.kitOne K (.type t) (.type T) = some false := by
  rcases h with ⟨i, rfl⟩ | ⟨s, rfl, _⟩
  · exact ⟨"int", .base (.int _), h1⟩
  · exact ⟨"str", .base (.str _), h2⟩
theorem ok_flat {f : Addr} {fd : FuncData} (F : Fun K "_law_no_list" "_law_no_list" sNoList f fd) (B : Bl mg) (m : mg "_law_no_list" = some (.ref f)) (b : Binds K fd ["_law_thing"] []) : FnOk P w K mg base CX0 1 f fd ["_law_thing"] spFlat := by
  have O0 : Own P w K mg base "_law_no_list" 0 ["_law_thing"] spNever := ⟨f, fd, never_ok, m, F.kp, b⟩
  refine F.ok scNoList (fun vs H Q E h => ?_) (fun cdv A outer s H vs Q E hr h => ?_)
  · obtain ⟨x, rfl, _⟩ := h
    rfl
  · obtain ⟨x, rfl, hx, k⟩ := h
    refine ⟨_, (pss_cons (ps_if (pt_val (pe_callB (id := "isinstance") (r := rIsi K) call_isi (by rfl) B.isin (by decide +kernel) (pa_cons (pv 0) (pa_cons (pe_bltn (v := .ty "tuple") (by rfl) B.tuple (by decide +kernel) rfl) pa_nil)))) (pss_one (ps_ret (pe_callB (cr_all rfl) (by rfl) B.all (by decide +kernel) (pa_cons (pe_lc (own := [("_law_part", 1)]) (g := gName 1) (tt := tYes) rfl scNoList.nd (pi_tup (pv 0)) (blkOk_by (N := nNoList) (sc := defScope sNoList) (by decide +kernel)) (fun _ _ _ _ _ => (pg_name (i := 1) scNoList.nd rfl (Or.inl rfl))) (fun _ _ _ _ _ => pts_nil) (fun _ _ _ _ _ => (pe_own O0 hr (pa_cons (pv 1) pa_nil)))) pa_nil)))) pss_nil) (pss_one (ps_ret (pe_and (pe_not (pe_callB (id := "isinstance") (r := rIsi K) call_isi (by rfl) B.isin (by decide +kernel) (pa_cons (pv 0) (pa_cons (pe_bltn (v := .ty "list") (by rfl) B.list (by decide +kernel) rfl) pa_nil)))) (pe_one (pe_not (pe_callB (id := "isinstance") (r := rIsi K) call_isi (by rfl) B.isin (by decide +kernel) (pa_cons (pv 0) (pa_cons (pe_bltn (v := .ty "bool") (by rfl) B.bool (by decide +kernel) rfl) pa_nil))))))))), ?_⟩
    try dsimp only [cxOf, Cx.nox, Cx.wish]
    obtain ⟨t1, a1, b1⟩ := flat_str (K := K) (H := H) hx "tuple" (kit_ty (by decide +kernel)) (kit_ty (by decide +kernel))
    obtain ⟨t2, a2, b2⟩ := flat_str (K := K) (H := H) hx "list" (kit_ty (by decide +kernel)) (kit_ty (by decide +kernel))
    obtain ⟨t3, a3, b3⟩ := flat_str (K := K) (H := H) hx "bool" (kit_ty (by decide +kernel)) (kit_ty (by decide +kernel))
    walk_at "go"
    refine r_isi (b := false) (.ty "tuple") a1 b1 ?_
    walk_at "go"
    refine r_isi (b := false) (.ty "list") a2 b2 ?_
    walk_at "go"
    refine r_isi (b := false) (.ty "bool") a3 b3 ?_
    walk_at "go"
    exact k

abbrev OFlat (P : Program) (w : World) (K : PySem.W.Frag) (mg : Str → Option Value) (base : Heap) : Prop := Own P w K mg base "_law_no_list" 1 ["_law_thing"] spFlat
theorem ok_noList {f : Addr} {fd : FuncData} (F : Fun K "_law_no_list" "_law_no_list" sNoList f fd) (B : Bl mg) (O0 : OFlat P w K mg base) : FnOk P w K mg base CX0 2 f fd ["_law_thing"] spNoList := by
  refine F.ok scNoList (fun vs H Q E h => ?_) (fun cdv A outer s H vs Q E hr h => ?_)
  · obtain ⟨a, xs, rfl, _⟩ := h
    rfl
  · obtain ⟨a, xs, rfl, ha, hx, hl, k⟩ := h
    refine ⟨_, (pss_cons (ps_if (pt_val (pe_callB (id := "isinstance") (r := rIsi K) call_isi (by rfl) B.isin (by decide +kernel) (pa_cons (pv 0) (pa_cons (pe_bltn (v := .ty "tuple") (by rfl) B.tuple (by decide +kernel) rfl) pa_nil)))) (pss_one (ps_ret (pe_callB (cr_all rfl) (by rfl) B.all (by decide +kernel) (pa_cons (pe_lc (own := [("_law_part", 1)]) (g := gName 1) (tt := tYes) rfl scNoList.nd (pi_tup (pv 0)) (blkOk_by (N := nNoList) (sc := defScope sNoList) (by decide +kernel)) (fun _ _ _ _ _ => (pg_name (i := 1) scNoList.nd rfl (Or.inl rfl))) (fun _ _ _ _ _ => pts_nil) (fun _ _ _ _ _ => (pe_own O0 hr (pa_cons (pv 1) pa_nil)))) pa_nil)))) pss_nil) (pss_one (ps_ret (pe_and (pe_not (pe_callB (id := "isinstance") (r := rIsi K) call_isi (by rfl) B.isin (by decide +kernel) (pa_cons (pv 0) (pa_cons (pe_bltn (v := .ty "list") (by rfl) B.list (by decide +kernel) rfl) pa_nil)))) (pe_one (pe_not (pe_callB (id := "isinstance") (r := rIsi K) call_isi (by rfl) B.isin (by decide +kernel) (pa_cons (pv 0) (pa_cons (pe_bltn (v := .ty "bool") (by rfl) B.bool (by decide +kernel) rfl) pa_nil))))))))), ?_⟩
    try dsimp only [cxOf, Cx.nox, Cx.wish]
    walk_at "go"
    refine r_isi (b := true) (.ty "tuple") (.base (.tup ha)) (kit_ty (by decide +kernel)) ?_
    walk_at "go"
    refine ⟨⟨_, SqT.of ha⟩, fun D hD => lc_tup (K := K) (a := a) (xs := xs) (fun i H' => H' = upd H D (.lst ((xs.take i).map fun _ => V.bl true))) (by simp) (fun i H' _ e => by rw [e]; exact SqT.of (same_new hD _ _ ha)) ?_ (fun H' e => ?_)⟩
    · rintro i x H' hi rfl
      have hxm : x ∈ xs := List.mem_of_getElem? hi
      walk_at "go"
      refine ⟨rfl, ?_⟩
      show tCall spFlat [] E0 (tCons (tVar 1) tNil) _ _ _
      walk_at "go"
      refine ⟨hx x hxm, ?_⟩
      refine ⟨_, upd_same, ?_, ?_⟩
      · simp only [List.length_map, List.length_take]
        exact small1000 (by omega)
      · rw [upd_upd, List.take_succ, hi]; simp
    · rw [e, List.take_length]
      walk_at "go"
      have eb : (xs.map fun _ => V.bl true) = (xs.map fun _ => true).map V.bl := by rw [List.map_map]; rfl
      rw [eb]
      refine r_all (SqL.of upd_same) ?_
      have ea : (xs.map fun _ => true).all id = true := by rw [List.all_map]; simp
      rw [ea]
      exact k _ (same_new hD)
theorem dp_flat {H : Hp} : ∀ {xs : List V}, (∀ x ∈ xs, Flat x) → DpAll K H xs (xs.map fld)
  | [], _ => .nil
  | x :: xs, h => by
    refine .cons ?_ (dp_flat fun y hy => h y (by simp [hy]))
    rcases h x (by simp) with ⟨i, rfl⟩ | ⟨s, rfl, _⟩
    · exact .int i
    · exact .str s
theorem eqv_flat : ∀ {xs : List V}, (∀ x ∈ xs, Flat x) → PyData.eqvAll (xs.map fld) (xs.map fld) = true
  | [], _ => by simp [PyData.eqvAll]
  | x :: xs, h => by
    show PyData.eqvAll (fld x :: xs.map fld) (fld x :: xs.map fld) = true
    rw [PyData.eqvAll, eqv_flat fun y hy => h y (by simp [hy])]
    rcases h x (by simp) with ⟨i, rfl⟩ | ⟨s, rfl, _⟩ <;> simp [fld, PyData.eqv]
theorem lay_flat : ∀ {xs : List V}, (∀ x ∈ xs, Flat x) → PyData.canLayAll0 (xs.map fld) = true ∧ PyData.depthAll (xs.map fld) = 0
  | [], _ => by simp [PyData.canLayAll0, PyData.depthAll]
  | x :: xs, h => by
    obtain ⟨h1, h2⟩ := lay_flat fun y hy => h y (List.mem_cons_of_mem x hy)
    show PyData.canLayAll0 (fld x :: xs.map fld) = true ∧ PyData.depthAll (fld x :: xs.map fld) = 0
    rw [PyData.canLayAll0, PyData.depthAll, h1, h2]
    rcases h x (by simp) with ⟨i, rfl⟩ | ⟨s, rfl, hs⟩
    · simp [fld, PyData.canLay0, PyData.depth]
    · simp [fld, PyData.canLay0, PyData.depth, hs]
abbrev ONoList (P : Program) (w : World) (K : PySem.W.Frag) (mg : Str → Option Value) (base : Heap) : Prop := Own P w K mg base "_law_no_list" 2 ["_law_thing"] spNoList
theorem ok_same {f : Addr} {fd : FuncData} (F : Fun K "_law_same_tuple" "_law_same_tuple" sSame f fd) (B : Bl mg) (On : ONoList P w K mg base) : FnOk P w K mg base CX0 3 f fd ["_law_told","_law_wanted"] spSame := by
  refine F.ok scSame (fun vs H Q E h => ?_) (fun cdv A outer s H vs Q E hr h => ?_)
  · obtain ⟨a, b, xs, rfl, _⟩ := h
    rfl
  · obtain ⟨a, b, xs, rfl, ha, hb, hx, hl, k⟩ := h
    refine ⟨_, (pss_one (ps_ret (pe_and (pe_callB (id := "isinstance") (r := rIsi K) call_isi (by rfl) B.isin (by decide +kernel) (pa_cons (pv 0) (pa_cons (pe_bltn (v := .ty "tuple") (by rfl) B.tuple (by decide +kernel) rfl) pa_nil))) (pe_and (pe_cmpR (op_eqD hr.units) (pv 0) (pv 1) (nomark _)) (pe_one (pe_own On hr (pa_cons (pv 0) pa_nil))))))), ?_⟩
    try dsimp only [cxOf, Cx.nox, Cx.wish]
    walk_at "go"
    refine r_isi (b := true) (.ty "tuple") (.base (.tup ha)) (kit_ty (by decide +kernel)) ?_
    walk_at "go"
    have sh : SeqAt.shaped (.tuple (xs.map fld)) = true := by
      obtain ⟨h1, h2⟩ := lay_flat hx
      unfold SeqAt.shaped
      rw [PyData.canLay0, h1, PyData.depth, h2]
      rfl
    refine ⟨.tuple (xs.map fld), .tuple (xs.map fld), .tup (SqT.of ha) (dp_flat hx), .tup (SqT.of hb) (dp_flat hx), sh, sh, ?_⟩
    have ev : PyData.eqv (.tuple (xs.map fld)) (.tuple (xs.map fld)) = true := by rw [PyData.eqv]; exact eqv_flat hx
    rw [ev]
    walk_at "go"
    exact ⟨a, xs, rfl, ha, hx, hl, k⟩
theorem ok_inOrder {f : Addr} {fd : FuncData} {f1 : Addr} {fd1 : FuncData} (F : Fun K "in_order" "in_order" sInOrder f fd) (B : Bl mg) (F1 : Fun K "paper_key" "paper_key" sPaperKey f1 fd1) (m1 : mg "paper_key" = some (.ref f1)) :
    FnOk P w K mg base CX0 2 f fd ["papers"] (spInOrder K) := by
  refine F.ok scInOrder (fun vs H Q E h => ?_) (fun cdv A outer s H vs Q E hr h => ?_)
  · obtain ⟨a, ys, rfl, _⟩ := h
    rfl
  · obtain ⟨a, ys, rfl, hq, hy, hl, k⟩ := h
    refine ⟨_, (pss_one (ps_ret (pe_callTy call_tuple_of (by rfl) B.tuple (by decide +kernel) (pa_cons (pe_callBK (ks := ["key"]) (cr_sortedKey F1 B hr) (by rfl) B.sorted (by decide +kernel) (pa_cons (pv 0) pa_nil) (pk_cons (pe_glob (v := .ref f1) rfl m1 rfl) pk_nil)) pa_nil)))), ?_⟩
    try dsimp only [cxOf, Cx.nox, Cx.wish]
    walk_at "go"
    refine ⟨a, ys, rfl, rfl, hq, fun y h => Nat.le_trans (hy y h) (by decide), hl, fun p hp => ?_⟩
    walk_at "go"
    refine ⟨p, _, rfl, .inl ⟨SqL.of upd_same, fun l hl' => ?_⟩⟩
    have s1 : Same H _ := Same.trans (same_new hp) (same_new (o := HO.tup ((ordS ys).map V.str)) hl')
    exact k _ l s1 (Same.free (same_new hp) hl') upd_same
end
end K1

/-! K01I -/

namespace K1
open PySem L2
section
variable {P : Program} {w : World} {K : PySem.W.Frag} {mg : Str → Option Value} {base : Heap}
abbrev OKeyOf (P : Program) (w : World) (K : PySem.W.Frag) (mg : Str → Option Value) (base : Heap) : Prop := Own P w K mg base "_law_key_of" 1 ["_law_paper"] spKey
theorem ok_ordered {f : Addr} {fd : FuncData} (F : Fun K "_law_ordered" "_law_ordered" sOrdered f fd) (B : Bl mg) (Ok : OKeyOf P w K mg base) : FnOk P w K mg base CX0 2 f fd ["_law_papers"] (spOrdered K) := by
  refine F.ok scOrdered (fun vs H Q E h => ?_) (fun cdv A outer s H vs Q E hr h => ?_)
  · obtain ⟨a, ys, rfl, _⟩ := h
    rfl
  · obtain ⟨a, ys, rfl, hS, hy, hl, k⟩ := h
    refine ⟨_, (pss_one (ps_ret (pe_lc (own := [("_law_key", 1)]) (g := gName 1) (tt := tYes) rfl scOrdered.nd (pi_list (pe_callB (cr_sortedTup hr) (by rfl) B.sorted (by decide +kernel) (pa_cons (pe_lc (own := [("_law_one", 2)]) (g := gName 2) (tt := tYes) rfl scOrdered.nd (pi_list (pv 0)) (blkOk_by (N := nOrdered) (sc := defScope sOrdered) (by decide +kernel)) (fun _ _ _ _ _ => (pg_name (i := 2) scOrdered.nd rfl (Or.inl rfl))) (fun _ _ _ _ _ => pts_nil) (fun _ _ _ _ _ => (pe_own Ok hr (pa_cons (pv 2) pa_nil)))) pa_nil))) (blkOk_by (N := nOrdered) (sc := defScope sOrdered) (by decide +kernel)) (fun _ _ _ _ _ => (pg_name (i := 1) scOrdered.nd rfl (Or.inl rfl))) (fun _ _ _ _ _ => pts_nil) (fun _ _ _ _ _ => (pe_ix (r := rIxT K) ix_tup (pv 1) pe_int (fun _ _ => rfl)))))), ?_⟩
    try dsimp only [cxOf, Cx.nox, Cx.wish]
    walk_at "go"
    refine ⟨⟨_, hS⟩, fun D hD => lc_list (K := K) (a := a) (xs := ys.map V.str) (fun i H' => ∃ es : List (Addr × Str), es.map (·.2) = ys.take i ∧ H' D = some (.lst (es.map fun e => V.ref e.1)) ∧
        (∀ e ∈ es, e.1 ≠ D ∧ H' e.1 = some (.tup [.int e.2.length, .str e.2])) ∧ Same H H') ⟨[], by simp, by rw [upd_same]; rfl, by simp, same_new hD⟩ (fun i H' _ ⟨_, _, _, _, sm⟩ => sm.seq hS) ?_ ?_⟩
    · rintro i x H' hi ⟨es, e1, e2, e3, sm⟩
      rw [List.getElem?_map] at hi
      cases hyi : ys[i]? with
      | none => rw [hyi] at hi; cases hi
      | some y =>
        rw [hyi] at hi
        obtain rfl : x = .str y := (Option.some.inj hi).symm
        have hym := hy y (List.mem_of_getElem? hyi)
        walk_at "go"
        refine ⟨rfl, ?_⟩
        show tCall spKey [] E0 (tCons (tVar 2) tNil) _ _ _
        walk_at "go"
        refine ⟨Nat.le_trans hym (by decide), fun p hp => ?_⟩
        have npD : p ≠ D := fun q => by rw [q, e2] at hp; cases hp
        have le : es.length ≤ i := by
          have := congrArg List.length e1
          rw [List.length_map, List.length_take] at this
          omega
        have hi2 : i < ys.length := (List.getElem?_eq_some_iff.mp hyi).1
        refine ⟨es.map fun e => V.ref e.1, by rw [upd_ne npD.symm]; exact e2, by rw [List.length_map]; exact small1000 (by omega), es ++ [(p, y)], ?_, ?_, ?_, ?_⟩
        · rw [List.map_append, e1, List.take_succ, hyi]; rfl
        · rw [upd_same, List.map_append]; rfl
        · intro e he
          rcases List.mem_append.mp he with he | he
          · obtain ⟨a1, a2⟩ := e3 e he
            refine ⟨a1, ?_⟩
            rw [upd_ne a1, upd_ne (fun q => by rw [q, hp] at a2; cases a2)]; exact a2
          · obtain rfl := List.mem_singleton.mp he
            refine ⟨npD, ?_⟩
            rw [upd_ne npD, upd_same]
        · have fD : H D = none := hD
          intro c o e
          rw [upd_ne (ne_of_none e fD)]
          exact same_new hp c o (sm c o e)
    · rintro H' ⟨es, e1, e2, e3, sm⟩
      rw [List.length_map, List.take_length] at e1
      walk_at "go"
      refine ⟨D, es, rfl, SqL.of e2, fun e he => SqT.of (e3 e he).2, by rw [← List.length_map (f := fun e : Addr × Str => e.2), e1]; exact hl, fun es' p pm mem hp => ?_⟩
      have sp := same_new (o := HO.lst (es'.map fun e => V.ref e.1)) hp
      walk_at "go"
      refine ⟨⟨_, SqL.of upd_same⟩, fun D2 hD2 => lc_list (K := K) (a := p) (xs := es'.map fun e => V.ref e.1) (fun i H2 => H2 = upd (upd H' p (.lst (es'.map fun e => V.ref e.1))) D2 (.lst ((es'.take i).map fun e => V.str e.2))) (by simp) (fun i H2 _ e => by rw [e]; exact SqL.of (same_new hD2 _ _ upd_same)) ?_ ?_⟩
      · rintro i x H2 hi rfl
        rw [List.getElem?_map] at hi
        cases hei : es'[i]? with
        | none => rw [hei] at hi; cases hi
        | some e =>
          rw [hei] at hi
          obtain rfl : x = .ref e.1 := (Option.some.inj hi).symm
          have he' : e ∈ es' := List.mem_of_getElem? hei
          have he := mem e he'
          have hT := same_new (o := HO.lst ((es'.take i).map fun e => V.str e.2)) hD2 _ _ (sp _ _ (e3 e he).2)
          walk_at "go"
          refine ⟨rfl, ?_⟩
          show tOp (rIxT K) (tVar 1) (tC (.int 1)) _ _ _
          walk_at "go"
          refine r_ixT (SqT.of hT) (atI_nat (j := 1) rfl) ⟨_, upd_same, ?_, ?_⟩
          · rw [List.length_map, List.length_take]
            have : es'.length ≤ 1000 := by
              have := congrArg List.length pm
              rw [List.length_map, (ord_perm _).length_eq, e1] at this
              omega
            exact small1000 (by omega)
          · rw [upd_upd, List.take_succ, hei]; simp
      · rintro H2 rfl
        rw [List.length_map, List.take_length]
        have ef : (es'.map fun e => V.str e.2) = (ordS ys).map V.str := by
          rw [e1] at pm
          rw [← pm, List.map_map]; rfl
        rw [ef]
        walk_at "go"
        have s2 : Same H (upd (upd H' p (.lst (es'.map fun e => V.ref e.1))) D2 (.lst ((ordS ys).map V.str))) := Same.trans sm (Same.trans sp (same_new hD2))
        exact k _ D2 s2 (Same.free (Same.trans sm sp) hD2) upd_same
end
end K1

/-! K01J -/

namespace K1
open PySem L2
abbrev sPio : Stmt := top 50
abbrev nPio : List Str := ["_law_script","_law_signs","_law_papers","_law_bag","_law_k","_law_kept","_law_due","_law_paper"]
theorem scPio : FnScope nPio ["_law_script","_law_signs"] (defScope sPio) := ⟨rfl, rfl, rfl, by decide +kernel, rfl, by decide +kernel, by decide +kernel⟩
abbrev OBagOf' (P : Program) (w : World) (K : PySem.W.Frag) (mg : Str → Option Value) (base : Heap) : Prop := Own P w K mg base "_law_bag_of" 1 ["_law_script", "_law_at"] (spBagOf K)
abbrev OPaperOf (P : Program) (w : World) (K : PySem.W.Frag) (mg : Str → Option Value) (base : Heap) : Prop := Own P w K mg base "_law_paper_of" 3 ["_law_bag", "_law_signs", "_law_most"] spPaperOf
abbrev OSame (P : Program) (w : World) (K : PySem.W.Frag) (mg : Str → Option Value) (base : Heap) : Prop := Own P w K mg base "_law_same_tuple" 3 ["_law_told","_law_wanted"] spSame
abbrev OOrdered (P : Program) (w : World) (K : PySem.W.Frag) (mg : Str → Option Value) (base : Heap) : Prop := Own P w K mg base "_law_ordered" 2 ["_law_papers"] (spOrdered K)
abbrev OInOrder (P : Program) (w : World) (K : PySem.W.Frag) (mg : Str → Option Value) (base : Heap) : Prop := Own P w K mg base "in_order" 2 ["papers"] (spInOrder K)
abbrev OPaperKey (P : Program) (w : World) (K : PySem.W.Frag) (mg : Str → Option Value) (base : Heap) : Prop := Own P w K mg base "paper_key" 1 ["paper"] spKey
abbrev rLenK (K : PySem.W.Frag) : List V → Hp → VK → Prop := fun xs H Q => ∃ x n, xs = [x] ∧ LenV K x H n ∧ Q (.int (n : Nat)) H
def Fine (z : Str) : Prop := ∀ y : Str, (∀ c ∈ y.cps.toList, c ∈ z.cps.toList) → PyData.strOk y = true
def spPio (K : PySem.W.Frag) : Sp := fun vs H Q _ => ∃ (a : Addr) (ns : List Int) (z : Str), vs = [.ref a, .str z] ∧ SqL K H a (ns.map V.int) ∧ ns.length ≤ 63 ∧ 1 ≤ z.length ∧ z.length ≤ 1000 ∧ Fine z ∧
  ∀ H', Same H H' → Q (.bl true) H'
theorem flat_texts {z : Str} {ys : List Str} (f : Fine z) (h : ∀ y ∈ ys, y.length ≤ 9 ∧ ∀ c ∈ y.cps.toList, c ∈ z.cps.toList) : ∀ x ∈ ys.map V.str, Flat x := fun x hx => by
  obtain ⟨y, hy, rfl⟩ := List.mem_map.mp hx
  exact Or.inr ⟨y, rfl, f y (h y hy).2⟩
theorem shaped_flat {xs : List V} (hx : ∀ x ∈ xs, Flat x) : SeqAt.shaped (.tuple (xs.map fld)) = true ∧ SeqAt.shaped (.list (xs.map fld)) = true := by
  obtain ⟨h1, h2⟩ := lay_flat hx
  constructor <;>
  · unfold SeqAt.shaped
    rw [PyData.canLay0, h1, PyData.depth, h2]
    rfl
section
variable {P : Program} {w : World} {K : PySem.W.Frag} {mg : Str → Option Value} {base : Heap}
theorem ok_pio {f : Addr} {fd : FuncData} (F : Fun K "_law_papers_in_order" "_law_papers_in_order" sPio f fd) (B : Bl mg) (Ob : OBagOf' P w K mg base) (Op : OPick P w K mg base) (Oo : OOneOf P w K mg base) (Opa : OPaperOf P w K mg base)
    (Os : OSame P w K mg base) (Ord : OOrdered P w K mg base) (Oi : OInOrder P w K mg base) (Ok : OPaperKey P w K mg base) :
    FnOk P w K mg base CX0 4 f fd ["_law_script", "_law_signs"] (spPio K) := by
  refine F.ok scPio (fun vs H Q E h => ?_) (fun cdv A outer s H vs Q E hr h => ?_)
  · obtain ⟨a, ns, z, rfl, _⟩ := h
    rfl
  · obtain ⟨a, ns, z, rfl, hS, hlen, z1, z2, hf, k⟩ := h
    have hr1 : Room 1 _ := hr.mono (by decide)
    have hr2 : Room 2 _ := hr.mono (by decide)
    refine ⟨_, (pss_cons (ps_set (i := 2) scPio.nd rfl (Or.inl rfl) (pe_lst pa_nil)) (pss_cons (ps_set (i := 3) scPio.nd rfl (Or.inl rfl) (pe_own Ob hr1 (pa_cons (pv 0) (pa_cons pe_int pa_nil)))) (pss_cons (ps_for PassesOwn.never rfl (pi_range1 rfl B.range (pa_cons (pe_op op_add (pe_own Op hr1 (pa_cons (pv 3) (pa_cons pe_int pa_nil))) (pe_callB (call_min2 rfl) (by rfl) B.min (by decide +kernel) (pa_cons (pe_callB call_len (by rfl) B.len PySem.boot_len (pa_cons (pv 0) pa_nil)) (pa_cons pe_int pa_nil)))) pa_nil)) (pg_name (i := 4) scPio.nd rfl (Or.inl rfl)) (pss_cons (ps_set (i := 3) scPio.nd rfl (Or.inl rfl) (pe_own Ob hr1 (pa_cons (pv 0) (pa_cons (pe_op op_add pe_int (pv 4)) pa_nil)))) (pss_cons (ps_expr (pe_bm PySem.F.plainAttrs_list PySem.F.slot_list_append PySem.F.type_list_append mt_append (pv 2) (pa_cons (pe_own Opa hr (pa_cons (pv 3) (pa_cons (pv 1) (pa_cons (pe_ix ix_list (pe_lst (pa_cons pe_int (pa_cons pe_int (pa_cons pe_int pa_nil)))) (pe_own Op hr1 (pa_cons (pv 3) (pa_cons pe_int pa_nil))) (fun _ _ => rfl)) pa_nil)))) pa_nil))) (pss_one (ps_if (PW.pt (pw_and (pt_truth (pv 2) (by intro _; rfl)) (pw_and1 (pt_cmpR op_eq (pe_own Op hr1 (pa_cons (pv 3) (pa_cons pe_int pa_nil))) pe_int (nomark _))))) (pss_one (ps_expr (pe_bm PySem.F.plainAttrs_list PySem.F.slot_list_append PySem.F.type_list_append mt_append (pv 2) (pa_cons (pe_own Oo hr2 (pa_cons (pv 3) (pa_cons (pv 2) pa_nil))) pa_nil)))) pss_nil))))) (pss_cons (ps_set (i := 5) scPio.nd rfl (Or.inl rfl) (pe_callTy call_list_of (by rfl) B.list (by decide +kernel) (pa_cons (pv 2) pa_nil))) (pss_cons (ps_set (i := 6) scPio.nd rfl (Or.inl rfl) (pe_callTy call_tuple_of (by rfl) B.tuple (by decide +kernel) (pa_cons (pe_own Ord hr2 (pa_cons (pv 2) pa_nil)) pa_nil))) (pss_cons (ps_if (PW.pt (pw_or (pt_not (pt_val (pe_own Os hr (pa_cons (pe_own Oi hr2 (pa_cons (pv 2) pa_nil)) (pa_cons (pv 6) pa_nil))))) (pw_or1 (pt_not (pt_val (pe_own Os hr (pa_cons (pe_own Oi hr2 (pa_cons (pe_callTy call_tuple_of (by rfl) B.tuple (by decide +kernel) (pa_cons (pv 2) pa_nil)) pa_nil)) (pa_cons (pv 6) pa_nil)))))))) (pss_one (ps_ret pe_bl)) pss_nil) (pss_cons (ps_if (PW.pt (pw_or (pt_cmpR (op_neD hr.units) (pv 2) (pv 5) (nomark _)) (pw_or (pt_cmpR (op_neD hr.units) (pe_own Oi hr2 (pa_cons (pv 6) pa_nil)) (pv 6) (nomark _)) (pw_or1 (pt_not (pt_val (pe_own Os hr (pa_cons (pe_own Oi hr2 (pa_cons (pe_lst pa_nil) pa_nil)) (pa_cons (pe_tup pa_nil) pa_nil))))))))) (pss_one (ps_ret pe_bl)) pss_nil) (pss_one (ps_ret (pe_callB (cr_all rfl) (by rfl) B.all (by decide +kernel) (pa_cons (pe_lc (own := [("_law_paper", 7)]) (g := gName 7) (tt := tYes) rfl scPio.nd (pi_list (pv 2)) (blkOk_by (N := nPio) (sc := defScope sPio) (by decide +kernel)) (fun _ _ _ _ _ => (pg_name (i := 7) scPio.nd rfl (Or.inl rfl))) (fun _ _ _ _ _ => pts_nil) (fun _ _ _ _ _ => (pe_own Os hr (pa_cons (pe_own Ok hr1 (pa_cons (pv 7) pa_nil)) (pa_cons (pe_tup (pa_cons (pe_callB (id := "len") (r := rLenK K) call_len (by rfl) B.len PySem.boot_len (pa_cons (pv 7) pa_nil)) (pa_cons (pv 7) pa_nil))) pa_nil))))) pa_nil))))))))))), ?_⟩
    try dsimp only [cxOf, Cx.nox, Cx.wish]
    walk_at "go"
    refine ⟨Nat.zero_le _, fun Pp hPp => ?_⟩
    have sm0 : Same H _ := same_new (o := HO.lst []) hPp
    walk_at "go"
    refine ⟨_, _, _, rfl, Same.seq sm0 hS, hlen, by decide, by decide, fun H1 b sm1 nb hb1 => ?_⟩
    have eP1 : H1 Pp = some (.lst []) := sm1 _ _ upd_same
    have nPb : Pp ≠ b := fun q => by rw [q] at eP1; rw [← q, upd_same] at nb; cases nb
    have nbH : H b = none := by rw [upd_ne nPb.symm] at nb; exact nb
    walk_at "go"
    refine ⟨_, _, _, rfl, hb1, by decide, by decide, fun r H2 r0 r1 hb2 off2 => ?_⟩
    have sm2 : Same H H2 := Same.offs (Same.trans sm0 sm1) nbH off2
    have eP2 : H2 Pp = some (.lst []) := off2.at nPb eP1
    walk_at "go"
    refine ⟨_, _, rfl, lenL (Same.seq sm2 hS), ?_⟩
    walk_at "go"
    refine ⟨_, _, rfl, ?_⟩
    have hm : ∃ mn : Int, (if (32 : Int) < ((ns.map V.int).length : Int) then (32 : Int) else ((ns.map V.int).length : Int)) = mn ∧ 0 ≤ mn ∧ mn ≤ 32 := ⟨_, rfl, by split <;> omega, by split <;> omega⟩
    obtain ⟨mn, emn, m0, m1⟩ := hm
    rw [emn]
    walk_at "go"
    obtain ⟨many, emany, ma0, ma1⟩ : ∃ many : Int, r + mn = many ∧ 0 ≤ many ∧ many ≤ 41 := ⟨_, rfl, by omega, by omega⟩
    rw [emany]
    refine ⟨by omega, by omega, fr_range (lo := 0) (n := many.toNat) (fun i σ H' => ∃ (bb kk : Option V) (ps : List Str),
        σ = [some (.ref a), some (.str z), some (.ref Pp), bb, kk, none, none, none] ∧ H' Pp = some (.lst (ps.map V.str)) ∧ ps.length ≤ 2 * i ∧ (∀ y ∈ ps, y.length ≤ 9 ∧ ∀ c ∈ y.cps.toList, c ∈ z.cps.toList) ∧ Same H H') ?_ ?_ ?_⟩
    · exact ⟨_, none, [], rfl, eP2, by simp, by simp, sm2⟩
    · rintro i σ H1 hi ⟨bb, kk, ps, rfl, eP, lps, hps, sm⟩
      walk_at "go"
      refine ⟨_, _, _, rfl, Same.seq sm hS, hlen, by omega, by omega, fun H2 b smA nbb hbb => ?_⟩
      have eP2 := smA _ _ eP
      have nPb : Pp ≠ b := fun q => by rw [q, nbb] at eP; cases eP
      have nbH : H b = none := Same.free sm nbb
      walk_at "go"
      refine ⟨tyL (SqL.of eP2), ?_⟩
      walk_at "go"
      refine ⟨(by show 3 ≤ sizeLine; decide), fun q hq => ?_⟩
      have nqb := hbb.ne hq
      have nqP : q ≠ Pp := fun x => by rw [x, eP2] at hq; cases hq
      walk_at "go"
      refine ⟨_, _, _, rfl, hbb.new hq, by omega, by decide, fun rr H3 x0 x1 hb3 off3 => ?_⟩
      obtain ⟨c, ec, hc⟩ := at_int (ns := [2, 3, 9]) (i := rr) x0 (by show rr < 3; omega)
      refine r_ixL (SqL.of (off3.at nqb upd_same)) ec ?_
      have c9 : ∃ m : Nat, c = m ∧ m ≤ 9 := by
        simp at hc
        rcases hc with rfl | rfl | rfl
        · exact ⟨2, rfl, by decide⟩
        · exact ⟨3, rfl, by decide⟩
        · exact ⟨9, rfl, by decide⟩
      obtain ⟨m, rfl, hm9⟩ := c9
      walk_at "go"
      refine ⟨_, z, m, _, rfl, hb3, by omega, z2, z1, by omega, fun y H4 ly hy hb4 off4 => ?_⟩
      have eP4 : H4 Pp = some (.lst (ps.map V.str)) := off4.at nPb (off3.at nPb (by rw [upd_ne nqP.symm]; exact eP2))
      have sm4 : Same H H4 := Same.offs (Same.offs (Same.trans sm (Same.trans smA (same_new (o := HO.lst [V.int 2, V.int 3, V.int 9]) hq))) nbH off3) nbH off4
      walk_at "go"
      refine ⟨Pp, _, _, rfl, rfl, eP4, by rw [List.length_map]; exact small1000 (by omega), ?_⟩
      have eP5 : (upd H4 Pp (.lst (ps.map V.str ++ [V.str y]))) Pp = some (.lst ((ps ++ [y]).map V.str)) := by rw [upd_same, List.map_append]; rfl
      have hPH : H Pp = none := hPp
      have sm5 : Same H (upd H4 Pp (.lst (ps.map V.str ++ [V.str y]))) := Same.set sm4 hPH
      have hb5 : IsBag (upd H4 Pp (.lst (ps.map V.str ++ [V.str y]))) b (m + 50) := by
        obtain ⟨d, s, cc, e1, a1, a2, a3, a4, a5⟩ := hb4
        exact ⟨d, s, cc, by rw [upd_ne nPb.symm]; exact e1, a1, a2, a3, a4, by omega⟩
      have hps5 : ∀ x ∈ ps ++ [y], x.length ≤ 9 ∧ ∀ c ∈ x.cps.toList, c ∈ z.cps.toList := by
        intro x hx
        rcases List.mem_append.mp hx with hx | hx
        · exact hps x hx
        · obtain rfl := List.mem_singleton.mp hx
          exact ⟨by omega, hy⟩
      walk_at "go"
      refine ⟨true, .inl ⟨_, SqL.of eP5, ?_⟩, ?_⟩
      · cases ps <;> rfl
      walk_at "go"
      refine ⟨_, _, _, rfl, hb5, by omega, by decide, fun r6 H6 y0 y1 hb6 off6 => ?_⟩
      have sm6 : Same H H6 := Same.offs sm5 nbH off6
      have eP6 : H6 Pp = some (.lst ((ps ++ [y]).map V.str)) := off6.at nPb eP5
      walk_at "go"
      refine r_ite (fun h0 => ?_) (fun h0 => ?_)
      · walk_at "go"
        refine ⟨tyL (SqL.of eP6), ?_⟩
        walk_at "go"
        refine ⟨_, _, _, _, rfl, hb6, by omega, .inr ⟨_, rfl, SqL.of eP6, nPb, by rw [List.length_map, List.length_append]; show ps.length + 1 ≤ 1000; omega⟩, by simp, fun x H7 hx hb7 off7 => ?_⟩
        obtain ⟨y', hy', rfl⟩ := List.mem_map.mp hx
        have eP7 := off7.at nPb eP6
        walk_at "go"
        refine ⟨Pp, _, _, rfl, rfl, eP7, by rw [List.length_map, List.length_append]; exact small1000 (by show ps.length + 1 ≤ 1000; omega), ?_⟩
        walk_at "go"
        refine ⟨_, _, (ps ++ [y]) ++ [y'], rfl, ?_, ?_, ?_, ?_⟩
        · rw [upd_same, List.map_append (l₁ := ps ++ [y])]; rfl
        · simp only [List.length_append, List.length_singleton]; omega
        · intro x hx
          rcases List.mem_append.mp hx with hx | hx
          · exact hps5 x hx
          · obtain rfl := List.mem_singleton.mp hx
            exact hps5 _ hy'
        · exact Same.set (Same.offs sm6 nbH off7) hPH
      · walk_at "go"
        refine ⟨_, _, ps ++ [y], rfl, eP6, ?_, hps5, sm6⟩
        simp only [List.length_append, List.length_singleton]; omega
    · rintro σ H1 ⟨bb, kk, ps, rfl, eP, lps, hps, sm⟩
      walk_at "go"
      have lps1 : ps.length ≤ 1000 := by omega
      have lps2 : ∀ y ∈ ps, y.length ≤ 1000 := fun y h => Nat.le_trans (hps y h).1 (by decide)
      have hfl : ∀ x ∈ ps.map V.str, Flat x := flat_texts hf hps
      have hpo : ∀ y ∈ ordS ps, y.length ≤ 9 ∧ ∀ c ∈ y.cps.toList, c ∈ z.cps.toList := fun y h => hps y ((ord_perm ps).mem_iff.mp h)
      have hfo : ∀ x ∈ (ordS ps).map V.str, Flat x := flat_texts hf hpo
      have lpo : (ordS ps).length = ps.length := (ord_perm ps).length_eq
      have lpo2 : ∀ y ∈ ordS ps, y.length ≤ 1000 := fun y h => Nat.le_trans (hpo y h).1 (by decide)
      have lmo : ((ordS ps).map V.str).length ≤ 1000 := by rw [List.length_map]; omega
      refine ⟨Pp, _, rfl, .inl (SqL.of eP), fun L hL => ?_⟩
      have smL := same_new (o := HO.lst (ps.map V.str)) hL
      walk_at "go"
      refine ⟨Pp, ps, rfl, SqL.of (smL _ _ eP), lps2, lps1, fun H2 p sm2 hp ep => ?_⟩
      refine ⟨p, _, rfl, .inl ⟨SqL.of ep, fun D hD => ?_⟩⟩
      have smD := same_new (o := HO.tup ((ordS ps).map V.str)) hD
      have smP : Same H1 _ := Same.trans smL (Same.trans sm2 smD)
      have eD := upd_same (H := H2) (a := D) (o := HO.tup ((ordS ps).map V.str))
      have ePd := smP _ _ eP
      have eLd := (Same.trans sm2 smD) _ _ (upd_same (H := H1) (a := L) (o := HO.lst (ps.map V.str)))
      have smH : Same H _ := Same.trans sm smP
      revert smH eD ePd eLd
      clear smP smD
      generalize upd H2 D (HO.tup ((ordS ps).map V.str)) = Hd
      intro eD ePd eLd smH
      walk_at "go"
      refine ⟨Pp, ps, rfl, .inl (SqL.of ePd), lps2, lps1, fun H3 p3 s3 hp3 e3 => ?_⟩
      walk_at "go"
      refine ⟨p3, D, _, rfl, e3, s3 _ _ eD, hfo, lmo, fun H4 s4 => ?_⟩
      have s4' := Same.trans s3 s4
      walk_at "go"
      refine ⟨Pp, _, rfl, .inl ⟨SqL.of (s4' _ _ ePd), fun p5 hp5 => ?_⟩⟩
      have s5 := Same.trans s4' (same_new (o := HO.tup (ps.map V.str)) hp5)
      walk_at "go"
      refine ⟨p5, ps, rfl, .inr (SqT.of upd_same), lps2, lps1, fun H6 p6 s6 hp6 e6 => ?_⟩
      have s6' := Same.trans s5 s6
      walk_at "go"
      refine ⟨p6, D, _, rfl, e6, s6' _ _ eD, hfo, lmo, fun H7 s7 => ?_⟩
      have s7' := Same.trans s6' s7
      walk_at "go"
      refine ⟨.list ((ps.map V.str).map fld), .list ((ps.map V.str).map fld), .lst (SqL.of (s7' _ _ ePd)) (dp_flat hfl), .lst (SqL.of (s7' _ _ eLd)) (dp_flat hfl), (shaped_flat hfl).2, (shaped_flat hfl).2, ?_⟩
      have ev : PyData.eqv (.list ((ps.map V.str).map fld)) (.list ((ps.map V.str).map fld)) = true := by rw [PyData.eqv]; exact eqv_flat hfl
      rw [ev]
      walk_at "go"
      refine ⟨D, ordS ps, rfl, .inr (SqT.of (s7' _ _ eD)), lpo2, by omega, fun H8 p8 s8 hp8 e8 => ?_⟩
      rw [ord_idem] at e8
      have s8' := Same.trans s7' s8
      walk_at "go"
      refine ⟨.tuple (((ordS ps).map V.str).map fld), .tuple (((ordS ps).map V.str).map fld), .tup (SqT.of e8) (dp_flat hfo), .tup (SqT.of (s8' _ _ eD)) (dp_flat hfo), (shaped_flat hfo).1, (shaped_flat hfo).1, ?_⟩
      have ev2 : PyData.eqv (.tuple (((ordS ps).map V.str).map fld)) (.tuple (((ordS ps).map V.str).map fld)) = true := by rw [PyData.eqv]; exact eqv_flat hfo
      rw [ev2]
      walk_at "go"
      refine ⟨Nat.zero_le _, fun p9 hp9 => ?_⟩
      have s9 := Same.trans s8' (same_new (o := HO.lst []) hp9)
      refine ⟨p9, [], rfl, .inl (SqL.of upd_same), by simp, by simp, fun H10 p10 s10 hp10 e10 => ?_⟩
      have s10' := Same.trans s9 s10
      walk_at "go"
      refine ⟨Nat.zero_le _, fun p11 hp11 => ?_⟩
      have s11 := Same.trans s10' (same_new (o := HO.tup []) hp11)
      refine ⟨p10, p11, [], rfl, same_new hp11 _ _ (by rw [e10]; simp [ordS]), upd_same, by simp, by simp, fun H12 s12 => ?_⟩
      have s12' := Same.trans s11 s12
      walk_at "go"
      have ePz := s12' _ _ ePd
      have smz := Same.trans smH s12'
      refine ⟨⟨_, SqL.of ePz⟩, fun D hD => lc_list (K := K) (a := Pp) (xs := ps.map V.str) (fun i H' => Same H12 H' ∧ H' D = some (.lst ((ps.take i).map fun _ => V.bl true))) ⟨same_new hD, by rw [upd_same]; simp⟩ (fun i H' _ e => SqL.of (e.1 _ _ ePz)) ?_ (fun H' e => ?_)⟩
      · rintro i x H' hi ⟨sz, eDz⟩
        rw [List.getElem?_map] at hi
        cases hyi : ps[i]? with
        | none => rw [hyi] at hi; cases hi
        | some y =>
        rw [hyi] at hi
        obtain rfl : x = .str y := (Option.some.inj hi).symm
        have hym := hps y (List.mem_of_getElem? hyi)
        walk_at "go"
        refine ⟨rfl, ?_⟩
        show tCall spSame [] E0 (tCons (tCall spKey [] E0 (tCons (tVar 7) tNil)) (tCons (tTup (tCons (tCB (rLenK K) (tCons (tVar 7) tNil)) (tCons (tVar 7) tNil))) tNil)) _ _ _
        walk_at "go"
        refine ⟨Nat.le_trans hym.1 (by decide), fun q hq => ?_⟩
        walk_at "go"
        refine ⟨_, _, rfl, lenS (small_line (by omega)), ?_⟩
        walk_at "go"
        refine ⟨(by show 2 ≤ sizeLine; decide), fun q2 hq2 => ?_⟩
        refine ⟨q, q2, _, rfl, same_new hq2 _ _ upd_same, upd_same, ?_, by simp, fun H13 s13 => ?_⟩
        · intro x hx
          rcases List.mem_cons.mp hx with rfl | hx
          · exact .inl ⟨_, rfl⟩
          · obtain rfl := List.mem_singleton.mp hx
            exact .inr ⟨y, rfl, hf y hym.2⟩
        have sx := Same.trans (same_new hq) (Same.trans (same_new hq2) s13)
        refine ⟨_, sx _ _ eDz, ?_, ?_, ?_⟩
        · simp only [List.length_map, List.length_take]
          exact small1000 (by omega)
        · exact Same.set (Same.trans sz sx) hD
        · rw [upd_same, List.take_succ, hyi]; simp
      · obtain ⟨sz, eDz⟩ := e
        rw [List.length_map, List.take_length] at eDz
        walk_at "go"
        have eb : (ps.map fun _ => V.bl true) = (ps.map fun _ => true).map V.bl := by rw [List.map_map]; rfl
        rw [eb] at eDz
        refine r_all (SqL.of eDz) ?_
        have ea : (ps.map fun _ => true).all id = true := by rw [List.all_map]; simp
        rw [ea]
        exact k _ (Same.trans smz sz)
end
end K1

/-! X1 -/
/-! super().__init__(text) of an own exception over ValueError. -/
namespace K1
open PySem L2 PyProof.Rows PySem.W PySem.Calls
theorem init_code {P : Program} {w : World} {A : Around} {R : Result → Shared → Prop} {h : Heap} {g : Array GenState} {d : Drawn} {t : Nat} {os : OsState} {C e t0 : Addr} {rest : List Value}
    (he : h.get? e = some (HandSPX.excO C t0)) (hrest : rest.length ≤ sizeLine)
    (hq : ∀ (h' : Heap) (t1 : Addr), (∀ b o, b ≠ e → h.get? b = some o → h'.get? b = some o) → h'.get? e = some (HandSPX.excO C t1) → R (.ok (.ret .none)) ⟨h', g, d, t, os⟩) :
    codeAny (model P w) A (.builtin "ValueError.__init__" ⟨.ref e :: rest, []⟩) R ⟨h, g, d, t, os⟩ := by
  refine codeAny_builtin F.excBase_ValueError.initEntry ?_
  rw [Around.under_plainId F.excBase_ValueError.init.plain]
  unfold Builtin.«BaseException.__init__»
  refine wpAny_ite_false (by rfl) ?_
  refine wpAny_bind (wpAny_newTuple ?_ hrest)
  have he' := Heap.get?_push_of_some ⟨.type "tuple", none, .seq rest.toArray 0, #[]⟩ he
  refine wpAny_bind ?_
  unfold Builtin.BaseException.bexcPut
  refine wpAny_bind ?_
  unfold field
  refine wpAny_bind ?_
  unfold fieldsOf
  refine wpAny_bind (wpAny_load' he' ?_)
  refine wpAny_pure ?_
  show wpAny _ _ (pure (Value.ref t0)) _ _ _
  refine wpAny_pure ?_
  refine wpAny_bind ?_
  unfold setField
  refine wpAny_bind (wpAny_load' he' ?_)
  refine wpAny_ite_true (by rfl) ?_
  refine wpAny_update' he' ?_
  refine wpAny_letGo ?_
  refine wpAny_pure ?_
  refine hq _ h.objs.size (fun b o hb e1 => ?_) ?_
  · rw [Heap.get?_update_ne _ _ _ _ hb]
    exact Heap.get?_push_of_some _ e1
  · exact Heap.get?_update_self _ he' rfl
theorem call_mw {P : Program} {w : World} {A : Around} {E : Value → Shared → Prop} {h : Heap} {g : Array GenState} {d : Drawn} {t : Nat} {os : OsState} {nm q : Str} {C N : Addr} {bs bm : List Value} {hdct : Bool} {sn : List Str} {sub : List Value} {ab : Bool} {col : Option Bool} {dd : Option Addr} {k0 k1 k2 k3 k5 : Option Value}
    {u e t0 : Addr} {rest : List Value} {Q : Value → Shared → Prop}
    (hC : h.get? C = some (excClassObj nm q C N bs bm hdct sn sub ab col dd k0 k1 k2 k3 k5 "ValueError.__new__")) (he : h.get? e = some (HandSPX.excO C t0)) (hu : h.get? u = some (kxs_mw "ValueError.__init__" e)) (hrest : rest.length ≤ sizeLine)
    (hq : ∀ (h' : Heap) (t1 : Addr), (∀ b o, b ≠ e → h.get? b = some o → h'.get? b = some o) → h'.get? e = some (HandSPX.excO C t1) → Q .none ⟨h', g, d, t, os⟩) :
    wpAny (model P w) A (call (.ref u) rest) Q E ⟨h, g, d, t, os⟩ := by
  refine wpAny_call (codeAny_of_tree ?_)
  show wpAny _ _ (callAny (.ref u) ⟨rest, []⟩) _ _ _
  unfold callAny
  refine wpAny_bind (wpAny_load hu ?_)
  dsimp only [kxs_mw]
  rw [if_pos (by decide)]
  show wpAny _ _ (if (Value.type "method-wrapper" != Value.type "method") = true then do
          checkBoundCall "ValueError.__init__" { pos := .ref e :: rest }
          again (Code.builtin "ValueError.__init__" { pos := .ref e :: rest })
        else again (Code.call (.builtin "ValueError.__init__") { pos := .ref e :: rest })) _ _ _
  rw [if_pos (by decide)]
  exact wpAny_bind (check_bound_init F.excBase_ValueError.toExcCallFacts hC he rfl (wpAny_pure ⟨Code.quiet_builtin _ (by decide +kernel), init_code he hrest hq⟩))
end K1

/-! X2 -/
namespace K1
open PySem L2 PyProof.Rows PySem.W PySem.Calls
abbrev sBad : Stmt := inClass (top 4) 0
/-- what is known of the class of the errors, and of its __init__ -/
structure BadF (P : Program) (K : Frag) (mg : Str → Option Value) (f : Addr) (fd : FuncData) (C : Addr) : Prop where
  ex : ∃ (oc : Value) (od : Option Addr) (kV doc pm : Value) (an : Option Addr) (ct : Value) (osl : Array (Option Value)) (cda cc : Addr) (ccl : Value) (cdd : Option Addr) (vs : Array Value) (ccs : Array (Option Value)) (file : Str) (tf : Tok) (cl : Value) (cld : Option Addr) (csl : Array (Option Value)),
    fd = ksFn "__init__" "BadSigns.__init__" (defArgs sBad) (defBody sBad) (defScope sBad) .none kV doc pm an (.ref cda) ct cc ∧ K.lookup f = some ⟨oc, od, .func fd, osl⟩ ∧ codeIn K (.ref cda) "BadSigns.__init__" = true ∧
    K.lookup cda = some ⟨ccl, cdd, .fields vs, ccs⟩ ∧ vs[2]? = some (.str file tf) ∧ (P.main.file == file) = true ∧ K.lookup cc = some ⟨cl, cld, .cell (some (.ref C)), csl⟩
  sup : (List.lookup (PySem.Str.ofString "super") P.main.scope.names).isSome = false
  any : nsIn K cStatics "thirdparty.any" = some none
  mgS : mg "super" = none
  oex : OexC K C
  sin : ks_superIn K C C "__init__" = some (some (.builtin "ValueError.__init__"))
  subC : mroIn K C (.ref C) = some true
  subV : subIn K (.ref C) (.type "ValueError") = some true
  fi : findIn K (.ref C) "signs" = some none
def spBad (C : Addr) : Sp := fun vs H Q _ => ∃ (a : Addr) (y : V), vs = [.ref a, y] ∧ H a = some (exo a C none) ∧ ∀ dx, H dx = none → dx ≠ a → Q .non (upd (upd H dx (exd dx [("signs", y)])) a (exo a C (some dx)))
section
variable {P : Program} {w : World} {K : PySem.W.Frag} {mg : Str → Option Value} {base : Heap}
theorem ok_bad {f C : Addr} {fd : FuncData} (F : BadF P K mg f fd C) : FnOk P w K mg base CX0 1 f fd ["self", "signs"] (spBad C) := by
  refine ⟨fun vs H Q E h => ?_, fun A outer s H args us vs Q E hr en hb hv hsp => ?_⟩
  · obtain ⟨a, y, rfl, _⟩ := h
    rfl
  obtain ⟨a, y, rfl, ha, k⟩ := hsp
  obtain ⟨oc, od, kV, doc, pm, an, ct, osl, cda, cc, ccl, cdd, vs, ccs, file, tf, cl, cld, csl, rfl, lk, hcd, lcd, hvs, hfile, lcc⟩ := F.ex
  obtain ⟨nm, q, N, bs, bm, sn, sub, ab, col, dd, k0, k1, k2, k3, k5, hC, hbm⟩ := F.oex.cls
  cases hv with
  | cons h1 t1 =>
  cases t1 with
  | cons h2 t2 =>
  cases t2 with
  | nil =>
  rename_i u1 u2
  have e1 : u1 = .ref a := h1
  subst e1
  have hda := hr.dp
  have kb : ∀ b o, base.get? b = some o → s.heap.get? b = some o := fun b o e => (en.bs b o e).1
  have X : K.In s.heap := en.mod.kin.keeps kb
  have hcl : clsIn K C = some { name := nm, bases := bs, mro := .ref C :: bm, ns := N, qualname := q, hasDict := true, slotNames := sn, subclasses := sub, abstract := ab, collection := col } := by unfold clsIn; rw [hC]
  obtain ⟨t0, ho⟩ := exo_at en.hok ha
  have nb : ∀ {b o}, base.get? b = some o → b ≠ a := fun e z => by rw [z] at e; have := (en.bs _ _ e).2; rw [ha] at this; cases this
  have aL : a ≠ s.heap.objs.size := Nat.ne_of_lt (Heap.lt_size ho)
  refine ks_codeAny_call_defAt (by omega) (X f _ lk) rfl (en.mod.nolimit.keeps kb) (codeRec_of X hcd) rfl hb (by show ∀ x ∈ (defScope sBad).names, x.2 ≠ .cell; decide +kernel) ?_ (fun h₀ hns kp => ?_) (by rfl) (by rfl) (by rfl)
  · intro x hx
    rcases List.mem_cons.mp hx with rfl | hx
    · rfl
    · obtain rfl := List.mem_singleton.mp hx
      rfl
  have X0 : K.In h₀ := X.keeps kp
  refine ks_wpAt_execs_cons ?_
  refine ks_wpAt_Expr_any (ks_wpAt_MethodCall ?_ rfl) rfl rfl
  refine ks_wpAt_super_base rfl rfl rfl rfl (X0 f _ lk) rfl rfl rfl (X0 cda _ lcd) rfl hvs hfile F.sup ?_
  obtain ⟨mb, hb1, hb2⟩ := en.mod.blt
  have kb0 : ∀ b o, base.get? b = some o → h₀.get? b = some o := fun b o e => kp b o (kb b o e)
  show wpAny _ _ (loadGlobal _ "super") _ _ _
  refine loadGlobal_builtin (en.mod.glob.keeps kb0) F.mgS (hb1.keeps kb0) ((hb2 "super" (by decide)).trans (by decide +kernel)) ⟨rfl, ?_⟩
  refine wpAny_loadName_free rfl rfl rfl ⟨_, X0 cc _ lcc, rfl⟩ ?_
  refine wpAny_loadName_local rfl rfl hns rfl ?_
  refine ks_wpAny_isType_cls (X0 C _ hC) rfl ⟨rfl, ?_⟩
  refine ks_wpAny_call_super (X0 C _ hC) rfl (kp _ _ ho) rfl (by intro c h; cases h) (looks_mroIn X0 F.subC) (fun h1 hso kp1 => ?_)
  have X1 : K.In h1 := X0.keeps kp1
  have ho1 := kp1 _ _ (kp _ _ ho)
  have I1 : InstAt h1 a _ C none := ⟨ho1, rfl, rfl, trivial⟩
  refine kxs_getMethod kxs_ValueError hso (looks_opaque X1 F.any) (fun A Q E s k q => wpAny_bind (looks_clsIn X1 hcl A _ E s k (wpAny_pure q))) rfl X1 (by have := F.sin; unfold ks_superIn at this; rw [hcl] at this; exact this) (Looks.andThen I1.type (looks_subIn X1 F.subV)) (ks_ne X1 I1 hcl) rfl ?_
  have kp2 : ∀ b o, h₀.get? b = some o → (h1.push (kxs_mw "ValueError.__init__" a)).get? b = some o := fun b o e => Heap.get?_push_of_some _ (kp1 b o e)
  have hu : (h1.push (kxs_mw "ValueError.__init__" a)).get? h1.objs.size = some (kxs_mw "ValueError.__init__" a) := Heap.get?_push_at rfl rfl
  have hu1 : h1.get? h1.objs.size = none := by
    cases e : h1.get? h1.objs.size with
    | none => rfl
    | some o => exact absurd (Heap.lt_size e) (Nat.lt_irrefl _)
  have hC2 := kp2 _ _ (X0 C _ hC)
  have ho2 := kp2 _ _ (kp _ _ ho)
  revert kp2 hu hC2 ho2
  generalize h1.push (kxs_mw "ValueError.__init__" a) = hp2
  intro kp2 hu hC2 ho2
  refine kxs_callWith1 (h₀ := h1) (L := h1.objs.size + 1) (news := [(h1.objs.size, kxs_mw "ValueError.__init__" a)]) (x := a) (i := "ValueError.__init__") (fun p hp => ?_) (by simp) ?_ rfl rfl
  · obtain rfl := List.mem_singleton.mp hp
    exact ⟨hu, by simp, hu1⟩
  refine spliced_cons ?_
  refine Constant_str (x := "these are no signs") (k := 0) (pos := ⟨11, 25, 11, 45⟩) ?_
  refine spliced_nil ?_
  refine ⟨hu, ?_⟩
  refine call_mw hC2 ho2 hu (by show 1 ≤ sizeLine; decide) (fun h3 t1 kp3 ho3 => ?_)
  have kp3' : ∀ b o, b ≠ a → s.heap.get? b = some o → h3.get? b = some o := fun b o nb e => kp3 b o nb (kp2 b o (kp b o e))
  have hns3 : h3.Ns s.heap.objs.size (fun x => List.lookup x ([PySem.Str.ofString "self", PySem.Str.ofString "signs"].zip [Value.ref a, u2]).reverse) := by
    obtain ⟨o, es, ep, e, r⟩ := hns
    exact ⟨o, es, ep, kp3 _ _ aL.symm (kp2 _ _ e), r⟩
  have X3 : K.In h3 := fun b o e => kp3' b o (nb (en.mod.kin b o e)) (X b o e)
  dsimp only
  refine ks_wpAt_execs_cons ?_
  refine ks_wpAt_Assign_Attr ?_ rfl
  refine wpAt_of_wpAny ?_
  refine wpAny_Name (wpAny_loadName_local rfl rfl hns3 rfl ?_) rfl
  refine wpAny_Name (wpAny_loadName_local rfl rfl hns3 rfl ?_) rfl
  refine set_plain (ox := HandSPX.excO C t1) (od := none) X3 ⟨ho3, rfl, rfl, trivial⟩ F.oex.sa ?_
  refine HandSPX.exc_osa X3 ho3 hcl hbm rfl F.fi (fun h4 tk4 dx kp4 dn dne hx hn => ?_)
  refine wpAt_of_wpAny (wpAny_execs_nil ?_)
  have kp4' : ∀ b o, b ≠ a → s.heap.get? b = some o → h4.get? b = some o := fun b o nb e => kp4 b o nb (kp3' b o nb e)
  have dn' : h3.objs.size ≤ dx := dn
  have dnS : s.heap.objs.size ≤ dx := by
    rcases Nat.lt_or_ge dx s.heap.objs.size with q | q
    · exact absurd q (by
        have q0 : s.heap.objs.size < h3.objs.size := by
          obtain ⟨o, es, ep, e, r⟩ := hns3
          exact Heap.lt_size e
        omega)
    · exact q
  have hnd : H dx = none := HOk.fresh en.hok dnS
  have nd : ∀ {b o}, s.heap.get? b = some o → b ≠ dx := fun e => Nat.ne_of_lt (Nat.lt_of_lt_of_le (Heap.lt_size e) dnS)
  have na : ∀ {b}, H b = none → b ≠ a := fun e z => by rw [z, ha] at e; cases e
  show CR CX0 outer P w H s Q E (.ok (.ret .none)) _
  refine ⟨.non, upd (upd H dx (exd dx [("signs", y)])) a (exo a C (some dx)), rfl, en.bare, ⟨?_, ?_, ?_, ?_, ?_, ?_, ?_⟩, ?_, rfl, k dx hnd dne⟩
  · exact fun b o e n _ _ => kp4' b o (na n) e
  · exact fun b o e n _ _ => ⟨o.slots, kp4' b o (na n) e⟩
  · exact fun b o e n _ => by rw [upd_ne (na n), upd_ne (nd e)]; exact n
  · intro b o e _
    by_cases z : b = a
    · rw [z]; exact ⟨_, hx⟩
    · exact ⟨o, kp4' b o z e⟩
  · intro b xs e
    rw [upd_ne (at_ne ha e exo_tup), upd_ne (ne_of_none e hnd)]; exact e
  · intro b o v e
    rw [upd_ne (at_ne ha e exo_frz), upd_ne (ne_of_none e hnd)]; exact e
  · intro b ps e
    refine ⟨#[], ?_⟩
    rw [upd_ne (at_ne ha e (by intro z; cases z)), upd_ne (ne_of_none e hnd), Array.append_empty]; exact e
  · intro b o e
    by_cases z : b = a
    · subst z
      rw [upd_same] at e
      obtain rfl := Option.some.inj e
      exact ⟨⟨t1, hx⟩, ⟨_, hx⟩, fun h1 h2 ⟨t, e⟩ k => ⟨t, k _ e⟩⟩
    · rw [upd_ne z] at e
      by_cases z2 : b = dx
      · subst z2
        rw [upd_same] at e
        obtain rfl := Option.some.inj e
        refine ⟨⟨_, hn, fun g => ?_⟩, by obtain ⟨o, _, _, e, _⟩ := hn; exact ⟨o, e⟩, fun h1 h2 ⟨mA, ⟨o, es, ep, e, r⟩, q⟩ k => ⟨mA, ⟨o, es, ep, k _ e, r⟩, q⟩⟩
        by_cases z3 : g = "signs"
        · subst z3
          rw [if_pos rfl]
          exact h2
        · rw [if_neg z3, List.lookup_cons, beq_false_of_ne z3]
          exact trivial
      · rw [upd_ne z2] at e
        refine ObjOk.stay (en.hok b o e) (fun c u hc hu => ?_) (fun c hc => ?_) (fun c xs hc => ?_)
        · refine kp4' c u ?_ hu
          rcases hc with rfl | hc
          · exact z
          · exact at_ne ha hc (by intro z; cases z)
        · rw [upd_ne (at_ne ha hc (by intro z; cases z)), upd_ne (ne_of_none hc hnd)]; exact hc
        · rw [upd_ne (at_ne ha hc exo_tup), upd_ne (ne_of_none hc hnd)]; exact hc
end
end K1

/-! X3 -/
/-! A comprehension over a list where an exception is being handled. -/
namespace K1
open PySem L2 L2H PyProof.Rows PySem.W PySem.Calls
theorem list_end_hot {P : Program} {w : World} {A : Around} {E : Value → Shared → Prop} {s : Shared} {it l x1 : Addr} {i : Nat} {items : Array Value} {Q : Option Value → Shared → Prop}
    (hot : HotX.HotAt A x1 s.heap) (hit : s.heap.IsListIter it l i) (hl : s.heap.IsList l items) (hx : items[i]? = none)
    (hQ : ∀ h', Heap.ExtBut it s.heap h' → Q none ⟨h', s.gens, s.drawn, s.toks, s.os⟩) : wpAny (model P w) A (pyNext (.ref it)) Q E s := by
  obtain ⟨o, ho, hc, hd⟩ := id hit
  obtain ⟨ol, hol, _, nl, hdl⟩ := hl
  obtain ⟨hh, o1, vs1, h1, d1, c1⟩ := hot
  have ne : x1 ≠ it := by
    intro z
    rw [z, ho] at h1
    obtain rfl := Option.some.inj h1
    rw [hd] at d1
    obtain rfl := Data.fields.inj d1
    cases c1
  unfold pyNext
  refine wpAny_bind (wpAny_attempt (wpAny_callSpecial?_slot (Heap.IsListIter.typeIs hit) slot_listiter_next (wpAny_call_entry slot_listiter_next (Heap.IsListIter.typeIs hit) entry_listiter_next ?_ (args_listiter_next (.ref it)))))
  unfold Builtin.«list_iterator.__next__»
  dsimp only
  refine wpAny_bind ?_
  show wpAny _ _ (pure (Value.ref it, ([] : List Value))) _ _ _
  refine wpAny_pure ?_
  refine wpAny_bind (wpAny_field ho hd rfl ?_)
  refine wpAny_ite_false (by rfl) ?_
  refine wpAny_bind (wpAny_field ho hd rfl ?_)
  refine wpAny_bind (wpAny_seqItems hol hdl ?_)
  dsimp only
  rw [show (Int.toNat (i : Int)) = i from rfl, hx]
  dsimp only
  refine wpAny_bind (wpAny_rule ?_)
  refine wpAny_bind (wpAny_setField ho hd (by show 0 < 2; decide) ?_)
  unfold Builtin.SmallTypes.stopIteration
  have h1u : (s.heap.update it (Obj.mapFields fun x => x.setIfInBounds 0 Value.none)).get? x1 = some o1 := by
    rw [Heap.get?_update_ne _ _ _ _ ne]; exact h1
  have sbu := Heap.SameBut.extBut (Heap.SameBut.update s.heap it (Obj.mapFields fun x => x.setIfInBounds 0 Value.none))
  revert h1u sbu
  generalize s.heap.update it (Obj.mapFields fun x => x.setIfInBounds 0 Value.none) = hu
  intro h1u sbu
  refine wpAny_bind ?_
  unfold newExc
  refine wpAny_bind (wpAny_newTuple ?_ (Nat.zero_le _))
  refine wpAny_bind (wpAny_of_eq (by rfl) ?_)
  have h2 := Heap.get?_push_of_some ⟨.type "tuple", none, .seq #[] 0, #[]⟩ h1u
  have sb2 := Heap.ExtBut.push sbu ⟨.type "tuple", none, .seq #[] 0, #[]⟩
  show wpAny _ _ _ _ _ ⟨hu.push ⟨.type "tuple", none, .seq #[] 0, #[]⟩, s.gens, s.drawn, s.toks, s.os⟩
  generalize (Value.ref { heap := hu, gens := s.gens, drawn := s.drawn, toks := s.toks, os := s.os : Shared}.heap.objs.size) = tv
  revert h2 sb2
  generalize hu.push ⟨.type "tuple", none, .seq #[] 0, #[]⟩ = hv
  intro h2 sb2
  generalize (if ((Manifest.find? "StopIteration").elim false fun t => t.mro.contains "StopIteration" || t.mro.contains "SystemExit") = true then ([] : List Value).headD Value.none else Value.none) = sv
  refine wpAny_newObj_type ?_ ?_
  · have hx1 : x1 ≠ hv.objs.size := Nat.ne_of_lt (Heap.lt_size h2)
    refine HotX.raiseNew_hot ⟨hh, o1, vs1, Heap.get?_push_of_some _ h2, d1, c1⟩ hx1 (Heap.get?_push_size _ rfl) rfl (by simp [Array.size_append]; omega) ?_
    refine wpAny_bind (wpAny_isInstance ⟨_, Heap.get?_update_self _ (Heap.get?_push_size hv rfl) rfl, rfl⟩ isSubtype_stop (wpAny_pure (hQ _ ?_)))
    intro b o' nb e
    have e2 := sb2 b o' nb e
    rw [Heap.get?_update_ne _ _ _ _ (Nat.ne_of_lt (Heap.lt_size e2))]
    exact Heap.get?_push_of_some _ e2
  · exact sizeOk_excFields tv Value.none Value.none Value.none (Value.bool false) sv (Value.type "StopIteration") []
end K1

/-! X4 -/
namespace K1
open PySem L2 L2H PyProof.Rows PySem.W PySem.Calls
theorem item_list {X : Cx} {a it : Addr} {tg : Expr} {i : Nat} {pins : List (Addr × Obj)} {s : Shared} {σ : L2.St} {H : Hp} {E : Value → Shared → Prop} (I : L2.Inv X pins σ H s) (hf : FpOk X pins H it) (st : s.heap.IsListIter it a i) {xs : List V} {x : V} (hq : SqL X.K H a xs) (hx : xs[i]? = some x) :
    wpAny (model X.prog X.w) X.A (pyNext (.ref it)) (fun r s1 => ∃ u, r = some u ∧ wpAny (model X.prog X.w) X.A (letOwnedTupleGo tg (.ref it) u) (fun _ s2 => L2.Inv X pins σ H s2 ∧ L2.RelV x u ∧ s2.heap.IsListIter it a (i + 1)) E s1) E s := by
  obtain ⟨its, rv, p, hz⟩ := I.list hq
  obtain ⟨u, hu, ru⟩ := Vals.get rv hx
  obtain ⟨f0, f1, f2, f3, f4, f5⟩ := hf
  refine wpAny_pyNext_list_item st p.isList (by rw [List.getElem?_toArray]; exact hu) fun h' st' sb => ?_
  have I1 := Inv.turned (t' := s.toks) I (fun b o hb e => (sb.right b hb).trans e) f0 f1 f3 f4 f5
  obtain ⟨o, e, c, d⟩ := id st'
  exact ⟨u, rfl, go_of e c d (by decide) ⟨I1, ru, st'⟩⟩
theorem done_list {X : Cx} {a it x1 : Addr} {i : Nat} {pins : List (Addr × Obj)} {s : Shared} {σ : L2.St} {H : Hp} {E : Value → Shared → Prop} (hot : HotX.HotAt X.A x1 s.heap) (I : L2.Inv X pins σ H s) (hf : FpOk X pins H it) (st : s.heap.IsListIter it a i) {xs : List V} (hq : SqL X.K H a xs) (hx : xs.length ≤ i) :
    wpAny (model X.prog X.w) X.A (pyNext (.ref it)) (fun r s1 => r = none ∧ L2.Inv X pins σ H s1) E s := by
  obtain ⟨its, rv, p, hz⟩ := I.list hq
  obtain ⟨f0, f1, f2, f3, f4, f5⟩ := hf
  have hl := Vals.length rv
  refine list_end_hot hot st p.isList (by rw [List.getElem?_toArray]; exact List.getElem?_eq_none (by omega)) fun h' eb => ?_
  exact ⟨rfl, Inv.turned I (fun b o hb e => eb b o hb e) f0 f1 f3 f4 f5⟩
/-- the block of a comprehension, the pins kept -/
abbrev bk (X : Cx) (s : Shared) (H : Hp) (scope : Scope) (env : Env) (fp : List Addr) : Cx := { X.blk s H scope env fp with pn := X.pn }
theorem inv_bk {X : Cx} {s3 s : Shared} {H3 H : Hp} {scope : Scope} {ce : Env} {fp : List Addr} {σ : L2.St} (I : L2.Inv (X.blk s3 H3 scope ce fp) [] σ H s)
    (hp : ∀ p ∈ X.pn, s.heap.get? p.1 = some p.2 ∧ H p.1 = none ∧ p.1 ≠ ce.locals ∧ p.1 ∉ frs X.stack ∧ ∀ v : Option Value, p.2.data ≠ .cell v) : L2.Inv (bk X s3 H3 scope ce fp) [] σ H s := by
  have o := I.ok
  exact ⟨⟨o.mod, o.kind, o.glob, o.blt, o.above, o.inj, o.has, o.cab, o.hd, o.frames, o.stk, o.exf, o.bs, o.bsz, o.noex, o.exfs, o.funs, o.frf⟩, I.os, I.bare, I.base, I.loc, I.cell, I.free, I.freeC, fun p h => hp p (by simpa using h), I.hok, I.len⟩
theorem frs_mem {X : Cx} (o : X.Ok) {b : Addr} (h1 : b ∉ X.fs) (h2 : b ≠ X.env.locals) : b ∉ frs X.stack := by
  rcases o.stk with e | ⟨e, ef⟩
  · rw [e]; exact h1
  · rw [e]
    intro h
    unfold frs at h
    rw [List.filterMap_cons, ef] at h
    rcases List.mem_cons.mp h with h | h
    · exact h2 h
    · exact h1 h
theorem pe_lcH {X : Cx} {elt tg iter : Expr} {ifs : List Expr} {scope : Scope} {own : List (Str × Nat)} {pos : Pos} {tl : TE} {g : TG} {tt : TT} {te : TE} (hc : HotC X) (hN : X.N.Nodup) (hl : PE X iter tl) (ok : BlkOk X.N X.env.scope scope own)
    (hg : ∀ (s : Shared) (H : Hp) (C : Addr) (cl : List (Str × Addr)) (fp : List Addr), PG (bk X s H scope (compEnvC scope cl C X.env) fp) tg g)
    (ht : ∀ (s : Shared) (H : Hp) (C : Addr) (cl : List (Str × Addr)) (fp : List Addr), PTs (bk X s H scope (compEnvC scope cl C X.env) fp) ifs tt)
    (he : ∀ (s : Shared) (H : Hp) (C : Addr) (cl : List (Str × Addr)) (fp : List Addr), PE (bk X s H scope (compEnvC scope cl C X.env) fp) elt te)
    (hs : ∀ x, foldedSetIterable iter X.env x = pure x := by intro _; rfl) :
    PE X (.ListComp elt [⟨tg, iter, ifs, 0⟩] scope pos) (tLc (iList X.K tl) g tt te (own.map (·.2))) := by
  refine ⟨fun pins s σ H Q I h => ?_⟩
  rw [eval_ListComp]
  have hfree : ∀ y : Str × NameKind, y ∈ scope.names → y.2 = .free → ∃ c, List.lookup y.1 X.env.cells = some c := fun y hy e => (ok.free y hy e).elim (fun k => I.ok.has y.1 (.inl k)) fun k => I.ok.has y.1 (.inr k)
  refine wpAny_comprehension_free rfl hs (closure_ok hfree) ok.kind (fun y hy e => by rw [ok.uniq y hy, e]) ?_
  refine thn (hl.run pins s σ H _ I h) ?_
  rintro xv s1 ⟨x, H1, I1, r1, a, rfl, ⟨xs, hq⟩, q1⟩
  have e1 : xv = .ref a := r1
  subst e1
  obtain ⟨its, rv, p, hz⟩ := I1.list hq
  refine wpAny_pyIter_list p.isList ?_
  have k2 : ∀ b o, s1.heap.get? b = some o → (s1.heap.push ⟨.type "list_iterator", none, .fields #[.ref a, .int 0 0], #[]⟩).get? b = some o := fun b o e => Heap.get?_push_of_some _ e
  have st2 : (s1.heap.push ⟨.type "list_iterator", none, .fields #[.ref a, .int 0 0], #[]⟩).IsListIter s1.heap.objs.size a 0 := ⟨_, Heap.get?_push_size _ rfl, rfl, rfl⟩
  have I2 := Inv.kept (t' := s1.toks) I1 k2
  have fI : FpOk X pins H1 s1.heap.objs.size := Inv.fpOk I1 (Nat.le_refl _) (HOk.fresh I1.hok (Nat.le_refl _))
  have ltI : s1.heap.objs.size < (s1.heap.push ⟨.type "list_iterator", none, .fields #[.ref a, .int 0 0], #[]⟩).objs.size := Heap.lt_size (Heap.get?_push_size _ rfl)
  revert k2 st2 I2 fI ltI
  generalize s1.heap.push ⟨.type "list_iterator", none, .fields #[.ref a, .int 0 0], #[]⟩ = h2
  generalize s1.heap.objs.size = it
  intro k2 st2 I2 fI ltI
  refine wpAny_newObj_type (newEnv_comp ?_)
  have hDn : H1 h2.objs.size = none := HOk.fresh I2.hok (Nat.le_refl _)
  obtain ⟨W, ⟨m0, w0⟩, turn⟩ := q1 h2.objs.size hDn
  have kp3 : ∀ b o, h2.get? b = some o → (h2.push ⟨.type "list", none, .seq #[] 0, #[]⟩).get? b = some o := fun b o e => Heap.get?_push_of_some _ e
  have I3 := Inv.laid (t' := s1.toks) (o := .lst []) I2 kp3 (Nat.le_refl _) ⟨Nat.zero_le _, [], 0, .nil, Heap.get?_push_size _ rfl⟩
  have st3 : (h2.push ⟨.type "list", none, .seq #[] 0, #[]⟩).IsListIter it a 0 := st2.at fun o e => kp3 it o e
  have ltI3 : it < (h2.push ⟨.type "list", none, .seq #[] 0, #[]⟩).objs.size := by
    obtain ⟨o, e, _⟩ := st3
    exact Heap.lt_size e
  have fI3 : FpOk X pins (upd H1 h2.objs.size (.lst [])) it := ⟨by rw [upd_ne (Nat.ne_of_lt ltI)]; exact fI.1, fI.2⟩
  have ltD : h2.objs.size < (h2.push ⟨.type "list", none, .seq #[] 0, #[]⟩).objs.size := Heap.lt_size (Heap.get?_push_size _ rfl)
  clear kp3 st2
  revert I3 st3 ltI3 fI3 ltD w0
  generalize upd H1 h2.objs.size (.lst []) = H3
  generalize h2.push ⟨.type "list", none, .seq #[] 0, #[]⟩ = h3
  generalize h2.objs.size = D at *
  intro w0 I3' st3 ltI3 fI3 ltD
  have I3 : L2.Inv X pins σ H3 ⟨h3, s1.gens, s1.drawn, s1.toks, s1.os⟩ := I3'
  clear I3'
  obtain ⟨p0, hot, hp0⟩ := hc
  obtain ⟨pg0, ph0, pl0, pf0, pc0⟩ := I3.pin p0 (List.mem_append_left _ hp0)
  have pit : p0.1 ≠ it := fI3.2.2.2.2.2 p0 (List.mem_append_left _ hp0)
  have f3 : ∀ b ∈ [it], FpOk X pins H3 b ∧ b < h3.objs.size := fun b hb => by
    obtain rfl := List.mem_singleton.mp hb
    exact ⟨fI3, ltI3⟩
  have I4 := inv_bk (block_start I3 ok hN f3) (fun p hp => by
    obtain ⟨a1, a2, a3, a4, a5⟩ := I3.pin p (List.mem_append_left _ hp)
    exact ⟨pushCells_keeps _ _ _ _ (Heap.get?_push_of_some _ a1), a2, Nat.ne_of_lt (Heap.lt_size a1), frs_mem I3.ok a4 a3, a5⟩)
  have pg := hg ⟨h3, s1.gens, s1.drawn, s1.toks, s1.os⟩ H3 h3.objs.size (cellsFrom (h3.objs.size + 1) scope.names (cloFrom X.env.cells scope.names [])) [it]
  have pt := ht ⟨h3, s1.gens, s1.drawn, s1.toks, s1.os⟩ H3 h3.objs.size (cellsFrom (h3.objs.size + 1) scope.names (cloFrom X.env.cells scope.names [])) [it]
  have pe := he ⟨h3, s1.gens, s1.drawn, s1.toks, s1.os⟩ H3 h3.objs.size (cellsFrom (h3.objs.size + 1) scope.names (cloFrom X.env.cells scope.names [])) [it]
  have cL : (compEnvC scope (cellsFrom (h3.objs.size + 1) scope.names (cloFrom X.env.cells scope.names [])) h3.objs.size X.env).locals = h3.objs.size := rfl
  have st4 : (pushCells (h3.push ⟨.type "dict", none, .dict #[] 0, #[]⟩) scope.names).IsListIter it a 0 := st3.at fun o e => pushCells_keeps _ _ _ _ (Heap.get?_push_of_some _ e)
  show codeAny _ _ (Code.compStart _ 0 (.ref it) (.ref D) (compEnvC scope (cellsFrom (h3.objs.size + 1) scope.names (cloFrom X.env.cells scope.names [])) h3.objs.size X.env)) _ ⟨pushCells (h3.push ⟨.type "dict", none, .dict #[] 0, #[]⟩) scope.names, s1.gens, s1.drawn, s1.toks, s1.os⟩
  revert I4 pg pt pe cL st4
  generalize pushCells (h3.push ⟨.type "dict", none, .dict #[] 0, #[]⟩) scope.names = h4
  generalize compEnvC scope (cellsFrom (h3.objs.size + 1) scope.names (cloFrom X.env.cells scope.names [])) h3.objs.size X.env = ce
  intro I4 pg pt pe cL st4
  have nfs : p0.1 ∉ frs X.stack := frs_mem I3.ok pf0 pl0
  have hotAt : ∀ {σ' H' s'}, L2.Inv (bk X ⟨h3, s1.gens, s1.drawn, s1.toks, s1.os⟩ H3 scope ce [it]) [] σ' H' s' → HotX.HotAt X.A p0.1 s'.heap := fun {σ' H' s'} I' => by
    obtain ⟨hh, vs, hd, hv⟩ := hot
    refine ⟨hh, p0.2, vs, I'.base.keep p0.1 p0.2 pg0 ph0 nfs ?_, hd, hv⟩
    intro z
    exact pit (List.mem_singleton.mp z)
  have stat : ∀ {σ' H' s'}, L2.Inv (bk X ⟨h3, s1.gens, s1.drawn, s1.toks, s1.os⟩ H3 scope ce [it]) [] σ' H' s' → H' it = none → FpOk (bk X ⟨h3, s1.gens, s1.drawn, s1.toks, s1.os⟩ H3 scope ce [it]) [] H' it := fun {σ' H' s'} I' hn => by
    have hb : it ∈ [it] := List.mem_singleton.mpr rfl
    refine ⟨hn, (I'.ok.exf it hb).1, I'.ok.exfs it hb, .inl hb, (I'.ok.exf it hb).2, fun p hp => ?_⟩
    exact fI3.2.2.2.2.2 p (List.mem_append_left _ (by simpa using hp))
  have loop := compLoop_any (prog := X.prog) (w := X.w) (A := X.A) (elt := elt) (target := tg) (iter := iter) (ifs := ifs) (scope := scope) (pos := pos) (it := .ref it) (acc := .ref D) (env := ce)
    (R := compPost (model X.prog X.w) X.A X.xe none (EP X pins σ Q) (.ref D) h3.objs.size)
    (fun n s' => ∃ i H', L2.Inv (bk X ⟨h3, s1.gens, s1.drawn, s1.toks, s1.os⟩ H3 scope ce [it]) [] (wipe σ (own.map (·.2))) H' s' ∧ s'.heap.IsListIter it a i ∧ H' it = none ∧ W i n H') ?step m0
    (s := ⟨h4, s1.gens, s1.drawn, s1.toks, s1.os⟩) ⟨0, H3, I4, st4, fI3.1, w0⟩
  case step =>
    rintro n s5 ⟨i, H5, I5, st5, n5, w5⟩
    rcases turn i n H5 w5 with ⟨⟨ys, hy, hlen⟩, qq⟩ | ⟨⟨ys, x, hy, hx⟩, Nx, hNx, step⟩
    · refine thnF (done_list (X := bk X ⟨h3, s1.gens, s1.drawn, s1.toks, s1.os⟩ H3 scope ce [it]) (hotAt I5) I5 (stat I5 n5) st5 hy hlen) ?_
      rintro r s6 ⟨rfl, I6⟩
      have I7 : L2.Inv X pins σ H5 s6 := by
        refine Inv.call' I3 I6.os I6.base I6.hok I6.bare fun b hb => ?_
        obtain rfl := List.mem_singleton.mp hb
        exact ⟨fI3.2.2.2.1, fI3.2.1, fI3.2.2.2.2.1, fI3.2.2.2.2.2⟩
      have nC : H5 h3.objs.size = none := by
        have z := I6.free
        rw [show (bk X ⟨h3, s1.gens, s1.drawn, s1.toks, s1.os⟩ H3 scope ce [it]).env.locals = h3.objs.size from cL] at z
        exact z
      obtain ⟨m, hn, _⟩ := I6.loc
      rw [show (bk X ⟨h3, s1.gens, s1.drawn, s1.toks, s1.os⟩ H3 scope ce [it]).env.locals = h3.objs.size from cL] at hn
      obtain ⟨f0, f1, f2, f3', f4, f5⟩ := Inv.fpOk I3 (Nat.le_refl _) nC
      exact ⟨m, hn, fun h'' sb => ⟨.ref D, H5, Inv.turned I7 (fun b o hb e => (sb.right b hb).trans e) f0 f1 f3' f4 f5, rfl, qq⟩⟩
    · refine thnF (item_list (X := bk X ⟨h3, s1.gens, s1.drawn, s1.toks, s1.os⟩ H3 scope ce [it]) (tg := tg) I5 (stat I5 n5) st5 hy hx) ?_
      rintro r s6 ⟨u, rfl, h6⟩
      refine thnF h6 ?_
      rintro _ s7 ⟨I7, r7, st7⟩
      have ob7 : ∀ b ∈ [it], ∃ o, s7.heap.get? b = some o ∧ ∀ v : Option Value, o.data ≠ Data.cell v := fun b hb => by
        obtain rfl := List.mem_singleton.mp hb
        obtain ⟨o, e, _, d⟩ := st7
        exact ⟨o, e, fun v z => by rw [d] at z; cases z⟩
      have I7' := Inv.pinned (fp := [it]) I7 (fun b hb => by obtain rfl := List.mem_singleton.mp hb; exact stat I7 n5) ob7
      refine thnF (pg.run _ s7 _ H5 x u _ I7' r7 (step x H5 ⟨rfl, fun zs hz' => ?_⟩)) ?_
      · rw [I5.list_inj hz' hy]; exact hx
      rintro _ s8 ⟨σ8, H8, I8, hw8, q8⟩
      refine thnF (pt.run _ s8 σ8 H8 _ I8 q8) ?_
      rintro b s9 ⟨H9, I9, q9⟩
      have fin : ∀ {s' H'}, L2.Inv (bk X ⟨h3, s1.gens, s1.drawn, s1.toks, s1.os⟩ H3 scope ce [it]) ([] ++ pinsAt [it] s7.heap) σ8 H' s' → Nx H' → ∃ m, m < n ∧ ∃ i H', L2.Inv (bk X ⟨h3, s1.gens, s1.drawn, s1.toks, s1.os⟩ H3 scope ce [it]) [] (wipe σ (own.map (·.2))) H' s' ∧ s'.heap.IsListIter it a i ∧ H' it = none ∧ W i m H' := fun {s' H'} I' nx => by
        obtain ⟨m', hm, w'⟩ := hNx H' nx
        obtain ⟨o, e, c, d⟩ := id st7
        have z := I'.pin (it, o) (List.mem_append_right _ (List.mem_append_right [] (mem_pinsAt (List.mem_singleton.mpr rfl) e)))
        refine ⟨m', hm, i + 1, H', Inv.weak (Inv.unpinned I') ?_ ?_, ⟨o, z.1, c, d⟩, z.2.1, w'⟩
        · rw [← hw8, wipe_length]
        · intro j v e
          rw [← hw8] at e
          exact (wipe_some e).1
      cases b with
      | false => exact fin I9 q9
      | true =>
        refine thnF (pe.run _ s9 σ8 H9 _ I9 q9) ?_
        rintro z s10 ⟨yv, H10, I10, r10, acc, hD10, hz10, nx⟩
        exact app_ok (X := bk X ⟨h3, s1.gens, s1.drawn, s1.toks, s1.os⟩ H3 scope ce [it]) I10 hD10 hz10 r10 fun s11 I11 => fin I11 nx
  exact codeAny_compStart_list loop (wpAny_pyIter_listiter st4 loop)
end K1

/-! X5 -/
/-! a, b = a tuple, where an exception is being handled. -/
namespace K1
open PySem L2 L2H PyProof.Rows PySem.W PySem.Calls
theorem tuple_end_hot {P : Program} {w : World} {A : Around} {E : Value → Shared → Prop} {s : Shared} {it l x1 : Addr} {i : Nat} {items : Array Value} {Q : Option Value → Shared → Prop}
    (hot : HotX.HotAt A x1 s.heap) (hit : PyProof.Rows.IsTupIter s.heap it l i) (hl : PyProof.Rows.IsTup s.heap l items) (hx : items[i]? = none)
    (hQ : ∀ h', Heap.ExtBut it s.heap h' → Q none ⟨h', s.gens, s.drawn, s.toks, s.os⟩) : wpAny (model P w) A (pyNext (.ref it)) Q E s := by
  obtain ⟨o, ho, hc, hd⟩ := id hit
  obtain ⟨ol, hol, _, nl, hdl⟩ := hl
  obtain ⟨hh, o1, vs1, h1, d1, c1⟩ := hot
  have ne : x1 ≠ it := by
    intro z
    rw [z, ho] at h1
    obtain rfl := Option.some.inj h1
    rw [hd] at d1
    obtain rfl := Data.fields.inj d1
    cases c1
  unfold pyNext
  refine wpAny_bind (wpAny_attempt (wpAny_callSpecial?_slot (PyProof.Rows.IsTupIter.typeIs hit) PyProof.Rows.slot_tupleiter_next (wpAny_call_entry PyProof.Rows.slot_tupleiter_next (PyProof.Rows.IsTupIter.typeIs hit) PyProof.Rows.entry_tupleiter_next ?_ (PyProof.Rows.args_tupleiter_next (.ref it)))))
  unfold Builtin.«tuple_iterator.__next__»
  dsimp only
  refine wpAny_bind ?_
  show wpAny _ _ (pure (Value.ref it, ([] : List Value))) _ _ _
  refine wpAny_pure ?_
  refine wpAny_bind (wpAny_field ho hd rfl ?_)
  refine wpAny_ite_false (by rfl) ?_
  refine wpAny_bind (wpAny_field ho hd rfl ?_)
  refine wpAny_bind (wpAny_seqItems hol hdl ?_)
  dsimp only
  rw [show (Int.toNat (i : Int)) = i from rfl, hx]
  dsimp only
  refine wpAny_bind (wpAny_rule ?_)
  refine wpAny_bind (wpAny_setField ho hd (by show 0 < 2; decide) ?_)
  unfold Builtin.SmallTypes.stopIteration
  have h1u : (s.heap.update it (Obj.mapFields fun x => x.setIfInBounds 0 Value.none)).get? x1 = some o1 := by
    rw [Heap.get?_update_ne _ _ _ _ ne]; exact h1
  have sbu := Heap.SameBut.extBut (Heap.SameBut.update s.heap it (Obj.mapFields fun x => x.setIfInBounds 0 Value.none))
  revert h1u sbu
  generalize s.heap.update it (Obj.mapFields fun x => x.setIfInBounds 0 Value.none) = hu
  intro h1u sbu
  refine wpAny_bind ?_
  unfold newExc
  refine wpAny_bind (wpAny_newTuple ?_ (Nat.zero_le _))
  refine wpAny_bind (wpAny_of_eq (by rfl) ?_)
  have h2 := Heap.get?_push_of_some ⟨.type "tuple", none, .seq #[] 0, #[]⟩ h1u
  have sb2 := Heap.ExtBut.push sbu ⟨.type "tuple", none, .seq #[] 0, #[]⟩
  show wpAny _ _ _ _ _ ⟨hu.push ⟨.type "tuple", none, .seq #[] 0, #[]⟩, s.gens, s.drawn, s.toks, s.os⟩
  generalize (Value.ref { heap := hu, gens := s.gens, drawn := s.drawn, toks := s.toks, os := s.os : Shared}.heap.objs.size) = tv
  revert h2 sb2
  generalize hu.push ⟨.type "tuple", none, .seq #[] 0, #[]⟩ = hv
  intro h2 sb2
  generalize (if ((Manifest.find? "StopIteration").elim false fun t => t.mro.contains "StopIteration" || t.mro.contains "SystemExit") = true then ([] : List Value).headD Value.none else Value.none) = sv
  refine wpAny_newObj_type ?_ ?_
  · have hx1 : x1 ≠ hv.objs.size := Nat.ne_of_lt (Heap.lt_size h2)
    refine HotX.raiseNew_hot ⟨hh, o1, vs1, Heap.get?_push_of_some _ h2, d1, c1⟩ hx1 (Heap.get?_push_size _ rfl) rfl (by simp [Array.size_append]; omega) ?_
    refine wpAny_bind (wpAny_isInstance ⟨_, Heap.get?_update_self _ (Heap.get?_push_size hv rfl) rfl, rfl⟩ isSubtype_stop (wpAny_pure (hQ _ ?_)))
    intro b o' nb e
    have e2 := sb2 b o' nb e
    rw [Heap.get?_update_ne _ _ _ _ (Nat.ne_of_lt (Heap.lt_size e2))]
    exact Heap.get?_push_of_some _ e2
  · exact sizeOk_excFields tv Value.none Value.none Value.none (Value.bool false) sv (Value.type "StopIteration") []
theorem unpack_hot {P : Program} {w : World} {A : Around} {E : Value → Shared → Prop} {s : Shared} {t x1 : Addr} {items : Array Value} {Q : List Value → Shared → Prop} (hot : HotX.HotAt A x1 s.heap) (ht : PyProof.Rows.IsTup s.heap t items)
    (hQ : ∀ h', Heap.ExtBut s.heap.objs.size s.heap h' → Q items.toList ⟨h', s.gens, s.drawn, s.toks, s.os⟩) : wpAny (model P w) A (unpackItems (.ref t) items.size none) Q E s := by
  have hlt : t ≠ s.heap.objs.size := by
    obtain ⟨o, e, _⟩ := ht
    exact Nat.ne_of_lt (Heap.lt_size e)
  have hlx : x1 ≠ s.heap.objs.size := by
    obtain ⟨_, o, _, e, _⟩ := hot
    exact Nat.ne_of_lt (Heap.lt_size e)
  unfold unpackItems
  refine wpAny_bind (wpAny_bind (wpAny_specialOf (PyProof.Rows.IsTup.typeIs ht) PyProof.Rows.slot_tuple_iter.lookup (wpAny_pure ?_)))
  dsimp only
  refine wpAny_ite_false (by rfl) ?_
  refine wpAny_bind (wpAny_holding (PyProof.Rows.iter_tuple ht ?_))
  refine wpAny_bind (wpAny_holding (PyProof.Rows.draw_tuple hlt items.size 0 _ _ ⟨_, Heap.get?_push_size _ rfl, rfl, rfl⟩ (PyProof.Rows.IsTup.push ht _) (by omega) fun h1 hit1 hs1 => ?_))
  have hall : List.take items.size (List.drop 0 items.toList) = items.toList := by
    rw [List.drop_zero]
    exact List.take_of_length_le (by simp)
  rw [hall]
  refine wpAny_ite_false (by simp) ?_
  have ht1 := PyProof.Rows.IsTup.extBut (PyProof.Rows.IsTup.push ht ⟨.type "tuple_iterator", none, .fields #[.ref t, .int 0 0], #[]⟩) (Heap.SameBut.extBut hs1) hlt
  have hot1 : HotX.HotAt A x1 h1 := by
    obtain ⟨hh, o, vs, e, d, c⟩ := hot
    exact ⟨hh, o, vs, Heap.SameBut.extBut hs1 x1 o hlx (Heap.get?_push_of_some _ e), d, c⟩
  refine wpAny_bind (wpAny_holding (tuple_end_hot hot1 hit1 ht1 (by simp) fun h2 he2 => ?_))
  refine wpAny_ite_false (by rfl) ?_
  exact wpAny_pure (hQ h2 fun b o hb e => he2 b o hb (Heap.SameBut.extBut hs1 b o hb (Heap.get?_push_of_some _ e)))
theorem pg_tupH {X : Cx} {pos : Pos} {es : List Expr} {k : Nat} {t : TGs} {n : Nat} (hc : HotC X) (h : PGs X es t) (hn : (assignEach es X.env).length = n := by rfl) (hst : List.findIdx? (fun x => x.fst) (assignEach es X.env) = none := by rfl) : PG X (.Tuple es k pos) (gTup X.K n t) := by
  refine ⟨fun pins s σ H v u Q I r hw => ?_⟩
  obtain ⟨a, xs, rfl, hq, hl, hw⟩ := hw
  have e1 : u = .ref a := r
  subst e1
  obtain ⟨its, rv, ht, hz⟩ := I.tuple hq
  obtain ⟨x1, hot⟩ := HotC.at hc I
  rw [PyProof.Rows.assign_Tuple]
  refine wpAny_bind (wpAny_standAt ?_)
  unfold unpack
  have hsz : (assignEach es X.env).length = its.toArray.size := by
    rw [hn, ← hl, Vals.length rv, List.size_toArray]
  rw [hst, hsz]
  refine wpAny_bind (wpAny_holding (unpack_hot hot ht fun h' hx => ?_))
  have I1 := Inv.kept (t' := s.toks) I fun b o e => hx b o (Nat.ne_of_lt (Heap.lt_size e)) e
  exact h.run pins _ σ H xs its Q I1 rv hw
end K1

/-! X6 -/
/-! A def called in an except suite with what is being handled: its promise may speak of the error. -/
namespace K1
open PySem L2 L2H PyProof.Rows PySem.W PySem.Calls
structure FnE (P : Program) (w : World) (K : Frag) (mg : Str → Option Value) (base : Heap) (k : Nat) (f : Addr) (fd : FuncData) (ps : List Str) (sp : Addr × Obj → Sp) : Prop where
  len : ∀ p vs H Q E, sp p vs H Q E → vs.length = ps.length
  run : ∀ (A : Around) (outer : List Env) (s : Shared) (H : Hp) (args : Args) (us : List Value) (vs : List V) (Q : VK) (E : XK) (p : Addr × Obj), RoomH k A → Hot1 A p → PinOk outer H s p → Env0 P w K mg base A outer s H → BindsTo s fd args (ps.zip us) → Vals vs us → sp p vs H Q E →
    codeAny (model P w) A (.call (.ref f) args) (CR CX0 outer P w H s Q E) s
theorem fnE_of {P : Program} {w : World} {K : Frag} {mg : Str → Option Value} {base : Heap} {x qual : Str} {st : Stmt} {f : Addr} {fd : FuncData} {N ps : List Str} {k : Nat} {sp : Addr × Obj → Sp} (F : Fun K x qual st f fd) (S : FnScope N ps (defScope st)) (len : ∀ p vs H Q E, sp p vs H Q E → vs.length = ps.length)
    (hbody : ∀ (cdv : Value) (A : Around) (outer : List Env) (s : Shared) (H : Hp) (vs : List V) (Q : VK) (E : XK) (p : Addr × Obj), Hot1 A p → RoomH k (A.deeper (envOfC qual (defScope st) s.heap.objs.size f cdv)) → sp p vs H Q E →
      ∃ t, PSs (cxH CX0 P w K mg base N qual (defScope st) f cdv A outer s H E p) (defBody st) t ∧ t { nx := fun _ H' => Q .non H', rt := Q } (L2.start N vs) H) : FnE P w K mg base (k + 1) f fd ps sp := by
  obtain ⟨oc, od, kV, doc, pm, an, cdv, ct, osl, rfl, lk, hcd⟩ := F.ex
  refine ⟨len, fun A outer s H args us vs Q E p hr hot hpin e0 hb r hsp => ?_⟩
  have hl := len p vs H Q E hsp
  have kb : ∀ b o, base.get? b = some o → s.heap.get? b = some o := fun b o e => (e0.bs b o e).1
  have KX := e0.mod.kin.keeps kb
  refine Att.call_fn (binds := ps.zip us) KX (e0.mod.nolimit.keeps kb) lk hcd hr.depth hb ?_ (fun s1 IC => ?_) S.co S.gen S.kind
  · rw [List.all_eq_true]
    rintro ⟨n, v⟩ hy
    have := S.par n (List.of_mem_zip hy).1
    rcases this with q | q <;> simp [q]
  · obtain ⟨t, ht, hq⟩ := hbody cdv A outer s H vs Q E p hot (hr.deeper _) hsp
    have I := inv_startH (CX := CX0) (E := E) (N := N) S hpin e0 hl r IC
    refine wpAny_mono (ht.run [] s1 (L2.start N vs) H _ I hq) (fun fl s' hs => ?_) (fun e s' hs => hs)
    have fin : ∀ {σ' H' v u}, L2.Inv (cxH CX0 P w K mg base N qual (defScope st) f cdv A outer s H E p) [] σ' H' s' → L2.RelV v u → Q v H' → CR CX0 outer P w H s Q E (.ok (.ret u)) s' := fun {σ' H' v u} J rv q => ⟨v, H', J.os, J.bare, J.base, J.hok, rv, q⟩
    cases fl with
    | next =>
      obtain ⟨σ', H', J, q⟩ := hs
      exact fin (v := .non) (u := .none) J (show L2.RelV V.non Value.none from rfl) q
    | ret u =>
      obtain ⟨v, σ', H', J, rv, q⟩ := hs
      exact fin J rv q
    | _ =>
      obtain ⟨_, _, _, q⟩ := hs
      exact q.elim
def tCallE (sp : Addr × Obj → Sp) (p : Addr × Obj) (t : TA) : TE := fun σ H Q => t σ H fun vs H1 => sp p vs H1 Q E0
theorem pe_callE {X : Cx} {k : Nat} {f : Addr} {fd : FuncData} {ps : List Str} {sp : Addr × Obj → Sp} {p : Addr × Obj} {x : Str} {q pos : Pos} {e : Expr} {es : List Expr} {t : TA} (F : FnE X.prog X.w X.K X.mg X.base k f fd ps sp) (hr : RoomH k X.A) (hot : Hot1 X.A p) (hp : p ∈ X.pn) (hg : Gl X x) (hm : X.mg x = some (.ref f)) (hk : keepIn X.K (.ref f) = true) (hb : Binds X.K fd ps []) (ha : PA X (e :: es) t)
    (hdb : (x == ("__debug__" : Str)) = false := by decide) (he : starEach (e :: es) X.env = (false, eval e X.env) :: starEach es X.env := by rfl) (hpl : (backTo pos (starEach es X.env)).any (·.1) = false := by rfl) :
    PE X (.Call (.Name x q) (e :: es) [] pos) (tCallE sp p t) := by
  refine ⟨fun pins s σ H Q I h => ?_⟩
  refine wpAny_Call_Name_kw (ld_glob I hg hm (callWith_K I.ok.mod.kin hk (thn (ha.run pos pins s σ H _ I h) ?_) he hpl) hdb)
  rintro us s1 ⟨vs, H1, I1, r, h1⟩
  refine ⟨I1.kIn, ?_⟩
  have hl : us.length = ps.length := by rw [← Vals.length r]; exact F.len p vs H1 Q E0 h1
  have b := hb s1 us I1.kIn (by simpa using hl)
  have P1 := I1.pin p (List.mem_append_left pins hp)
  refine wpAny_call (codeAny_mono (F.run X.A X.stack s1 H1 ⟨us, []⟩ us vs Q E0 p hr hot ⟨P1.1, P1.2.1, fun hm' => ?_, P1.2.2.2.2⟩ I1.env0 (by simpa using b) r h1) ?_)
  · exact Or.elim (List.mem_cons.mp (I1.stkSub p.1 hm')) P1.2.2.1 P1.2.2.2.1
  · intro rr s' hq
    cases rr with
    | error e => exact hq.elim
    | ok fl =>
      cases fl with
      | ret u => exact Inv.after I1 hq
      | _ => exact hq.elim
/-- isinstance(e, T), e what is being handled -/
def rIsP (K : Frag) (C a d : Addr) : List V → Hp → VK → Prop := fun xs H Q => ∃ (c : V) (cv : Value) (b : Bool) (fs : List (Str × V)), xs = [.ref a, c] ∧ H d = some (.xd fs) ∧ (∀ u, L2.RelV c u → u = cv) ∧ kitOne K (.ref C) cv = some b ∧ Q (.bl b) H
theorem call_isP {X : Cx} {a C d : Addr} {oe : Obj} (hp : (a, oe) ∈ X.pn) (T : ExcC X.K C) (hcl : (clsIn X.K C).isSome = true) (hc : oe.cls = .ref C) (hd : oe.dict = some d) (hf : ∃ vs, oe.data = .fields vs) : CallR X (.builtin "isinstance") (rIsP X.K C a d) := by
  intro pins s σ H xs us Q I r h
  obtain ⟨c, cv, b, fs, rfl, hx, hcv, e, q⟩ := h
  cases r with
  | cons r1 r2 =>
  cases r2 with
  | cons r2 r3 =>
  cases r3 with
  | nil =>
  rename_i u1 u2
  have e1 : u1 = .ref a := r1
  subst e1
  have e2 := hcv u2 r2
  subst e2
  obtain ⟨g1, g2, _⟩ := I.pin (a, oe) (List.mem_append_left _ hp)
  obtain ⟨mA, hn, _⟩ := I.hok d _ hx
  obtain ⟨o, _, _, ho, _⟩ := hn
  obtain ⟨vs, hf⟩ := hf
  have IA : InstAt s.heap a oe C (some o) := by
    refine ⟨g1, hc, ?_, ?_⟩
    · unfold notCls; rw [hf]
    · rw [hd]; exact ho
  refine kia_one (kitx_exc (x := a) (od := some o) (ox := oe) hcl T.hg T.hk T.hs T.ha T.hn T.ht T.hm) I.kIn IA e (by intro z; cases z) fun tk => ?_
  exact ⟨.bl b, H, I.kept (fun _ _ e => e), rfl, q⟩
end K1

/-! X7 -/
/-! Defs called where no repr is running; repr of data. -/
namespace K1
open PySem L2 L2H PyProof.Rows PySem.W PySem.Calls
structure FnG (P : Program) (w : World) (K : Frag) (mg : Str → Option Value) (base : Heap) (k : Nat) (f : Addr) (fd : FuncData) (ps : List Str) (sp : Sp) : Prop where
  len : ∀ vs H Q E, sp vs H Q E → vs.length = ps.length
  run : ∀ (A : Around) (outer : List Env) (s : Shared) (H : Hp) (args : Args) (us : List Value) (vs : List V) (Q : VK) (E : XK), Room k A → A.guards = some [] → Env0 P w K mg base A outer s H → BindsTo s fd args (ps.zip us) → Vals vs us → sp vs H Q E →
    codeAny (model P w) A (.call (.ref f) args) (CR CX0 outer P w H s Q E) s
theorem FnG.of {P : Program} {w : World} {K : Frag} {mg : Str → Option Value} {base : Heap} {k : Nat} {f : Addr} {fd : FuncData} {ps : List Str} {sp : Sp} (F : FnOk P w K mg base CX0 k f fd ps sp) : FnG P w K mg base k f fd ps sp :=
  ⟨F.len, fun A outer s H args us vs Q E hr _ => F.run A outer s H args us vs Q E hr⟩
theorem fnG_of {P : Program} {w : World} {K : Frag} {mg : Str → Option Value} {base : Heap} {x qual : Str} {st : Stmt} {f : Addr} {fd : FuncData} {N ps : List Str} {k : Nat} {sp : Sp} (F : Fun K x qual st f fd) (S : FnScope N ps (defScope st)) (len : ∀ vs H Q E, sp vs H Q E → vs.length = ps.length)
    (hbody : ∀ (cdv : Value) (A : Around) (outer : List Env) (s : Shared) (H : Hp) (vs : List V) (Q : VK) (E : XK), Room k (A.deeper (envOfC qual (defScope st) s.heap.objs.size f cdv)) → A.guards = some [] → sp vs H Q E →
      ∃ t, PSs (cxOf CX0 P w K mg base N qual (defScope st) f cdv A outer s H E).nox (defBody st) t ∧ t { nx := fun _ H' => Q .non H', rt := Q } (L2.start N vs) H) : FnG P w K mg base (k + 1) f fd ps sp := by
  obtain ⟨oc, od, kV, doc, pm, an, cdv, ct, osl, rfl, lk, hcd⟩ := F.ex
  refine ⟨len, fun A outer s H args us vs Q E hr hgd e0 hb r hsp => ?_⟩
  have hl := len vs H Q E hsp
  have kb : ∀ b o, base.get? b = some o → s.heap.get? b = some o := fun b o e => (e0.bs b o e).1
  have KX := e0.mod.kin.keeps kb
  refine Att.call_fn (binds := ps.zip us) KX (e0.mod.nolimit.keeps kb) lk hcd (by have := hr.dp; omega) hb ?_ (fun s1 IC => ?_) S.co S.gen S.kind
  · rw [List.all_eq_true]
    rintro ⟨n, v⟩ hy
    have := S.par n (List.of_mem_zip hy).1
    rcases this with q | q <;> simp [q]
  · have hr' : Room k (A.deeper (envOfC qual (defScope st) s.heap.objs.size f cdv)) := by
      obtain ⟨a1, a2, a3⟩ := hr
      refine ⟨a1, ?_, ?_⟩
      · show A.depth + 1 + 3 * k + 5 < _
        omega
      · show A.units + 3 + 16 * k + 200 < _
        omega
    obtain ⟨t, ht, hq⟩ := hbody cdv A outer s H vs Q E hr' hgd hsp
    have I := inv_start (CX := CX0) (E := E) (N := N) S hr.hd e0 hl r IC
    refine wpAny_mono (ht.nox.run [] s1 (L2.start N vs) H _ I hq) (fun fl s' hs => ?_) (fun e s' hs => hs)
    have fin : ∀ {σ' H' v u}, L2.Inv (cxOf CX0 P w K mg base N qual (defScope st) f cdv A outer s H E) [] σ' H' s' → L2.RelV v u → Q v H' → CR CX0 outer P w H s Q E (.ok (.ret u)) s' := fun {σ' H' v u} J rv q => ⟨v, H', J.os, J.bare, J.base, J.hok, rv, q⟩
    cases fl with
    | next =>
      obtain ⟨σ', H', J, q⟩ := hs
      exact fin (v := .non) (u := .none) J (show L2.RelV V.non Value.none from rfl) q
    | ret u =>
      obtain ⟨v, σ', H', J, rv, q⟩ := hs
      exact fin J rv q
    | _ =>
      obtain ⟨_, _, _, q⟩ := hs
      exact q.elim
theorem pe_callG {X : Cx} {k : Nat} {f : Addr} {fd : FuncData} {ps : List Str} {sp : Sp} {x : Str} {q pos : Pos} {e : Expr} {es : List Expr} {t : TA} (F : FnG X.prog X.w X.K X.mg X.base k f fd ps sp) (hr : Room k X.A) (hgd : X.A.guards = some []) (hm : X.mg x = some (.ref f)) (hk : keepIn X.K (.ref f) = true) (hb : Binds X.K fd ps []) (ha : PA X (e :: es) t) (hg : Gl X x := by rfl)
    (hdb : (x == ("__debug__" : Str)) = false := by decide) (he : starEach (e :: es) X.env = (false, eval e X.env) :: starEach es X.env := by rfl) (hpl : (backTo pos (starEach es X.env)).any (·.1) = false := by rfl) :
    PE X (.Call (.Name x q) (e :: es) [] pos) (tCall sp [] E0 t) := by
  refine ⟨fun pins s σ H Q I h => ?_⟩
  refine wpAny_Call_Name_kw (ld_glob I hg hm (callWith_K I.ok.mod.kin hk (thn (ha.run pos pins s σ H _ I h) ?_) he hpl) hdb)
  rintro us s1 ⟨vs, H1, I1, r, h1⟩
  refine ⟨I1.kIn, ?_⟩
  have h1' : sp vs H1 Q E0 := by rw [List.append_nil] at h1; exact h1
  have hl : us.length = ps.length := by rw [← Vals.length r]; exact F.len vs H1 Q E0 h1'
  have b := hb s1 us I1.kIn (by simpa using hl)
  refine wpAny_call (codeAny_mono (F.run X.A X.stack s1 H1 ⟨us, []⟩ us vs Q E0 hr hgd I1.env0 (by simpa using b) r h1') ?_)
  intro rr s' hq
  cases rr with
  | error e => exact hq.elim
  | ok fl =>
    cases fl with
    | ret u => exact Inv.after I1 hq
    | _ => exact hq.elim
/-- data whose repr is in the model -/
structure Rok (d : PyData) : Prop where
  show_ : d.showable = true
  nod : d.hasDict = false
  dep : d.depth ≤ 3
  len : d.shown.length ≤ sizeLine
  int : ∀ i, d = .int i → i.natAbs.log2 < 1920
def rRepr (K : Frag) : List V → Hp → VK → Prop := fun xs H Q => ∃ (x : V) (d : PyData), xs = [x] ∧ Dp K H x d ∧ Rok d ∧ Q (.str d.shown) H
theorem call_repr {X : Cx} (hgd : X.A.guards = some []) (hu : X.A.units + 100 < cLine) : CallR X (.builtin "repr") (rRepr X.K) := by
  intro pins s σ H xs us Q I r h
  obtain ⟨x, d, rfl, dp, ok, q⟩ := h
  cases r with
  | cons r1 r2 =>
  cases r2 with
  | nil =>
  rename_i u
  have K0 : ∀ tk, L2.Inv X pins σ H ⟨s.heap, s.gens, s.drawn, tk, s.os⟩ := fun tk => I.kept (t' := tk) (fun _ _ e => e)
  have rf : ∀ a, u = .ref a → wpAny (model X.prog X.w) X.A (call (.builtin "repr") [u]) (EP X pins σ Q) X.xe s := fun a e => by
    obtain ⟨as, rd⟩ := Dp.reads I _ _ _ dp r1
    subst e
    refine repr_of_reads' rd ok.show_ (fun z => by rw [ok.nod] at z; cases z) hgd (by have := ok.dep; omega) (fun _ _ e => e) (fun h' v tk kp => ⟨.str d.shown, H, I.kept kp, ⟨v, rfl⟩, q⟩) ok.len
  cases dp with
  | non =>
    have e : u = .none := r1
    subst e
    exact P.repr_of_none ⟨.str _, H, K0 _, ⟨_, rfl⟩, q⟩
  | bl b =>
    have e : u = .bool b := r1
    subst e
    refine P.repr_of_bool ⟨.str _, H, K0 _, ⟨_, rfl⟩, ?_⟩
    cases b <;> exact q
  | int i =>
    obtain ⟨t, e⟩ := r1
    subst e
    exact P.repr_of_int (ok.int i rfl) ⟨.str _, H, K0 _, ⟨_, rfl⟩, q⟩
  | str x =>
    obtain ⟨t, e⟩ := r1
    subst e
    exact P.repr_of_str ⟨.str _, H, K0 _, ⟨_, rfl⟩, q⟩ ok.len
  | lst => exact rf _ r1
  | tup => exact rf _ r1
end K1

/-! X8 -/
/-! An error with its own __init__, made where nothing is handled: its context is None. -/
namespace K1
open PySem L2 L2H PyProof.Rows PySem.W PySem.Calls
theorem mk_ctx {X : Cx} {pins : List (Addr × Obj)} {σ : L2.St} {Q : XK} {a C t : Addr} {d : Option Addr} {s' : Shared} (h : MkP X pins σ Q (.ref a) s') (e : s'.heap.get? a = some ⟨.ref C, d, .fields #[.ref t, .none, .none, .none, .bool false, .none], #[]⟩) : L2N.MkP X pins σ Q (.ref a) s' := by
  obtain ⟨a', oe, vs, sI, H', cls, d', ea, I, k, n, g, hz, hd, h1, hn, os, b, r, q⟩ := h
  obtain rfl : a = a' := Value.ref.inj ea
  rw [e] at g
  obtain rfl := Option.some.inj g
  refine ⟨a, _, vs, sI, H', cls, d', rfl, I, k, n, e, ⟨hz.1, hz.2, fun ws hw => ?_⟩, hd, h1, hn, os, b, r, q⟩
  obtain rfl := Data.fields.inj hw
  rfl
theorem pmk_oexN {X : Cx} {e : Expr} {es : List Expr} {ta : TA} {p pos : Pos} {x : Str} {C fI : Addr} {k : Nat} {fd : FuncData} {ps : List Str} {sp : Sp} (T : OexC X.K C) (iC : findIn X.K (.ref C) "__init__" = some (some (.ref fI))) (tI : typeIn X.K (.ref fI) = some (.type "function")) (F1 : FnOk X.prog X.w X.K X.mg X.base CX0 k fI fd ps sp) (hr : Room (k + 1) X.A) (hb : Binds X.K fd ps []) (hg : Gl X x) (hm : X.mg x = some (.ref C)) (ha : PA X (e :: es) ta)
    (hdb : (x == ("__debug__" : Str)) = false := by decide) (he : starEach (e :: es) X.env = (false, eval e X.env) :: starEach es X.env := by rfl) (hpl : (backTo pos (starEach es X.env)).any (·.1) = false := by rfl) :
    L2N.PMk X (.Call (.Name x p) (e :: es) [] pos) (tMkO C sp [] ta) := by
  intro pins s σ H Q I h
  obtain ⟨nm, q, N, bs, bm, sn, sub, ab, col, dd, k0, k1, k2, k3, k5, hC, hbm⟩ := T.cls
  refine wpAny_Call_Name_kw (ld_glob I hg hm (callWith_K I.ok.mod.kin T.kC (thn (ha.run pos pins s σ H _ I h) ?_) he hpl) hdb)
  rintro us s1 ⟨vs, H1, I1, r1, hz, q1⟩
  refine ⟨I1.kIn, ?_⟩
  obtain ⟨hp, g, dr, tk, os⟩ := s1
  have hsz := Nat.le_succ hp.objs.size
  have hn := HOk.fresh I1.hok hsz
  have hq := q1 (hp.objs.size + 1) hn
  have kk : ∀ b o, hp.get? b = some o → ((hp.push (kdv_tup us)).push (HandSPX.excO C hp.objs.size)).get? b = some o := fun b o e => Heap.get?_push_of_some _ (Heap.get?_push_of_some _ e)
  have hget : ((hp.push (kdv_tup us)).push (HandSPX.excO C hp.objs.size)).get? (hp.objs.size + 1) = some (HandSPX.excO C hp.objs.size) := Heap.get?_push_at (by rw [Heap.size_push]) rfl
  have I2 := Inv.laid (t' := tk) I1 kk hsz (exo_ok hget)
  have r2 : Vals (V.ref (hp.objs.size + 1) :: (vs ++ [])) (Value.ref (hp.objs.size + 1) :: us) := by
    rw [List.append_nil]
    exact .cons rfl r1
  have hl : (Value.ref (hp.objs.size + 1) :: us).length = ps.length := by
    rw [← Vals.length r2]
    exact F1.len _ _ _ _ hq
  have hus : us.length ≤ sizeLine := by
    rw [← Vals.length r1]
    exact small_line hz
  have hbb := hb ⟨(hp.push (kdv_tup us)).push (HandSPX.excO C hp.objs.size), g, dr, tk, os⟩ (.ref (hp.objs.size + 1) :: us) I2.kIn (by simpa using hl)
  refine wpAny_call (HandSPX.call_own F.excBase_ValueError (fun Y => HandSPX.refsVE_contains Y bm hbm) (I1.kIn C _ hC) (looks_findIn I1.kIn iC) (fun self => bind_fn I1.kIn self tI) hus (codeAny_mono (F1.run (X.A.under (.builtin "type.__call__" ⟨.ref C :: us, []⟩)) X.stack _ _ _ _ _ _ _ (Room.make hr C us []) (Env0.make I2.env0 C us []) (by simpa using hbb) r2 hq) ?_))
  intro r s' hq'
  cases r with
  | error er => exact hq'.elim
  | ok fl =>
    cases fl with
    | ret u =>
      obtain ⟨v, H2, os2, bare2, un2, hok2, rv, ev, d, fs, ea, ed, hd1, q2⟩ := hq'
      subst ev
      obtain ⟨h2, g2, d2, t2, os2'⟩ := s'
      obtain ⟨t1, et⟩ := exo_at hok2 ea
      exact ⟨rv, mk_ctx (mk_end (raises_own T.exC T.tyC) I1 hsz kk un2 hok2 os2 bare2 ea ed hd1 q2) et⟩
    | _ => exact hq'.elim
end K1

/-! K01K -/

namespace K1
open PySem L2
abbrev sReq : Stmt := top 27
abbrev sVal : Stmt := top 28
theorem scReq : FnScope ["signs"] ["signs"] (defScope sReq) := ⟨rfl, rfl, rfl, by decide +kernel, rfl, by decide +kernel, by decide +kernel⟩
theorem scVal : FnScope ["signs", "sign"] ["signs", "sign"] (defScope sVal) := ⟨rfl, rfl, rfl, by decide +kernel, rfl, by decide +kernel, by decide +kernel⟩
/-- no signs of a house -/
def Bads (K : PySem.W.Frag) (H : Hp) (x : V) : Prop := (∃ y : Str, x = .str y ∧ y.length ≤ 1000 ∧ signsB y = false) ∨ NoText K H x
def Err (C : Addr) (x : V) (H : Hp) (E : XK) : Prop := ∀ H' d, Same H H' → H' d = some (.xd [("signs", x)]) → H d = none → E (.ref C) (some d) H'
def spReq (K : PySem.W.Frag) (C : Addr) : Sp := fun vs H Q E => ∃ x : V, vs = [x] ∧ ((∃ y : Str, x = .str y ∧ y.length ≤ 1000 ∧ signsB y = true ∧ ∀ H', Same H H' → Q .non H') ∨ (Bads K H x ∧ Err C x H E))
def spVal (K : PySem.W.Frag) (C : Addr) : Sp := fun vs H Q E => ∃ (x : V) (t : Str), vs = [x, .str t] ∧ ((∃ (y : Str) (k c : Nat), x = .str y ∧ y.length ≤ 1000 ∧ signsB y = true ∧ t = one c ∧ (tl y)[k]? = some c ∧ (tl y).Nodup ∧ ∀ H', Same H H' → Q (.int k) H') ∨ (Bads K H x ∧ Err C x H E))
theorem tyS {K : PySem.W.Frag} {H : Hp} {y : Str} : tyV K "str" (.str y) H := rfl
theorem sub_one (y : Str) (c i : Nat) : StrLaws.At y (one c) y.length i ↔ (tl y)[i]? = some c := by
  show (i + 1 ≤ y.cps.size ∧ (y.cps.extract i (i + 1) == #[c]) = true) ↔ _
  rw [beq_iff_eq]
  constructor
  · rintro ⟨h1, h2⟩
    have h3 : (y.cps.extract i (i + 1))[0]? = some c := by rw [h2]; rfl
    rw [Array.getElem?_extract] at h3
    split at h3
    · simpa using h3
    · cases h3
  · intro h
    obtain ⟨h1, h2⟩ := List.getElem?_eq_some_iff.mp h
    have h1' : i < y.cps.size := by simpa using h1
    refine ⟨h1', ?_⟩
    apply Array.ext
    · simp; omega
    · intro j j1 j2
      have j0 : j = 0 := by simpa using j2
      subst j0
      simpa using h2
theorem index_one {y : Str} {c k : Nat} (h : (tl y)[k]? = some c) (nd : (tl y).Nodup) : ∃ r, Builtin.Str.occurrences y (one c) 0 y.length 1 = k :: r := by
  rcases StrLaws.occ_head y (one c) 1 (Nat.le_refl _) with ⟨_, e⟩ | ⟨i, r, e, hi, hk⟩
  · exact absurd ((sub_one y c k).mpr h) (e k)
  · have h2 := (sub_one y c i).mp hi
    obtain ⟨a1, a2⟩ := List.getElem?_eq_some_iff.mp h
    obtain ⟨b1, b2⟩ := List.getElem?_eq_some_iff.mp h2
    have pw := List.pairwise_iff_getElem.mp nd
    have : i = k := by
      rcases Nat.lt_trichotomy i k with q | q | q
      · exact absurd (b2.trans a2.symm) (pw i k b1 a1 q)
      · exact q
      · exact absurd (a2.trans b2.symm) (pw k i a1 b1 q)
    subst this
    exact ⟨r, e⟩
section
variable {P : Program} {w : World} {K : PySem.W.Frag} {mg : Str → Option Value} {base : Heap}
abbrev OAreSigns (P : Program) (w : World) (K : PySem.W.Frag) (mg : Str → Option Value) (base : Heap) : Prop := Own P w K mg base "are_signs" 2 ["thing"] (spAreSigns K)
theorem okXN {P : Program} {w : World} {K : PySem.W.Frag} {mg : Str → Option Value} {base : Heap} {x qual : Str} {st : Stmt} {f : Addr} {fd : FuncData} {N ps : List Str} {k : Nat} {sp : Sp} (F : Fun K x qual st f fd) (S : FnScope N ps (defScope st)) (len : ∀ vs H Q E, sp vs H Q E → vs.length = ps.length)
    (hbody : ∀ (cdv : Value) (A : Around) (outer : List Env) (s : Shared) (H : Hp) (vs : List V) (Q : VK) (E : XK), Room k (A.deeper (PyProof.Rows.envOfC qual (defScope st) s.heap.objs.size f cdv)) → sp vs H Q E →
      ∃ t, PSs (cxOf (L2N.CX P w) P w K mg base N qual (defScope st) f cdv A outer s H E) (defBody st) t ∧ t { nx := fun _ H' => Q .non H', rt := Q } (L2.start N vs) H) : FnOk P w K mg base (L2N.CX P w) (k + 1) f fd ps sp := by
  obtain ⟨oc, od, kV, doc, pm, an, cdv, ct, osl, rfl, lk, hcd⟩ := F.ex
  exact fn_of lk hcd S len fun A outer s H vs Q E hr hsp => hbody cdv A outer s H vs Q E hr hsp
theorem ok_req {f fI C : Addr} {fd fdI : FuncData} (F : Fun K "require_signs" "require_signs" sReq f fd) (Oa : OAreSigns P w K mg base) (T : BadF P K mg fI fdI C) (gC : mg "BadSigns" = some (.ref C)) (iC : PySem.W.findIn K (.ref C) "__init__" = some (some (.ref fI))) (tI : PySem.W.typeIn K (.ref fI) = some (.type "function")) (bI : Binds K fdI ["self", "signs"] []) :
    FnOk P w K mg base (L2N.CX P w) 3 f fd ["signs"] (spReq K C) := by
  refine okXN F scReq (fun vs H Q E h => ?_) (fun cdv A outer s H vs Q E hr h => ?_)
  · obtain ⟨x, rfl, _⟩ := h
    rfl
  · obtain ⟨x, rfl, h⟩ := h
    refine ⟨_, pss_one (ps_if (pt_not (pt_val (pe_own Oa hr (pa_cons (pv 0) pa_nil)))) (pss_one (L2N.ps_raise rfl (L2N.takes_of rfl rfl rfl rfl) (pmk_oexN T.oex iC tI (ok_bad T) hr bI rfl gC (pa_cons (pv 0) pa_nil)))) pss_nil), ?_⟩
    try dsimp only [cxOf, Cx.nox, Cx.wish]
    walk_at "go"
    have rz : ∀ H1, Same H H1 → Err C x H E → [x].length ≤ 1000 ∧ ∀ a : Addr, H1 a = none → spBad C (V.ref a :: ([x] ++ [])) (upd H1 a (exo a C none))
          (fun v H2 => v = V.non ∧ ∃ d fs, H2 a = some (exo a C (some d)) ∧ H2 d = some (exd d fs) ∧ H1 d = none ∧ E (Value.ref C) (some d) (upd (del H2 a) d (HO.xd fs)))
          fun x x_1 x_2 => False := by
      intro H1 sm er
      refine ⟨(by show 1 ≤ 1000; decide), fun a ha => ⟨a, x, rfl, upd_same, fun dx hdx ne => ?_⟩⟩
      rw [upd_ne ne] at hdx
      refine ⟨rfl, dx, [("signs", x)], upd_same, by rw [upd_ne ne, upd_same], hdx, ?_⟩
      refine er _ _ (fun c o e => ?_) upd_same (Same.free sm hdx)
      have e1 := sm c o e
      have n1 : c ≠ dx := ne_of_none e1 hdx
      have n2 : c ≠ a := ne_of_none e1 ha
      rw [upd_ne n1, del_ne n2, upd_ne n2, upd_ne n1, upd_ne n2]
      exact e1
    rcases h with ⟨y, rfl, hy, hs, k⟩ | ⟨hb, er⟩
    · refine .inl ⟨y, rfl, hy, fun H' sm => ?_⟩
      rw [hs]
      walk_at "go"
      exact k H' sm
    · rcases hb with ⟨y, rfl, hy, hs⟩ | hn
      · refine .inl ⟨y, rfl, hy, fun H' sm => ?_⟩
        rw [hs]
        walk_at "go"
        exact rz H' sm er
      · refine .inr ⟨hn, ?_⟩
        walk_at "go"
        exact rz H (fun _ _ e => e) er
theorem ok_val {f fR C : Addr} {fd fdR : FuncData} (F : Fun K "sign_value" "sign_value" sVal f fd) (FR : FnOk P w K mg base (L2N.CX P w) 3 fR fdR ["signs"] (spReq K C)) (mR : mg "require_signs" = some (.ref fR)) (kR : PySem.W.keepIn K (.ref fR) = true) (bR : Binds K fdR ["signs"] []) :
    FnOk P w K mg base (L2N.CX P w) 4 f fd ["signs", "sign"] (spVal K C) := by
  refine okXN F scVal (fun vs H Q E h => ?_) (fun cdv A outer s H vs Q E hr h => ?_)
  · obtain ⟨x, t, rfl, _⟩ := h
    rfl
  · obtain ⟨x, t, rfl, h⟩ := h
    refine ⟨_, pss_cons (ps_expr (pe_callS FR hr rfl mR kR bR (fun σ => L2N.passAt (L2N.takes_of rfl rfl rfl rfl) σ) (pa_cons (pv 0) pa_nil))) (pss_one (ps_ret (pe_bm PySem.F.plainAttrs_str PySem.F.slot_str_index PySem.F.type_str_index mt_sindex (pv 0) (pa_cons (pv 1) pa_nil)))), ?_⟩
    try dsimp only [cxOf, Cx.nox, Cx.wish]
    walk_at "go"
    rcases h with ⟨y, kk, c, rfl, hy, hs, rfl, hk, hn, k⟩ | ⟨hb, er⟩
    · refine .inl ⟨y, rfl, hy, hs, fun H' sm => ?_⟩
      obtain ⟨r, er⟩ := index_one hk hn
      walk_at "go"
      refine ⟨tyS, ?_⟩
      walk_at "go"
      exact ⟨y, one c, kk, r, rfl, rfl, er, k H' sm⟩
    · exact .inr ⟨hb, er⟩
end
end K1

/-! M3 -/
/-! What is no signs. -/
namespace K1
open PySem L2 PyProof.Rows
theorem gD {l : List Nat} {k : Nat} (h : k < l.length) : l.getD k 0 = l[k] := by
  rw [List.getD_eq_getElem?_getD, List.getElem?_eq_getElem h]; rfl
theorem asc_of {l : List Nat} (h : l.Pairwise (· < ·)) : ascL l = true := by
  unfold ascL
  rw [List.all_eq_true]
  intro k hk
  have hk : k < l.length - 1 := List.mem_range.mp hk
  have h1 : k < l.length := by omega
  have h2 : k + 1 < l.length := by omega
  rw [decide_eq_true_eq, gD h1, gD h2]
  exact List.pairwise_iff_getElem.mp h k (k + 1) h1 h2 (by omega)
theorem asc_no {l : List Nat} {k : Nat} (h : k + 1 < l.length) (n : ¬ l[k]'(by omega) < l[k + 1]) : ascL l = false := by
  cases e : ascL l with
  | false => rfl
  | true =>
    unfold ascL at e
    rw [List.all_eq_true] at e
    have := e k (List.mem_range.mpr (by omega))
    rw [decide_eq_true_eq, gD (show k < l.length by omega), gD h] at this
    exact absurd this n
theorem good_signs {z : Str} (g : Good z) : signsB z = true := by
  have e := len_tl' z
  have h1 := g.lo
  have h2 := g.hi
  have h3 : ((tl z).all fun c => decide (c ∈ tl ALL)) = true := by
    rw [List.all_eq_true]
    intro c hc
    exact decide_eq_true (g.all c hc)
  unfold signsB textB
  rw [h3, asc_of g.up, decide_eq_true (show (2 : Int) ≤ z.length by omega), decide_eq_true (show (z.length : Int) ≤ 12 by omega)]
  rfl
theorem good_nodup {z : Str} (g : Good z) : (tl z).Nodup := g.up.imp Nat.ne_of_lt
theorem no_len {y : Str} (h : y.length < 2 ∨ 12 < y.length) : signsB y = false := by
  unfold signsB textB
  rcases h with h | h
  · rw [decide_eq_false (show ¬ (2 : Int) ≤ y.length by omega)]; rfl
  · rw [decide_eq_false (show ¬ (y.length : Int) ≤ 12 by omega)]; simp
theorem no_char {y : Str} {c : Nat} (h : c ∈ tl y) (n : c ∉ tl ALL) : signsB y = false := by
  have : ((tl y).all fun c => decide (c ∈ tl ALL)) = false := by
    rw [← Bool.not_eq_true, List.all_eq_true]
    intro q
    exact n (of_decide_eq_true (q c h))
  unfold signsB textB
  rw [this]; simp
theorem no_asc {y : Str} (h : ascL (tl y) = false) : signsB y = false := by
  unfold signsB
  rw [h]; simp
theorem no_rev {z : Str} (g : Good z) : signsB (revS z) = false := by
  have e : tl (revS z) = (tl z).reverse := rfl
  refine no_asc ?_
  rw [e]
  have h1 := g.lo
  refine asc_no (k := 0) (by rw [List.length_reverse]; omega) ?_
  rw [List.getElem_reverse, List.getElem_reverse]
  have := List.pairwise_iff_getElem.mp g.up ((tl z).length - 1 - (0 + 1)) ((tl z).length - 1 - 0) (by omega) (by omega) (by omega)
  omega
theorem no_last {z y : Str} {c : Nat} {l : List Nat} (hl : tl z = l ++ [c]) (hy : tl y = tl z ++ [c]) : signsB y = false := by
  refine no_asc ?_
  rw [hy, hl]
  refine asc_no (k := l.length) (by simp) ?_
  rw [List.getElem_append_left (by simp), List.getElem_append_right (by simp), List.getElem_append_right (by simp)]
  simp
theorem no_twice {z y : Str} {c : Nat} {i : Nat} (hc : (tl z)[i]? = some c) (hy : tl y = (tl z).take i ++ [c] ++ (tl z).drop i) : signsB y = false := by
  obtain ⟨hi, hc⟩ := List.getElem?_eq_some_iff.mp hc
  have hd : (tl z).drop i = c :: (tl z).drop (i + 1) := by rw [List.drop_eq_getElem_cons hi, hc]
  refine no_asc ?_
  rw [hy, hd]
  have ht : ((tl z).take i).length = i := by rw [List.length_take]; omega
  refine asc_no (k := i) (by simp [ht]) ?_
  rw [List.getElem_append_left (by simp [ht]), List.getElem_append_right (by omega), List.getElem_append_right (by simp [ht])]
  simp [ht]
theorem good_z {z y : Str} {a b : Nat} {r : List Nat} (g : Good z) (hz : tl z = a :: b :: r) (hy : tl y = [a, 90]) : Good y := by
  have hb : b ∈ tl ALL := g.all b (by rw [hz]; simp)
  have ha : a ∈ tl ALL := g.all a (by rw [hz]; simp)
  have ab : a < b := by
    have := g.up
    rw [hz, List.pairwise_cons] at this
    exact this.1 b (by simp)
  have b90 : b ≤ 90 := (show ∀ c ∈ tl ALL, c ≤ 90 by decide +kernel) b hb
  refine ⟨by rw [hy]; exact Nat.le_refl 2, by rw [hy]; exact (by decide : 2 ≤ 12), ?_, fun c hc => ?_⟩
  · rw [hy]; simp; omega
  · rw [hy] at hc
    rcases List.mem_cons.mp hc with rfl | hc
    · exact ha
    · obtain rfl := List.mem_singleton.mp hc
      decide +kernel
def Low (y : Str) : Prop := y.length ≤ 50 ∧ ∀ c ∈ tl y, c < 128
theorem shown_str {y : Str} (h : Low y) : (reprText y).length ≤ 10 * y.length + 2 := StrLaws.reprText_len y fun c hc => Nat.lt_trans (h.2 c hc) (by decide)
theorem app_len (x y : Str) : (x ++ y).length = x.length + y.length := by
  rw [len_tl' (x ++ y)]
  show ((x ++ y).cps.toList).length = _
  rw [app_cps, List.length_append]
  rfl
theorem tf_len (m : Nat) : ∀ (ts : List Str) (n : Nat) (s : Str), (∀ t ∈ ts, t.length ≤ m) → (textFrom n s ts).length ≤ s.length + ts.length * (m + 2)
  | [], n, s, _ => by
    unfold textFrom
    simp
  | t :: ts, n, s, h => by
    unfold textFrom
    have ih := tf_len m ts (n + 1) (s ++ PySem.Str.ofString (if n > 0 then ", " else "") ++ t) fun u hu => h u (List.mem_cons_of_mem _ hu)
    have h1 := h t (by simp)
    have h2 : (PySem.Str.ofString (if n > 0 then ", " else "")).length ≤ 2 := by split <;> decide +kernel
    rw [app_len, app_len] at ih
    rw [List.length_cons, Nat.add_mul]
    omega
theorem shown_all (ys : List Str) : PyData.shownAll (ys.map PyData.str) = ys.map reprText := by
  induction ys with
  | nil => simp [PyData.shownAll]
  | cons y ys ih =>
    show PyData.shownAll (.str y :: ys.map PyData.str) = _
    rw [PyData.shownAll, ih]; rfl
theorem rok_str {y : Str} (h : Low y) : Rok (.str y) := by
  refine ⟨rfl, rfl, by simp [PyData.depth], ?_, fun i e => by cases e⟩
  have := shown_str h
  have h1 := h.1
  exact small_line (Nat.le_trans this (by omega))
theorem str_all (ys : List Str) : PyData.showableAll (ys.map PyData.str) = true ∧ PyData.hasDictAll (ys.map PyData.str) = false ∧ PyData.depthAll (ys.map PyData.str) = 0 := by
  induction ys with
  | nil => simp [PyData.showableAll, PyData.hasDictAll, PyData.depthAll]
  | cons y ys ih =>
    obtain ⟨a, b, c⟩ := ih
    show PyData.showableAll (.str y :: ys.map PyData.str) = true ∧ PyData.hasDictAll (.str y :: ys.map PyData.str) = false ∧ PyData.depthAll (.str y :: ys.map PyData.str) = 0
    rw [PyData.showableAll, PyData.hasDictAll, PyData.depthAll, a, b, c]
    simp [PyData.showable, PyData.hasDict, PyData.depth]
theorem rok_list {ys : List Str} (hl : ys.length ≤ 13) (h : ∀ y ∈ ys, y.length ≤ 1 ∧ Low y) : Rok (.list (ys.map PyData.str)) := by
  obtain ⟨a, b, c⟩ := str_all ys
  refine ⟨by rw [PyData.showable]; exact a, by rw [PyData.hasDict]; exact b, by rw [PyData.depth, c]; decide, ?_, fun i e => by cases e⟩
  rw [PyData.shown, shown_all, listText, app_len]
  have := tf_len 12 (ys.map reprText) 0 "[" fun t ht => by
    obtain ⟨y, hy, rfl⟩ := List.mem_map.mp ht
    have := shown_str (h y hy).2
    have := (h y hy).1
    omega
  rw [List.length_map] at this
  refine small_line ?_
  have e1 : ("[" : Str).length = 1 := by decide +kernel
  have e2 : ("]" : Str).length = 1 := by decide +kernel
  have : ys.length * 14 ≤ 13 * 14 := Nat.mul_le_mul_right _ hl
  omega
theorem rok_tup {y : Str} (h : Low y) (hl : y.length ≤ 20) : Rok (.tuple [.str y]) := by
  obtain ⟨a, b, c⟩ := str_all [y]
  refine ⟨by rw [PyData.showable]; exact a, by rw [PyData.hasDict]; exact b, by rw [PyData.depth]; exact (show (PyData.depthAll ([y].map PyData.str)) + 1 ≤ 3 by rw [c]; decide), ?_, fun i e => by cases e⟩
  rw [PyData.shown]
  have e := shown_all [y]
  rw [show [PyData.str y] = [y].map PyData.str from rfl, e]
  show (("(" : Str) ++ reprText y ++ (",)" : Str)).length ≤ _
  rw [app_len, app_len]
  have := shown_str h
  have e1 : ("(" : Str).length = 1 := by decide +kernel
  have e2 : (",)" : Str).length = 2 := by decide +kernel
  exact small_line (by omega)
theorem rok_non : Rok .none := ⟨rfl, rfl, by simp [PyData.depth], by decide +kernel, fun i e => by cases e⟩
theorem rok_seven : Rok (.int 7) := ⟨rfl, rfl, by simp [PyData.depth], by decide +kernel, fun i e => by cases e; decide +kernel⟩
theorem rok_true : Rok (.bool true) := ⟨rfl, rfl, by simp [PyData.depth], by decide +kernel, fun i e => by cases e⟩
end K1

/-! K01L -/

namespace K1
open PySem L2 L2H
abbrev sCls : Stmt := top 46
abbrev nCls : List Str := ["_law_e","_law_a","_law_name","_law_flag"]
theorem scCls : FnScope nCls ["_law_e"] (defScope sCls) := ⟨rfl, rfl, rfl, by decide +kernel, rfl, by decide +kernel, by decide +kernel⟩
def clsL : List (Str × Bool) := [("CarryError", true), ("Malformed", true), ("Refused", false), ("BadSigns", true), ("BadPaper", false), ("BadName", false), ("BadWalk", false), ("BadRule", false), ("BadForm", false), ("BadSlip", false), ("BadWay", false), ("BadDeed", false), ("BadLine", false), ("TooMany", false), ("Twice", false), ("Unknown", false), ("Unlike", false), ("Unfit", false)]
/-- the classes of the errors: C is BadSigns -/
def ClsF (K : PySem.W.Frag) (mg : Str → Option Value) (C : Addr) (c : Str → Addr) : Prop := ∀ e ∈ clsL, mg e.1 = some (.ref (c e.1)) ∧ PySem.W.kitOne K (.ref C) (.ref (c e.1)) = some e.2
def Row (H : Hp) (l : Addr) (ts : List (Addr × Str × Bool)) : Prop := H l = some (.lst (ts.map fun e => V.ref e.1)) ∧ ∀ e ∈ ts, H e.1 = some (.tup [.str e.2.1, .bl e.2.2])
def tPair (K : PySem.W.Frag) (C a d : Addr) (n1 : Str) (c1 : Addr) (n2 : Str) (c2 : Addr) : TE :=
  tLst (tCons (tTup (tCons (tC (.str n1)) (tCons (tCB (rIsP K C a d) (tCons (tVar 0) (tCons (tC (.ref c1)) tNil))) tNil))) (tCons (tTup (tCons (tC (.str n2)) (tCons (tCB (rIsP K C a d) (tCons (tVar 0) (tCons (tC (.ref c2)) tNil))) tNil))) tNil))
theorem pair_run {K : PySem.W.Frag} {C a d c1 c2 : Addr} {n1 n2 : Str} {b1 b2 : Bool} {σ : L2.St} {H : Hp} {Q : VK} {fs : List (Str × V)} (h0 : σ[0]? = some (some (.ref a))) (hd : H d = some (.xd fs)) (k1 : PySem.W.kitOne K (.ref C) (.ref c1) = some b1) (k2 : PySem.W.kitOne K (.ref C) (.ref c2) = some b2)
    (k : ∀ H' t1 t2 l, Same H H' → H' t1 = some (.tup [.str n1, .bl b1]) → H' t2 = some (.tup [.str n2, .bl b2]) → H' l = some (.lst [.ref t1, .ref t2]) → Q (.ref l) H') : tPair K C a d n1 c1 n2 c2 σ H Q := by
  unfold tPair
  have two : (2 : Nat) ≤ sizeLine := by decide
  walk_at "go"
  refine ⟨_, h0, .ref c1, .ref c1, b1, fs, rfl, hd, fun u h => h, k1, ?_⟩
  walk_at "go"
  refine ⟨two, fun t1 h1 => ?_⟩
  walk_at "go"
  refine ⟨_, h0, .ref c2, .ref c2, b2, fs, rfl, same_new h1 _ _ hd, fun u h => h, k2, ?_⟩
  walk_at "go"
  refine ⟨two, fun t2 h2 => ?_⟩
  walk_at "go"
  refine ⟨two, fun l hl => ?_⟩
  refine k _ t1 t2 l (Same.trans (Same.trans (same_new h1) (same_new h2)) (same_new hl)) ?_ ?_ upd_same
  · exact same_new hl _ _ (same_new h2 _ _ upd_same)
  · exact same_new hl _ _ upd_same
theorem cat_run {K : PySem.W.Frag} {C a d c1 c2 l : Addr} {n1 n2 : Str} {b1 b2 : Bool} {x2 x3 : Option V} {H : Hp} {fs : List (Str × V)} {ts : List (Addr × Str × Bool)} {Q : VK}
    (k : ∀ H' l' ts', Same H H' → Row H' l' ts' → ts'.map (·.2) = ts.map (·.2) ++ [(n1, b1), (n2, b2)] → Q (.ref l') H') (hr : Row H l ts) (hd : H d = some (.xd fs)) (k1 : PySem.W.kitOne K (.ref C) (.ref c1) = some b1) (k2 : PySem.W.kitOne K (.ref C) (.ref c2) = some b2) (hz : ts.length + 2 ≤ 100) :
    tOp rCat (tVar 1) (tPair K C a d n1 c1 n2 c2) [some (.ref a), some (.ref l), x2, x3] H Q := by
  refine r_op ?_
  refine r_var (v := .ref l) rfl ?_
  refine pair_run (σ := [some (.ref a), some (.ref l), x2, x3]) rfl hd k1 k2 fun H' t1 t2 l2 sm e1 e2 el => ?_
  refine ⟨l, l2, _, _, rfl, rfl, sm _ _ hr.1, el, by rw [List.length_map]; exact small_line (by show ts.length + 2 ≤ 1000; omega), fun p hp => ?_⟩
  have s2 := same_new (o := HO.lst ((ts.map fun e => V.ref e.1) ++ [.ref t1, .ref t2])) hp
  refine k _ p (ts ++ [(t1, n1, b1), (t2, n2, b2)]) (Same.trans sm s2) ⟨?_, fun e he => ?_⟩ (by rw [List.map_append]; rfl)
  · rw [upd_same, List.map_append]; rfl
  · rcases List.mem_append.mp he with he | he
    · exact s2 _ _ (sm _ _ (hr.2 e he))
    · rcases List.mem_cons.mp he with rfl | he
      · exact s2 _ _ e1
      · obtain rfl := List.mem_singleton.mp he
        exact s2 _ _ e2
def outs (cl : List (Str × Bool)) (n : Nat) : List V := ((cl.take n).filter (·.2)).map fun e => V.str e.1
theorem outs_no {cl : List (Str × Bool)} {i : Nat} {n : Str} (h : cl[i]? = some (n, false)) : outs cl (i + 1) = outs cl i := by
  unfold outs
  rw [List.take_succ, h]
  simp
theorem outs_yes {cl : List (Str × Bool)} {i : Nat} {n : Str} (h : cl[i]? = some (n, true)) : outs cl (i + 1) = outs cl i ++ [.str n] := by
  unfold outs
  rw [List.take_succ, h]
  simp
theorem outs_len (cl : List (Str × Bool)) (i : Nat) : (outs cl i).length ≤ cl.length := by
  unfold outs
  rw [List.length_map]
  exact Nat.le_trans (List.length_filter_le _ _) (by rw [List.length_take]; omega)
def spCls (C : Addr) : Addr × Obj → Sp := fun p vs H Q _ => ∃ (d : Addr) (fs : List (Str × V)), vs = [.ref p.1] ∧ p.2.cls = .ref C ∧ p.2.dict = some d ∧ (∃ ws, p.2.data = .fields ws) ∧ H d = some (.xd fs) ∧
  ∀ H' r, Same H H' → H' r = some (.lst [.str "CarryError", .str "Malformed", .str "BadSigns"]) → Q (.ref r) H'
section
variable {P : Program} {w : World} {K : PySem.W.Frag} {mg : Str → Option Value} {base : Heap}
theorem ok_cls {f C : Addr} {fd : FuncData} {c : Str → Addr} (F : Fun K "_law_classes" "_law_classes" sCls f fd) (B : Bl mg) (T : ExcC K C) (hcl : (PySem.W.clsIn K C).isSome = true) (G : ClsF K mg C c) : FnE P w K mg base 1 f fd ["_law_e"] (spCls C) := by
  refine fnE_of F scCls (fun p vs H Q E h => ?_) (fun cdv A outer s H vs Q E p hot hr h => ?_)
  · obtain ⟨d, fs, rfl, _⟩ := h
    rfl
  · obtain ⟨a, oe⟩ := p
    obtain ⟨d, fs, rfl, hc, hd, hf, hd0, k⟩ := h
    have g0 : mg "CarryError" = some (.ref (c "CarryError")) := (G _ (show (("CarryError" : Str), true) ∈ clsL by simp [clsL])).1
    have k0 : PySem.W.kitOne K (.ref C) (.ref (c "CarryError")) = some true := (G _ (show (("CarryError" : Str), true) ∈ clsL by simp [clsL])).2
    have g1 : mg "Malformed" = some (.ref (c "Malformed")) := (G _ (show (("Malformed" : Str), true) ∈ clsL by simp [clsL])).1
    have k1 : PySem.W.kitOne K (.ref C) (.ref (c "Malformed")) = some true := (G _ (show (("Malformed" : Str), true) ∈ clsL by simp [clsL])).2
    have g2 : mg "Refused" = some (.ref (c "Refused")) := (G _ (show (("Refused" : Str), false) ∈ clsL by simp [clsL])).1
    have k2 : PySem.W.kitOne K (.ref C) (.ref (c "Refused")) = some false := (G _ (show (("Refused" : Str), false) ∈ clsL by simp [clsL])).2
    have g3 : mg "BadSigns" = some (.ref (c "BadSigns")) := (G _ (show (("BadSigns" : Str), true) ∈ clsL by simp [clsL])).1
    have k3 : PySem.W.kitOne K (.ref C) (.ref (c "BadSigns")) = some true := (G _ (show (("BadSigns" : Str), true) ∈ clsL by simp [clsL])).2
    have g4 : mg "BadPaper" = some (.ref (c "BadPaper")) := (G _ (show (("BadPaper" : Str), false) ∈ clsL by simp [clsL])).1
    have k4 : PySem.W.kitOne K (.ref C) (.ref (c "BadPaper")) = some false := (G _ (show (("BadPaper" : Str), false) ∈ clsL by simp [clsL])).2
    have g5 : mg "BadName" = some (.ref (c "BadName")) := (G _ (show (("BadName" : Str), false) ∈ clsL by simp [clsL])).1
    have k5 : PySem.W.kitOne K (.ref C) (.ref (c "BadName")) = some false := (G _ (show (("BadName" : Str), false) ∈ clsL by simp [clsL])).2
    have g6 : mg "BadWalk" = some (.ref (c "BadWalk")) := (G _ (show (("BadWalk" : Str), false) ∈ clsL by simp [clsL])).1
    have k6 : PySem.W.kitOne K (.ref C) (.ref (c "BadWalk")) = some false := (G _ (show (("BadWalk" : Str), false) ∈ clsL by simp [clsL])).2
    have g7 : mg "BadRule" = some (.ref (c "BadRule")) := (G _ (show (("BadRule" : Str), false) ∈ clsL by simp [clsL])).1
    have k7 : PySem.W.kitOne K (.ref C) (.ref (c "BadRule")) = some false := (G _ (show (("BadRule" : Str), false) ∈ clsL by simp [clsL])).2
    have g8 : mg "BadForm" = some (.ref (c "BadForm")) := (G _ (show (("BadForm" : Str), false) ∈ clsL by simp [clsL])).1
    have k8 : PySem.W.kitOne K (.ref C) (.ref (c "BadForm")) = some false := (G _ (show (("BadForm" : Str), false) ∈ clsL by simp [clsL])).2
    have g9 : mg "BadSlip" = some (.ref (c "BadSlip")) := (G _ (show (("BadSlip" : Str), false) ∈ clsL by simp [clsL])).1
    have k9 : PySem.W.kitOne K (.ref C) (.ref (c "BadSlip")) = some false := (G _ (show (("BadSlip" : Str), false) ∈ clsL by simp [clsL])).2
    have g10 : mg "BadWay" = some (.ref (c "BadWay")) := (G _ (show (("BadWay" : Str), false) ∈ clsL by simp [clsL])).1
    have k10 : PySem.W.kitOne K (.ref C) (.ref (c "BadWay")) = some false := (G _ (show (("BadWay" : Str), false) ∈ clsL by simp [clsL])).2
    have g11 : mg "BadDeed" = some (.ref (c "BadDeed")) := (G _ (show (("BadDeed" : Str), false) ∈ clsL by simp [clsL])).1
    have k11 : PySem.W.kitOne K (.ref C) (.ref (c "BadDeed")) = some false := (G _ (show (("BadDeed" : Str), false) ∈ clsL by simp [clsL])).2
    have g12 : mg "BadLine" = some (.ref (c "BadLine")) := (G _ (show (("BadLine" : Str), false) ∈ clsL by simp [clsL])).1
    have k12 : PySem.W.kitOne K (.ref C) (.ref (c "BadLine")) = some false := (G _ (show (("BadLine" : Str), false) ∈ clsL by simp [clsL])).2
    have g13 : mg "TooMany" = some (.ref (c "TooMany")) := (G _ (show (("TooMany" : Str), false) ∈ clsL by simp [clsL])).1
    have k13 : PySem.W.kitOne K (.ref C) (.ref (c "TooMany")) = some false := (G _ (show (("TooMany" : Str), false) ∈ clsL by simp [clsL])).2
    have g14 : mg "Twice" = some (.ref (c "Twice")) := (G _ (show (("Twice" : Str), false) ∈ clsL by simp [clsL])).1
    have k14 : PySem.W.kitOne K (.ref C) (.ref (c "Twice")) = some false := (G _ (show (("Twice" : Str), false) ∈ clsL by simp [clsL])).2
    have g15 : mg "Unknown" = some (.ref (c "Unknown")) := (G _ (show (("Unknown" : Str), false) ∈ clsL by simp [clsL])).1
    have k15 : PySem.W.kitOne K (.ref C) (.ref (c "Unknown")) = some false := (G _ (show (("Unknown" : Str), false) ∈ clsL by simp [clsL])).2
    have g16 : mg "Unlike" = some (.ref (c "Unlike")) := (G _ (show (("Unlike" : Str), false) ∈ clsL by simp [clsL])).1
    have k16 : PySem.W.kitOne K (.ref C) (.ref (c "Unlike")) = some false := (G _ (show (("Unlike" : Str), false) ∈ clsL by simp [clsL])).2
    have g17 : mg "Unfit" = some (.ref (c "Unfit")) := (G _ (show (("Unfit" : Str), false) ∈ clsL by simp [clsL])).1
    have k17 : PySem.W.kitOne K (.ref C) (.ref (c "Unfit")) = some false := (G _ (show (("Unfit" : Str), false) ∈ clsL by simp [clsL])).2
    refine ⟨_, (pss_cons (ps_set (i := 1) scCls.nd rfl (Or.inl rfl) (pe_lst (pa_cons (pe_tup (pa_cons pe_str (pa_cons (pe_callB (id := "isinstance") (r := rIsP K C a d) (call_isP (List.mem_singleton.mpr rfl) T hcl hc hd hf) (by rfl) B.isin (by decide +kernel) (pa_cons (pv 0) (pa_cons (pe_glob (v := .ref (c "CarryError")) rfl g0 rfl) pa_nil))) pa_nil))) (pa_cons (pe_tup (pa_cons pe_str (pa_cons (pe_callB (id := "isinstance") (r := rIsP K C a d) (call_isP (List.mem_singleton.mpr rfl) T hcl hc hd hf) (by rfl) B.isin (by decide +kernel) (pa_cons (pv 0) (pa_cons (pe_glob (v := .ref (c "Malformed")) rfl g1 rfl) pa_nil))) pa_nil))) pa_nil)))) (pss_cons (ps_set (i := 1) scCls.nd rfl (Or.inl rfl) (pe_op op_cat (pv 1) (pe_lst (pa_cons (pe_tup (pa_cons pe_str (pa_cons (pe_callB (id := "isinstance") (r := rIsP K C a d) (call_isP (List.mem_singleton.mpr rfl) T hcl hc hd hf) (by rfl) B.isin (by decide +kernel) (pa_cons (pv 0) (pa_cons (pe_glob (v := .ref (c "Refused")) rfl g2 rfl) pa_nil))) pa_nil))) (pa_cons (pe_tup (pa_cons pe_str (pa_cons (pe_callB (id := "isinstance") (r := rIsP K C a d) (call_isP (List.mem_singleton.mpr rfl) T hcl hc hd hf) (by rfl) B.isin (by decide +kernel) (pa_cons (pv 0) (pa_cons (pe_glob (v := .ref (c "BadSigns")) rfl g3 rfl) pa_nil))) pa_nil))) pa_nil))))) (pss_cons (ps_set (i := 1) scCls.nd rfl (Or.inl rfl) (pe_op op_cat (pv 1) (pe_lst (pa_cons (pe_tup (pa_cons pe_str (pa_cons (pe_callB (id := "isinstance") (r := rIsP K C a d) (call_isP (List.mem_singleton.mpr rfl) T hcl hc hd hf) (by rfl) B.isin (by decide +kernel) (pa_cons (pv 0) (pa_cons (pe_glob (v := .ref (c "BadPaper")) rfl g4 rfl) pa_nil))) pa_nil))) (pa_cons (pe_tup (pa_cons pe_str (pa_cons (pe_callB (id := "isinstance") (r := rIsP K C a d) (call_isP (List.mem_singleton.mpr rfl) T hcl hc hd hf) (by rfl) B.isin (by decide +kernel) (pa_cons (pv 0) (pa_cons (pe_glob (v := .ref (c "BadName")) rfl g5 rfl) pa_nil))) pa_nil))) pa_nil))))) (pss_cons (ps_set (i := 1) scCls.nd rfl (Or.inl rfl) (pe_op op_cat (pv 1) (pe_lst (pa_cons (pe_tup (pa_cons pe_str (pa_cons (pe_callB (id := "isinstance") (r := rIsP K C a d) (call_isP (List.mem_singleton.mpr rfl) T hcl hc hd hf) (by rfl) B.isin (by decide +kernel) (pa_cons (pv 0) (pa_cons (pe_glob (v := .ref (c "BadWalk")) rfl g6 rfl) pa_nil))) pa_nil))) (pa_cons (pe_tup (pa_cons pe_str (pa_cons (pe_callB (id := "isinstance") (r := rIsP K C a d) (call_isP (List.mem_singleton.mpr rfl) T hcl hc hd hf) (by rfl) B.isin (by decide +kernel) (pa_cons (pv 0) (pa_cons (pe_glob (v := .ref (c "BadRule")) rfl g7 rfl) pa_nil))) pa_nil))) pa_nil))))) (pss_cons (ps_set (i := 1) scCls.nd rfl (Or.inl rfl) (pe_op op_cat (pv 1) (pe_lst (pa_cons (pe_tup (pa_cons pe_str (pa_cons (pe_callB (id := "isinstance") (r := rIsP K C a d) (call_isP (List.mem_singleton.mpr rfl) T hcl hc hd hf) (by rfl) B.isin (by decide +kernel) (pa_cons (pv 0) (pa_cons (pe_glob (v := .ref (c "BadForm")) rfl g8 rfl) pa_nil))) pa_nil))) (pa_cons (pe_tup (pa_cons pe_str (pa_cons (pe_callB (id := "isinstance") (r := rIsP K C a d) (call_isP (List.mem_singleton.mpr rfl) T hcl hc hd hf) (by rfl) B.isin (by decide +kernel) (pa_cons (pv 0) (pa_cons (pe_glob (v := .ref (c "BadSlip")) rfl g9 rfl) pa_nil))) pa_nil))) pa_nil))))) (pss_cons (ps_set (i := 1) scCls.nd rfl (Or.inl rfl) (pe_op op_cat (pv 1) (pe_lst (pa_cons (pe_tup (pa_cons pe_str (pa_cons (pe_callB (id := "isinstance") (r := rIsP K C a d) (call_isP (List.mem_singleton.mpr rfl) T hcl hc hd hf) (by rfl) B.isin (by decide +kernel) (pa_cons (pv 0) (pa_cons (pe_glob (v := .ref (c "BadWay")) rfl g10 rfl) pa_nil))) pa_nil))) (pa_cons (pe_tup (pa_cons pe_str (pa_cons (pe_callB (id := "isinstance") (r := rIsP K C a d) (call_isP (List.mem_singleton.mpr rfl) T hcl hc hd hf) (by rfl) B.isin (by decide +kernel) (pa_cons (pv 0) (pa_cons (pe_glob (v := .ref (c "BadDeed")) rfl g11 rfl) pa_nil))) pa_nil))) pa_nil))))) (pss_cons (ps_set (i := 1) scCls.nd rfl (Or.inl rfl) (pe_op op_cat (pv 1) (pe_lst (pa_cons (pe_tup (pa_cons pe_str (pa_cons (pe_callB (id := "isinstance") (r := rIsP K C a d) (call_isP (List.mem_singleton.mpr rfl) T hcl hc hd hf) (by rfl) B.isin (by decide +kernel) (pa_cons (pv 0) (pa_cons (pe_glob (v := .ref (c "BadLine")) rfl g12 rfl) pa_nil))) pa_nil))) (pa_cons (pe_tup (pa_cons pe_str (pa_cons (pe_callB (id := "isinstance") (r := rIsP K C a d) (call_isP (List.mem_singleton.mpr rfl) T hcl hc hd hf) (by rfl) B.isin (by decide +kernel) (pa_cons (pv 0) (pa_cons (pe_glob (v := .ref (c "TooMany")) rfl g13 rfl) pa_nil))) pa_nil))) pa_nil))))) (pss_cons (ps_set (i := 1) scCls.nd rfl (Or.inl rfl) (pe_op op_cat (pv 1) (pe_lst (pa_cons (pe_tup (pa_cons pe_str (pa_cons (pe_callB (id := "isinstance") (r := rIsP K C a d) (call_isP (List.mem_singleton.mpr rfl) T hcl hc hd hf) (by rfl) B.isin (by decide +kernel) (pa_cons (pv 0) (pa_cons (pe_glob (v := .ref (c "Twice")) rfl g14 rfl) pa_nil))) pa_nil))) (pa_cons (pe_tup (pa_cons pe_str (pa_cons (pe_callB (id := "isinstance") (r := rIsP K C a d) (call_isP (List.mem_singleton.mpr rfl) T hcl hc hd hf) (by rfl) B.isin (by decide +kernel) (pa_cons (pv 0) (pa_cons (pe_glob (v := .ref (c "Unknown")) rfl g15 rfl) pa_nil))) pa_nil))) pa_nil))))) (pss_cons (ps_set (i := 1) scCls.nd rfl (Or.inl rfl) (pe_op op_cat (pv 1) (pe_lst (pa_cons (pe_tup (pa_cons pe_str (pa_cons (pe_callB (id := "isinstance") (r := rIsP K C a d) (call_isP (List.mem_singleton.mpr rfl) T hcl hc hd hf) (by rfl) B.isin (by decide +kernel) (pa_cons (pv 0) (pa_cons (pe_glob (v := .ref (c "Unlike")) rfl g16 rfl) pa_nil))) pa_nil))) (pa_cons (pe_tup (pa_cons pe_str (pa_cons (pe_callB (id := "isinstance") (r := rIsP K C a d) (call_isP (List.mem_singleton.mpr rfl) T hcl hc hd hf) (by rfl) B.isin (by decide +kernel) (pa_cons (pv 0) (pa_cons (pe_glob (v := .ref (c "Unfit")) rfl g17 rfl) pa_nil))) pa_nil))) pa_nil))))) (pss_one (ps_ret (pe_lcH (own := [("_law_name", 2), ("_law_flag", 3)]) (g := gTup K 2 (gCons (gName 2) (gCons (gName 3) gNil))) ⟨(a, oe), hot, List.mem_singleton.mpr rfl⟩ scCls.nd (pv 1) (blkOk_by (N := nCls) (sc := defScope sCls) (by decide +kernel)) (fun _ _ _ _ _ => pg_tupH ⟨(a, oe), hot, List.mem_singleton.mpr rfl⟩ (pgs_cons (pg_name (i := 2) scCls.nd rfl (Or.inl rfl)) (pgs_cons (pg_name (i := 3) scCls.nd rfl (Or.inl rfl)) pgs_nil))) (fun _ _ _ _ _ => (pts_one (pt_val (pv 3)))) (fun _ _ _ _ _ => (pv 2)))))))))))))), ?_⟩
    try dsimp only [cxOf, Cx.nox, Cx.wish]
    have tp : ∀ (n1 : Str) (c1 : Addr) (n2 : Str) (c2 : Addr), tLst (tCons (tTup (tCons (tC (.str n1)) (tCons (tCB (rIsP K C a d) (tCons (tVar 0) (tCons (tC (.ref c1)) tNil))) tNil))) (tCons (tTup (tCons (tC (.str n2)) (tCons (tCB (rIsP K C a d) (tCons (tVar 0) (tCons (tC (.ref c2)) tNil))) tNil))) tNil)) = tPair K C a d n1 c1 n2 c2 := fun _ _ _ _ => rfl
    simp only [tp]
    refine r_seq (r_asg ?_)
    refine pair_run (σ := [some (.ref a), none, none, none]) rfl hd0 k0 k1 fun H0 t0 t1 l0 s0 e0 e1 el0 => ?_
    refine r_name ?_
    refine r_seq (r_asg ?_)
    have r0 : Row H0 l0 [(t0, "CarryError", true), (t1, "Malformed", true)] := ⟨el0, fun e he => by
      rcases List.mem_cons.mp he with rfl | he
      · exact e0
      · obtain rfl := List.mem_singleton.mp he
        exact e1⟩
    have m0 : ([(t0, "CarryError", true), (t1, "Malformed", true)] : List (Addr × Str × Bool)).map (·.2) = ([("CarryError", true), ("Malformed", true)] : List (Str × Bool)) := rfl
    revert r0 m0
    generalize ([(t0, "CarryError", true), (t1, "Malformed", true)] : List (Addr × Str × Bool)) = ts0
    intro r0 m0
    refine cat_run (a := a) (x2 := none) (x3 := none) (fun H' l' ts' sm rw' => ?_) r0 (s0 _ _ hd0) k2 k3 (by have := congrArg List.length m0; rw [List.length_map] at this; rw [this]; decide)
    intro mm
    have m0 := mm.trans (congrArg (fun z : List (Str × Bool) => z ++ ([("Refused", false), ("BadSigns", true)] : List (Str × Bool))) m0)
    have s0 := Same.trans s0 sm
    have r0 := rw'
    try dsimp only [List.cons_append, List.nil_append] at m0
    clear mm sm rw'
    refine r_name ?_
    refine r_seq (r_asg ?_)
    refine cat_run (a := a) (x2 := none) (x3 := none) (fun H' l' ts' sm rw' => ?_) r0 (s0 _ _ hd0) k4 k5 (by have := congrArg List.length m0; rw [List.length_map] at this; rw [this]; decide)
    intro mm
    have m0 := mm.trans (congrArg (fun z : List (Str × Bool) => z ++ ([("BadPaper", false), ("BadName", false)] : List (Str × Bool))) m0)
    have s0 := Same.trans s0 sm
    have r0 := rw'
    try dsimp only [List.cons_append, List.nil_append] at m0
    clear mm sm rw'
    refine r_name ?_
    refine r_seq (r_asg ?_)
    refine cat_run (a := a) (x2 := none) (x3 := none) (fun H' l' ts' sm rw' => ?_) r0 (s0 _ _ hd0) k6 k7 (by have := congrArg List.length m0; rw [List.length_map] at this; rw [this]; decide)
    intro mm
    have m0 := mm.trans (congrArg (fun z : List (Str × Bool) => z ++ ([("BadWalk", false), ("BadRule", false)] : List (Str × Bool))) m0)
    have s0 := Same.trans s0 sm
    have r0 := rw'
    try dsimp only [List.cons_append, List.nil_append] at m0
    clear mm sm rw'
    refine r_name ?_
    refine r_seq (r_asg ?_)
    refine cat_run (a := a) (x2 := none) (x3 := none) (fun H' l' ts' sm rw' => ?_) r0 (s0 _ _ hd0) k8 k9 (by have := congrArg List.length m0; rw [List.length_map] at this; rw [this]; decide)
    intro mm
    have m0 := mm.trans (congrArg (fun z : List (Str × Bool) => z ++ ([("BadForm", false), ("BadSlip", false)] : List (Str × Bool))) m0)
    have s0 := Same.trans s0 sm
    have r0 := rw'
    try dsimp only [List.cons_append, List.nil_append] at m0
    clear mm sm rw'
    refine r_name ?_
    refine r_seq (r_asg ?_)
    refine cat_run (a := a) (x2 := none) (x3 := none) (fun H' l' ts' sm rw' => ?_) r0 (s0 _ _ hd0) k10 k11 (by have := congrArg List.length m0; rw [List.length_map] at this; rw [this]; decide)
    intro mm
    have m0 := mm.trans (congrArg (fun z : List (Str × Bool) => z ++ ([("BadWay", false), ("BadDeed", false)] : List (Str × Bool))) m0)
    have s0 := Same.trans s0 sm
    have r0 := rw'
    try dsimp only [List.cons_append, List.nil_append] at m0
    clear mm sm rw'
    refine r_name ?_
    refine r_seq (r_asg ?_)
    refine cat_run (a := a) (x2 := none) (x3 := none) (fun H' l' ts' sm rw' => ?_) r0 (s0 _ _ hd0) k12 k13 (by have := congrArg List.length m0; rw [List.length_map] at this; rw [this]; decide)
    intro mm
    have m0 := mm.trans (congrArg (fun z : List (Str × Bool) => z ++ ([("BadLine", false), ("TooMany", false)] : List (Str × Bool))) m0)
    have s0 := Same.trans s0 sm
    have r0 := rw'
    try dsimp only [List.cons_append, List.nil_append] at m0
    clear mm sm rw'
    refine r_name ?_
    refine r_seq (r_asg ?_)
    refine cat_run (a := a) (x2 := none) (x3 := none) (fun H' l' ts' sm rw' => ?_) r0 (s0 _ _ hd0) k14 k15 (by have := congrArg List.length m0; rw [List.length_map] at this; rw [this]; decide)
    intro mm
    have m0 := mm.trans (congrArg (fun z : List (Str × Bool) => z ++ ([("Twice", false), ("Unknown", false)] : List (Str × Bool))) m0)
    have s0 := Same.trans s0 sm
    have r0 := rw'
    try dsimp only [List.cons_append, List.nil_append] at m0
    clear mm sm rw'
    refine r_name ?_
    refine r_seq (r_asg ?_)
    refine cat_run (a := a) (x2 := none) (x3 := none) (fun H' l' ts' sm rw' => ?_) r0 (s0 _ _ hd0) k16 k17 (by have := congrArg List.length m0; rw [List.length_map] at this; rw [this]; decide)
    intro mm
    have m0 := mm.trans (congrArg (fun z : List (Str × Bool) => z ++ ([("Unlike", false), ("Unfit", false)] : List (Str × Bool))) m0)
    have s0 := Same.trans s0 sm
    have r0 := rw'
    try dsimp only [List.cons_append, List.nil_append] at m0
    clear mm sm rw'
    refine r_name ?_
    obtain ⟨rl, rt⟩ := r0
    walk_at "go"
    refine ⟨⟨_, SqL.of rl⟩, fun D hD => lc_list (K := K) (a := l') (xs := ts'.map fun e => V.ref e.1) (fun i H2 => Same H' H2 ∧ H2 D = some (.lst (outs clsL i))) ⟨same_new hD, by rw [upd_same]; rfl⟩ (fun i H2 _ e => SqL.of (e.1 _ _ rl)) ?_ ?_⟩
    · rintro i x H2 hi ⟨sz, eD⟩
      rw [List.getElem?_map] at hi
      cases hei : ts'[i]? with
      | none => rw [hei] at hi; cases hi
      | some e =>
      rw [hei] at hi
      obtain rfl : x = .ref e.1 := (Option.some.inj hi).symm
      have hci : clsL[i]? = some e.2 := by
        have : (ts'.map (·.2))[i]? = some e.2 := by rw [List.getElem?_map, hei]; rfl
        rw [m0] at this
        exact this
      obtain ⟨ea, en, eb⟩ := e
      refine ⟨ea, _, rfl, SqT.of (sz _ _ (rt _ (List.mem_of_getElem? hei))), rfl, ?_⟩
      walk_at "go"
      refine ⟨rfl, ?_⟩
      show tB (tVar 3) _ _ _
      walk_at "go"
      cases eb with
      | false =>
        walk_at "go"
        refine ⟨sz, ?_⟩
        rw [eD, outs_no hci]
      | true =>
        walk_at "go"
        refine ⟨_, eD, ?_, ?_, ?_⟩
        · exact Nat.lt_of_le_of_lt (outs_len clsL i) (by decide)
        · exact Same.set sz hD
        · rw [upd_same, outs_yes hci]
    · rintro H2 ⟨sz, eD⟩
      have hl : ts'.length = 18 := by
        have := congrArg List.length m0
        rw [List.length_map] at this
        exact this
      rw [List.length_map, hl] at eD
      walk_at "go"
      exact k _ D (Same.trans s0 sz) eD
end
end K1

/-! K01M -/

namespace K1
open PySem L2 L2H
abbrev sRef : Stmt := top 51
abbrev nRef : List Str := ["_law_odd","_law_sign","_law_shown","fault"]
theorem scRef : FnScope nRef ["_law_odd","_law_sign"] (defScope sRef) := ⟨rfl, rfl, rfl, by decide +kernel, rfl, by decide +kernel, by decide +kernel⟩
def tCls (C a : Addr) (cls : Value) (d : Option Addr) (i : Nat) : TE := fun σ H Q => σ[i]? = some (some (.ref a)) ∧ cls = .ref C ∧ ∃ (dd : Addr) (fs : List (Str × V)), d = some dd ∧ H dd = some (.xd fs) ∧
  ∀ H' r, Same H H' → H' r = some (.lst [.str "CarryError", .str "Malformed", .str "BadSigns"]) → Q (.ref r) H'
theorem pe_cls {X : Cx} {f C a : Addr} {fd : FuncData} {oe : Obj} {cls : Value} {d : Option Addr} {i : Nat} {q pos p3 : Pos} {x y : Str} (F : FnE X.prog X.w X.K X.mg X.base 1 f fd ["_law_e"] (spCls C)) (hr : RoomH 1 X.A) (hh : X.A.handled = some (.ref a)) (hz : L2N.Zn cls d oe) (hf : ∃ vs, oe.data = .fields vs) (hp : (a, oe) ∈ X.pn) (hm : X.mg x = some (.ref f)) (hk : PySem.W.keepIn X.K (.ref f) = true) (hb : Binds X.K fd ["_law_e"] []) (hy : PE X (.Name y p3) (tVar i)) (hg : Gl X x := by rfl)
    (hdb : (x == ("__debug__" : Str)) = false := by decide) (he : starEach [.Name y p3] X.env = (false, eval (.Name y p3) X.env) :: starEach [] X.env := by rfl) (hpl : (backTo pos (starEach [] X.env)).any (·.1) = false := by rfl) :
    PE X (.Call (.Name x q) [.Name y p3] [] pos) (tCls C a cls d i) := by
  obtain ⟨ws, hw⟩ := hf
  refine ⟨fun pins s σ H Q I h => ?_⟩
  obtain ⟨h1, h2, dd, fs, h3, h4, k⟩ := h
  refine (pe_callE (p := (a, oe)) F hr ⟨hh, ws, hw, hz.2.2 ws hw⟩ hp hg hm hk hb (pa_cons hy pa_nil) hdb he hpl).run pins s σ H Q I ?_
  refine ⟨.ref a, h1, ?_⟩
  exact ⟨dd, fs, rfl, hz.1.trans h2, hz.2.1.trans h3, ⟨ws, hw⟩, h4, k⟩
def spRef (K : PySem.W.Frag) : Sp := fun vs H Q _ => ∃ (x : V) (t : Str) (dd : PyData), vs = [x, .str t] ∧ Bads K H x ∧ (∀ H', Same H H' → Dp K H' x dd) ∧ Rok dd ∧ ∀ H', Same H H' → Q (.bl true) H'
section
variable {P : Program} {w : World} {K : PySem.W.Frag} {mg : Str → Option Value} {base : Heap}
theorem ok_ref {f fV fC C cE : Addr} {fd fdV fdC : FuncData} (F : Fun K "_law_refused" "_law_refused" sRef f fd) (B : Bl mg) (FV : FnOk P w K mg base (L2N.CX P w) 4 fV fdV ["signs", "sign"] (spVal K C)) (mV : mg "sign_value" = some (.ref fV)) (kV : PySem.W.keepIn K (.ref fV) = true) (bV : Binds K fdV ["signs", "sign"] [])
    (FC : FnE P w K mg base 1 fC fdC ["_law_e"] (spCls C)) (mC : mg "_law_classes" = some (.ref fC)) (kC : PySem.W.keepIn K (.ref fC) = true) (bC : Binds K fdC ["_law_e"] []) (mE : mg "CarryError" = some (.ref cE)) (exm : PySem.W.exmOne K (.ref C) (.ref cE) = some true) (TX : XfC K C) (fi : PySem.W.findIn K (.ref C) "signs" = some none) :
    FnG P w K mg base 5 f fd ["_law_odd", "_law_sign"] (spRef K) := by
  refine fnG_of F scRef (fun vs H Q E h => ?_) (fun cdv A outer s H vs Q E hr hgd h => ?_)
  · obtain ⟨x, t, dd, rfl, _⟩ := h
    rfl
  · obtain ⟨x, t, dd, rfl, hb, dp, ok, k⟩ := h
    have hu : (A.deeper (PyProof.Rows.envOfC "_law_refused" (defScope sRef) s.heap.objs.size f cdv)).units + 100 < cLine := by
      have := hr.un
      omega
    have hu64 : (A.deeper (PyProof.Rows.envOfC "_law_refused" (defScope sRef) s.heap.objs.size f cdv)).units + 64 < cLine := by omega
    have hrH : RoomH 1 (A.deeper (PyProof.Rows.envOfC "_law_refused" (defScope sRef) s.heap.objs.size f cdv)) := (roomH_of hr).mono (by decide)
    refine ⟨_, pss_cons (ps_set (i := 2) scRef.nd rfl (Or.inl rfl) (pe_callB (id := "repr") (r := rRepr K) (call_repr hgd hu) (by rfl) B.repr (by decide +kernel) (pa_cons (pv 0) pa_nil)))
      (pss_cons (L2N.ps_try_as (i := 3) (tb := fun W => tDrop (tCallS (spVal K C) (WE W) (tCons (tVar 0) (tCons (tVar 1) tNil)))) (ts := fun a cls d => tRet (tAndV (tOp (rEqD K) (tCls C a cls d 3) (tLst (tCons (tC (.str "CarryError")) (tCons (tC (.str "Malformed")) (tCons (tC (.str "BadSigns")) tNil))))) (tOp rEq (tCB (rRepr K) (tCons (tXf a cls d C "signs" (tVar 3)) tNil)) (tVar 2)))) (Wout := fun _ _ _ _ => False) rfl rfl scRef.nd rfl rfl ⟨rfl, by decide, Or.inl mE⟩ (fun _ _ h => by obtain ⟨_, _, _, _, _, _, _, _, _, _, _, _, _, _, _, _, h⟩ := h; exact h.elim)
          (fun W pn xe tk _ => pss_one (ps_expr (pe_callS FV hr rfl mV kV bV (fun σ => L2N.passAt tk σ) (pa_cons (pv 0) (pa_cons (pv 1) pa_nil)))))
          (fun a oe cls d pn hz hf => pss_one (ps_ret (pe_and (pe_cmpR (op_eqD hu64) (pe_cls FC ⟨hrH.dp, hrH.un⟩ rfl hz hf (List.mem_cons_self ..) mC kC bC (pv 3)) (pe_lst (pa_cons pe_str (pa_cons pe_str (pa_cons pe_str pa_nil)))) (nomark _)) (pe_one (pe_cmpR op_eq (pe_callB (id := "repr") (r := rRepr K) (call_repr hgd hu) (by rfl) B.repr (by decide +kernel) (pa_cons (pe_xf TX fi hz.zc hf (pv 3)) pa_nil)) (pv 2) (nomark _)))))))
      (pss_one (ps_ret pe_bl))), ?_⟩
    try dsimp only [cxOf, Cx.nox, Cx.wish]
    refine r_seq (r_asg ?_)
    walk_at "go"
    refine ⟨x, dd, rfl, dp H (fun _ _ e => e), ok, ?_⟩
    walk_at "go"
    refine ⟨x, t, rfl, .inr ⟨hb, fun H' d sm hx hdn => ?_⟩⟩
    refine ⟨true, exm, fun _ a ha => ?_, fun q => nomatch q⟩
    dsimp only [List.set]
    refine r_ret (r_andV (r_op ?_))
    refine ⟨rfl, rfl, d, _, rfl, hx, fun H2 r sm2 hr2 => ?_⟩
    walk_at "go"
    refine ⟨(by show 3 ≤ sizeLine; decide), fun l hl => ?_⟩
    have sl := same_new (o := HO.lst [V.str "CarryError", V.str "Malformed", V.str "BadSigns"]) hl
    have da : ∀ H3 : Hp, DpAll K H3 [V.str "CarryError", V.str "Malformed", V.str "BadSigns"] [.str "CarryError", .str "Malformed", .str "BadSigns"] := fun _ => .cons (.str _) (.cons (.str _) (.cons (.str _) .nil))
    refine ⟨.list [.str "CarryError", .str "Malformed", .str "BadSigns"], .list [.str "CarryError", .str "Malformed", .str "BadSigns"], .lst (SqL.of (sl _ _ hr2)) (da _), .lst (SqL.of upd_same) (da _), by decide +kernel, by decide +kernel, ?_⟩
    rw [show PyData.eqv (.list [.str "CarryError", .str "Malformed", .str "BadSigns"]) (.list [.str "CarryError", .str "Malformed", .str "BadSigns"]) = true from by decide +kernel]
    walk_at "go"
    have sE : Same H' _ := Same.trans sm2 sl
    refine ⟨rfl, rfl, d, _, x, rfl, sE _ _ hx, rfl, ?_⟩
    walk_at "go"
    refine ⟨x, dd, rfl, dp _ (Same.trans sm sE), ok, ?_⟩
    walk_at "go"
    rw [decide_eq_true rfl]
    exact k _ (Same.trans sm sE)
end
end K1

/-! K01N -/

namespace K1
open PySem L2 L2H
abbrev sVals : Stmt := top 52
abbrev nVals : List Str := ["_law_bag","_law_signs","_law_every","_law_good","_law_k","_law_value","_law_at","_law_odd","_law_one"]
theorem scVals : FnScope nVals ["_law_bag","_law_signs"] (defScope sVals) := ⟨rfl, rfl, rfl, by decide +kernel, rfl, by decide +kernel, by decide +kernel⟩
def spVal0 : Sp := fun vs H Q _ => ∃ (y : Str) (k c : Nat), vs = [.str y, .str (one c)] ∧ y.length ≤ 1000 ∧ signsB y = true ∧ (tl y)[k]? = some c ∧ (tl y).Nodup ∧ ∀ H', Same H H' → Q (.int k) H'
/-- no signs, whatever comes beside; its repr is in the model -/
def Odd (K : PySem.W.Frag) (H : Hp) (x : V) : Prop := ∃ dd, Rok dd ∧ ∀ H', Same H H' → Bads K H' x ∧ Dp K H' x dd
theorem Odd.same {K : PySem.W.Frag} {H H' : Hp} {x : V} (o : Odd K H x) (s : Same H H') : Odd K H' x := by
  obtain ⟨dd, a, b⟩ := o
  exact ⟨dd, a, fun H2 s2 => b H2 (Same.trans s s2)⟩
theorem odd_str {K : PySem.W.Frag} {H : Hp} {y : Str} (l : Low y) (h : signsB y = false) : Odd K H (.str y) :=
  ⟨.str y, rok_str l, fun H' _ => ⟨.inl ⟨y, rfl, by have := l.1; omega, h⟩, .str y⟩⟩
theorem odd_non {K : PySem.W.Frag} {H : Hp} : Odd K H .non := ⟨.none, rok_non, fun H' _ => ⟨.inr ⟨"NoneType", .base .non, kit_ty (by decide +kernel)⟩, .non⟩⟩
theorem odd_seven {K : PySem.W.Frag} {H : Hp} : Odd K H (.int 7) := ⟨.int 7, rok_seven, fun H' _ => ⟨.inr ⟨"int", .base (.int _), kit_ty (by decide +kernel)⟩, .int 7⟩⟩
theorem odd_true {K : PySem.W.Frag} {H : Hp} : Odd K H (.bl true) := ⟨.bool true, rok_true, fun H' _ => ⟨.inr ⟨"bool", .base (.bl _), kit_ty (by decide +kernel)⟩, .bl true⟩⟩
theorem dp_strs {K : PySem.W.Frag} {H : Hp} : ∀ ys : List Str, DpAll K H (ys.map V.str) (ys.map PyData.str)
  | [] => .nil
  | y :: ys => .cons (.str y) (dp_strs ys)
theorem odd_list {K : PySem.W.Frag} {H : Hp} {a : Addr} {ys : List Str} (h : H a = some (.lst (ys.map V.str))) (hl : ys.length ≤ 13) (hy : ∀ y ∈ ys, y.length ≤ 1 ∧ Low y) : Odd K H (.ref a) :=
  ⟨.list (ys.map PyData.str), rok_list hl hy, fun H' s => ⟨.inr ⟨"list", .base (.lst (s _ _ h)), kit_ty (by decide +kernel)⟩, .lst (SqL.of (s _ _ h)) (dp_strs ys)⟩⟩
theorem odd_tup {K : PySem.W.Frag} {H : Hp} {a : Addr} {y : Str} (h : H a = some (.tup [.str y])) (l : Low y) (hl : y.length ≤ 20) : Odd K H (.ref a) :=
  ⟨.tuple [.str y], rok_tup l hl, fun H' s => ⟨.inr ⟨"tuple", .base (.tup (s _ _ h)), kit_ty (by decide +kernel)⟩, .tup (SqT.of (s _ _ h)) (dp_strs [y])⟩⟩
theorem low_good {z : Str} (g : Good z) : Low z := ⟨by have := g.hi; have := len_tl' z; omega, fun c hc => (show ∀ c ∈ tl ALL, c < 128 by decide +kernel) c (g.all c hc)⟩
theorem low_of {z y : Str} (g : Low z) (hl : y.length ≤ 50) (h : ∀ c ∈ tl y, c ∈ tl z ∨ c < 128) : Low y := ⟨hl, fun c hc => by
  rcases h c hc with q | q
  · exact g.2 c q
  · exact q⟩
def spVals : Sp := fun vs H Q _ => ∃ (b : Addr) (z : Str) (n : Nat), vs = [.ref b, .str z] ∧ Good z ∧ IsBag H b n ∧ n ≤ 2 ^ 40 ∧ ∀ H', Kp b H H' → Q (.bl true) H'
section
variable {P : Program} {w : World} {K : PySem.W.Frag} {mg : Str → Option Value} {base : Heap}
theorem val0 {f C : Addr} {fd : FuncData} {k : Nat} (FV : FnOk P w K mg base (L2N.CX P w) k f fd ["signs", "sign"] (spVal K C)) : FnOk P w K mg base CX0 k f fd ["signs", "sign"] spVal0 := by
  have up : ∀ vs H Q E, spVal0 vs H Q E → spVal K C vs H Q E0 := fun vs H Q E h => by
    obtain ⟨y, k, c, rfl, h1, h2, h3, h4, h5⟩ := h
    exact ⟨.str y, one c, rfl, .inl ⟨y, k, c, rfl, h1, h2, rfl, h3, h4, h5⟩⟩
  refine ⟨fun vs H Q E h => FV.len vs H Q E0 (up vs H Q E h), fun A outer s H args us vs Q E hr en hb hv h => codeAny_mono (FV.run A outer s H args us vs Q E0 hr en hb hv (up vs H Q E h)) fun r s' hq => ?_⟩
  cases r with
  | error e =>
    obtain ⟨_, _, _, _, _, _, _, _, _, _, _, _, z⟩ := hq
    exact z.elim
  | ok fl =>
    cases fl with
    | ret u => exact hq
    | _ => exact hq.elim
abbrev OVal (P : Program) (w : World) (K : PySem.W.Frag) (mg : Str → Option Value) (base : Heap) : Prop := Own P w K mg base "sign_value" 4 ["signs", "sign"] spVal0
abbrev OIsInt (P : Program) (w : World) (K : PySem.W.Frag) (mg : Str → Option Value) (base : Heap) : Prop := Own P w K mg base "_law_is_int" 1 ["_law_thing"] spIsInt
theorem ok_vals {f fR : Addr} {fd fdR : FuncData} (F : Fun K "_law_values" "_law_values" sVals f fd) (B : Bl mg) (Op : OPick P w K mg base) (Oi : OIsInt P w K mg base) (Ov : OVal P w K mg base)
    (FR : FnG P w K mg base 5 fR fdR ["_law_odd", "_law_sign"] (spRef K)) (mR : mg "_law_refused" = some (.ref fR)) (kR : PySem.W.keepIn K (.ref fR) = true) (bR : Binds K fdR ["_law_odd", "_law_sign"] []) :
    FnG P w K mg base 6 f fd ["_law_bag", "_law_signs"] spVals := by
  refine fnG_of F scVals (fun vs H Q E h => ?_) (fun cdv A outer s H vs Q E hr hgd h => ?_)
  · obtain ⟨b, z, n, rfl, _⟩ := h
    rfl
  · obtain ⟨b, z, n, rfl, gz, hb, hn, k⟩ := h
    have hr1 : Room 1 _ := hr.mono (by decide)
    have hr4 : Room 4 _ := hr.mono (by decide)
    have hd := hr.hd
    refine ⟨_, (pss_cons (ps_set (i := 2) scVals.nd rfl (Or.inl rfl) pe_str) (pss_cons (ps_for PassesOwn.never rfl (pi_tup (pe_tup (pa_cons (pv 1) (pa_cons (pe_slice sl_str (pv 2) po_none (po_some pe_int)) (pa_cons (pe_slice sl_str (pv 2) (po_some pe_int) po_none) (pa_cons (pe_op op_add_str (pe_slice sl_str (pv 1) po_none (po_some pe_int)) pe_str) pa_nil)))))) (pg_name (i := 3) scVals.nd rfl (Or.inl rfl)) (pss_one (ps_for PassesOwn.never rfl (pi_range1 rfl B.range (pa_cons (pe_callB call_len (by rfl) B.len PySem.boot_len (pa_cons (pv 3) pa_nil)) pa_nil)) (pg_name (i := 4) scVals.nd rfl (Or.inl rfl)) (pss_cons (ps_set (i := 5) scVals.nd rfl (Or.inl rfl) (pe_own Ov hr4 (pa_cons (pv 3) (pa_cons (pe_ix ix_str (pv 3) (pv 4) (fun _ _ => rfl)) pa_nil)))) (pss_one (ps_if (PW.pt (pw_or (pt_not (pt_val (pe_own Oi hr1 (pa_cons (pv 5) pa_nil)))) (pw_or1 (pt_cmpR op_ne (pv 5) (pv 4) (nomark _))))) (pss_one (ps_ret pe_bl)) pss_nil)))))) (pss_cons (ps_set (i := 6) scVals.nd rfl (Or.inr rfl) (pe_own Op hr1 (pa_cons (pv 0) (pa_cons (pe_callB call_len (by rfl) B.len PySem.boot_len (pa_cons (pv 1) pa_nil)) pa_nil)))) (pss_cons (ps_set (i := 7) scVals.nd rfl (Or.inl rfl) (pe_lst (pa_cons (pe_revS (pv 1)) (pa_cons (pe_op op_add_str (pv 1) (pe_ix ix_str (pv 1) (pe_op op_sub (pe_callB call_len (by rfl) B.len PySem.boot_len (pa_cons (pv 1) pa_nil)) pe_int) (fun _ _ => rfl))) (pa_cons (pe_op op_add_str (pe_op op_add_str (pe_slice sl_str (pv 1) po_none (po_some (pv 6))) (pe_ix ix_str (pv 1) (pv 6) (fun _ _ => rfl))) (pe_slice sl_str (pv 1) (po_some (pv 6)) po_none)) (pa_cons (pe_ix ix_str (pv 1) (pv 6) (fun _ _ => rfl)) (pa_cons pe_str (pa_cons (pe_slice sl_str (pv 2) po_none (po_some pe_int)) (pa_cons (pv 2) pa_nil))))))))) (pss_cons (ps_set (i := 7) scVals.nd rfl (Or.inl rfl) (pe_op op_cat (pv 7) (pe_lst (pa_cons (pe_op op_add_str (pe_slice sl_str (pv 1) po_none (po_some pe_int)) pe_str) (pa_cons (pe_op op_add_str pe_str (pe_slice sl_str (pv 1) po_none (po_some pe_int))) (pa_cons (pe_op op_add_str (pe_slice sl_str (pv 1) po_none (po_some pe_int)) pe_str) (pa_cons pe_non (pa_cons pe_int (pa_cons pe_bl (pa_cons (pe_callTy (call_listS hd) (by rfl) B.list (by decide +kernel) (pa_cons (pv 1) pa_nil)) (pa_cons (pe_tup (pa_cons (pv 1) pa_nil)) pa_nil))))))))))) (pss_one (ps_ret (pe_callB (cr_all rfl) (by rfl) B.all (by decide +kernel) (pa_cons (pe_lc (own := [("_law_one", 8)]) (g := gName 8) (tt := tYes) rfl scVals.nd (pi_list (pv 7)) (blkOk_by (N := nVals) (sc := defScope sVals) (by decide +kernel)) (fun _ _ _ _ _ => (pg_name (i := 8) scVals.nd rfl (Or.inl rfl))) (fun _ _ _ _ _ => pts_nil) (fun _ _ _ _ _ => (pe_callG FR hr hgd mR kR bR (pa_cons (pv 8) (pa_cons (pe_ix ix_str (pv 1) (pv 6) (fun _ _ => rfl)) pa_nil))))) pa_nil))))))))), ?_⟩
    try dsimp only [cxOf, Cx.nox, Cx.wish]
    have l2 := gz.lo
    have l12 := gz.hi
    have lz := len_tl' z
    have lz12 : z.length ≤ 12 := by omega
    obtain ⟨a, c, r, ez⟩ : ∃ a c r, tl z = a :: c :: r := by
      match h : tl z with
      | [] => rw [h] at l2; simp at l2
      | [_] => rw [h] at l2; simp at l2
      | a :: c :: r => exact ⟨a, c, r, rfl⟩
    refine r_seq (r_asg ?_)
    walk_at "go"
    have hALL : ALL.length ≤ sizeLine := small_line (by decide +kernel)
    have hzl : z.length ≤ sizeLine := small_line (by omega)
    have c1l := cutS_length z none (some 1)
    refine ⟨hALL, ?_⟩
    walk_at "go"
    refine ⟨hALL, ?_⟩
    walk_at "go"
    refine ⟨hzl, ?_⟩
    walk_at "go"
    refine ⟨_, _, rfl, rfl, small_line (by have : ("Z" : Str).length = 1 := by decide +kernel
                                           omega), ?_⟩
    walk_at "go"
    refine ⟨(by show 4 ≤ sizeLine; decide), fun p hp => ?_⟩
    have hgs : ∀ y ∈ [z, cutS ALL none (some 12), cutS ALL (some 24) none, cutS z none (some 1) ++ "Z"], signsB y = true ∧ (tl y).Nodup ∧ y.length ≤ 12 := by
      intro y hy
      rcases List.mem_cons.mp hy with rfl | hy
      · exact ⟨good_signs gz, good_nodup gz, lz12⟩
      rcases List.mem_cons.mp hy with rfl | hy
      · exact ⟨by decide +kernel, by decide +kernel, by decide +kernel⟩
      rcases List.mem_cons.mp hy with rfl | hy
      · exact ⟨by decide +kernel, by decide +kernel, by decide +kernel⟩
      obtain rfl := List.mem_singleton.mp hy
      have et : tl (cutS z none (some 1) ++ "Z") = [a, 90] := by
        rw [add_str, tl_str]
        have := tl_cut_to z 1
        rw [show ((1 : Nat) : Int) = 1 from rfl, ez] at this
        rw [this]; rfl
      have g2 := good_z gz ez et
      exact ⟨good_signs g2, good_nodup g2, by have := g2.hi; have := len_tl' (cutS z none (some 1) ++ "Z"); omega⟩
    revert hgs hp
    generalize hg : [z, cutS ALL none (some 12), cutS ALL (some 24) none, cutS z none (some 1) ++ "Z"] = gs
    rw [show [V.str z, V.str (cutS ALL none (some 12)), V.str (cutS ALL (some 24) none), V.str (cutS z none (some 1) ++ "Z")] = gs.map V.str by rw [← hg]; rfl]
    intro hp hgs
    walk_at "go"
    refine ⟨⟨_, SqT.of upd_same⟩, fr_tup (K := K) (a := p) (xs := gs.map V.str) (fun i σ H' => ∃ o3 o4 o5, σ = [some (.ref b), some (.str z), some (.str ALL), o3, o4, o5, none, none, none] ∧ IsBag H' b n ∧ H' p = some (.tup (gs.map V.str)) ∧ Kp b H H')
      ⟨none, none, none, rfl, hb.new hp, upd_same, Same.kp (same_new hp)⟩ (fun i σ H' _ ⟨_, _, _, _, _, e, _⟩ => SqT.of e) ?_ ?_⟩
    · rintro i v σ H1 hi ⟨o3, o4, o5, rfl, hb1, ep, kp⟩
      rw [List.getElem?_map] at hi
      cases hyi : gs[i]? with
      | none => rw [hyi] at hi; cases hi
      | some y =>
      rw [hyi] at hi
      obtain rfl : v = .str y := (Option.some.inj hi).symm
      obtain ⟨sy, ny, ly⟩ := hgs y (List.mem_of_getElem? hyi)
      walk_at "go"
      refine ⟨_, _, rfl, lenS (small_line (by omega)), ?_⟩
      walk_at "go"
      refine ⟨by omega, by omega, fr_range (lo := 0) (n := y.length) (fun j σ H' => ∃ o4 o5, σ = [some (.ref b), some (.str z), some (.str ALL), some (.str y), o4, o5, none, none, none] ∧ IsBag H' b n ∧ H' p = some (.tup (gs.map V.str)) ∧ Kp b H H') ?_ ?_ ?_⟩
      · exact ⟨_, _, rfl, hb1, ep, kp⟩
      · rintro j σ H2 hj ⟨o4, o5, rfl, hb2, ep2, kp2⟩
        have ly' := len_tl' y
        obtain ⟨cc, ec, _, ei⟩ := at_nat' (xs := tl y) (i := 0 + (j : Int)) (by omega) (by omega)
        walk_at "go"
        refine r_ixS (small_line (by omega)) ec ?_
        walk_at "go"
        refine ⟨y, (0 + (j : Int)).toNat, cc, rfl, by omega, sy, ei, ny, fun H3 sm => ?_⟩
        rw [show (((0 + (j : Int)).toNat : Nat) : Int) = 0 + j by omega]
        walk_at "go"
        refine r_iteN (fun q => absurd rfl q) (fun _ => ?_)
        walk_at "go"
        refine ⟨_, _, rfl, ?_, sm _ _ ep2, Kp.trans kp2 (Same.kp sm)⟩
        obtain ⟨d, s, c, e, q⟩ := hb2
        exact ⟨d, s, c, sm _ _ e, q⟩
      · rintro σ H2 ⟨o4, o5, rfl, hb2, ep2, kp2⟩
        walk_at "go"
        exact ⟨_, _, _, rfl, hb2, ep2, kp2⟩
    · rintro σ H1 ⟨o3, o4, o5, rfl, hb1, ep, kp⟩
      walk_at "go"
      refine ⟨_, _, rfl, lenS hzl, ?_⟩
      walk_at "go"
      refine ⟨b, (z.length : Int), n, rfl, hb1, hn, by omega, fun at_ H2 r0 r1 hb2 off => ?_⟩
      have r1 : at_ < z.length := by omega
      obtain ⟨i, rfl⟩ : ∃ i : Nat, at_ = i := ⟨at_.toNat, by omega⟩
      have kp2 : Kp b H H2 := Kp.trans kp off.kp
      have lowz := low_good gz
      obtain ⟨ca, eca, hca, gca⟩ := at_nat' (xs := tl z) (i := (i : Int)) (by omega) (by omega)
      rw [show ((i : Int)).toNat = i from rfl] at gca
      obtain ⟨cl, ecl, hcl, gcl⟩ := at_nat' (xs := tl z) (i := (z.length : Int) - 1) (by omega) (by omega)
      have one_len : ∀ c : Nat, (⟨#[c]⟩ : Str).length = 1 := fun _ => rfl
      have bndt := cutS_length z none (some (i : Int))
      have bndf := cutS_length z (some (i : Int)) none
      have bnd9 := cutS_length z none (some 9)
      walk_at "go"
      refine ⟨hzl, ?_⟩
      walk_at "go"
      refine ⟨_, _, rfl, lenS hzl, ?_⟩
      walk_at "go"
      refine r_ixS hzl ecl ?_
      refine ⟨_, _, rfl, rfl, small_line (by have := one_len cl; omega), ?_⟩
      walk_at "go"
      refine ⟨hzl, ?_⟩
      walk_at "go"
      refine r_ixS hzl eca ?_
      refine ⟨_, _, rfl, rfl, small_line (by have := one_len ca; omega), ?_⟩
      walk_at "go"
      refine ⟨hzl, ?_⟩
      refine ⟨_, _, rfl, rfl, small_line (by have := one_len ca; rw [app_len]; omega), ?_⟩
      walk_at "go"
      refine r_ixS hzl eca ?_
      walk_at "go"
      refine ⟨hALL, ?_⟩
      walk_at "go"
      refine ⟨(by show 7 ≤ sizeLine; decide), fun D1 hD1 => ?_⟩
      walk_at "go"
      have la : ("a" : Str).length = 1 := by decide +kernel
      have lb : (" " : Str).length = 1 := by decide +kernel
      have lu : ("_" : Str).length = 1 := by decide +kernel
      refine ⟨hzl, ?_⟩
      walk_at "go"
      refine ⟨_, _, rfl, rfl, small_line (by omega), ?_⟩
      walk_at "go"
      refine ⟨hzl, ?_⟩
      refine ⟨_, _, rfl, rfl, small_line (by omega), ?_⟩
      walk_at "go"
      refine ⟨hzl, ?_⟩
      walk_at "go"
      refine ⟨_, _, rfl, rfl, small_line (by omega), ?_⟩
      walk_at "go"
      refine ⟨hzl, fun L hL => ?_⟩
      walk_at "go"
      refine ⟨(by show 1 ≤ sizeLine; decide), fun T hT => ?_⟩
      walk_at "go"
      refine ⟨(by show 8 ≤ sizeLine; decide), fun D2 hD2 => ?_⟩
      have sL := same_new (o := HO.lst ((sgn z).map V.str)) hL
      have sT := same_new (o := HO.tup [V.str z]) hT
      have s1 := same_new (o := HO.lst [V.str (revS z), V.str (z ++ { cps := #[cl] }), V.str (cutS z none (some (i : Int)) ++ { cps := #[ca] } ++ cutS z (some (i : Int)) none), V.str { cps := #[ca] }, V.str "", V.str (cutS ALL none (some 13)), V.str ALL]) hD1
      have s2 := same_new (o := HO.lst [V.str (cutS z none (some 9) ++ "a"), V.str (" " ++ cutS z none (some 9)), V.str (cutS z none (some 9) ++ "_"), V.non, V.int 7, V.bl true, V.ref L, V.ref T]) hD2
      refine ⟨D1, D2, _, _, rfl, rfl, s2 _ _ (sT _ _ (sL _ _ upd_same)), upd_same, (by show 15 ≤ sizeLine; decide), fun D3 hD3 => ?_⟩
      have s3 := same_new (o := HO.lst ([V.str (revS z), V.str (z ++ { cps := #[cl] }), V.str (cutS z none (some (i : Int)) ++ { cps := #[ca] } ++ cutS z (some (i : Int)) none), V.str { cps := #[ca] }, V.str "", V.str (cutS ALL none (some 13)), V.str ALL] ++ [V.str (cutS z none (some 9) ++ "a"), V.str (" " ++ cutS z none (some 9)), V.str (cutS z none (some 9) ++ "_"), V.non, V.int 7, V.bl true, V.ref L, V.ref T])) hD3
      have eL := s3 _ _ (s2 _ _ (sT _ _ (upd_same (H := upd H2 D1 (HO.lst [V.str (revS z), V.str (z ++ { cps := #[cl] }), V.str (cutS z none (some (i : Int)) ++ { cps := #[ca] } ++ cutS z (some (i : Int)) none), V.str { cps := #[ca] }, V.str "", V.str (cutS ALL none (some 13)), V.str ALL])) (a := L) (o := HO.lst ((sgn z).map V.str)))))
      have eT := s3 _ _ (s2 _ _ (upd_same (a := T) (o := HO.tup [V.str z])))
      have sAll := Same.trans s1 (Same.trans sL (Same.trans sT (Same.trans s2 s3)))
      have tla : ∀ x y : Str, tl (x ++ y) = tl x ++ tl y := fun x y => app_cps x y
      have t9 : tl (cutS z none (some 9)) = (tl z).take 9 := tl_cut_to z 9
      have hos : ∀ x ∈ ([V.str (revS z), V.str (z ++ { cps := #[cl] }), V.str (cutS z none (some (i : Int)) ++ { cps := #[ca] } ++ cutS z (some (i : Int)) none), V.str { cps := #[ca] }, V.str "", V.str (cutS ALL none (some 13)), V.str ALL] ++ [V.str (cutS z none (some 9) ++ "a"), V.str (" " ++ cutS z none (some 9)), V.str (cutS z none (some 9) ++ "_"), V.non, V.int 7, V.bl true, V.ref L, V.ref T]), ∀ HZ, HZ L = some (HO.lst ((sgn z).map V.str)) → HZ T = some (HO.tup [V.str z]) → Odd K HZ x := by
        intro x hx HZ zL zT
        simp only [List.cons_append, List.nil_append] at hx
        rcases List.mem_cons.mp hx with rfl | hx
        · exact odd_str ⟨by have : (revS z).length = z.length := by show ((tl z).reverse.toArray).size = z.length; simp [lz]
                            omega, fun c hc => lowz.2 c (by have hc : c ∈ (tl z).reverse := hc; exact List.mem_reverse.mp hc)⟩ (no_rev gz)
        rcases List.mem_cons.mp hx with rfl | hx
        · obtain ⟨hi, hcl2⟩ := List.getElem?_eq_some_iff.mp gcl
          have hm : ((z.length : Int) - 1).toNat = (tl z).length - 1 := by omega
          refine odd_str (low_of lowz (by rw [app_len]; have := one_len cl; omega) fun c hc => ?_) (no_last (c := cl) (l := (tl z).take ((tl z).length - 1)) ?_ (tla _ _))
          · rw [tla] at hc
            rcases List.mem_append.mp hc with hc | hc
            · exact .inl hc
            · obtain rfl : c = cl := List.mem_singleton.mp hc
              exact .inl hcl
          · have h1 := (List.take_append_drop ((tl z).length - 1) (tl z)).symm
            have h2 : (tl z).drop ((tl z).length - 1) = [cl] := by
              rw [List.drop_eq_getElem_cons (by omega), List.drop_eq_nil_of_le (by omega)]
              congr 1
              rw [← hcl2]
              congr 1
              exact hm.symm
            rw [h2] at h1
            exact h1
        rcases List.mem_cons.mp hx with rfl | hx
        · have et : tl (cutS z none (some (i : Int)) ++ { cps := #[ca] } ++ cutS z (some (i : Int)) none) = (tl z).take i ++ [ca] ++ (tl z).drop i := by
            rw [tla, tla, tl_cut_to, tl_cut_from]
          refine odd_str (low_of lowz (by rw [app_len, app_len]; have := one_len ca; omega) fun c hc => ?_) (no_twice gca et)
          rw [et] at hc
          rcases List.mem_append.mp hc with hc | hc
          · rcases List.mem_append.mp hc with hc | hc
            · exact .inl (List.mem_of_mem_take hc)
            · obtain rfl := List.mem_singleton.mp hc
              exact .inl hca
          · exact .inl (List.mem_of_mem_drop hc)
        rcases List.mem_cons.mp hx with rfl | hx
        · refine odd_str (low_of lowz (by have := one_len ca; omega) fun c hc => ?_) (no_len (.inl (by have := one_len ca; omega)))
          obtain rfl : c = ca := List.mem_singleton.mp hc
          exact .inl hca
        rcases List.mem_cons.mp hx with rfl | hx
        · exact odd_str ⟨by decide +kernel, by decide +kernel⟩ (by decide +kernel)
        rcases List.mem_cons.mp hx with rfl | hx
        · exact odd_str ⟨by decide +kernel, by decide +kernel⟩ (by decide +kernel)
        rcases List.mem_cons.mp hx with rfl | hx
        · exact odd_str ⟨by decide +kernel, by decide +kernel⟩ (by decide +kernel)
        rcases List.mem_cons.mp hx with rfl | hx
        · refine odd_str (low_of lowz (by rw [app_len]; omega) fun c hc => ?_) (no_char (c := 97) (by rw [tla]; exact List.mem_append.mpr (.inr (by decide +kernel))) (by decide +kernel))
          rw [tla, t9] at hc
          rcases List.mem_append.mp hc with hc | hc
          · exact .inl (List.mem_of_mem_take hc)
          · exact .inr ((show ∀ c ∈ tl ("a" : Str), c < 128 by decide +kernel) c hc)
        rcases List.mem_cons.mp hx with rfl | hx
        · refine odd_str (low_of lowz (by rw [app_len]; omega) fun c hc => ?_) (no_char (c := 32) (by rw [tla]; exact List.mem_append.mpr (.inl (by decide +kernel))) (by decide +kernel))
          rw [tla, t9] at hc
          rcases List.mem_append.mp hc with hc | hc
          · exact .inr ((show ∀ c ∈ tl (" " : Str), c < 128 by decide +kernel) c hc)
          · exact .inl (List.mem_of_mem_take hc)
        rcases List.mem_cons.mp hx with rfl | hx
        · refine odd_str (low_of lowz (by rw [app_len]; omega) fun c hc => ?_) (no_char (c := 95) (by rw [tla]; exact List.mem_append.mpr (.inr (by decide +kernel))) (by decide +kernel))
          rw [tla, t9] at hc
          rcases List.mem_append.mp hc with hc | hc
          · exact .inl (List.mem_of_mem_take hc)
          · exact .inr ((show ∀ c ∈ tl ("_" : Str), c < 128 by decide +kernel) c hc)
        rcases List.mem_cons.mp hx with rfl | hx
        · exact odd_non
        rcases List.mem_cons.mp hx with rfl | hx
        · exact odd_seven
        rcases List.mem_cons.mp hx with rfl | hx
        · exact odd_true
        rcases List.mem_cons.mp hx with rfl | hx
        · refine odd_list zL (by rw [sgn_len]; omega) fun y hy => ?_
          rw [sgn_one] at hy
          obtain ⟨c, hc, rfl⟩ := List.mem_map.mp hy
          exact ⟨Nat.le_refl 1, by show 1 ≤ 50; decide, fun d hd => by
            obtain rfl := List.mem_singleton.mp hd
            exact lowz.2 _ hc⟩
        obtain rfl := List.mem_singleton.mp hx
        exact odd_tup zT lowz (by omega)
      have hos2 := fun x hx => hos x hx _ eL eT
      have hlen : ([V.str (revS z), V.str (z ++ { cps := #[cl] }), V.str (cutS z none (some (i : Int)) ++ { cps := #[ca] } ++ cutS z (some (i : Int)) none), V.str { cps := #[ca] }, V.str "", V.str (cutS ALL none (some 13)), V.str ALL] ++ [V.str (cutS z none (some 9) ++ "a"), V.str (" " ++ cutS z none (some 9)), V.str (cutS z none (some 9) ++ "_"), V.non, V.int 7, V.bl true, V.ref L, V.ref T]).length ≤ 15 := Nat.le_refl 15
      clear hos eL eT s3 hD3
      revert hos2 hlen sAll
      generalize [V.str (revS z), V.str (z ++ { cps := #[cl] }), V.str (cutS z none (some (i : Int)) ++ { cps := #[ca] } ++ cutS z (some (i : Int)) none), V.str { cps := #[ca] }, V.str "", V.str (cutS ALL none (some 13)), V.str ALL] ++ [V.str (cutS z none (some 9) ++ "a"), V.str (" " ++ cutS z none (some 9)), V.str (cutS z none (some 9) ++ "_"), V.non, V.int 7, V.bl true, V.ref L, V.ref T] = os
      intro sAll
      have e3 := upd_same (H := (upd (upd (upd (upd H2 D1 (HO.lst [V.str (revS z), V.str (z ++ { cps := #[cl] }), V.str (cutS z none (some (i : Int)) ++ { cps := #[ca] } ++ cutS z (some (i : Int)) none), V.str { cps := #[ca] }, V.str "", V.str (cutS ALL none (some 13)), V.str ALL])) L (HO.lst ((sgn z).map V.str))) T (HO.tup [V.str z])) D2 (HO.lst [V.str (cutS z none (some 9) ++ "a"), V.str (" " ++ cutS z none (some 9)), V.str (cutS z none (some 9) ++ "_"), V.non, V.int 7, V.bl true, V.ref L, V.ref T]))) (a := D3) (o := HO.lst os)
      revert sAll e3
      generalize upd (upd (upd (upd (upd H2 D1 (HO.lst [V.str (revS z), V.str (z ++ { cps := #[cl] }), V.str (cutS z none (some (i : Int)) ++ { cps := #[ca] } ++ cutS z (some (i : Int)) none), V.str { cps := #[ca] }, V.str "", V.str (cutS ALL none (some 13)), V.str ALL])) L (HO.lst ((sgn z).map V.str))) T (HO.tup [V.str z])) D2 (HO.lst [V.str (cutS z none (some 9) ++ "a"), V.str (" " ++ cutS z none (some 9)), V.str (cutS z none (some 9) ++ "_"), V.non, V.int 7, V.bl true, V.ref L, V.ref T])) D3 (HO.lst os) = H4
      intro sAll e3 hos2 hlen
      walk_at "go"
      refine ⟨⟨_, SqL.of e3⟩, fun D hD => lc_list (K := K) (a := D3) (xs := os) (fun i H' => Same H4 H' ∧ H' D = some (.lst ((os.take i).map fun _ => V.bl true))) ⟨same_new hD, by rw [upd_same]; simp⟩ (fun i H' _ e => SqL.of (e.1 _ _ e3)) ?_ ?_⟩
      · rintro j x H' hi ⟨sz, eD⟩
        have hxm := List.mem_of_getElem? hi
        obtain ⟨dd, rk, od⟩ := (hos2 x hxm).same sz
        have o0 := od H' (fun _ _ e => e)
        walk_at "go"
        refine ⟨rfl, ?_⟩
        show tCall (spRef K) [] E0 (tCons (tVar 8) (tCons (tOp rIxS (tVar 1) (tVar 6)) tNil)) _ _ _
        walk_at "go"
        refine r_ixS hzl eca ?_
        walk_at "go"
        refine ⟨x, _, dd, rfl, o0.1, fun H'' sm => (od H'' sm).2, rk, fun H'' sm => ?_⟩
        refine ⟨_, sm _ _ eD, ?_, ?_, ?_⟩
        · simp only [List.length_map, List.length_take]
          exact small1000 (by omega)
        · exact Same.set (Same.trans sz sm) hD
        · rw [upd_same, List.take_succ, hi]; simp
      · rintro H' ⟨sz, eD⟩
        rw [List.take_length] at eD
        walk_at "go"
        have eb : (os.map fun _ => V.bl true) = (os.map fun _ => true).map V.bl := by rw [List.map_map]; rfl
        rw [eb] at eD
        refine r_all (SqL.of eD) ?_
        have ea : (os.map fun _ => true).all id = true := by rw [List.all_map]; simp
        rw [ea]
        exact k _ (Kp.trans kp2 (Same.kp (Same.trans sAll sz)))
end
end K1

/-! K01O -/

namespace K1
open PySem L2 L2H
abbrev sLaw : Stmt := top 53
abbrev nLaw : List Str := ["_law_script","_law_bag","_law_signs"]
theorem scLaw : FnScope nLaw ["_law_script"] (defScope sLaw) := ⟨rfl, rfl, rfl, by decide +kernel, rfl, by decide +kernel, by decide +kernel⟩
def spLaw (K : PySem.W.Frag) : Sp := fun vs H Q _ => ∃ (a : Addr) (ns : List Int), vs = [.ref a] ∧ SqL K H a (ns.map V.int) ∧ ns.length ≤ 63 ∧ ∀ H', Q (.bl true) H'
theorem fine_good {z : Str} (g : Good z) : Fine z := fun y hy => by
  unfold PyData.strOk
  rw [Array.all_eq_true']
  intro c hc
  have : c ∈ tl z := hy c (by simpa using hc)
  exact decide_eq_true ((show ∀ c ∈ tl ALL, c < 1114112 by decide +kernel) c (g.all c this))
section
variable {P : Program} {w : World} {K : PySem.W.Frag} {mg : Str → Option Value} {base : Heap}
abbrev OMany (P : Program) (w : World) (K : PySem.W.Frag) (mg : Str → Option Value) (base : Heap) : Prop := Own P w K mg base "_law_many_signs" 3 ["_law_bag"] spMany
abbrev OLags (P : Program) (w : World) (K : PySem.W.Frag) (mg : Str → Option Value) (base : Heap) : Prop := Own P w K mg base "_law_lags" 3 ["_law_pieces"] (spLags K)
abbrev OPieces (P : Program) (w : World) (K : PySem.W.Frag) (mg : Str → Option Value) (base : Heap) : Prop := Own P w K mg base "_law_pieces_of" 3 ["_law_script", "_law_signs"] (spPieces K)
abbrev OPio (P : Program) (w : World) (K : PySem.W.Frag) (mg : Str → Option Value) (base : Heap) : Prop := Own P w K mg base "_law_papers_in_order" 4 ["_law_script", "_law_signs"] (spPio K)
theorem ok_law {f fV : Addr} {fd fdV : FuncData} (F : Fun K "law" "law" sLaw f fd) (B : Bl mg) (Ob : OBagOf' P w K mg base) (Om : OMany P w K mg base) (Ol : OLags P w K mg base) (Opc : OPieces P w K mg base) (Opi : OPio P w K mg base)
    (FV : FnG P w K mg base 6 fV fdV ["_law_bag", "_law_signs"] spVals) (mV : mg "_law_values" = some (.ref fV)) (kV : PySem.W.keepIn K (.ref fV) = true) (bV : Binds K fdV ["_law_bag", "_law_signs"] []) :
    FnG P w K mg base 7 f fd ["_law_script"] (spLaw K) := by
  refine fnG_of F scLaw (fun vs H Q E h => ?_) (fun cdv A outer s H vs Q E hr hgd h => ?_)
  · obtain ⟨a, ns, rfl, _⟩ := h
    rfl
  · obtain ⟨a, ns, rfl, hS, hlen, k⟩ := h
    have hr1 : Room 1 _ := hr.mono (by decide)
    have hr3 : Room 3 _ := hr.mono (by decide)
    have hr4 : Room 4 _ := hr.mono (by decide)
    refine ⟨_, (pss_cons (ps_set (i := 1) scLaw.nd rfl (Or.inl rfl) (pe_own Ob hr1 (pa_cons (pv 0) (pa_cons pe_int pa_nil)))) (pss_cons (ps_set (i := 2) scLaw.nd rfl (Or.inl rfl) (pe_own Om hr3 (pa_cons (pv 1) pa_nil))) (pss_cons (ps_if (pt_not (pt_val (pe_callG FV hr hgd mV kV bV (pa_cons (pv 1) (pa_cons (pv 2) pa_nil))))) (pss_one (ps_ret pe_bl)) pss_nil) (pss_one (ps_ret (pe_and (pe_own Ol hr3 (pa_cons (pe_own Opc hr3 (pa_cons (pv 0) (pa_cons (pv 2) pa_nil))) pa_nil)) (pe_one (pe_own Opi hr4 (pa_cons (pv 0) (pa_cons (pv 2) pa_nil)))))))))), ?_⟩
    try dsimp only [cxOf, Cx.nox, Cx.wish]
    walk_at "go"
    refine ⟨_, _, _, rfl, hS, hlen, by decide, by decide, fun H1 b sm nb hb => ?_⟩
    walk_at "go"
    refine ⟨b, 0, rfl, hb, by decide, fun z H2 gz hb2 kp => ?_⟩
    walk_at "go"
    refine ⟨b, z, 0 + 40, rfl, gz, hb2, by decide, fun H3 kp3 => ?_⟩
    have s3 : Same H H3 := Kp.same (Kp.trans (Same.kp sm) (Kp.trans kp kp3)) nb
    have l2 := gz.lo
    have l12 := gz.hi
    have lz := len_tl' z
    walk_at "go"
    refine ⟨a, ns, z, rfl, Same.seq s3 hS, hlen, by omega, by omega, fun H4 p es sm4 hp => ?_⟩
    refine ⟨p, es, rfl, hp, fun H5 sm5 => ?_⟩
    walk_at "go"
    refine ⟨a, ns, z, rfl, Same.seq (Same.trans s3 (Same.trans sm4 sm5)) hS, hlen, by omega, by omega, fine_good gz, fun H6 sm6 => ?_⟩
    exact k H6
end
end K1

/-! X9 -/
/-! The law's own call, where no repr is running. -/
namespace K1
open PySem L2 L2H PyProof.Rows PySem.W PySem.Calls
theorem law_callG {P : Program} {w : World} {K : Frag} {mg mb : Str → Option Value} {k : Nat} {fa a : Addr} {fd : FuncData} {x : Str} {sp : Sp} {s₁ : Shared} {vs : List Value} {ns : List Int} (KX : K.In s₁.heap) (hns : s₁.heap.Ns mainGlobals mg) (hb : s₁.heap.Ns builtinsNs mb)
    (hbb : ∀ x : Str, x ≠ PySem.Str.ofString "__name__" → mb x = bootBuiltins x) (hlim : s₁.heap.NoLimit) (hg : s₁.gens = #[]) (ha : s₁.heap.get? a = some ⟨.type "list", none, .seq vs.toArray 0, #[]⟩) (hi : IntsAre vs ns) (hl : ns.length ≤ sizeLine) (hr : Room k callerA)
    (F : ∀ base : Heap, K.In base → base.Ns mainGlobals mg → FnG P w K mg base k fa fd [x] sp) (hbind : ∀ (s : Shared) (u : Value), BindsTo s fd ⟨[u], []⟩ [(x, u)]) (hsp : ∀ H : Hp, Only H → SqL K H a (ns.map V.int) → sp [.ref a] H (fun v _ => v = .bl true) fun _ _ _ => False) :
    codeAny (model P w) callerA (.call (.ref fa) ⟨[.ref a], []⟩) (fun r s' => r = .ok (.ret (.bool true)) ∧ OldK s₁.heap s'.heap ∧ s'.os = s₁.os ∧ AllBare s'.gens) s₁ := by
  have rv := vals_ints hi
  have lenV := hi.length
  have core : ∀ H : Hp, Only H → SqL K H a (ns.map V.int) → HOk P w H s₁.heap → (∀ b, H b ≠ none → b = a) → (H a ≠ none → K.lookup a = none) →
      codeAny (model P w) callerA (.call (.ref fa) ⟨[.ref a], []⟩) (fun r s' => r = .ok (.ret (.bool true)) ∧ OldK s₁.heap s'.heap ∧ s'.os = s₁.os ∧ AllBare s'.gens) s₁ := by
    intro H hO hS hok hA hK
    have noA : ∀ {b o es ep}, s₁.heap.get? b = some o → o.data = .dict es ep → H b = none := fun {b o es ep} e d => by
      cases q : H b with
      | none => rfl
      | some u =>
        have e' := hA b (by rw [q]; intro z; cases z)
        rw [e', ha] at e
        obtain rfl := Option.some.inj e
        cases d
    have nsK : ∀ {b m}, s₁.heap.Ns b m → (hidT s₁.heap H).Ns b m := fun {b m} h => by
      obtain ⟨o, es, ep, e, d, r⟩ := h
      exact ⟨o, es, ep, hidT_get e (noA e d), d, r⟩
    have hKb : K.In (hidT s₁.heap H) := fun b o e => by
      refine hidT_get (KX b o e) ?_
      cases q : H b with
      | none => rfl
      | some u =>
        have e' := hA b (by rw [q]; intro z; cases z)
        have := hK (by rw [← e', q]; intro z; cases z)
        rw [e', this] at e
        cases e
    have hM : L2.Mod K mg (hidT s₁.heap H) := ⟨hKb, nsK hns, ⟨mb, nsK hb, hbb⟩, by obtain ⟨mc, h1, h2⟩ := hlim; exact ⟨mc, nsK h1, h2⟩⟩
    have e0 : Env0 P w K mg (hidT s₁.heap H) callerA [] s₁ H := ⟨rfl, hM, fun b o e => of_hidT e, Nat.le_of_eq (hidT_size s₁.heap H), trivial, fun b hb => absurd hb (by simp [frs]), hok, AllBare.of_eq hg⟩
    refine codeAny_mono ((F (hidT s₁.heap H) hKb (nsK hns)).run callerA [] s₁ H ⟨[.ref a], []⟩ [.ref a] [.ref a] _ _ hr rfl e0 (hbind s₁ (.ref a)) (.cons rfl .nil) (hsp H hO hS)) (fun r s' h => ?_)
    cases r with
    | error e => exact h.elim
    | ok fl =>
      cases fl with
      | ret u =>
        obtain ⟨v, H', os, bare, un, hok', rv', rfl⟩ := h
        have eu : u = .bool true := rv'
        subst eu
        refine ⟨rfl, ?_, os, bare⟩
        refine OldK.of_keep fun b ob e => ?_
        cases q : H b with
        | none => exact un.keep b ob e q (by simp [frs]) (by simp)
        | some u =>
          rcases hO b with z | ⟨o, xs, z⟩
          · rw [q] at z; cases z
          · have h1 := (hok b _ z).1
            have h2 := (hok' b _ (un.frzs b o _ z)).1
            rw [e] at h1
            obtain rfl := Option.some.inj h1
            exact h2
      | _ => exact h.elim
  cases hk : K.lookup a with
  | none =>
    refine core (fun b => if b = a then some (.frz ⟨.type "list", none, .seq vs.toArray 0, #[]⟩ (.lst (ns.map V.int))) else none) (fun b => ?_) (.inl (.inr ⟨_, if_pos rfl⟩)) (fun b u z => ?_) (fun b z => ?_) (fun _ => hk)
    · by_cases hb : b = a
      · exact .inr ⟨_, _, if_pos hb⟩
      · exact .inl (if_neg hb)
    · by_cases hb : b = a
      · subst hb
        dsimp only at z
        rw [if_pos rfl] at z
        obtain rfl := Option.some.inj z
        exact ⟨ha, by rw [List.length_map]; exact hl, vs, 0, rv, ha⟩
      · dsimp only at z
        rw [if_neg hb] at z; cases z
    · by_cases hb : b = a
      · exact hb
      · exact absurd (if_neg hb) z
  | some o =>
    have e := KX a o hk
    rw [ha] at e
    obtain rfl := Option.some.inj e
    refine core (fun _ => none) (fun _ => .inl rfl) (.inr ⟨_, vs.toArray, 0, hk, rfl, rfl, rfl, by rw [List.size_toArray, lenV]; exact hl, rv⟩) (fun b u z => by cases z) (fun b z => absurd rfl z) (fun z => absurd rfl z)
theorem walk_ofG {l : OpenLaw} {n k : Nat} {q : Program} {loose : List Str} {XP : (Str → Option Value) → Heap → Prop} {YP : World → Heap → Prop} {d : DefRec} {K : Params → Frag} {sp : World → Sp} {x : Str} (hn : l.most = some n) (hn2 : n ≤ sizeLine) (hdf : d.params.defaults = []) (hr : Room k callerA)
    (hY : ∀ (w : World) (h : Heap), YP w h → (K w.params).In h)
    (F : ∀ (w : World) (mg : Str → Option Value) (fa : Addr) (h : Heap), (K w.params).In h → h.Ns mainGlobals mg → mg d.name = some (.ref fa) → ∃ fd : FuncData, (∀ (s : Shared) (u : Value), BindsTo s fd ⟨[u], []⟩ [(x, u)]) ∧ ∀ base : Heap, (K w.params).In base → base.Ns mainGlobals mg → FnG l.prog w (K w.params) mg base k fa fd [x] (sp w))
    (hsp : ∀ (w : World) (H : Hp) (a : Addr) (ns : List Int), ns.length ≤ n → Only H → SqL (K w.params) H a (ns.map V.int) → sp w [.ref a] H (fun v _ => v = .bl true) fun _ _ _ => False) :
    WalkO q loose XP YP l.row.toRowW d [] (fun f vs => PySem.call f vs) :=
  Att.attach_call hn hdf fun w s₀ s₁ mg mb fa o pm cd doc a vs ns G Y ho hd hcd hmg hobj hints hlen hg => by
    have KX := hY w s₁.heap Y
    obtain ⟨fd, hb, hF⟩ := F w mg fa s₁.heap KX G.T.g hmg
    exact law_callG KX G.T.g G.T.b G.T.builtins G.T.nolimit hg hobj hints (Nat.le_trans hlen hn2) hr hF hb (fun H hO hS => hsp w H a ns hlen hO hS)
end K1

/-! K01P -/

namespace K1
open PySem L2 L2H
def Fn (K : PySem.W.Frag) (x : Str) (st : Stmt) : Prop := ∃ (f : Addr) (fd : FuncData), PySem.W.nsIn K mainGlobals x = some (some (.ref f)) ∧ Fun K x x st f fd
theorem fn_mk {K : PySem.W.Frag} {x : Str} {st : Stmt} {f : Addr} {oc : Value} {od an : Option Addr} {osl : Array (Option Value)} {kV doc pm cdv ct : Value} (a : PySem.W.nsIn K mainGlobals x = some (some (.ref f)))
    (l : K.lookup f = some ⟨oc, od, .func (PySem.W.fnOf x x (defArgs st) (defBody st) (defScope st) .none kV doc pm an cdv ct), osl⟩) (c : PySem.W.codeIn K cdv x = true) (k : PySem.W.keepIn K (.ref f) = true) : Fn K x st := ⟨f, _, a, fun_mk l c k⟩
theorem own_of {P : Program} {w : World} {K : PySem.W.Frag} {mg : Str → Option Value} {h base : Heap} {x : Str} {st : Stmt} {n : Nat} {ps : List Str} {sp : Sp} (X : K.In h) (G : h.Ns mainGlobals mg) (N : Fn K x st) (ok : ∀ f fd, Fun K x x st f fd → FnOk P w K mg base CX0 n f fd ps sp)
    (bd : ∀ (kV doc pm : Value) (an : Option Addr) (cdv ct : Value) (us : List Value), us.length = ps.length → bindArgs (PySem.W.fnOf x x (defArgs st) (defBody st) (defScope st) .none kV doc pm an cdv ct) ⟨us, []⟩ = pure (ps.zip us)) : Own P w K mg base x n ps sp := by
  obtain ⟨f, fd, a, F⟩ := N
  exact ⟨f, fd, ok f fd F, PySem.W.mg_of X G a, F.kp, F.binds bd⟩
def ClX (K : PySem.W.Frag) (C : Addr) (x : Str) (b : Bool) : Prop := ∃ a : Addr, PySem.W.nsIn K mainGlobals x = some (some (.ref a)) ∧ PySem.W.kitOne K (.ref C) (.ref a) = some b
theorem clx_mk {K : PySem.W.Frag} {C a : Addr} {x : Str} {b : Bool} (h1 : PySem.W.nsIn K mainGlobals x = some (some (.ref a))) (h2 : PySem.W.kitOne K (.ref C) (.ref a) = some b) : ClX K C x b := ⟨a, h1, h2⟩
def cAt (K : PySem.W.Frag) (x : Str) : Addr := match PySem.W.nsIn K mainGlobals x with | some (some (.ref a)) => a | _ => 0
theorem clx_at {K : PySem.W.Frag} {C : Addr} {x : Str} {b : Bool} {h : Heap} {mg : Str → Option Value} (X : K.In h) (G : h.Ns mainGlobals mg) (c : ClX K C x b) : mg x = some (.ref (cAt K x)) ∧ PySem.W.kitOne K (.ref C) (.ref (cAt K x)) = some b := by
  obtain ⟨a, h1, h2⟩ := c
  have e : cAt K x = a := by unfold cAt; rw [h1]
  rw [e]
  exact ⟨PySem.W.mg_of X G h1, h2⟩
/-- what the top has left -/
theorem all_mk {l : PySem.W.OpenLaw} {w : World} {K : PySem.W.Frag} {h : Heap} {mg : Str → Option Value} {fa C fI : Addr} {fdI : FuncData} (X : K.In h) (G : h.Ns mainGlobals mg) (hfa : mg "law" = some (.ref fa))
    (aC : PySem.W.nsIn K mainGlobals "BadSigns" = some (some (.ref C))) {cE : Addr} (aE : PySem.W.nsIn K mainGlobals "CarryError" = some (some (.ref cE))) (exm : PySem.W.exmOne K (.ref C) (.ref cE) = some true)
    (iC : PySem.W.findIn K (.ref C) "__init__" = some (some (.ref fI))) (tI : PySem.W.typeIn K (.ref fI) = some (.type "function")) (T : BadF l.prog K mg fI fdI C) (bI : Binds K fdI ["self", "signs"] [])
    (TC : ExcC K C) (hcl : (PySem.W.clsIn K C).isSome = true) (TX : XfC K C)
    {t1 t2 t3 : Tok} (g1 : PySem.W.nsIn K mainGlobals "LEAST_KINDS" = some (some (.int 2 t1))) (g2 : PySem.W.nsIn K mainGlobals "MOST_KINDS" = some (some (.int 12 t2))) (g3 : PySem.W.nsIn K mainGlobals "ALL_SIGNS" = some (some (.str ALL t3)))
    (n_is_text : Fn K "is_text" sIsText) (n_is_ascending : Fn K "is_ascending" sIsAsc) (n_are_signs : Fn K "are_signs" sAreSigns) (n_require_signs : Fn K "require_signs" sReq) (n_sign_value : Fn K "sign_value" sVal) (n_paper_key : Fn K "paper_key" sPaperKey) (n_in_order : Fn K "in_order" sInOrder) (n_lag_of : Fn K "lag_of" sLagOf) (n_lag_on : Fn K "lag_on" sLagOn) (n__law_bag_of : Fn K "_law_bag_of" sBagOf) (n__law_pick : Fn K "_law_pick" sPick) (n__law_one_of : Fn K "_law_one_of" sOneOf) (n__law_mixed : Fn K "_law_mixed" sMixed) (n__law_paper_of : Fn K "_law_paper_of" sPaperOf) (n__law_key_of : Fn K "_law_key_of" sKeyOf) (n__law_ordered : Fn K "_law_ordered" sOrdered) (n__law_lag_of : Fn K "_law_lag_of" sLawLag) (n__law_no_list : Fn K "_law_no_list" sNoList) (n__law_is_int : Fn K "_law_is_int" sIsInt) (n__law_same_tuple : Fn K "_law_same_tuple" sSame) (n__law_many_signs : Fn K "_law_many_signs" sMany) (n__law_classes : Fn K "_law_classes" sCls) (n__law_pieces_of : Fn K "_law_pieces_of" sPieces) (n__law_turned : Fn K "_law_turned" sTurned) (n__law_lags : Fn K "_law_lags" sLags) (n__law_papers_in_order : Fn K "_law_papers_in_order" sPio) (n__law_refused : Fn K "_law_refused" sRef) (n__law_values : Fn K "_law_values" sVals) (n_law : Fn K "law" sLaw) (b_len : PySem.W.nsIn K mainGlobals "len" = some none) (b_sum : PySem.W.nsIn K mainGlobals "sum" = some none) (b_abs : PySem.W.nsIn K mainGlobals "abs" = some none) (b_int : PySem.W.nsIn K mainGlobals "int" = some none) (b_range : PySem.W.nsIn K mainGlobals "range" = some none) (b_list : PySem.W.nsIn K mainGlobals "list" = some none) (b_tuple : PySem.W.nsIn K mainGlobals "tuple" = some none) (b_str : PySem.W.nsIn K mainGlobals "str" = some none) (b_bool : PySem.W.nsIn K mainGlobals "bool" = some none) (b_sorted : PySem.W.nsIn K mainGlobals "sorted" = some none) (b_all : PySem.W.nsIn K mainGlobals "all" = some none) (b_min : PySem.W.nsIn K mainGlobals "min" = some none) (b_isinstance : PySem.W.nsIn K mainGlobals "isinstance" = some none) (b_repr : PySem.W.nsIn K mainGlobals "repr" = some none) (b_super : PySem.W.nsIn K mainGlobals "super" = some none) (c_CarryError : ClX K C "CarryError" true) (c_Malformed : ClX K C "Malformed" true) (c_Refused : ClX K C "Refused" false) (c_BadSigns : ClX K C "BadSigns" true) (c_BadPaper : ClX K C "BadPaper" false) (c_BadName : ClX K C "BadName" false) (c_BadWalk : ClX K C "BadWalk" false) (c_BadRule : ClX K C "BadRule" false) (c_BadForm : ClX K C "BadForm" false) (c_BadSlip : ClX K C "BadSlip" false) (c_BadWay : ClX K C "BadWay" false) (c_BadDeed : ClX K C "BadDeed" false) (c_BadLine : ClX K C "BadLine" false) (c_TooMany : ClX K C "TooMany" false) (c_Twice : ClX K C "Twice" false) (c_Unknown : ClX K C "Unknown" false) (c_Unlike : ClX K C "Unlike" false) (c_Unfit : ClX K C "Unfit" false) :
    ∃ fd : FuncData, (∀ (s : Shared) (u : Value), BindsTo s fd ⟨[u], []⟩ [("_law_script", u)]) ∧ ∀ base : Heap, K.In base → base.Ns mainGlobals mg → FnG l.prog w K mg base 7 fa fd ["_law_script"] (spLaw K) := by
  have B : Bl mg := ⟨PySem.W.mg_none_of X G b_len, PySem.W.mg_none_of X G b_sum, PySem.W.mg_none_of X G b_abs, PySem.W.mg_none_of X G b_int, PySem.W.mg_none_of X G b_range, PySem.W.mg_none_of X G b_list, PySem.W.mg_none_of X G b_tuple, PySem.W.mg_none_of X G b_str, PySem.W.mg_none_of X G b_bool, PySem.W.mg_none_of X G b_sorted, PySem.W.mg_none_of X G b_all, PySem.W.mg_none_of X G b_min, PySem.W.mg_none_of X G b_isinstance, PySem.W.mg_none_of X G b_repr⟩
  have Gb : Gb mg := ⟨⟨_, PySem.W.mg_of X G g1⟩, ⟨_, PySem.W.mg_of X G g2⟩, ⟨_, PySem.W.mg_of X G g3⟩⟩
  have gC := PySem.W.mg_of X G aC
  have mE := PySem.W.mg_of X G aE
  have CF : ClsF K mg C (cAt K) := fun e he => by
    simp only [clsL] at he
    rcases List.mem_cons.mp he with rfl | he
    · exact clx_at X G c_CarryError
    rcases List.mem_cons.mp he with rfl | he
    · exact clx_at X G c_Malformed
    rcases List.mem_cons.mp he with rfl | he
    · exact clx_at X G c_Refused
    rcases List.mem_cons.mp he with rfl | he
    · exact clx_at X G c_BadSigns
    rcases List.mem_cons.mp he with rfl | he
    · exact clx_at X G c_BadPaper
    rcases List.mem_cons.mp he with rfl | he
    · exact clx_at X G c_BadName
    rcases List.mem_cons.mp he with rfl | he
    · exact clx_at X G c_BadWalk
    rcases List.mem_cons.mp he with rfl | he
    · exact clx_at X G c_BadRule
    rcases List.mem_cons.mp he with rfl | he
    · exact clx_at X G c_BadForm
    rcases List.mem_cons.mp he with rfl | he
    · exact clx_at X G c_BadSlip
    rcases List.mem_cons.mp he with rfl | he
    · exact clx_at X G c_BadWay
    rcases List.mem_cons.mp he with rfl | he
    · exact clx_at X G c_BadDeed
    rcases List.mem_cons.mp he with rfl | he
    · exact clx_at X G c_BadLine
    rcases List.mem_cons.mp he with rfl | he
    · exact clx_at X G c_TooMany
    rcases List.mem_cons.mp he with rfl | he
    · exact clx_at X G c_Twice
    rcases List.mem_cons.mp he with rfl | he
    · exact clx_at X G c_Unknown
    rcases List.mem_cons.mp he with rfl | he
    · exact clx_at X G c_Unlike
    rcases List.mem_cons.mp he with rfl | he
    · exact clx_at X G c_Unfit
    cases he
  obtain ⟨flw, fdlw, alw, Flw⟩ := id n_law
  have e := hfa.symm.trans (PySem.W.mg_of X G alw)
  cases e
  refine ⟨fdlw, fun s u => ?_, fun base _ _ => ?_⟩
  · obtain ⟨oc, od, kV, doc, pm, an, cdv, ct, osl, rfl, _⟩ := Flw.ex
    exact .of_eq rfl
  · 
    have Op := own_of (P := l.prog) (w := w) (base := base) X G n__law_pick (fun f fd F => ok_pick F B) (fun _ _ _ _ _ _ us hl => match us, hl with | [_, _], _ => rfl)
    have Ob := own_of (P := l.prog) (w := w) (base := base) X G n__law_bag_of (fun f fd F => ok_bagOf F B) (fun _ _ _ _ _ _ us hl => match us, hl with | [_, _], _ => rfl)
    have Oo := own_of (P := l.prog) (w := w) (base := base) X G n__law_one_of (fun f fd F => ok_oneOf F B Op) (fun _ _ _ _ _ _ us hl => match us, hl with | [_, _], _ => rfl)
    have Omx := own_of (P := l.prog) (w := w) (base := base) X G n__law_mixed (fun f fd F => ok_mixed F B Op) (fun _ _ _ _ _ _ us hl => match us, hl with | [_, _], _ => rfl)
    have Opa := own_of (P := l.prog) (w := w) (base := base) X G n__law_paper_of (fun f fd F => ok_paperOf F B Op Oo) (fun _ _ _ _ _ _ us hl => match us, hl with | [_, _, _], _ => rfl)
    have Om := own_of (P := l.prog) (w := w) (base := base) X G n__law_many_signs (fun f fd F => ok_many F B Op Omx) (fun _ _ _ _ _ _ us hl => match us, hl with | [_], _ => rfl)
    have Olo := own_of (P := l.prog) (w := w) (base := base) X G n_lag_of (fun f fd F => ok_lagOf F B) (fun _ _ _ _ _ _ us hl => match us, hl with | [_, _], _ => rfl)
    have Oln := own_of (P := l.prog) (w := w) (base := base) X G n_lag_on (fun f fd F => ok_lagOn F B Olo) (fun _ _ _ _ _ _ us hl => match us, hl with | [_, _, _], _ => rfl)
    have Olw := own_of (P := l.prog) (w := w) (base := base) X G n__law_lag_of (fun f fd F => ok_lawLag F B) (fun _ _ _ _ _ _ us hl => match us, hl with | [_, _], _ => rfl)
    have Otu := own_of (P := l.prog) (w := w) (base := base) X G n__law_turned (fun f fd F => ok_turned F B) (fun _ _ _ _ _ _ us hl => match us, hl with | [_], _ => rfl)
    have Ola := own_of (P := l.prog) (w := w) (base := base) X G n__law_lags (fun f fd F => ok_lags F B Olo Oln Olw Otu) (fun _ _ _ _ _ _ us hl => match us, hl with | [_], _ => rfl)
    have Opc := own_of (P := l.prog) (w := w) (base := base) X G n__law_pieces_of (fun f fd F => ok_pieces F B Ob Op Oo) (fun _ _ _ _ _ _ us hl => match us, hl with | [_, _], _ => rfl)
    have Oit := own_of (P := l.prog) (w := w) (base := base) X G n_is_text (fun f fd F => ok_isText F B) (fun _ _ _ _ _ _ us hl => match us, hl with | [_, _, _, _], _ => rfl)
    have Oia := own_of (P := l.prog) (w := w) (base := base) X G n_is_ascending (fun f fd F => ok_isAsc F B) (fun _ _ _ _ _ _ us hl => match us, hl with | [_], _ => rfl)
    have Oas := own_of (P := l.prog) (w := w) (base := base) X G n_are_signs (fun f fd F => ok_areSigns F Gb Oit Oia) (fun _ _ _ _ _ _ us hl => match us, hl with | [_], _ => rfl)
    have Opk := own_of (P := l.prog) (w := w) (base := base) X G n_paper_key (fun f fd F => ok_paperKey F B) (fun _ _ _ _ _ _ us hl => match us, hl with | [_], _ => rfl)
    have Oko := own_of (P := l.prog) (w := w) (base := base) X G n__law_key_of (fun f fd F => ok_keyOf F B) (fun _ _ _ _ _ _ us hl => match us, hl with | [_], _ => rfl)
    have Oii := own_of (P := l.prog) (w := w) (base := base) X G n__law_is_int (fun f fd F => ok_isInt F B) (fun _ _ _ _ _ _ us hl => match us, hl with | [_], _ => rfl)
    obtain ⟨fnl, fdnl, anl, Fnl⟩ := id n__law_no_list
    have Ofl : OFlat l.prog w K mg base := ⟨fnl, fdnl, ok_flat Fnl B (PySem.W.mg_of X G anl) (Fnl.binds (fun _ _ _ _ _ _ us hl => match us, hl with | [_], _ => rfl)), PySem.W.mg_of X G anl, Fnl.kp, Fnl.binds (fun _ _ _ _ _ _ us hl => match us, hl with | [_], _ => rfl)⟩
    have Onl := own_of (P := l.prog) (w := w) (base := base) X G n__law_no_list (fun f fd F => ok_noList F B Ofl) (fun _ _ _ _ _ _ us hl => match us, hl with | [_], _ => rfl)
    have Osm := own_of (P := l.prog) (w := w) (base := base) X G n__law_same_tuple (fun f fd F => ok_same F B Onl) (fun _ _ _ _ _ _ us hl => match us, hl with | [_, _], _ => rfl)
    have Ood := own_of (P := l.prog) (w := w) (base := base) X G n__law_ordered (fun f fd F => ok_ordered F B Oko) (fun _ _ _ _ _ _ us hl => match us, hl with | [_], _ => rfl)
    obtain ⟨fpk, fdpk, apk, Fpk⟩ := id n_paper_key
    have Oin := own_of (P := l.prog) (w := w) (base := base) X G n_in_order (fun f fd F => ok_inOrder F B Fpk (PySem.W.mg_of X G apk)) (fun _ _ _ _ _ _ us hl => match us, hl with | [_], _ => rfl)
    have Opi := own_of (P := l.prog) (w := w) (base := base) X G n__law_papers_in_order (fun f fd F => ok_pio F B Ob Op Oo Opa Osm Ood Oin Opk) (fun _ _ _ _ _ _ us hl => match us, hl with | [_, _], _ => rfl)
    obtain ⟨frq, fdrq, arq, Frq⟩ := id n_require_signs
    have GR := ok_req (P := l.prog) (w := w) (base := base) Frq Oas T gC iC tI bI
    obtain ⟨fsv, fdsv, asv, Fsv⟩ := id n_sign_value
    have GV := ok_val Fsv GR (PySem.W.mg_of X G arq) Frq.kp (Frq.binds (fun _ _ _ _ _ _ us hl => match us, hl with | [_], _ => rfl))
    have bsv := Fsv.binds (ps := ["signs", "sign"]) (fun _ _ _ _ _ _ us hl => match us, hl with | [_, _], _ => rfl)
    have Ov : OVal l.prog w K mg base := ⟨fsv, fdsv, val0 GV, PySem.W.mg_of X G asv, Fsv.kp, bsv⟩
    obtain ⟨fcl, fdcl, acl, Fcl⟩ := id n__law_classes
    have GC := ok_cls (P := l.prog) (w := w) (base := base) Fcl B TC hcl CF
    obtain ⟨frf, fdrf, arf, Frf⟩ := id n__law_refused
    have GF := ok_ref Frf B GV (PySem.W.mg_of X G asv) Fsv.kp bsv GC (PySem.W.mg_of X G acl) Fcl.kp (Fcl.binds (fun _ _ _ _ _ _ us hl => match us, hl with | [_], _ => rfl)) mE exm TX T.fi
    obtain ⟨fvs, fdvs, avs, Fvs⟩ := id n__law_values
    have GVs := ok_vals Fvs B Op Oii Ov GF (PySem.W.mg_of X G arf) Frf.kp (Frf.binds (fun _ _ _ _ _ _ us hl => match us, hl with | [_, _], _ => rfl))
    exact ok_law Flw B Ob Om Ola Opc Opi GVs (PySem.W.mg_of X G avs) Fvs.kp (Fvs.binds (fun _ _ _ _ _ _ us hl => match us, hl with | [_, _], _ => rfl))

end K1

/-! K01Y -/

namespace K1
open PySem L2 L2H
theorem badf_mk {P : Program} {K : PySem.W.Frag} {h : Heap} {mg : Str → Option Value} {fI C : Addr} {nm q : Str} {N : Addr} {bs bm : List Value} {sn : List Str} {sub : List Value} {ab : Bool} {col : Option Bool} {dd : Option Addr} {k0 k1 k2 k3 k5 : Option Value}
    {oc : Value} {od : Option Addr} {kV doc pm : Value} {an : Option Addr} {ct : Value} {osl : Array (Option Value)} {cda cc : Addr} {ccl : Value} {cdd : Option Addr} {vs : Array Value} {ccs : Array (Option Value)} {file : Str} {tf : Tok} {cl : Value} {cld : Option Addr} {csl : Array (Option Value)}
    (X : K.In h) (G : h.Ns mainGlobals mg)
    (l : K.lookup fI = some ⟨oc, od, .func (PySem.W.ksFn "__init__" "BadSigns.__init__" (defArgs sBad) (defBody sBad) (defScope sBad) .none kV doc pm an (.ref cda) ct cc), osl⟩) (c : PySem.W.codeIn K (.ref cda) "BadSigns.__init__" = true)
    (lcd : K.lookup cda = some ⟨ccl, cdd, .fields vs, ccs⟩) (hv : vs[2]? = some (.str file tf)) (hf : (P.main.file == file) = true) (lcc : K.lookup cc = some ⟨cl, cld, .cell (some (.ref C)), csl⟩)
    (sup : (List.lookup (PySem.Str.ofString "super") P.main.scope.names).isSome = false) (any : PySem.W.nsIn K cStatics "thirdparty.any" = some none) (mgS : PySem.W.nsIn K mainGlobals "super" = some none)
    (xL : K.lookup C = some (excClassObj nm q C N bs bm true sn sub ab col dd k0 k1 k2 k3 k5 "ValueError.__new__")) (hbm : HandSPX.refsVE bm = true)
    (sa : PySem.W.findIn K (.ref C) "__setattr__" = some (some (.builtin "object.__setattr__"))) (exC : PySem.W.subIn K (.ref C) (.type "BaseException") = some true) (tyC : PySem.W.typeIn K (.ref C) = some (.type "type")) (kC : PySem.W.keepIn K (.ref C) = true)
    (sin : PySem.W.ks_superIn K C C "__init__" = some (some (.builtin "ValueError.__init__"))) (subC : PySem.W.mroIn K C (.ref C) = some true) (subV : PySem.W.subIn K (.ref C) (.type "ValueError") = some true) (fi : PySem.W.findIn K (.ref C) "signs" = some none) :
    BadF P K mg fI (PySem.W.ksFn "__init__" "BadSigns.__init__" (defArgs sBad) (defBody sBad) (defScope sBad) .none kV doc pm an (.ref cda) ct cc) C :=
  ⟨⟨oc, od, kV, doc, pm, an, ct, osl, cda, cc, ccl, cdd, vs, ccs, file, tf, cl, cld, csl, rfl, l, c, lcd, hv, hf, lcc⟩, sup, any, PySem.W.mg_none_of X G mgS, ⟨⟨nm, q, N, bs, bm, sn, sub, ab, col, dd, k0, k1, k2, k3, k5, xL, hbm⟩, sa, exC, tyC, kC⟩, sin, subC, subV, fi⟩
theorem kit_cls {K : PySem.W.Frag} {C a : Addr} {b : Bool} (h2 : PySem.W.isClsIn K a = true) (h3 : PySem.W.typeIn K (.ref a) = some (.type "type")) (h4 : PySem.W.subIn K (.ref C) (.ref a) = some b) : PySem.W.kitCls K (.ref C) (.ref a) = some b := by
  have e2 : ((PySem.W.clsIn K a).isSome && PySem.W.typeIn K (.ref a) == some (.type "type")) = true := by
    have h2' : (PySem.W.clsIn K a).isSome = true := h2
    rw [h2', h3] <;> rfl
  show (if ((PySem.W.clsIn K a).isSome && PySem.W.typeIn K (.ref a) == some (.type "type")) = true then PySem.W.subIn K (.ref C) (.ref a) else none) = some b
  rw [if_pos e2]
  exact h4
theorem exm_mk {K : PySem.W.Frag} {C a : Addr} {b : Bool} (h1 : PySem.W.subIn K (.ref a) (.type "BaseException") = some true) (h2 : PySem.W.isClsIn K a = true) (h3 : PySem.W.typeIn K (.ref a) = some (.type "type")) (h4 : PySem.W.subIn K (.ref C) (.ref a) = some b) : PySem.W.exmOne K (.ref C) (.ref a) = some b := by
  have e1 : (PySem.W.subIn K (.ref a) (.type "BaseException") == some true) = true := by rw [h1] <;> rfl
  unfold PySem.W.exmOne
  rw [if_pos e1]
  exact kit_cls h2 h3 h4
theorem kit_mk {K : PySem.W.Frag} {C a : Addr} {b : Bool} (hne : ((Value.ref C) == (Value.ref a)) = false) (h2 : PySem.W.isClsIn K a = true) (h3 : PySem.W.typeIn K (.ref a) = some (.type "type")) (h4 : PySem.W.subIn K (.ref C) (.ref a) = some b) : PySem.W.kitOne K (.ref C) (.ref a) = some b := by
  unfold PySem.W.kitOne
  rw [hne, if_neg Bool.false_ne_true]
  exact kit_cls h2 h3 h4
theorem kit_self {K : PySem.W.Frag} {C : Addr} : PySem.W.kitOne K (.ref C) (.ref C) = some true := by
  unfold PySem.W.kitOne
  rw [if_pos (beq_self_eq_true _)]
theorem bI_mk {K : PySem.W.Frag} {kV doc pm : Value} {an : Option Addr} {cdv ct : Value} {cc : Addr} : Binds K (PySem.W.ksFn "__init__" "BadSigns.__init__" (defArgs sBad) (defBody sBad) (defScope sBad) .none kV doc pm an cdv ct cc) ["self", "signs"] [] :=
  fun s us _ hl => match us, hl with | [_, _], _ => .of_eq rfl
theorem walk {l : PySem.W.OpenLaw} {q : Program} {loose : List Str} {XP : (Str → Option Value) → Heap → Prop} {YP : World → Heap → Prop} {d : DefRec} {K : Params → PySem.W.Frag} (hn : l.most = some 63) (hdf : d.params.defaults = [])
    (hY : ∀ (w : World) (h : Heap), YP w h → (K w.params).In h)
    (F : ∀ (w : World) (mg : Str → Option Value) (fa : Addr) (h : Heap), (K w.params).In h → h.Ns mainGlobals mg → mg d.name = some (.ref fa) →
      ∃ fd : FuncData, (∀ (s : Shared) (u : Value), BindsTo s fd ⟨[u], []⟩ [("_law_script", u)]) ∧ ∀ base : Heap, (K w.params).In base → base.Ns mainGlobals mg → FnG l.prog w (K w.params) mg base 7 fa fd ["_law_script"] (spLaw (K w.params))) :
    PySem.W.WalkO q loose XP YP l.row.toRowW d [] (fun f vs => PySem.call f vs) :=
  walk_ofG (n := 63) (k := 7) (x := "_law_script") (sp := fun w => spLaw (K w.params)) hn (by decide) hdf ⟨rfl, by decide, by decide⟩ hY F (fun _ _ a ns hl _ hS => ⟨a, ns, rfl, hS, hl, fun _ => rfl⟩)
end K1

/-! K01Z -/

open PySem PySem.W PyProof.Rows
set_option maxRecDepth 100000 in
set_option maxHeartbeats 0 in
theorem PySem.Challenge.cw_handcarried_k01_papers_and_lags_holds : PySem.Challenge.rw_handcarried_k01_papers_and_lags.Holds := by
  w_on; o_law; k_head; (case hw => w_witness2)
  k_fill
  refine K1.walk (l := PySem.Challenge.rw_handcarried_k01_papers_and_lags) rfl rfl (fun w h Y => PySem.W.kIn_of Y) ?F
  case F =>
    intro w mg fa h KX G hmg
    refine' K1.all_mk KX G hmg ?aC ?aE ?exm ?iC ?tI (K1.badf_mk KX G ?lI ?cI ?lcd ?hv ?hf ?lcc ?sup ?any ?mgS ?xL ?hbm ?sa ?exC ?tyC ?kC ?sin ?subC ?subV ?fi) (K1.bI_mk) ⟨?xhg, ?xhk, ?xhs, ?xhd, ?xha, ?xhn, ?xht, ?xhm⟩ ?hcl ⟨?yga, ?ygg, ?yexC, ?yhdC⟩ ?g1 ?g2 ?g3 (K1.fn_mk ?a_is_text ?l_is_text ?c_is_text ?k_is_text) (K1.fn_mk ?a_is_ascending ?l_is_ascending ?c_is_ascending ?k_is_ascending) (K1.fn_mk ?a_are_signs ?l_are_signs ?c_are_signs ?k_are_signs) (K1.fn_mk ?a_require_signs ?l_require_signs ?c_require_signs ?k_require_signs) (K1.fn_mk ?a_sign_value ?l_sign_value ?c_sign_value ?k_sign_value) (K1.fn_mk ?a_paper_key ?l_paper_key ?c_paper_key ?k_paper_key) (K1.fn_mk ?a_in_order ?l_in_order ?c_in_order ?k_in_order) (K1.fn_mk ?a_lag_of ?l_lag_of ?c_lag_of ?k_lag_of) (K1.fn_mk ?a_lag_on ?l_lag_on ?c_lag_on ?k_lag_on) (K1.fn_mk ?a__law_bag_of ?l__law_bag_of ?c__law_bag_of ?k__law_bag_of) (K1.fn_mk ?a__law_pick ?l__law_pick ?c__law_pick ?k__law_pick) (K1.fn_mk ?a__law_one_of ?l__law_one_of ?c__law_one_of ?k__law_one_of) (K1.fn_mk ?a__law_mixed ?l__law_mixed ?c__law_mixed ?k__law_mixed) (K1.fn_mk ?a__law_paper_of ?l__law_paper_of ?c__law_paper_of ?k__law_paper_of) (K1.fn_mk ?a__law_key_of ?l__law_key_of ?c__law_key_of ?k__law_key_of) (K1.fn_mk ?a__law_ordered ?l__law_ordered ?c__law_ordered ?k__law_ordered) (K1.fn_mk ?a__law_lag_of ?l__law_lag_of ?c__law_lag_of ?k__law_lag_of) (K1.fn_mk ?a__law_no_list ?l__law_no_list ?c__law_no_list ?k__law_no_list) (K1.fn_mk ?a__law_is_int ?l__law_is_int ?c__law_is_int ?k__law_is_int) (K1.fn_mk ?a__law_same_tuple ?l__law_same_tuple ?c__law_same_tuple ?k__law_same_tuple) (K1.fn_mk ?a__law_many_signs ?l__law_many_signs ?c__law_many_signs ?k__law_many_signs) (K1.fn_mk ?a__law_classes ?l__law_classes ?c__law_classes ?k__law_classes) (K1.fn_mk ?a__law_pieces_of ?l__law_pieces_of ?c__law_pieces_of ?k__law_pieces_of) (K1.fn_mk ?a__law_turned ?l__law_turned ?c__law_turned ?k__law_turned) (K1.fn_mk ?a__law_lags ?l__law_lags ?c__law_lags ?k__law_lags) (K1.fn_mk ?a__law_papers_in_order ?l__law_papers_in_order ?c__law_papers_in_order ?k__law_papers_in_order) (K1.fn_mk ?a__law_refused ?l__law_refused ?c__law_refused ?k__law_refused) (K1.fn_mk ?a__law_values ?l__law_values ?c__law_values ?k__law_values) (K1.fn_mk ?a_law ?l_law ?c_law ?k_law) ?b_len ?b_sum ?b_abs ?b_int ?b_range ?b_list ?b_tuple ?b_str ?b_bool ?b_sorted ?b_all ?b_min ?b_isinstance ?b_repr ?b_super (K1.clx_mk ?n_CarryError ?q_CarryError) (K1.clx_mk ?n_Malformed ?q_Malformed) (K1.clx_mk ?n_Refused ?q_Refused) (K1.clx_mk ?n_BadSigns ?q_BadSigns) (K1.clx_mk ?n_BadPaper ?q_BadPaper) (K1.clx_mk ?n_BadName ?q_BadName) (K1.clx_mk ?n_BadWalk ?q_BadWalk) (K1.clx_mk ?n_BadRule ?q_BadRule) (K1.clx_mk ?n_BadForm ?q_BadForm) (K1.clx_mk ?n_BadSlip ?q_BadSlip) (K1.clx_mk ?n_BadWay ?q_BadWay) (K1.clx_mk ?n_BadDeed ?q_BadDeed) (K1.clx_mk ?n_BadLine ?q_BadLine) (K1.clx_mk ?n_TooMany ?q_TooMany) (K1.clx_mk ?n_Twice ?q_Twice) (K1.clx_mk ?n_Unknown ?q_Unknown) (K1.clx_mk ?n_Unlike ?q_Unlike) (K1.clx_mk ?n_Unfit ?q_Unfit)
    (case aC => first | k_is)
    (case aE => first | k_is)
    (case exm => first | (refine' K1.exm_mk ?r1 ?r2 ?r3 ?r4; (case r1 => (first | k_is | rfl | decide +kernel)); (case r2 => (first | k_is | rfl | decide +kernel)); (case r3 => (first | k_is | rfl | decide +kernel)); (case r4 => (first | k_is | rfl | decide +kernel))) | rfl | decide +kernel)
    (case iC => first | k_is)
    (case tI => first | k_is)
    (case lI => first | k_is)
    (case cI => first | k_is)
    (case lcd => first | k_is)
    (case hv => first | k_is | rfl | decide +kernel)
    (case hf => first | k_is | rfl | decide +kernel)
    (case lcc => first | k_is)
    (case sup => first | k_is | rfl | decide +kernel)
    (case any => first | k_is)
    (case mgS => first | k_is)
    (case xL => first | k_is)
    (case hbm => first | k_is | rfl | decide +kernel)
    (case sa => first | k_is)
    (case exC => first | k_is)
    (case tyC => first | k_is)
    (case kC => first | k_is)
    (case sin => first | k_is | rfl | decide +kernel)
    (case subC => first | k_is | rfl | decide +kernel)
    (case subV => first | k_is)
    (case fi => first | k_is)
    (case xhg => first | k_is | rfl | decide +kernel)
    (case xhk => first | k_is | rfl | decide +kernel)
    (case xhs => first | k_is | rfl | decide +kernel)
    (case xhd => first | k_is | rfl | decide +kernel)
    (case xha => first | k_is | rfl | decide +kernel)
    (case xhn => first | k_is | rfl | decide +kernel)
    (case xht => first | k_is | rfl | decide +kernel)
    (case xhm => first | k_is | rfl | decide +kernel)
    (case hcl => first | k_is | rfl | decide +kernel)
    (case yga => first | k_is | rfl | decide +kernel)
    (case ygg => first | k_is | rfl | decide +kernel)
    (case yexC => first | k_is | rfl | decide +kernel)
    (case yhdC => first | k_is | rfl | decide +kernel)
    (case g1 => first | k_is)
    (case g2 => first | k_is)
    (case g3 => first | k_is)
    (case a_is_text => first | k_is)
    (case l_is_text => first | k_is)
    (case c_is_text => first | k_is)
    (case k_is_text => first | k_is)
    (case a_is_ascending => first | k_is)
    (case l_is_ascending => first | k_is)
    (case c_is_ascending => first | k_is)
    (case k_is_ascending => first | k_is)
    (case a_are_signs => first | k_is)
    (case l_are_signs => first | k_is)
    (case c_are_signs => first | k_is)
    (case k_are_signs => first | k_is)
    (case a_require_signs => first | k_is)
    (case l_require_signs => first | k_is)
    (case c_require_signs => first | k_is)
    (case k_require_signs => first | k_is)
    (case a_sign_value => first | k_is)
    (case l_sign_value => first | k_is)
    (case c_sign_value => first | k_is)
    (case k_sign_value => first | k_is)
    (case a_paper_key => first | k_is)
    (case l_paper_key => first | k_is)
    (case c_paper_key => first | k_is)
    (case k_paper_key => first | k_is)
    (case a_in_order => first | k_is)
    (case l_in_order => first | k_is)
    (case c_in_order => first | k_is)
    (case k_in_order => first | k_is)
    (case a_lag_of => first | k_is)
    (case l_lag_of => first | k_is)
    (case c_lag_of => first | k_is)
    (case k_lag_of => first | k_is)
    (case a_lag_on => first | k_is)
    (case l_lag_on => first | k_is)
    (case c_lag_on => first | k_is)
    (case k_lag_on => first | k_is)
    (case a__law_bag_of => first | k_is)
    (case l__law_bag_of => first | k_is)
    (case c__law_bag_of => first | k_is)
    (case k__law_bag_of => first | k_is)
    (case a__law_pick => first | k_is)
    (case l__law_pick => first | k_is)
    (case c__law_pick => first | k_is)
    (case k__law_pick => first | k_is)
    (case a__law_one_of => first | k_is)
    (case l__law_one_of => first | k_is)
    (case c__law_one_of => first | k_is)
    (case k__law_one_of => first | k_is)
    (case a__law_mixed => first | k_is)
    (case l__law_mixed => first | k_is)
    (case c__law_mixed => first | k_is)
    (case k__law_mixed => first | k_is)
    (case a__law_paper_of => first | k_is)
    (case l__law_paper_of => first | k_is)
    (case c__law_paper_of => first | k_is)
    (case k__law_paper_of => first | k_is)
    (case a__law_key_of => first | k_is)
    (case l__law_key_of => first | k_is)
    (case c__law_key_of => first | k_is)
    (case k__law_key_of => first | k_is)
    (case a__law_ordered => first | k_is)
    (case l__law_ordered => first | k_is)
    (case c__law_ordered => first | k_is)
    (case k__law_ordered => first | k_is)
    (case a__law_lag_of => first | k_is)
    (case l__law_lag_of => first | k_is)
    (case c__law_lag_of => first | k_is)
    (case k__law_lag_of => first | k_is)
    (case a__law_no_list => first | k_is)
    (case l__law_no_list => first | k_is)
    (case c__law_no_list => first | k_is)
    (case k__law_no_list => first | k_is)
    (case a__law_is_int => first | k_is)
    (case l__law_is_int => first | k_is)
    (case c__law_is_int => first | k_is)
    (case k__law_is_int => first | k_is)
    (case a__law_same_tuple => first | k_is)
    (case l__law_same_tuple => first | k_is)
    (case c__law_same_tuple => first | k_is)
    (case k__law_same_tuple => first | k_is)
    (case a__law_many_signs => first | k_is)
    (case l__law_many_signs => first | k_is)
    (case c__law_many_signs => first | k_is)
    (case k__law_many_signs => first | k_is)
    (case a__law_classes => first | k_is)
    (case l__law_classes => first | k_is)
    (case c__law_classes => first | k_is)
    (case k__law_classes => first | k_is)
    (case a__law_pieces_of => first | k_is)
    (case l__law_pieces_of => first | k_is)
    (case c__law_pieces_of => first | k_is)
    (case k__law_pieces_of => first | k_is)
    (case a__law_turned => first | k_is)
    (case l__law_turned => first | k_is)
    (case c__law_turned => first | k_is)
    (case k__law_turned => first | k_is)
    (case a__law_lags => first | k_is)
    (case l__law_lags => first | k_is)
    (case c__law_lags => first | k_is)
    (case k__law_lags => first | k_is)
    (case a__law_papers_in_order => first | k_is)
    (case l__law_papers_in_order => first | k_is)
    (case c__law_papers_in_order => first | k_is)
    (case k__law_papers_in_order => first | k_is)
    (case a__law_refused => first | k_is)
    (case l__law_refused => first | k_is)
    (case c__law_refused => first | k_is)
    (case k__law_refused => first | k_is)
    (case a__law_values => first | k_is)
    (case l__law_values => first | k_is)
    (case c__law_values => first | k_is)
    (case k__law_values => first | k_is)
    (case a_law => first | k_is)
    (case l_law => first | k_is)
    (case c_law => first | k_is)
    (case k_law => first | k_is)
    (case b_len => first | k_is)
    (case b_sum => first | k_is)
    (case b_abs => first | k_is)
    (case b_int => first | k_is)
    (case b_range => first | k_is)
    (case b_list => first | k_is)
    (case b_tuple => first | k_is)
    (case b_str => first | k_is)
    (case b_bool => first | k_is)
    (case b_sorted => first | k_is)
    (case b_all => first | k_is)
    (case b_min => first | k_is)
    (case b_isinstance => first | k_is)
    (case b_repr => first | k_is)
    (case b_super => first | k_is)
    (case n_CarryError => first | k_is)
    (case q_CarryError => first | (refine' K1.kit_mk ?r1 ?r2 ?r3 ?r4; (case r1 => first | rfl | decide); (case r2 => (first | k_is | rfl | decide +kernel)); (case r3 => (first | k_is | rfl | decide +kernel)); (case r4 => (first | k_is | rfl | decide +kernel))) | rfl | decide +kernel)
    (case n_Malformed => first | k_is)
    (case q_Malformed => first | (refine' K1.kit_mk ?r1 ?r2 ?r3 ?r4; (case r1 => first | rfl | decide); (case r2 => (first | k_is | rfl | decide +kernel)); (case r3 => (first | k_is | rfl | decide +kernel)); (case r4 => (first | k_is | rfl | decide +kernel))) | rfl | decide +kernel)
    (case n_Refused => first | k_is)
    (case q_Refused => first | (refine' K1.kit_mk ?r1 ?r2 ?r3 ?r4; (case r1 => first | rfl | decide); (case r2 => (first | k_is | rfl | decide +kernel)); (case r3 => (first | k_is | rfl | decide +kernel)); (case r4 => (first | k_is | rfl | decide +kernel))) | rfl | decide +kernel)
    (case n_BadSigns => first | k_is)
    (case q_BadSigns => first | exact K1.kit_self | rfl | decide +kernel)
    (case n_BadPaper => first | k_is)
    (case q_BadPaper => first | (refine' K1.kit_mk ?r1 ?r2 ?r3 ?r4; (case r1 => first | rfl | decide); (case r2 => (first | k_is | rfl | decide +kernel)); (case r3 => (first | k_is | rfl | decide +kernel)); (case r4 => (first | k_is | rfl | decide +kernel))) | rfl | decide +kernel)
    (case n_BadName => first | k_is)
    (case q_BadName => first | (refine' K1.kit_mk ?r1 ?r2 ?r3 ?r4; (case r1 => first | rfl | decide); (case r2 => (first | k_is | rfl | decide +kernel)); (case r3 => (first | k_is | rfl | decide +kernel)); (case r4 => (first | k_is | rfl | decide +kernel))) | rfl | decide +kernel)
    (case n_BadWalk => first | k_is)
    (case q_BadWalk => first | (refine' K1.kit_mk ?r1 ?r2 ?r3 ?r4; (case r1 => first | rfl | decide); (case r2 => (first | k_is | rfl | decide +kernel)); (case r3 => (first | k_is | rfl | decide +kernel)); (case r4 => (first | k_is | rfl | decide +kernel))) | rfl | decide +kernel)
    (case n_BadRule => first | k_is)
    (case q_BadRule => first | (refine' K1.kit_mk ?r1 ?r2 ?r3 ?r4; (case r1 => first | rfl | decide); (case r2 => (first | k_is | rfl | decide +kernel)); (case r3 => (first | k_is | rfl | decide +kernel)); (case r4 => (first | k_is | rfl | decide +kernel))) | rfl | decide +kernel)
    (case n_BadForm => first | k_is)
    (case q_BadForm => first | (refine' K1.kit_mk ?r1 ?r2 ?r3 ?r4; (case r1 => first | rfl | decide); (case r2 => (first | k_is | rfl | decide +kernel)); (case r3 => (first | k_is | rfl | decide +kernel)); (case r4 => (first | k_is | rfl | decide +kernel))) | rfl | decide +kernel)
    (case n_BadSlip => first | k_is)
    (case q_BadSlip => first | (refine' K1.kit_mk ?r1 ?r2 ?r3 ?r4; (case r1 => first | rfl | decide); (case r2 => (first | k_is | rfl | decide +kernel)); (case r3 => (first | k_is | rfl | decide +kernel)); (case r4 => (first | k_is | rfl | decide +kernel))) | rfl | decide +kernel)
    (case n_BadWay => first | k_is)
    (case q_BadWay => first | (refine' K1.kit_mk ?r1 ?r2 ?r3 ?r4; (case r1 => first | rfl | decide); (case r2 => (first | k_is | rfl | decide +kernel)); (case r3 => (first | k_is | rfl | decide +kernel)); (case r4 => (first | k_is | rfl | decide +kernel))) | rfl | decide +kernel)
    (case n_BadDeed => first | k_is)
    (case q_BadDeed => first | (refine' K1.kit_mk ?r1 ?r2 ?r3 ?r4; (case r1 => first | rfl | decide); (case r2 => (first | k_is | rfl | decide +kernel)); (case r3 => (first | k_is | rfl | decide +kernel)); (case r4 => (first | k_is | rfl | decide +kernel))) | rfl | decide +kernel)
    (case n_BadLine => first | k_is)
    (case q_BadLine => first | (refine' K1.kit_mk ?r1 ?r2 ?r3 ?r4; (case r1 => first | rfl | decide); (case r2 => (first | k_is | rfl | decide +kernel)); (case r3 => (first | k_is | rfl | decide +kernel)); (case r4 => (first | k_is | rfl | decide +kernel))) | rfl | decide +kernel)
    (case n_TooMany => first | k_is)
    (case q_TooMany => first | (refine' K1.kit_mk ?r1 ?r2 ?r3 ?r4; (case r1 => first | rfl | decide); (case r2 => (first | k_is | rfl | decide +kernel)); (case r3 => (first | k_is | rfl | decide +kernel)); (case r4 => (first | k_is | rfl | decide +kernel))) | rfl | decide +kernel)
    (case n_Twice => first | k_is)
    (case q_Twice => first | (refine' K1.kit_mk ?r1 ?r2 ?r3 ?r4; (case r1 => first | rfl | decide); (case r2 => (first | k_is | rfl | decide +kernel)); (case r3 => (first | k_is | rfl | decide +kernel)); (case r4 => (first | k_is | rfl | decide +kernel))) | rfl | decide +kernel)
    (case n_Unknown => first | k_is)
    (case q_Unknown => first | (refine' K1.kit_mk ?r1 ?r2 ?r3 ?r4; (case r1 => first | rfl | decide); (case r2 => (first | k_is | rfl | decide +kernel)); (case r3 => (first | k_is | rfl | decide +kernel)); (case r4 => (first | k_is | rfl | decide +kernel))) | rfl | decide +kernel)
    (case n_Unlike => first | k_is)
    (case q_Unlike => first | (refine' K1.kit_mk ?r1 ?r2 ?r3 ?r4; (case r1 => first | rfl | decide); (case r2 => (first | k_is | rfl | decide +kernel)); (case r3 => (first | k_is | rfl | decide +kernel)); (case r4 => (first | k_is | rfl | decide +kernel))) | rfl | decide +kernel)
    (case n_Unfit => first | k_is)
    (case q_Unfit => first | (refine' K1.kit_mk ?r1 ?r2 ?r3 ?r4; (case r1 => first | rfl | decide); (case r2 => (first | k_is | rfl | decide +kernel)); (case r3 => (first | k_is | rfl | decide +kernel)); (case r4 => (first | k_is | rfl | decide +kernel))) | rfl | decide +kernel)
