import PyProof.Rows.All
import Wide.All
import OpenK.AllK
import Wide.FinOn
import HandS.Base
import HandS.Call
import HandS.List
import HandS.Text
import PyProof.ListStr
import PyProof.StrOps2
import PyProof.SliceStr2
import KE.KRevSl
import HandS.ForMost
import HandS.Star
import HandS.TupAny
import HandS.IsInst
import HandS.NoneIn
import HandS.More
import HandS.Walk
import KE.DataEq
import HandS.Deep
import PyProof.P3Eq
import HandS.Ends
import PySem.Challenge.RW_handcarried_k04_rule_words
set_option Elab.async false
set_option linter.all false
set_option maxRecDepth 100000
set_option maxHeartbeats 2000000
/-! Br1 -/
/-! Rules of my own over the layer: list(text), text * n, text[::-1]. -/
namespace K1
open PySem PySem.Spec PyProof.Rows L2

theorem vals_pt : ∀ {xs : List V} {us : List Value}, xs.length = us.length → (∀ (j : Nat) (x : V) (u : Value), xs[j]? = some x → us[j]? = some u → RelV x u) → Vals xs us
  | [], [], _, _ => .nil
  | [], _ :: _, h, _ => by simp at h
  | _ :: _, [], h, _ => by simp at h
  | x :: xs, u :: us, h, k => .cons (k 0 x u rfl rfl) (vals_pt (by simpa using h) fun j y w a b => k (j + 1) y w (by simpa using a) (by simpa using b))

/-- the signs of a text, each a text -/
def sgn (z : Str) : List Str := z.cps.toList.map fun c => ⟨#[c]⟩

theorem call_listS {X : Cx} (hh : X.A.handled = none) : CallR X (.type "list") (fun xs H Q => ∃ z : Str, xs = [.str z] ∧ z.length ≤ sizeLine ∧ ∀ l, H l = none → Q (.ref l) (upd H l (.lst ((sgn z).map V.str)))) := by
  intro pins s σ H xs us Q I r h
  obtain ⟨z, rfl, hz, q⟩ := h
  obtain ⟨u, rfl, rx⟩ := vals1 r
  obtain ⟨t, rfl⟩ := rx
  refine call_list_str hh z t (hn := hz) fun h' tk acc c kp hS hacc => ?_
  refine ⟨.ref s.heap.objs.size, _, I.laid (t' := tk) (o := .lst ((sgn z).map V.str)) kp (Nat.le_refl _) ?_, rfl, q _ (I.hok.fresh (Nat.le_refl _))⟩
  refine ⟨?_, acc.toList, c, ?_, ?_⟩
  · have e : ((sgn z).map V.str).length = z.length := by simp [sgn, Str.length]
    rw [e]; exact hz
  · refine vals_pt ?_ ?_
    · simp [sgn, hacc.1]
    · intro j x u hx hu
      obtain ⟨c, w, hc, rfl⟩ := hacc.2 j u (by simpa using hu)
      have : x = V.str ⟨#[c]⟩ := by
        simp [sgn, hc] at hx
        exact hx.symm
      subst this
      exact ⟨w, rfl⟩
  · simpa using hS

/-- a text n times -/
def repS (z : Str) (n : Nat) : Str := ⟨(List.replicate n z.cps).foldl (· ++ ·) #[]⟩
theorem op_mul_str {X : Cx} : OpR X (binaryOp .Mult) (fun x y H Q => ∃ (z : Str) (k : Int), x = .str z ∧ y = .int k ∧ 1 ≤ k ∧ k ≤ 1000000 ∧ 1 ≤ z.length ∧ z.length * k.toNat ≤ sizeLine ∧ Q (.str (repS z k.toNat)) H) := by
  intro pins s σ H x y v u Q I rx ry h
  obtain ⟨z, k, rfl, rfl, h1, h2, h3, h4, q⟩ := h
  obtain ⟨t, rfl⟩ := rx
  obtain ⟨w, rfl⟩ := ry
  have hsl := sizeLine_eq
  refine P.mul_str ?_ ?_ ?_ ?_
  · have a1 : ¬ k < -(2 ^ 63 : Int) := by omega
    have a2 : ¬ k ≥ 2 ^ 63 := by omega
    rw [decide_eq_false a1, decide_eq_false a2]; rfl
  · intro _ _ hgt
    have hlen : (z.length : Int) ≤ 16777216 := by
      have : z.length * 1 ≤ z.length * k.toNat := Nat.mul_le_mul_left _ (by omega)
      omega
    have hq : (16777216 : Int) ≤ (2 ^ 63 - 1) / k := by
      rw [Int.le_ediv_iff_mul_le (by omega)]
      omega
    omega
  · intro _ _
    unfold Builtin.Str.tooLong
    exact decide_eq_false (by omega)
  · rw [if_neg (by omega)]
    by_cases c : (k == 1 || z.length == 0) = true
    · rw [if_pos c]
      have hk : k = 1 := by
        have h0 : (z.length == 0) = false := by simp; omega
        rw [h0, Bool.or_false] at c
        exact eq_of_beq c
      subst hk
      have e : repS z (1 : Int).toNat = z := by
        show (⟨(List.replicate 1 z.cps).foldl (· ++ ·) #[]⟩ : Str) = z
        simp [List.replicate]
      rw [e] at q
      exact ⟨.str z, H, I, ⟨t, rfl⟩, q⟩
    · rw [if_neg c]
      refine ⟨?_, .str _, H, I.tok _, ⟨_, rfl⟩, q⟩
      have e : ∀ (n : Nat) (a : Array Nat), ((List.replicate n z.cps).foldl (· ++ ·) a).size = a.size + n * z.cps.size := by
        intro n
        induction n with
        | zero => intro a; simp
        | succ n ih => intro a; rw [List.replicate_succ, List.foldl_cons, ih, Array.size_append, Nat.add_mul]; omega
      show ((List.replicate k.toNat z.cps).foldl (· ++ ·) #[]).size ≤ sizeLine
      rw [e]
      have : k.toNat * z.cps.size = z.length * k.toNat := Nat.mul_comm _ _
      simp only [Array.size_empty, Nat.zero_add]
      omega

/-- a text read from its end -/
def revS (z : Str) : Str := ⟨z.cps.toList.reverse.toArray⟩
def tRevS (te : TE) : TE := fun σ H Q => te σ H fun x H1 => ∃ z : Str, x = .str z ∧ z.length ≤ sizeLine ∧ Q (.str (revS z)) H1
theorem picked_rev (z : Str) (u : Tok) : ((slicePicked z none none (some (-1, u))).filterMap (z.cps[·]?)).toArray = z.cps.toList.reverse.toArray := by
  have e : slicePicked z none none (some (-1, u)) = sliceRange ((z.cps.size : Int) - 1) (-1) (-1) := by
    first
      | rfl
      | simp [slicePicked, Builtin.Str.strSliceIndices, Str.length]
  rw [e, PySem.W.krv_sliceRange, PySem.W.krv_range, List.filterMap_reverse, PySem.W.krv_all]
section
variable {X : Cx}
theorem pe_revS {e : Expr} {te : TE} {k : Nat} {p1 p2 p3 pos : Pos} (he : PE X e te) : PE X (.Subscript e (.Slice none none (some (.UnaryOp .USub (.Constant (.int 1) k p1) p2)) p3) pos) (tRevS te) := by
  refine ⟨fun pins s σ H Q I h => ?_⟩
  refine Subscript_ (thn (he.run pins s σ H _ I h) fun v s1 ⟨x, H1, I1, r1, z, ez, hz, q⟩ => ?_)
  subst ez
  obtain ⟨t, rfl⟩ := r1
  have hst : PO X (some (.UnaryOp .USub (.Constant (.int 1) k p1) p2)) (tPart (tUn (rU fun i => .int (-i)) (tC (.int 1)))) := po_some (pe_un un_neg pe_int)
  refine wpAny_Slice (thn (po_none.run pins s1 σ H1 (fun o G => o = none ∧ G = H1) I1 ⟨rfl, rfl⟩) fun vl s2 ⟨l, G2, I2, pl, el, g2⟩ => ?_)
  subst el g2
  refine thn (po_none.run pins s2 σ G2 (fun o G => o = none ∧ G = G2) I2 ⟨rfl, rfl⟩) fun vu s3 ⟨u, G3, I3, pu, eu, g3⟩ => ?_
  subst eu g3
  refine thn (hst.run pins s3 σ G3 (fun o G => o = some (-1) ∧ G = G3) I3 ⟨1, rfl, -1, rfl, rfl, rfl⟩) fun vs s4 ⟨o, G4, I4, ps, eo, g4⟩ => ?_
  subst eo g4
  obtain ⟨l', el, fl⟩ := IsPart.raw pl
  obtain ⟨u', eu, fu⟩ := IsPart.raw pu
  obtain ⟨w', ew, fw⟩ := IsPart.raw ps
  have l0 : l' = none := by cases l' <;> simp_all
  have u0 : u' = none := by cases u' <;> simp_all
  obtain ⟨tw, w0⟩ : ∃ tw, w' = some (-1, tw) := by
    cases w' with
    | none => simp at fw
    | some p => obtain ⟨a, b⟩ := p; simp at fw; exact ⟨b, by rw [← fw]⟩
  subst l0 u0 w0
  have I5 : Inv X pins σ G4 { s4 with heap := s4.heap.push { cls := .type "slice", data := .fields #[vl, vu, vs] } } := I4.kept (t' := s4.toks) fun b ob q => Heap.get?_push_of_some _ q
  show wpAny (model X.prog X.w) X.A (subscriptTail e (.Slice none none (some (.UnaryOp .USub (.Constant (.int 1) k p1) p2)) p3) (.str z t) (.ref s4.heap.objs.size)) (EP X pins σ Q) X.xe { s4 with heap := s4.heap.push { cls := .type "slice", data := .fields #[vl, vu, vs] } }
  refine tail_any (ops := [.str z t, .ref s4.heap.objs.size]) (typeIs_str _ _ _) (PySem.F.slot_str_getitem.lookup) ?_ (by with_unfolding_all rfl)
  have hsl : Heap.IsSlice (s4.heap.push { cls := .type "slice", data := .fields #[vl, vu, vs] }) s4.heap.objs.size none none (some (-1, tw)) := by
    rw [el, eu, ew]
    exact ⟨_, Heap.get?_push_size _ rfl, rfl, rfl⟩
  refine wpAny_getItem_str_slice (l := none) (u := none) (st := some (-1, tw)) hsl rfl ?_
  have em : sliceMade z t none none (some (-1, tw)) = Made.str (revS z) := by
    unfold sliceMade
    rw [if_neg (by simp), picked_rev]
    rfl
  rw [em]
  refine ⟨?_, .str _, G4, I5.tok _, ⟨_, rfl⟩, q⟩
  simpa [revS, Str.length] using hz
end
end K1

/-! Br2 -/
/-! Readings, backwards: one lemma for each word of a reading, so that straight code runs by itself. -/
namespace K1
open PySem L2
section
variable {σ : L2.St} {H : Hp} {Q : VK} {v : V} {i : Nat} {ta tb te : TE} {t : TA} {nx : L2.St → Hp → Prop} {rt : VK} {bk ct : L2.St → Hp → Prop}
theorem r_var (h : σ[i]? = some (some v)) (q : Q v H) : tVar i σ H Q := ⟨v, h, q⟩
theorem r_c (q : Q v H) : tC v σ H Q := q
theorem r_op {r : R2} (q : ta σ H fun x H1 => tb σ H1 fun y H2 => r x y H2 Q) : tOp r ta tb σ H Q := q
theorem r_un {r : V → Hp → VK → Prop} (q : ta σ H fun x H1 => r x H1 Q) : tUn r ta σ H Q := q
theorem r_I0 {g : Int → Int → V} {a b : Int} (q : Q (g a b) H) : rI0 g (.int a) (.int b) H Q := ⟨a, b, rfl, rfl, q⟩
theorem r_I {C : Int → Int → Prop} {g : Int → Int → V} {a b : Int} (c : C a b) (q : Q (g a b) H) : rI C g (.int a) (.int b) H Q := ⟨a, b, rfl, rfl, c, q⟩
theorem r_test {R : Bool → Hp → Prop} (q : te σ H fun x H' => ∃ k, x = .bl k ∧ R k H') : tTest te σ H R := q
theorem r_bl {b : Bool} {R : Bool → Hp → Prop} (q : R b H) : ∃ k, V.bl b = .bl k ∧ R k H := ⟨b, rfl, q⟩
theorem r_if {c : TT} (q : c σ H fun b H1 => if b = true then ta σ H1 Q else tb σ H1 Q) : tIf c ta tb σ H Q := q
theorem r_ifs {c : TT} {u w : TS} {D : Ends} (q : c σ H fun b H1 => if b = true then u D σ H1 else w D σ H1) : tIfS c u w D σ H := q
theorem r_ite {p : Prop} {dp : Decidable p} {A B : Prop} (h1 : p → A) (h2 : ¬ p → B) : if decide p = true then A else B := by
  by_cases h : p
  · rw [decide_eq_true h, if_pos rfl]; exact h1 h
  · rw [decide_eq_false h, if_neg Bool.false_ne_true]; exact h2 h
theorem r_iteN {p : Prop} {dp : Decidable p} {A B : Prop} (h1 : ¬ p → A) (h2 : p → B) : if (!decide p) = true then A else B := by
  by_cases h : p
  · rw [decide_eq_true h]; exact h2 h
  · rw [decide_eq_false h]; exact h1 h
theorem r_iteT {A B : Prop} (h1 : A) : if true = true then A else B := h1
theorem r_iteF {A B : Prop} (h1 : B) : if false = true then A else B := h1
theorem r_iteB {b : Bool} {A B : Prop} (h1 : b = true → A) (h2 : b = false → B) : if b = true then A else B := by
  cases b
  · exact h2 rfl
  · exact h1 rfl
theorem r_and {c d : TT} {R : Bool → Hp → Prop} (q : c σ H fun b H1 => if b = true then d σ H1 R else R false H1) : tAnd c d σ H R := q
theorem r_or {c d : TT} {R : Bool → Hp → Prop} (q : c σ H fun b H1 => if b = true then R true H1 else d σ H1 R) : tOr c d σ H R := q
theorem r_not {c : TT} {R : Bool → Hp → Prop} (q : c σ H fun b H1 => R (!b) H1) : tNot c σ H R := q
theorem r_tB {R : Bool → Hp → Prop} (q : te σ H fun x H' => ∃ k, x = .bl k ∧ R k H') : tB te σ H R := q
theorem r_andV (q : ta σ H fun x H1 => ∃ c, x = .bl c ∧ if c = true then tb σ H1 Q else Q (.bl false) H1) : tAndV ta tb σ H Q := q
theorem r_orV (q : ta σ H fun x H1 => ∃ c, x = .bl c ∧ if c = true then Q (.bl true) H1 else tb σ H1 Q) : tOrV ta tb σ H Q := q
theorem r_notV (q : ta σ H fun x H1 => ∃ c, x = .bl c ∧ Q (.bl (!c)) H1) : tNotV ta σ H Q := q
theorem r_cb {r : List V → Hp → VK → Prop} (q : t σ H fun vs H1 => r vs H1 Q) : tCB r t σ H Q := q
theorem r_cons {tr : TA} {R : List V → Hp → Prop} (q : ta σ H fun x H1 => tr σ H1 fun xs H2 => R (x :: xs) H2) : tCons ta tr σ H R := q
theorem r_nil {R : List V → Hp → Prop} (q : R [] H) : tNil σ H R := q
theorem r_seq {u w : TS} (q : u ⟨w ⟨nx, rt, bk, ct⟩, rt, bk, ct⟩ σ H) : tSeq u w ⟨nx, rt, bk, ct⟩ σ H := q
theorem r_asg {g : TG} (q : te σ H fun x H1 => g x σ H1 nx) : tAsg te g ⟨nx, rt, bk, ct⟩ σ H := q
theorem r_name {R : L2.St → Hp → Prop} (q : R (σ.set i (some v)) H) : gName i v σ H R := q
theorem r_ret (q : te σ H rt) : tRet te ⟨nx, rt, bk, ct⟩ σ H := q
theorem r_next (q : nx σ H) : tNext ⟨nx, rt, bk, ct⟩ σ H := q
theorem r_drop (q : te σ H fun _ H1 => nx σ H1) : tDrop te ⟨nx, rt, bk, ct⟩ σ H := q
theorem r_lst (q : t σ H fun xs H1 => xs.length ≤ sizeLine ∧ ∀ p, H1 p = none → Q (.ref p) (upd H1 p (.lst xs))) : tLst t σ H Q := q
theorem r_tup (q : t σ H fun xs H1 => xs.length ≤ sizeLine ∧ ∀ p, H1 p = none → Q (.ref p) (upd H1 p (.tup xs))) : tTup t σ H Q := q
theorem r_call {sp : Sp} {dvs : List V} {E : XK} (q : t σ H fun vs H1 => sp (vs ++ dvs) H1 Q E) : tCall sp dvs E t σ H Q := q
theorem r_gsub {to ti : TE} {s : TSet} {R : L2.St → Hp → Prop} (q : to σ H fun o H1 => ti σ H1 fun i H2 => s o i v H2 fun H3 => R σ H3) : gSub to ti s v σ H R := q
theorem r_for {wi : TI} {g : TG} {u : TS} {D : Ends} (q : wi σ H fun J H1 => ∃ W : Nat → Nat → L2.St → Hp → Prop, (∃ m, W 0 m σ H1) ∧ ∀ i m σ H, W i m σ H →
    ((J.stop i H ∧ D.nx σ H) ∨ (J.go i H ∧ ∃ N : L2.St → Hp → Prop, (∀ σ' H', N σ' H' → ∃ m', m' < m ∧ W (i + 1) m' σ' H') ∧ ∀ x H', J.yld i H x H' → g x σ H' fun σ2 H2 => u { D with nx := N, ct := N, bk := D.nx } σ2 H2))) : tFor wi g u D σ H := q
end
section
variable {K : PySem.W.Frag} {σ : L2.St} {H : Hp} {Q : VK} {v : V} {a : Addr} {xs : List V}
theorem lenL (h : SqL K H a xs) : LenV K (.ref a) H xs.length := .inl ⟨_, h, rfl⟩
theorem lenT (h : SqT K H a xs) : LenV K (.ref a) H xs.length := .inr ⟨_, h, rfl⟩
theorem lenS {x : Str} (h : x.length ≤ sizeLine) : LenV K (.str x) H x.length := ⟨h, rfl⟩
theorem r_len {y : V} {n : Nat} {R : VK} (h : LenV K y H n) (q : R (.int n) H) : ∃ x n, [y] = [x] ∧ LenV K x H n ∧ R (V.int n) H := ⟨y, n, rfl, h, q⟩
theorem r_ixL {i : Int} (h : SqL K H a xs) (e : atI xs i = some v) (q : Q v H) : rIxL K (.ref a) (.int i) H Q := ⟨a, xs, i, v, rfl, rfl, h, e, q⟩
theorem r_ixT {i : Int} (h : SqT K H a xs) (e : atI xs i = some v) (q : Q v H) : rIxT K (.ref a) (.int i) H Q := ⟨a, xs, i, v, rfl, rfl, h, e, q⟩
theorem r_ixS {x : Str} {i : Int} {c : Nat} (h : x.length ≤ sizeLine) (e : atI x.cps.toList i = some c) (q : Q (.str ⟨#[c]⟩) H) : rIxS (.str x) (.int i) H Q := ⟨x, i, c, rfl, rfl, h, e, q⟩
theorem r_sum {ns : List Int} (h : SqL K H a (ns.map V.int)) (q : Q (.int ns.sum) H) : rSum K [.ref a] H Q := ⟨a, ns, rfl, h, q⟩
theorem at_int {ns : List Int} {i : Int} (h0 : 0 ≤ i) (h1 : i < ns.length) : ∃ z, atI (ns.map V.int) i = some (.int z) ∧ z ∈ ns := by
  obtain ⟨j, rfl⟩ : ∃ j : Nat, i = j := ⟨i.toNat, by omega⟩
  have hj : j < ns.length := by omega
  exact ⟨ns[j], atI_nat (by simp [hj]), List.getElem_mem _⟩
theorem r_setL {i : Int} {j : Nat} {R : Hp → Prop} (h : H a = some (.lst xs)) (e : ixN xs.length i = some j) (q : R (upd H a (.lst (xs.set j v)))) : rSetL (.ref a) (.int i) v H R := ⟨a, xs, i, j, rfl, rfl, h, e, q⟩
end
section
variable {K : PySem.W.Frag} {σ : L2.St} {H : Hp} {a D : Addr} {xs : List V} {vs : List Nat} {te : TE} {Qd : Hp → Prop}
theorem same_new {o : HO} (h : H D = none) : Same H (upd H D o) := fun b u e => by
  rw [upd_ne (ne_of_none e h)]
  exact e
theorem sqL_new {o : HO} (h : H D = none) (q : SqL K H a xs) : SqL K (upd H D o) a xs := (same_new h).seq q
/-- [f x for x in xs], the element's value told, the heap left as it was -/
theorem lc_map {i : Nat} (f : V → V) (hS : SqL K H a xs) (hD : H D = none) (hz : xs.length ≤ sizeLine) (hw : ∀ x, wipe ((wipe σ vs).set i (some x)) vs = wipe σ vs)
    (he : ∀ x ∈ xs, ∀ (H' : Hp) (R : VK), Same H H' → R (f x) H' → te ((wipe σ vs).set i (some x)) H' R) (hd : Qd (upd H D (.lst (xs.map f)))) :
    ∃ W : Nat → Nat → Hp → Prop, (∃ m, W 0 m (upd H D (.lst []))) ∧ ∀ i₁ m H, W i₁ m H →
      ((Itl K a).stop i₁ H ∧ Qd H) ∨ ((Itl K a).go i₁ H ∧ ∃ Nx : Hp → Prop, (∀ H', Nx H' → ∃ m', m' < m ∧ W (i₁ + 1) m' H') ∧ ∀ x H', (Itl K a).yld i₁ H x H' → gName i x (wipe σ vs) H' fun σ2 H2 => wipe σ2 vs = wipe σ vs ∧ tYes σ2 H2 fun b H3 =>
        if b = true then te σ2 H3 fun y H4 => ∃ acc, H4 D = some (.lst acc) ∧ acc.length < sizeLine ∧ Nx (upd H4 D (.lst (acc ++ [y]))) else Nx H3) := by
  refine lc_list (K := K) (a := a) (xs := xs) (fun j H' => H' = upd H D (.lst ((xs.take j).map f))) (by simp) (fun j H' _ e => by rw [e]; exact sqL_new hD hS) ?_ (fun H' e => by rw [e, List.take_length]; exact hd)
  rintro j x H' hx rfl
  have hj : j < xs.length := (List.getElem?_eq_some_iff.mp hx).1
  have hm : x ∈ xs := List.mem_of_getElem? hx
  refine ⟨hw x, ?_⟩
  show te _ _ _
  refine he x hm _ _ (same_new hD) ⟨_, upd_same, ?_, ?_⟩
  · simp only [List.length_map, List.length_take]
    omega
  · rw [upd_upd, List.take_succ, hx]
    simp
end
/-! ### own defs -/
def Own (P : Program) (w : World) (K : PySem.W.Frag) (mg : Str → Option Value) (base : Heap) (x : Str) (k : Nat) (ps : List Str) (sp : Sp) : Prop :=
  ∃ (f : Addr) (fd : FuncData), FnOk P w K mg base CX0 k f fd ps sp ∧ mg x = some (.ref f) ∧ PySem.W.keepIn K (.ref f) = true ∧ Binds K fd ps []
theorem pe_own {X : Cx} {x : Str} {k : Nat} {ps : List Str} {sp : Sp} {e : Expr} {es : List Expr} {t : TA} {p pos : Pos} (O : Own X.prog X.w X.K X.mg X.base x k ps sp) (hr : Room k X.A) (ha : PA X (e :: es) t) (hg : Gl X x := by rfl)
    (hdb : (x == ("__debug__" : Str)) = false := by decide) (he : starEach (e :: es) X.env = (false, eval e X.env) :: starEach es X.env := by rfl) (hpl : (backTo pos (starEach es X.env)).any (·.1) = false := by rfl) :
    PE X (.Call (.Name x p) (e :: es) [] pos) (tCall sp [] E0 t) := by
  obtain ⟨f, fd, G, m, kp, b⟩ := O
  exact pe_call G hr hg m kp b .nil pass0 ha hdb he hpl
theorem Own.imp {P : Program} {w : World} {K : PySem.W.Frag} {mg : Str → Option Value} {base : Heap} {x : Str} {k : Nat} {ps : List Str} {sp sp' : Sp} (O : Own P w K mg base x k ps sp) (h : ∀ vs H Q E, sp' vs H Q E → sp vs H Q E) : Own P w K mg base x k ps sp' := by
  obtain ⟨f, fd, G, r⟩ := O
  exact ⟨f, fd, G.imp h, r⟩
/-- everywhere but at b the heap is the same -/
def Off (b : Addr) (H H' : Hp) : Prop := ∀ c, c ≠ b → H' c = H c
theorem Off.refl (b : Addr) (H : Hp) : Off b H H := fun _ _ => rfl
theorem Off.trans {b : Addr} {H H1 H2 : Hp} (x : Off b H H1) (y : Off b H1 H2) : Off b H H2 := fun c h => (y c h).trans (x c h)
theorem Off.upd {b : Addr} {H : Hp} {o : HO} : Off b H (upd H b o) := fun _ h => upd_ne h
theorem Off.at {b c : Addr} {H H' : Hp} {o : HO} (x : Off b H H') (h : c ≠ b) (e : H c = some o) : H' c = some o := (x c h).trans e
theorem Off.none {b c : Addr} {H H' : Hp} {u : HO} (x : Off b H H') (hb : H b = some u) (hb' : ∃ u, H' b = some u) (e : H c = none) : H' c = none := by
  by_cases h : c = b
  · subst h; rw [hb] at e; cases e
  · exact (x c h).trans e
theorem Off.free {b c : Addr} {H H' : Hp} (x : Off b H H') (hb' : ∃ u, H' b = some u) (e : H' c = Option.none) : c ≠ b ∧ H c = Option.none := by
  have h : c ≠ b := fun h => by obtain ⟨u, q⟩ := hb'; rw [h, q] at e; cases e
  exact ⟨h, (x c h).symm.trans e⟩
section
variable {K : PySem.W.Frag} {σ : L2.St} {H : Hp} {Q : VK} {v : V} {a : Addr} {xs : List V} {te to : TE} {t : TA} {lo hi : Option Int}
theorem r_bm {T : String} {r : V → List V → Hp → VK → Prop} (q : to σ H fun x H1 => tyV K T x H1 ∧ t σ H1 fun ys H2 => r x ys H2 Q) : tBM K T r to t σ H Q := q
theorem r_bm0 {T : String} {r : V → List V → Hp → VK → Prop} (q : to σ H fun x H1 => tyV K T x H1 ∧ r x [] H1 Q) : tBM0 K T r to σ H Q := q
theorem r_sl {r : V → Option Int → Option Int → Hp → VK → Prop} {tl th : TO} (q : te σ H fun x H1 => tl σ H1 fun l H2 => th σ H2 fun u H3 => r x l u H3 Q) : tSl r te tl th σ H Q := q
theorem r_noPart {R : Option Int → Hp → Prop} (q : R none H) : tNoPart σ H R := q
theorem r_part {R : Option Int → Hp → Prop} (q : te σ H fun x H1 => ∃ i, x = .int i ∧ R (some i) H1) : tPart te σ H R := q
theorem r_slS {z : Str} (h : z.length ≤ sizeLine) (q : Q (.str (cutS z lo hi)) H) : rSlS (.str z) lo hi H Q := ⟨z, rfl, h, q⟩
theorem r_slL (h : SqL K H a xs) (q : ∀ p, H p = none → Q (.ref p) (upd H p (.lst (cutV xs lo hi)))) : rSlL K (.ref a) lo hi H Q := ⟨a, xs, rfl, h, q⟩
theorem r_iStr {R : It → Hp → Prop} (q : te σ H fun w H1 => ∃ x, w = .str x ∧ R (Its x) H1) : iStr te σ H R := q
theorem r_iRng1 {R : It → Hp → Prop} (q : t σ H fun vs H1 => ∃ j : Int, vs = [.int j] ∧ -(2 ^ 62) ≤ j ∧ j < 2 ^ 62 ∧ R (Itr 0 j.toNat) H1) : iRng1 t σ H R := q
theorem r_m1 {r : V → List V → Hp → VK → Prop} (q : to σ H fun x H1 => (∃ z, x = .str z) ∧ te σ H1 fun y H2 => r x [y] H2 Q) : tM1 r to te σ H Q := q
theorem tyL {H : Hp} (h : SqL K H a xs) : tyV K "list" (.ref a) H := .inl ⟨rfl, _, h⟩
theorem SqL.off {b : Addr} {H' : Hp} (h : SqL K H a xs) (n : a ≠ b) (o : Off b H H') : SqL K H' a xs := by
  rcases h with (h | ⟨u, h⟩) | h
  · exact .inl (.inl (o.at n h))
  · exact .inl (.inr ⟨u, o.at n h⟩)
  · exact .inr h
/-- what was tracked stands, but at b -/
def Kp (b : Addr) (H H' : Hp) : Prop := ∀ c o, c ≠ b → H c = some o → H' c = some o
theorem Kp.refl (b : Addr) (H : Hp) : Kp b H H := fun _ _ _ e => e
theorem Kp.trans {b : Addr} {H H1 H2 : Hp} (x : Kp b H H1) (y : Kp b H1 H2) : Kp b H H2 := fun c o n e => y c o n (x c o n e)
theorem Off.kp {b : Addr} {H H' : Hp} (x : Off b H H') : Kp b H H' := fun c o n e => x.at n e
theorem Same.kp {b : Addr} {H H' : Hp} (x : Same H H') : Kp b H H' := fun c o _ e => x c o e
theorem Kp.seq {b : Addr} {H' : Hp} (o : Kp b H H') (n : a ≠ b) (h : SqL K H a xs) : SqL K H' a xs := by
  rcases h with (h | ⟨u, h⟩) | h
  · exact .inl (.inl (o _ _ n h))
  · exact .inl (.inr ⟨u, o _ _ n h⟩)
  · exact .inr h
theorem Kp.free {b c : Addr} {H' : Hp} {u : HO} (o : Kp b H H') (hb : H' b = some u) (e : H' c = none) : H c = none := by
  cases q : H c with
  | none => rfl
  | some w =>
    have n : c ≠ b := fun z => by rw [z, hb] at e; cases e
    rw [o c w n q] at e
    cases e
theorem Kp.off {b c : Addr} {H' H2 : Hp} {u : HO} (o : Kp b H H') (x : Off c H' H2) (hc : H c = none) (hb : H b = some u) : Kp b H H2 := fun d w n e => by
  have z : d ≠ c := fun z => by rw [z, hc] at e; cases e
  exact x.at z (o d w n e)
theorem Kp.same {b : Addr} {H' : Hp} (o : Kp b H H') (hb : H b = none) : Same H H' := fun c w e => o c w (fun z => by rw [z, hb] at e; cases e) e
/-- a row: a text's signs, or a list's items -/
def RowAt (K : PySem.W.Frag) (H : Hp) (b : Addr) (r : V) (items : List V) : Prop :=
  (∃ z : Str, r = .str z ∧ items = (sgn z).map V.str ∧ z.length ≤ 1000) ∨ ∃ l, r = .ref l ∧ SqL K H l items ∧ l ≠ b ∧ items.length ≤ 1000
theorem sgn_len (z : Str) : (sgn z).length = z.length := by simp [sgn, Str.length]
theorem small_line {n : Nat} (h : n ≤ 1000) : n ≤ sizeLine := Nat.le_of_lt (small1000 h)
theorem RowAt.len {K : PySem.W.Frag} {H : Hp} {b : Addr} {r : V} {items : List V} (h : RowAt K H b r items) : LenV K r H items.length ∧ items.length ≤ 1000 := by
  rcases h with ⟨z, rfl, rfl, hz⟩ | ⟨l, rfl, h, _, hz⟩
  · rw [List.length_map, sgn_len]
    exact ⟨lenS (small_line hz), hz⟩
  · exact ⟨lenL h, hz⟩
theorem r_rowix {b : Addr} {r : V} {items : List V} {i : Int} {x : V} (h : RowAt K H b r items) (e : atI items i = some x) (q : Q x H) : rIx K r (.int i) H Q := by
  rcases h with ⟨z, rfl, rfl, hz⟩ | ⟨l, rfl, h, _, hz⟩
  · refine .inr (.inr ?_)
    have e' : atI z.cps.toList i = (atI z.cps.toList i) := rfl
    unfold atI at e
    have el : ((sgn z).map V.str).length = z.cps.toList.length := by simp [sgn]
    rw [el] at e
    cases hj : ixN z.cps.toList.length i with
    | none => rw [hj] at e; cases e
    | some j =>
      rw [hj] at e
      have e2 : ((sgn z).map V.str)[j]? = some x := e
      cases hc : z.cps.toList[j]? with
      | none =>
        rw [sgn, List.map_map, List.getElem?_map, hc] at e2
        cases e2
      | some c =>
        rw [sgn, List.map_map, List.getElem?_map, hc] at e2
        have e3 : x = V.str ⟨#[c]⟩ := (Option.some.inj e2).symm
        subst e3
        exact r_ixS (small_line hz) (by unfold atI; rw [hj]; exact hc) q
  · exact .inl (r_ixL h e q)
theorem RowAt.off {b : Addr} {r : V} {items : List V} {H' : Hp} (h : RowAt K H b r items) (o : Off b H H') : RowAt K H' b r items := by
  rcases h with ⟨z, e⟩ | ⟨l, rfl, h, n, hz⟩
  · exact .inl ⟨z, e⟩
  · exact .inr ⟨l, rfl, SqL.off h n o, n, hz⟩
theorem at_nat' {α : Type} {xs : List α} {i : Int} (h0 : 0 ≤ i) (h1 : i < xs.length) : ∃ x, atI xs i = some x ∧ x ∈ xs ∧ xs[i.toNat]? = some x := by
  obtain ⟨j, rfl⟩ : ∃ j : Nat, i = j := ⟨i.toNat, by omega⟩
  have hj : j < xs.length := by omega
  exact ⟨xs[j], atI_nat (by simp [hj]), List.getElem_mem _, by simp [hj]⟩
end
section
variable {K : PySem.W.Frag} {a : Addr} {xs : List V} {lo : Int} {n : Nat} {g : TG} {tb : TS} {nx : L2.St → Hp → Prop} {rt : VK} {σ : L2.St} {H : Hp}
/-- a for over a range, the ends written out -/
theorem fr_range (Pv : Nat → L2.St → Hp → Prop) (h0 : Pv 0 σ H)
    (hs : ∀ i σ H, i < n → Pv i σ H → g (.int (lo + i)) σ H fun σ2 H2 => tb ⟨Pv (i + 1), rt, nx, Pv (i + 1)⟩ σ2 H2) (hd : ∀ σ H, Pv n σ H → nx σ H) :
    ∃ W : Nat → Nat → L2.St → Hp → Prop, (∃ m, W 0 m σ H) ∧ ∀ i m σ H, W i m σ H →
      ((Itr lo n).stop i H ∧ nx σ H) ∨ ((Itr lo n).go i H ∧ ∃ N : L2.St → Hp → Prop, (∀ σ' H', N σ' H' → ∃ m', m' < m ∧ W (i + 1) m' σ' H') ∧ ∀ x H', (Itr lo n).yld i H x H' → g x σ H' fun σ2 H2 => tb ⟨N, rt, nx, N⟩ σ2 H2) :=
  for_range (D := ⟨nx, rt, nx, nx⟩) Pv h0 hs hd
/-- a for over a list -/
theorem fr_list (Pv : Nat → L2.St → Hp → Prop) (h0 : Pv 0 σ H) (hl : ∀ i σ H, i ≤ xs.length → Pv i σ H → SqL K H a xs)
    (hs : ∀ i x σ H, xs[i]? = some x → Pv i σ H → g x σ H fun σ2 H2 => tb ⟨Pv (i + 1), rt, nx, Pv (i + 1)⟩ σ2 H2) (hd : ∀ σ H, Pv xs.length σ H → nx σ H) :
    ∃ W : Nat → Nat → L2.St → Hp → Prop, (∃ m, W 0 m σ H) ∧ ∀ i m σ H, W i m σ H →
      ((Itl K a).stop i H ∧ nx σ H) ∨ ((Itl K a).go i H ∧ ∃ N : L2.St → Hp → Prop, (∀ σ' H', N σ' H' → ∃ m', m' < m ∧ W (i + 1) m' σ' H') ∧ ∀ x H', (Itl K a).yld i H x H' → g x σ H' fun σ2 H2 => tb ⟨N, rt, nx, N⟩ σ2 H2) :=
  for_list (D := ⟨nx, rt, nx, nx⟩) Pv h0 hl hs hd
theorem fr_tup (Pv : Nat → L2.St → Hp → Prop) (h0 : Pv 0 σ H) (hl : ∀ i σ H, i ≤ xs.length → Pv i σ H → SqT K H a xs)
    (hs : ∀ i x σ H, xs[i]? = some x → Pv i σ H → g x σ H fun σ2 H2 => tb ⟨Pv (i + 1), rt, nx, Pv (i + 1)⟩ σ2 H2) (hd : ∀ σ H, Pv xs.length σ H → nx σ H) :
    ∃ W : Nat → Nat → L2.St → Hp → Prop, (∃ m, W 0 m σ H) ∧ ∀ i m σ H, W i m σ H →
      ((Itt K a).stop i H ∧ nx σ H) ∨ ((Itt K a).go i H ∧ ∃ N : L2.St → Hp → Prop, (∀ σ' H', N σ' H' → ∃ m', m' < m ∧ W (i + 1) m' σ' H') ∧ ∀ x H', (Itt K a).yld i H x H' → g x σ H' fun σ2 H2 => tb ⟨N, rt, nx, N⟩ σ2 H2) :=
  for_tup (D := ⟨nx, rt, nx, nx⟩) Pv h0 hl hs hd
end
end K1

/-! B4 -/
namespace K1
open PySem L2 PyProof.Rows
abbrev tl (z : Str) : List Nat := z.cps.toList
section
variable {K : PySem.W.Frag} {σ : L2.St} {H : Hp} {Q : VK} {x y v : V} {vs : List V}
theorem r_eq (h : scal x y = true) (q : Q (.bl (decide (x = y))) H) : rEq x y H Q := ⟨h, q⟩
theorem r_ne (h : scal x y = true) (q : Q (.bl (!decide (x = y))) H) : rNe x y H Q := ⟨h, q⟩
theorem r_gnil {R : L2.St → Hp → Prop} (q : R σ H) : gNil [] σ H R := ⟨rfl, q⟩
theorem r_gcons {t : TG} {u : TGs} {R : L2.St → Hp → Prop} (q : t v σ H fun σ' H' => u vs σ' H' R) : gCons t u (v :: vs) σ H R := ⟨v, vs, rfl, q⟩
theorem r_isi {c : V} {t u : Value} {b : Bool} (hc : ClsV c u) (ht : TyX K H x t) (hk : PySem.W.kitOne K t u = some b) (q : Q (.bl b) H) : rIsi K [x, c] H Q := ⟨x, c, t, u, b, rfl, hc, ht, hk, q⟩
theorem r_all {a : Addr} {bs : List Bool} (h : SqL K H a (bs.map V.bl)) (q : Q (.bl (bs.all id)) H) : rAll K [.ref a] H Q := ⟨a, bs, rfl, h, q⟩
theorem r_yes {p : Prop} {dp : Decidable p} {A B : Prop} (h : p) (q : A) : if decide p = true then A else B := by
  rw [decide_eq_true h, if_pos rfl]; exact q
theorem r_no {p : Prop} {dp : Decidable p} {A B : Prop} (h : ¬ p) (q : B) : if decide p = true then A else B := by
  rw [decide_eq_false h, if_neg Bool.false_ne_true]; exact q
theorem tyL' {T : String} (e : T = "list") {a : Addr} {xs : List V} (h : SqL K H a xs) : tyV K T (.ref a) H := by rw [e]; exact tyL h
end
section
variable {K : PySem.W.Frag} {σ : L2.St} {H : Hp} {Q : VK} {D : Addr} {vs : List Nat} {te : TE} {Qd : Hp → Prop} {ta tb tc : TE}
theorem r_chain {r r' : R2} (q : ta σ H fun x H1 => tb σ H1 fun y H2 => r x y H2 fun z H3 => ∃ k, z = .bl k ∧ (if k = true then tc σ H3 fun w' H4 => r' y w' H4 Q else Q (.bl false) H3)) : tChain r r' ta tb tc σ H Q := q
/-- [f c for c in text] -/
theorem lc_smap {i : Nat} {z : Str} (f : Nat → V) (hD : H D = none) (hz : z.length ≤ sizeLine) (hw : ∀ x, wipe ((wipe σ vs).set i (some x)) vs = wipe σ vs)
    (he : ∀ c ∈ tl z, ∀ (H' : Hp) (R : VK), Same H H' → R (f c) H' → te ((wipe σ vs).set i (some (.str ⟨#[c]⟩))) H' R) (hd : Qd (upd H D (.lst ((tl z).map f)))) :
    ∃ W : Nat → Nat → Hp → Prop, (∃ m, W 0 m (upd H D (.lst []))) ∧ ∀ i₁ m H, W i₁ m H →
      ((Its z).stop i₁ H ∧ Qd H) ∨ ((Its z).go i₁ H ∧ ∃ Nx : Hp → Prop, (∀ H', Nx H' → ∃ m', m' < m ∧ W (i₁ + 1) m' H') ∧ ∀ x H', (Its z).yld i₁ H x H' → gName i x (wipe σ vs) H' fun σ2 H2 => wipe σ2 vs = wipe σ vs ∧ tYes σ2 H2 fun b H3 =>
        if b = true then te σ2 H3 fun y H4 => ∃ acc, H4 D = some (.lst acc) ∧ acc.length < sizeLine ∧ Nx (upd H4 D (.lst (acc ++ [y]))) else Nx H3) := by
  have hl : z.length = (tl z).length := by simp [Str.length]
  have hsz : z.cps.size = (tl z).length := by simp
  refine ⟨fun j m H' => m = (tl z).length - j ∧ j ≤ (tl z).length ∧ H' = upd H D (.lst (((tl z).take j).map f)), ⟨_, rfl, Nat.zero_le _, rfl⟩, ?_⟩
  rintro j m H' ⟨rfl, hj, rfl⟩
  by_cases hlt : j < (tl z).length
  · refine .inr ⟨by show j < z.cps.size; omega, fun H' => j + 1 ≤ (tl z).length ∧ H' = upd H D (.lst (((tl z).take (j + 1)).map f)), fun H' ⟨a, b⟩ => ⟨(tl z).length - (j + 1), by omega, rfl, a, b⟩, ?_⟩
    rintro x H' ⟨rfl, c, hc, rfl⟩
    have hc' : (tl z)[j]? = some c := by simpa using hc
    refine ⟨hw _, ?_⟩
    show te _ _ _
    refine he c (List.mem_of_getElem? hc') _ _ (same_new hD) ⟨_, upd_same, ?_, by omega, ?_⟩
    · simp only [List.length_map, List.length_take]; omega
    · rw [upd_upd, List.take_succ, hc']; simp
  · have e : j = (tl z).length := by omega
    refine .inl ⟨by show z.cps.size ≤ j; omega, ?_⟩
    rw [e, List.take_length]; exact hd
end
/-! ### a list or a tuple -/
def SqIt (K : PySem.W.Frag) (x : V) (R : It → Hp → Prop) (H1 : Hp) : Prop := ∃ a, x = .ref a ∧ (((∃ xs, SqL K H1 a xs) ∧ R (Itl K a) H1) ∨ ((∃ xs, SqT K H1 a xs) ∧ R (Itt K a) H1))
def iSq (K : PySem.W.Frag) (tl : TE) : TI := fun σ H R => tl σ H fun x H1 => SqIt K x R H1
theorem r_iSq {K : PySem.W.Frag} {te : TE} {σ : L2.St} {H : Hp} {R : It → Hp → Prop} (q : te σ H fun x H1 => SqIt K x R H1) : iSq K te σ H R := q
/-- an iterator that has just been made stands for its walk -/
theorem sq_born {X : Cx} {pins : List (Addr × Obj)} {σ : L2.St} {tg : Expr} {H : Hp} {s : Shared} {J : It} {tn : Nat → Heap → Prop} {R : It → Hp → Prop} {cls : String} {held : Array Value} (known : Inv X pins σ H s)
    (turns : Turn X.prog X.w X.K tg J [s.heap.objs.size] s.heap.objs.size tn) (z : tn 0 (s.heap.push { cls := .type cls, data := .fields held })) (r : R J H) :
    PIE X pins σ tg R (.ref s.heap.objs.size) { s with heap := s.heap.push { cls := .type cls, data := .fields held } } := by
  have still : Inv X pins σ H { s with heap := s.heap.push { cls := .type cls, data := .fields held } } := known.kept (t' := s.toks) fun _ _ => Heap.get?_push_of_some _
  have young : ∀ b ∈ [s.heap.objs.size], FpOk X pins H b := by
    intro b mem
    rw [List.mem_singleton.mp mem]
    exact known.fpOk Nat.le.refl (known.hok.fresh Nat.le.refl)
  exact ⟨_, _, tn, J, H, rfl, still, turns, z, young, r⟩
theorem pi_sq {X : Cx} {tg walked : Expr} {te : TE} (he : PE X walked te) : PI X tg walked (iSq X.K te) where
  run := fun pins s σ H R known reads => by
    refine thn (he.run pins s σ H _ known reads) ?_
    rintro v s1 ⟨x, H1, known1, rel, a, rfl, ⟨⟨xs, isList⟩, r⟩ | ⟨⟨xs, isTup⟩, r⟩⟩
    · obtain ⟨_, _, there, _⟩ := known1.list isList
      cases rel
      exact wpAny_pyIter_list there.isList (sq_born known1 (turn_list a _) ⟨_, Heap.get?_push_size _ rfl, rfl, rfl⟩ r)
    · obtain ⟨cells, _, there, _⟩ := known1.tuple isTup
      cases rel
      exact wpAny_pyIter_tuple (items := cells.toArray) there (sq_born known1 (turn_tuple a _) ⟨_, Heap.get?_push_size _ rfl, rfl, rfl⟩ r)
theorem sl_sq {X : Cx} : SlR X (fun x lo hi H Q => rSlL X.K x lo hi H Q ∨ rSlA X.K x lo hi H Q) := SlR.or sl_list sl_tupA
def Sq (K : PySem.W.Frag) (H : Hp) (v : V) (xs : List V) : Prop := ∃ a, v = .ref a ∧ (SqL K H a xs ∨ SqT K H a xs)
section
variable {K : PySem.W.Frag} {H H' : Hp} {a : Addr} {xs : List V} {v : V}
theorem Same.sqT (e : Same H H') (h : SqT K H a xs) : SqT K H' a xs := by
  rcases h with (h | ⟨o, h⟩) | h
  · exact .inl (.inl (e _ _ h))
  · exact .inl (.inr ⟨o, e _ _ h⟩)
  · exact .inr h
/-- lists and tuples stand -/
def Keeps (K : PySem.W.Frag) (H H' : Hp) : Prop := (∀ a xs, SqL K H a xs → SqL K H' a xs) ∧ ∀ a xs, SqT K H a xs → SqT K H' a xs
theorem Keeps.refl : Keeps K H H := ⟨fun _ _ h => h, fun _ _ h => h⟩
theorem Keeps.trans {H2 : Hp} (x : Keeps K H H') (y : Keeps K H' H2) : Keeps K H H2 := ⟨fun a xs h => y.1 a xs (x.1 a xs h), fun a xs h => y.2 a xs (x.2 a xs h)⟩
theorem Same.keeps (e : Same H H') : Keeps K H H' := ⟨fun _ _ h => e.seq h, fun _ _ h => Same.sqT e h⟩
theorem Kp.keeps {b : Addr} {C dx : Addr} {fs : List (Str × V)} (e : Kp b H H') (hb : H b = some (.ins C dx fs)) : Keeps K H H' := by
  have n1 : ∀ {c : Addr} {o : HO}, H c = some o → (∀ C dx fs, o ≠ .ins C dx fs) → H' c = some o := fun {c o} h k => e c o (fun z => by rw [z, hb] at h; exact k _ _ _ (Option.some.inj h).symm) h
  refine ⟨fun a xs h => ?_, fun a xs h => ?_⟩
  · rcases h with (h | ⟨o, h⟩) | h
    · exact .inl (.inl (n1 h (fun _ _ _ z => by cases z)))
    · exact .inl (.inr ⟨o, n1 h (fun _ _ _ z => by cases z)⟩)
    · exact .inr h
  · rcases h with (h | ⟨o, h⟩) | h
    · exact .inl (.inl (n1 h (fun _ _ _ z => by cases z)))
    · exact .inl (.inr ⟨o, n1 h (fun _ _ _ z => by cases z)⟩)
    · exact .inr h
theorem Kp.sqT {b : Addr} {ys : List V} (e : Kp b H H') (hb : H b = some (.lst ys)) (h : SqT K H a xs) : SqT K H' a xs := by
  have n1 : ∀ {c : Addr} {o : HO}, H c = some o → (∀ ys, o ≠ .lst ys) → H' c = some o := fun {c o} h k => e c o (fun z => by rw [z, hb] at h; exact k _ (Option.some.inj h).symm) h
  rcases h with (h | ⟨o, h⟩) | h
  · exact .inl (.inl (n1 h (fun _ z => by cases z)))
  · exact .inl (.inr ⟨o, n1 h (fun _ z => by cases z)⟩)
  · exact .inr h
theorem Sq.keep (e : Keeps K H H') (h : Sq K H v xs) : Sq K H' v xs := by
  obtain ⟨a, rfl, h | h⟩ := h
  · exact ⟨a, rfl, .inl (e.1 _ _ h)⟩
  · exact ⟨a, rfl, .inr (e.2 _ _ h)⟩
theorem Sq.same (e : Same H H') (h : Sq K H v xs) : Sq K H' v xs := h.keep (Same.keeps e)
theorem Sq.len (h : Sq K H v xs) : LenV K v H xs.length := by
  obtain ⟨a, rfl, h | h⟩ := h
  · exact lenL h
  · exact lenT h
variable {Q : VK} {σ : L2.St}
theorem r_ixSq {i : Int} {y : V} (h : Sq K H v xs) (e : atI xs i = some y) (q : Q y H) : rIx K v (.int i) H Q := by
  obtain ⟨a, rfl, h | h⟩ := h
  · exact .inl (r_ixL h e q)
  · exact .inr (.inl (r_ixT h e q))
theorem r_slSq {lo hi : Option Int} (h : Sq K H v xs) (q : ∀ v' H', Same H H' → Sq K H' v' (cutV xs lo hi) → Q v' H') : rSlL K v lo hi H Q ∨ rSlA K v lo hi H Q := by
  obtain ⟨a, rfl, h | h⟩ := h
  · exact .inl ⟨a, xs, rfl, h, fun p np => q _ _ (same_new np) ⟨p, rfl, .inl (SqL.of upd_same)⟩⟩
  · refine .inr ⟨a, xs, rfl, h, fun w => ?_, fun _ p np => q _ _ (same_new np) ⟨p, rfl, .inr (SqT.of upd_same)⟩⟩
    have e : cutV xs lo hi = xs := by
      unfold cutV
      rw [w.1, w.2, List.drop_zero, Nat.sub_zero, List.take_length]
    exact q _ _ (Same.refl _) (by rw [e]; exact ⟨a, rfl, .inr h⟩)
theorem r_star {te : TE} {t : TA} {R : List V → Hp → Prop} (q : te σ H fun x H1 => ∃ p xs, x = V.ref p ∧ (SqT K H1 p xs ∨ SqL K H1 p xs) ∧ t σ H1 fun ys H2 => R (xs ++ ys) H2) : StX.tStar K te t σ H R := q
theorem r_starSq {R : List V → Prop} (h : Sq K H v xs) (q : R xs) : ∃ p zs, v = V.ref p ∧ (SqT K H p zs ∨ SqL K H p zs) ∧ R zs := by
  obtain ⟨a, rfl, h | h⟩ := h
  · exact ⟨a, xs, rfl, .inr h, q⟩
  · exact ⟨a, xs, rfl, .inl h, q⟩
end
section
variable {K : PySem.W.Frag} {v : V} {xs : List V} {g : TG} {tb : TS} {nx : L2.St → Hp → Prop} {rt : VK} {σ : L2.St} {H : Hp}
/-- what stands at v stands on -/
def KeepAt (K : PySem.W.Frag) (v : V) (H H' : Hp) : Prop := ∀ a xs, v = .ref a → (SqL K H a xs → SqL K H' a xs) ∧ (SqT K H a xs → SqT K H' a xs)
theorem Keeps.at {v : V} {H' : Hp} (k : Keeps K H H') : KeepAt K v H H' := fun a xs _ => ⟨k.1 a xs, k.2 a xs⟩
theorem Kp.at {v : V} {H' : Hp} {L : Addr} (k : Kp L H H') (n : v ≠ .ref L) : KeepAt K v H H' := fun a xs e => by
  have na : a ≠ L := fun q => n (by rw [e, q])
  refine ⟨k.seq na, fun h => ?_⟩
  rcases h with (h | ⟨u, h⟩) | h
  · exact .inl (.inl (k _ _ na h))
  · exact .inl (.inr ⟨u, k _ _ na h⟩)
  · exact .inr h
theorem KeepAt.sq {v : V} {H' : Hp} (k : KeepAt K v H H') (h : Sq K H v xs) : Sq K H' v xs := by
  obtain ⟨a, e, h | h⟩ := h
  · exact ⟨a, e, .inl ((k a xs e).1 h)⟩
  · exact ⟨a, e, .inr ((k a xs e).2 h)⟩
/-- a for over a list or a tuple -/
theorem fr_sq {R : It → Hp → Prop} (h : Sq K H v xs) (Pv : Nat → L2.St → Hp → Prop) (h0 : Pv 0 σ H) (hl : ∀ i σ H', i ≤ xs.length → Pv i σ H' → KeepAt K v H H')
    (hs : ∀ i x σ H, xs[i]? = some x → Pv i σ H → g x σ H fun σ2 H2 => tb ⟨Pv (i + 1), rt, nx, Pv (i + 1)⟩ σ2 H2) (hd : ∀ σ H, Pv xs.length σ H → nx σ H)
    (hR : ∀ J, (∃ W : Nat → Nat → L2.St → Hp → Prop, (∃ m, W 0 m σ H) ∧ ∀ i m σ H, W i m σ H →
      ((It.stop J i H ∧ nx σ H) ∨ (It.go J i H ∧ ∃ N : L2.St → Hp → Prop, (∀ σ' H', N σ' H' → ∃ m', m' < m ∧ W (i + 1) m' σ' H') ∧ ∀ x H', It.yld J i H x H' → g x σ H' fun σ2 H2 => tb ⟨N, rt, nx, N⟩ σ2 H2))) → R J H) :
    SqIt K v R H := by
  obtain ⟨a, rfl, h | h⟩ := h
  · exact ⟨a, rfl, .inl ⟨⟨xs, h⟩, hR _ (fr_list Pv h0 (fun i σ H' hi p => (hl i σ H' hi p a xs rfl).1 h) hs hd)⟩⟩
  · exact ⟨a, rfl, .inr ⟨⟨xs, h⟩, hR _ (fr_tup Pv h0 (fun i σ H' hi p => (hl i σ H' hi p a xs rfl).2 h) hs hd)⟩⟩
/-- a slice that is not the whole: a new thing -/
theorem r_slNew {lo hi : Option Int} {Q : VK} (h : Sq K H v xs) (nw : ¬ (HT.sIx xs.length 0 lo = 0 ∧ HT.sIx xs.length xs.length hi = xs.length)) (q : ∀ p H', H p = none → Same H H' → Sq K H' (.ref p) (cutV xs lo hi) → Q (.ref p) H') : rSlL K v lo hi H Q ∨ rSlA K v lo hi H Q := by
  obtain ⟨a, rfl, h | h⟩ := h
  · exact .inl ⟨a, xs, rfl, h, fun p np => q p _ np (same_new np) ⟨p, rfl, .inl (SqL.of upd_same)⟩⟩
  · exact .inr ⟨a, xs, rfl, h, fun w => absurd w nw, fun _ p np => q p _ np (same_new np) ⟨p, rfl, .inr (SqT.of upd_same)⟩⟩
end
theorem walk_rng {lo : Int} {n : Nat} : Walk (Itr lo n) ((List.range n).map fun i : Nat => V.int (lo + i)).length (fun _ => True) (YAt ((List.range n).map fun i : Nat => V.int (lo + i))) := by
  rw [List.length_map, List.length_range]
  exact walk_range.mono (fun _ h => h) fun i H x H' hi _ y => ⟨y.1, by rw [y.2]; simp [hi]⟩
theorem walk_sgn {z : Str} : Walk (Its z) ((sgn z).map V.str).length (fun _ => True) (YAt ((sgn z).map V.str)) := by
  have e : ((sgn z).map V.str).length = z.cps.size := by simp [sgn]
  rw [e]
  refine walk_str.mono (fun _ h => h) fun i H x H' hi _ y => ⟨y.1, ?_⟩
  obtain ⟨c, hc, rfl⟩ := y.2
  have hc' : z.cps.toList[i]? = some c := by simpa using hc
  simp [sgn, hc']

/-- the list at D holds i things, of which P holds -/
def PP (D : Addr) (P : List V → Hp → Prop) (i : Nat) (H : Hp) : Prop := ∃ acc, acc.length = i ∧ H D = some (.lst acc) ∧ P acc H
theorem pp_next {D : Addr} {P : List V → Hp → Prop} {i : Nat} {H : Hp} {y : V} {acc : List V} (e : H D = some (.lst acc)) (l : acc.length = i) (hi : i < sizeLine) (p : P (acc ++ [y]) (upd H D (.lst (acc ++ [y])))) :
    ∃ acc, H D = some (.lst acc) ∧ acc.length < sizeLine ∧ PP D P (i + 1) (upd H D (.lst (acc ++ [y]))) :=
  ⟨acc, e, by omega, acc ++ [y], by rw [List.length_append, l]; rfl, upd_same, p⟩
section
variable {σ : L2.St} {H : Hp} {D : Addr} {vs : List Nat} {te : TE} {Qd : Hp → Prop} {J : It} {xs : List V} {G : Hp → Prop} {slot : Nat}
/-- [e for x in xs]: P of what is made so far and the heap -/
theorem lc_gen (w : Walk J xs.length G (YAt xs)) (hw : ∀ x, wipe ((wipe σ vs).set slot (some x)) vs = wipe σ vs) (P : List V → Hp → Prop) (h0 : P [] (upd H D (.lst [])))
    (hG : ∀ acc H', H' D = some (.lst acc) → P acc H' → G H')
    (hs : ∀ i x acc H', xs[i]? = some x → acc.length = i → H' D = some (.lst acc) → P acc H' → te ((wipe σ vs).set slot (some x)) H' fun y H4 => ∃ acc, H4 D = some (.lst acc) ∧ acc.length < sizeLine ∧ PP D P (i + 1) (upd H4 D (.lst (acc ++ [y]))))
    (hd : ∀ acc H', acc.length = xs.length → H' D = some (.lst acc) → P acc H' → Qd H') :
    ∃ W : Nat → Nat → Hp → Prop, (∃ m, W 0 m (upd H D (.lst []))) ∧ ∀ i m H, W i m H →
      (J.stop i H ∧ Qd H) ∨ (J.go i H ∧ ∃ Nx : Hp → Prop, (∀ H', Nx H' → ∃ m', m' < m ∧ W (i + 1) m' H') ∧ ∀ x H', J.yld i H x H' → gName slot x (wipe σ vs) H' fun σ2 H2 => wipe σ2 vs = wipe σ vs ∧ tYes σ2 H2 fun b H3 =>
        if b = true then te σ2 H3 fun y H4 => ∃ acc, H4 D = some (.lst acc) ∧ acc.length < sizeLine ∧ Nx (upd H4 D (.lst (acc ++ [y]))) else Nx H3) := by
  refine lc_it w (PP D P) ⟨[], rfl, upd_same, h0⟩ (fun i H' _ ⟨acc, _, e, p⟩ => hG acc H' e p) ?_ (fun H' ⟨acc, l, e, p⟩ => hd acc H' l e p)
  rintro i x H1 H2 hi ⟨acc, l, e, p⟩ ⟨rfl, hx⟩
  refine ⟨hw x, ?_⟩
  show te _ _ _
  exact hs i x acc _ hx l e p
/-- the same over a list or a tuple -/
theorem lc_sq {K : PySem.W.Frag} {v : V} {R : It → Hp → Prop} (h : Sq K H v xs) (hw : ∀ x, wipe ((wipe σ vs).set slot (some x)) vs = wipe σ vs) (P : List V → Hp → Prop) (h0 : ∀ D, H D = none → P [] (upd H D (.lst [])))
    (hG : ∀ D acc H', H D = none → H' D = some (.lst acc) → P acc H' → Keeps K H H')
    (hs : ∀ D i x acc H', H D = none → xs[i]? = some x → acc.length = i → H' D = some (.lst acc) → P acc H' → te ((wipe σ vs).set slot (some x)) H' fun y H4 => ∃ acc, H4 D = some (.lst acc) ∧ acc.length < sizeLine ∧ PP D P (i + 1) (upd H4 D (.lst (acc ++ [y]))))
    (Qe : Addr → Hp → Prop) (hd : ∀ D acc H', H D = none → acc.length = xs.length → H' D = some (.lst acc) → P acc H' → Qe D H')
    (hR : ∀ J, (∀ D, H D = none → ∃ W : Nat → Nat → Hp → Prop, (∃ m, W 0 m (upd H D (.lst []))) ∧ ∀ i m H, W i m H →
      (It.stop J i H ∧ Qe D H) ∨ (It.go J i H ∧ ∃ Nx : Hp → Prop, (∀ H', Nx H' → ∃ m', m' < m ∧ W (i + 1) m' H') ∧ ∀ x H', It.yld J i H x H' → gName slot x (wipe σ vs) H' fun σ2 H2 => wipe σ2 vs = wipe σ vs ∧ tYes σ2 H2 fun b H3 =>
        if b = true then te σ2 H3 fun y H4 => ∃ acc, H4 D = some (.lst acc) ∧ acc.length < sizeLine ∧ Nx (upd H4 D (.lst (acc ++ [y]))) else Nx H3)) → R J H) :
    SqIt K v R H := by
  obtain ⟨a, rfl, h | h⟩ := h
  · exact ⟨a, rfl, .inl ⟨⟨xs, h⟩, hR _ fun D hD => lc_gen walk_list hw P (h0 D hD) (fun acc H' e p => (hG D acc H' hD e p).1 _ _ h) (fun i x acc H' hx l e p => hs D i x acc H' hD hx l e p) (fun acc H' l e p => hd D acc H' hD l e p)⟩⟩
  · exact ⟨a, rfl, .inr ⟨⟨xs, h⟩, hR _ fun D hD => lc_gen walk_tup hw P (h0 D hD) (fun acc H' e p => (hG D acc H' hD e p).2 _ _ h) (fun i x acc H' hx l e p => hs D i x acc H' hD hx l e p) (fun acc H' l e p => hd D acc H' hD l e p)⟩⟩
end
section
variable {K : PySem.W.Frag} {C : Addr}
theorem r_tfld {σ : L2.St} {H : Hp} {Q : VK} {ta : TE} {f : Str} (q : ta σ H fun x H1 => ∃ a C dx fs v, x = .ref a ∧ H1 a = some (.ins C dx fs) ∧ Cls K C ∧ NoAttr K C f ∧ fs.lookup f = some v ∧ Q v H1) : tFld K ta f σ H Q := q
theorem r_sfld {σ : L2.St} {H : Hp} {D : Ends} {ta tv : TE} {f : Str} (q : tv σ H fun y H1 => ta σ H1 fun x H2 => ∃ a C dx fs, x = .ref a ∧ H2 a = some (.ins C dx fs) ∧ Cls K C ∧ NoAttr K C f ∧ fs.length < 1000 ∧
  D.nx σ (upd H2 a (.ins C dx (putF f y fs)))) : sFld K ta tv f D σ H := q
theorem r_meth {σ : L2.St} {H : Hp} {Q : VK} {m : Str} {sp : Sp} {dvs : List V} {E : XK} {ta : TE} {t : TA} (q : ta σ H fun x H1 => ∃ a dx fs, x = .ref a ∧ H1 a = some (.ins C dx fs) ∧ fs.lookup m = none ∧
  t σ H1 fun vs H2 => sp (x :: (vs ++ dvs)) H2 Q E) : tMeth C m sp dvs E ta t σ H Q := q
end
def rTupOf (K : PySem.W.Frag) : List V → Hp → VK → Prop := fun xs H Q => ∃ p ys, xs = [.ref p] ∧ ((SqL K H p ys ∧ ∀ l, H l = none → Q (.ref l) (upd H l (.tup ys))) ∨ (SqT K H p ys ∧ Q (.ref p) H))
theorem call_tupOf {X : Cx} : CallR X (.type "tuple") (rTupOf X.K) := call_tuple_of
end K1

/-! A4 -/
/-! The law's draws: a bag off a cell, a number off a bag. -/

local macro_rules | `(tactic| walk_at "go") => `(tactic| repeat (first
  | with_reducible apply K1.r_seq
  | with_reducible apply K1.r_asg
  | ((with_reducible apply K1.r_name); (try dsimp only [List.set]))
  | ((with_reducible apply K1.r_var); (focus rfl))
  | with_reducible apply K1.r_c
  | with_reducible apply K1.r_op
  | with_reducible apply K1.r_un
  | with_reducible apply K1.r_I0
  | with_reducible apply K1.r_test
  | with_reducible apply K1.r_if
  | with_reducible apply K1.r_ifs
  | with_reducible apply K1.r_iteT
  | with_reducible apply K1.r_iteF
  | with_reducible apply K1.r_and
  | with_reducible apply K1.r_or
  | with_reducible apply K1.r_not
  | with_reducible apply K1.r_tB
  | with_reducible apply K1.r_andV
  | with_reducible apply K1.r_orV
  | with_reducible apply K1.r_notV
  | with_reducible apply K1.r_cb
  | with_reducible apply K1.r_cons
  | with_reducible apply K1.r_nil
  | with_reducible apply K1.r_ret
  | with_reducible apply K1.r_next
  | with_reducible apply K1.r_drop
  | with_reducible apply K1.r_lst
  | with_reducible apply K1.r_tup
  | with_reducible apply K1.r_call
  | with_reducible apply K1.r_gsub
  | with_reducible apply K1.r_for
  | refine ⟨_, rfl, ?_⟩
  | refine Or.inl ⟨_, rfl, ?_⟩
  | dsimp only))

namespace K1
open PySem L2

def top (i : Nat) : Stmt := PySem.Challenge.pw_handcarried_k04_rule_words.main.body.getD i (.Pass ⟨0, 0, 0, 0⟩)

/-- the built-ins that the module's names leave alone -/
structure Bl (mg : Str → Option Value) : Prop where
  len : mg "len" = none
  sum : mg "sum" = none
  abs : mg "abs" = none
  int : mg "int" = none
  range : mg "range" = none
  list : mg "list" = none
  tuple : mg "tuple" = none
  str : mg "str" = none
  bool : mg "bool" = none
  sorted : mg "sorted" = none
  all : mg "all" = none
  min : mg "min" = none
  isin : mg "isinstance" = none
  max : mg "max" = none

/-- a bag: digits that are left, salt, count of mixed draws (at most n) -/
def IsBag (H : Hp) (b : Addr) (n : Nat) : Prop := ∃ d s c : Int, H b = some (.lst [.int d, .int s, .int c]) ∧ 0 ≤ d ∧ 0 ≤ s ∧ s < 2 ^ 40 ∧ 0 ≤ c ∧ c ≤ n

abbrev sBagOf : Stmt := top 45
abbrev sPick : Stmt := top 46
abbrev nBagOf : List Str := ["_law_script", "_law_at", "_law_cell", "_law_size", "_law_digits", "_law_one"]
theorem scBagOf : FnScope nBagOf ["_law_script", "_law_at"] (defScope sBagOf) := ⟨rfl, rfl, rfl, by decide +kernel, rfl, by decide +kernel, by decide +kernel⟩
abbrev nPick : List Str := ["_law_bag", "_law_many", "_law_digit", "_law_one", "_law_two"]
theorem scPick : FnScope nPick ["_law_bag", "_law_many"] (defScope sPick) := ⟨rfl, rfl, rfl, by decide +kernel, rfl, by decide +kernel, by decide +kernel⟩

def spBagOf (K : PySem.W.Frag) : Sp := fun vs H Q _ => ∃ (a : Addr) (ns : List Int) (at_ : Int), vs = [.ref a, .int at_] ∧ SqL K H a (ns.map V.int) ∧ ns.length ≤ 63 ∧ 0 ≤ at_ ∧ at_ ≤ 1000 ∧
  ∀ H' p, Same H H' → H p = none → IsBag H' p 0 → Q (.ref p) H'

section
variable {P : Program} {w : World} {K : PySem.W.Frag} {mg : Str → Option Value} {base : Heap}

theorem ok_bagOf {f : Addr} {fd : FuncData} (F : Fun K "_law_bag_of" "_law_bag_of" sBagOf f fd) (B : Bl mg) : FnOk P w K mg base CX0 1 f fd ["_law_script", "_law_at"] (spBagOf K) := by
  refine F.ok scBagOf (fun vs H Q E h => ?_) (fun cdv A outer s H vs Q E hr h => ?_)
  · obtain ⟨a, ns, at_, rfl, _⟩ := h
    rfl
  · obtain ⟨a, ns, at_, rfl, hS, hlen, h0, h1, k⟩ := h
    refine ⟨_, pss_cons (ps_set (i := 2) scBagOf.nd rfl (Or.inl rfl)
        (pe_ifExp (pt_cmpR op_lt (pv 1) (pe_callB call_len (by rfl) B.len PySem.boot_len (pa_cons (pv 0) pa_nil)) (nomark _))
          (pe_ix ix_list (pv 0) (pv 1) (fun _ _ => rfl))
          (pe_op op_add (pe_callB (cr_sum rfl) (by rfl) B.sum (by decide +kernel) (pa_cons
              (pe_lc (own := [("_law_one", 5)]) (g := gName 5) (tt := tYes) rfl scBagOf.nd (pi_list (pv 0)) (blkOk_by (N := nBagOf) (sc := defScope sBagOf) (by decide +kernel)) (fun _ _ _ _ _ => pg_name (i := 5) scBagOf.nd rfl (Or.inl rfl)) (fun _ _ _ _ _ => pts_nil)
                (fun _ _ _ _ _ => pe_op op_add (pe_op op_fdiv (pe_callB call_abs (by rfl) B.abs (by decide +kernel) (pa_cons (pv 5) pa_nil)) pe_int) pe_int)) pa_nil))
            (pe_op op_mul pe_int (pe_op op_add (pv 1) pe_int)))))
      (pss_cons (ps_set (i := 3) scBagOf.nd rfl (Or.inl rfl) (pe_callB call_abs (by rfl) B.abs (by decide +kernel) (pa_cons (pv 2) pa_nil)))
      (pss_cons (ps_set (i := 4) scBagOf.nd rfl (Or.inl rfl) (pe_ifExp (pt_cmpR op_ge (pv 3) pe_int (nomark _)) (pv 3) pe_int))
      (pss_one (ps_ret (pe_lst (pa_cons (pv 4) (pa_cons (pe_op op_add (pe_op op_add (pe_op op_mod (pe_callTy call_int1 (by rfl) B.int (by decide +kernel) (pa_cons (pv 3) pa_nil)) pe_int) (pe_op op_mul pe_int (pv 1)))
        (pe_ifExp (pt_cmpR op_lt (pv 2) pe_int (nomark _)) pe_int pe_int)) (pa_cons pe_int pa_nil)))))))), ?_⟩
    dsimp only [cxOf, Cx.nox, Cx.wish]
    walk_at "go"
    refine ⟨_, _, rfl, lenL hS, ?_⟩
    walk_at "go"
    refine r_ite (fun h => ?_) (fun h => ?_)
    rotate_left
    walk_at "go"
    refine ⟨⟨_, hS⟩, fun D hD => lc_map (fun x => match x with | .int z => .int ((if z < 0 then -z else z) / 3 + 5) | y => y) hS hD (by rw [List.length_map, sizeLine_eq]; omega) (fun _ => rfl) (fun x hx H' R sm r => ?_) ?_⟩
    · obtain ⟨z, _, rfl⟩ := List.mem_map.mp hx
      walk_at "go"
      refine r_I ⟨by decide, by decide⟩ ?_
      walk_at "go"
      exact r
    walk_at "go"
    have hD' : (upd H D (.lst ((ns.map V.int).map fun x => match x with | .int z => .int ((if z < 0 then -z else z) / 3 + 5) | y => y))) D = some (.lst ((ns.map fun z => (if z < 0 then -z else z) / 3 + 5).map V.int)) := by
      rw [upd_same, List.map_map, List.map_map]
      rfl
    refine r_sum (SqL.of hD') ?_
    walk_at "go"
    refine r_I (.inl ⟨by decide, by decide⟩) ?_
    walk_at "go"
    have sm := same_new (o := HO.lst ((ns.map V.int).map fun x => match x with | .int z => .int ((if z < 0 then -z else z) / 3 + 5) | y => y)) hD
    revert sm
    generalize (ns.map fun z => (if z < 0 then -z else z) / 3 + 5).sum + 7919 * (at_ + 1) = zz
    rotate_left
    obtain ⟨z, hz, _⟩ := at_int (ns := ns) h0 (by simpa using h)
    walk_at "go"
    refine r_ixL hS hz ?_
    walk_at "go"
    have sm : Same H H := Same.refl H
    revert sm
    all_goals
      intro sm
      refine r_ite (fun hh => ?_) (fun hh => ?_)
    all_goals
      walk_at "go"
      refine r_I (by decide) ?_
      walk_at "go"
      refine r_I (.inl ⟨by decide, by decide⟩) ?_
      walk_at "go"
      refine r_ite (fun hn => ?_) (fun hn => ?_)
    all_goals
      walk_at "go"
      refine ⟨(by show 3 ≤ sizeLine; decide), fun p hp => ?_⟩
      refine k _ p (sm.trans (same_new hp)) (sm.free hp) ⟨_, _, _, upd_same, ?_, ?_, ?_, ?_, ?_⟩
    all_goals (first | omega | (split <;> omega))

def spPick : Sp := fun vs H Q _ => ∃ (b : Addr) (m : Int) (n : Nat), vs = [.ref b, .int m] ∧ IsBag H b n ∧ n ≤ 2 ^ 40 ∧ m < 1073741824 ∧
  ∀ r H', 0 ≤ r → (r < m ∨ (m < 2 ∧ r = 0)) → IsBag H' b (n + 1) → Off b H H' → Q (.int r) H'

theorem ok_pick {f : Addr} {fd : FuncData} (F : Fun K "_law_pick" "_law_pick" sPick f fd) (B : Bl mg) : FnOk P w K mg base CX0 1 f fd ["_law_bag", "_law_many"] spPick := by
  refine F.ok scPick (fun vs H Q E h => ?_) (fun cdv A outer s H vs Q E hr h => ?_)
  · obtain ⟨a, m, n, rfl, _⟩ := h
    rfl
  · obtain ⟨b, m, n, rfl, ⟨d, sl, c, hb, d0, s0, s1, c0, c1⟩, hn, hm, k⟩ := h
    refine ⟨_, pss_cons (ps_if (pt_cmpR op_lt (pv 1) pe_int (nomark _)) (pss_one (ps_ret pe_int)) pss_nil)
      (pss_cons (ps_if (pt_cmpR op_gt (pe_ix ix_list (pv 0) pe_int (fun _ _ => rfl)) pe_int (nomark _))
        (pss_cons (ps_set (i := 2) scPick.nd rfl (Or.inl rfl) (pe_op op_modN (pe_callTy call_int1 (by rfl) B.int (by decide +kernel) (pa_cons (pe_ix ix_list (pv 0) pe_int (fun _ _ => rfl)) pa_nil)) (pv 1)))
        (pss_cons (ps_asg (pe_op op_fdivN (pe_ix ix_list (pv 0) pe_int (fun _ _ => rfl)) (pv 1)) (pg_sub (pv 0) pe_int set_list))
        (pss_one (ps_ret (pv 2))))) pss_nil)
      (pss_cons (ps_asg (pe_op op_add (pe_ix ix_list (pv 0) pe_int (fun _ _ => rfl)) pe_int) (pg_sub (pv 0) pe_int set_list))
      (pss_cons (ps_set (i := 3) scPick.nd rfl (Or.inl rfl) (pe_op op_mod (pe_callTy call_int1 (by rfl) B.int (by decide +kernel) (pa_cons
          (pe_op op_add (pe_op op_mul (pe_ix ix_list (pv 0) pe_int (fun _ _ => rfl)) pe_int) (pe_op op_mul (pe_ix ix_list (pv 0) pe_int (fun _ _ => rfl)) pe_int)) pa_nil)) pe_int))
      (pss_cons (ps_set (i := 4) scPick.nd rfl (Or.inl rfl) (pe_op op_mod (pe_callTy call_int1 (by rfl) B.int (by decide +kernel) (pa_cons
          (pe_op op_add (pe_op op_add (pe_op op_mul (pv 3) (pv 3)) (pe_ix ix_list (pv 0) pe_int (fun _ _ => rfl))) (pe_op op_mul (pe_ix ix_list (pv 0) pe_int (fun _ _ => rfl)) pe_int)) pa_nil)) pe_int))
      (pss_one (ps_ret (pe_op op_modN (pe_callTy call_int1 (by rfl) B.int (by decide +kernel) (pa_cons (pe_op op_fdiv (pv 4) pe_int) pa_nil)) (pv 1)))))))), ?_⟩
    dsimp only [cxOf, Cx.nox, Cx.wish]
    walk_at "go"
    refine r_ite (fun h => ?_) (fun h => ?_)
    · walk_at "go"
      exact k 0 H (Int.le_refl 0) (.inr ⟨h, rfl⟩) ⟨d, sl, c, hb, d0, s0, s1, c0, by omega⟩ (Off.refl _ _)
    walk_at "go"
    refine r_ixL (SqL.of hb) rfl ?_
    walk_at "go"
    refine r_ite (fun h2 => ?_) (fun h2 => ?_)
    · walk_at "go"
      refine r_ixL (SqL.of hb) rfl ?_
      walk_at "go"
      refine r_I (by omega) ?_
      walk_at "go"
      refine r_ixL (SqL.of hb) rfl ?_
      walk_at "go"
      refine r_I ⟨by omega, by omega⟩ ?_
      walk_at "go"
      refine r_setL hb rfl ?_
      walk_at "go"
      refine k _ _ ?_ (.inl ?_) ⟨_, _, _, upd_same, ?_, s0, s1, c0, by omega⟩ Off.upd
      · exact Int.fmod_nonneg (by omega) (by omega)
      · exact Int.fmod_lt_of_pos _ (by omega)
      · exact Int.fdiv_nonneg (by omega) (by omega)
    walk_at "go"
    refine r_ixL (SqL.of hb) rfl ?_
    walk_at "go"
    refine r_setL hb rfl ?_
    have hb2 := upd_same (H := H) (a := b) (o := HO.lst (List.set [V.int d, V.int sl, V.int c] 2 (V.int (c + 1))))
    walk_at "go"
    refine r_ixL (SqL.of hb2) rfl ?_
    walk_at "go"
    refine r_I (.inr ⟨by decide, by decide⟩) ?_
    walk_at "go"
    refine r_ixL (SqL.of hb2) rfl ?_
    walk_at "go"
    refine r_I (.inr ⟨by decide, by decide⟩) ?_
    walk_at "go"
    refine r_I (by decide) ?_
    have o0 := Int.emod_nonneg (sl * 48271 + (c + 1) * 69621) (show (2147483647 : Int) ≠ 0 by decide)
    have o1 := Int.emod_lt_of_pos (sl * 48271 + (c + 1) * 69621) (show (0 : Int) < 2147483647 by decide)
    revert o0 o1
    generalize (sl * 48271 + (c + 1) * 69621) % 2147483647 = one
    intro o0 o1
    walk_at "go"
    refine r_I (.inl ⟨by omega, by omega⟩) ?_
    walk_at "go"
    refine r_ixL (SqL.of hb2) rfl ?_
    walk_at "go"
    refine r_ixL (SqL.of hb2) rfl ?_
    walk_at "go"
    refine r_I (.inr ⟨by decide, by decide⟩) ?_
    walk_at "go"
    refine r_I (by decide) ?_
    walk_at "go"
    refine r_I ⟨by decide, by decide⟩ ?_
    walk_at "go"
    refine r_I (by omega) ?_
    walk_at "go"
    refine k _ _ ?_ (.inl ?_) ⟨_, _, _, upd_same, d0, s0, s1, by omega, by omega⟩ Off.upd
    · exact Int.fmod_nonneg (by omega) (by omega)
    · exact Int.fmod_lt_of_pos _ (by omega)
end
end K1

/-! C4 -/
local macro_rules | `(tactic| walk_at "go") => `(tactic| repeat (first
  | with_reducible apply K1.r_seq
  | with_reducible apply K1.r_asg
  | ((with_reducible apply K1.r_name); (try dsimp only [List.set]))
  | ((with_reducible apply K1.r_var); (focus rfl))
  | with_reducible apply K1.r_c
  | with_reducible apply K1.r_op
  | with_reducible apply K1.r_un
  | with_reducible apply K1.r_I0
  | with_reducible apply K1.r_test
  | with_reducible apply K1.r_if
  | with_reducible apply K1.r_ifs
  | with_reducible apply K1.r_iteT
  | with_reducible apply K1.r_iteF
  | with_reducible apply K1.r_and
  | with_reducible apply K1.r_or
  | with_reducible apply K1.r_not
  | with_reducible apply K1.r_tB
  | with_reducible apply K1.r_andV
  | with_reducible apply K1.r_orV
  | with_reducible apply K1.r_notV
  | with_reducible apply K1.r_cb
  | with_reducible apply K1.r_cons
  | with_reducible apply K1.r_nil
  | with_reducible apply K1.r_ret
  | with_reducible apply K1.r_next
  | with_reducible apply K1.r_drop
  | with_reducible apply K1.r_lst
  | with_reducible apply K1.r_tup
  | with_reducible apply K1.r_call
  | with_reducible apply K1.r_gsub
  | with_reducible apply K1.r_for
  | with_reducible apply K1.r_bm
  | with_reducible apply K1.r_bm0
  | with_reducible apply K1.r_sl
  | with_reducible apply K1.r_noPart
  | with_reducible apply K1.r_part
  | with_reducible apply K1.r_iStr
  | with_reducible apply K1.r_iRng1
  | with_reducible apply K1.r_m1
  | refine ⟨_, rfl, ?_⟩
  | refine Or.inl ⟨_, rfl, ?_⟩
  | dsimp only))
namespace K1
open PySem L2
abbrev sOneOf : Stmt := top 47
abbrev sMixed : Stmt := top 48
theorem scOneOf : FnScope ["_law_bag", "_law_row"] ["_law_bag", "_law_row"] (defScope sOneOf) := ⟨rfl, rfl, rfl, by decide +kernel, rfl, by decide +kernel, by decide +kernel⟩
abbrev nMixed : List Str := ["_law_bag", "_law_row", "_law_left", "_law_told", "_law_k"]
theorem scMixed : FnScope nMixed ["_law_bag", "_law_row"] (defScope sMixed) := ⟨rfl, rfl, rfl, by decide +kernel, rfl, by decide +kernel, by decide +kernel⟩

abbrev OPick (P : Program) (w : World) (K : PySem.W.Frag) (mg : Str → Option Value) (base : Heap) : Prop := Own P w K mg base "_law_pick" 1 ["_law_bag", "_law_many"] spPick
def spOneOf (K : PySem.W.Frag) : Sp := fun vs H Q _ => ∃ (b : Addr) (r : V) (items : List V) (n : Nat), vs = [.ref b, r] ∧ IsBag H b n ∧ n ≤ 2 ^ 40 ∧ RowAt K H b r items ∧ items ≠ [] ∧
  ∀ x H', x ∈ items → IsBag H' b (n + 1) → Off b H H' → Q x H'
abbrev OOneOf (P : Program) (w : World) (K : PySem.W.Frag) (mg : Str → Option Value) (base : Heap) : Prop := Own P w K mg base "_law_one_of" 2 ["_law_bag", "_law_row"] (spOneOf K)
def spMixed : Sp := fun vs H Q _ => ∃ (b : Addr) (z : Str) (n : Nat), vs = [.ref b, .str z] ∧ IsBag H b n ∧ n + z.length ≤ 2 ^ 40 ∧ z.length ≤ 1000 ∧
  ∀ (ys : List Str) H' p, ys.Perm (sgn z) → IsBag H' b (n + z.length) → Kp b H H' → H p = none → H' p = some (.lst (ys.map V.str)) → p ≠ b → Q (.ref p) H'
theorem IsBag.mono {H : Hp} {b : Addr} {n m : Nat} (h : IsBag H b n) (l : n ≤ m) : IsBag H b m := by
  obtain ⟨d, s, c, e, a1, a2, a3, a4, a5⟩ := h
  exact ⟨d, s, c, e, a1, a2, a3, a4, by omega⟩

section
variable {P : Program} {w : World} {K : PySem.W.Frag} {mg : Str → Option Value} {base : Heap}
theorem ok_oneOf {f : Addr} {fd : FuncData} (F : Fun K "_law_one_of" "_law_one_of" sOneOf f fd) (B : Bl mg) (Op : OPick P w K mg base) : FnOk P w K mg base CX0 2 f fd ["_law_bag", "_law_row"] (spOneOf K) := by
  refine F.ok scOneOf (fun vs H Q E h => ?_) (fun cdv A outer s H vs Q E hr h => ?_)
  · obtain ⟨b, r, items, n, rfl, _⟩ := h
    rfl
  · obtain ⟨b, r, items, n, rfl, hb, hn, hrow, hne, k⟩ := h
    refine ⟨_, pss_one (ps_ret (pe_ix ix_seq (pv 1) (pe_own Op hr (pa_cons (pv 0) (pa_cons (pe_callB call_len (by rfl) B.len PySem.boot_len (pa_cons (pv 1) pa_nil)) pa_nil))) (fun _ _ => rfl))), ?_⟩
    try dsimp only [cxOf, Cx.nox, Cx.wish]
    walk_at "go"
    refine ⟨_, _, rfl, hrow.len.1, ?_⟩
    walk_at "go"
    have hl := hrow.len.2
    have hpos : 0 < items.length := List.length_pos_iff.mpr hne
    refine ⟨_, _, n, rfl, hb, hn, by omega, fun r' H' r0 r1 hb' off => ?_⟩
    obtain ⟨x, ex, hx, _⟩ := at_nat' (xs := items) r0 (by omega)
    exact r_rowix (hrow.off off) ex (k x H' hx hb' off)

theorem seqIx {n : Nat} {i : Int} (h0 : 0 ≤ i) (h1 : i < n) : seqIndex? i n = some i.toNat := by
  have e : ixN n i = some i.toNat := by
    unfold ixN
    rw [if_pos h0, if_pos h1]
  exact (ixN_seq e).1
theorem erase_map {α β : Type} (f : α → β) : ∀ (l : List α) (i : Nat), (l.map f).eraseIdx i = (l.eraseIdx i).map f
  | [], _ => rfl
  | _ :: _, 0 => rfl
  | x :: l, i + 1 => by
    show f x :: (l.map f).eraseIdx i = f x :: (l.eraseIdx i).map f
    rw [erase_map f l i]
theorem erase_perm {α : Type} : ∀ {l : List α} {i : Nat} (h : i < l.length), (l[i] :: l.eraseIdx i).Perm l
  | [], _, h => absurd h (by simp)
  | _ :: _, 0, _ => List.Perm.refl _
  | x :: l, i + 1, h => by
    have h' : i < l.length := by simpa using h
    show (l[i] :: x :: l.eraseIdx i).Perm (x :: l)
    exact (List.Perm.swap x l[i] _).trans (List.Perm.cons x (erase_perm h'))
theorem ok_mixed {f : Addr} {fd : FuncData} (F : Fun K "_law_mixed" "_law_mixed" sMixed f fd) (B : Bl mg) (Op : OPick P w K mg base) : FnOk P w K mg base CX0 2 f fd ["_law_bag", "_law_row"] spMixed := by
  refine F.ok scMixed (fun vs H Q E h => ?_) (fun cdv A outer s H vs Q E hr h => ?_)
  · obtain ⟨b, z, n, rfl, _⟩ := h
    rfl
  · obtain ⟨b, z, n, rfl, hb, hn, hz, k⟩ := h
    have hd := hr.hd
    refine ⟨_, pss_cons (ps_set (i := 2) scMixed.nd rfl (Or.inl rfl) (pe_callTy (call_listS hd) (by rfl) B.list (by decide +kernel) (pa_cons (pv 1) pa_nil)))
      (pss_cons (ps_set (i := 3) scMixed.nd rfl (Or.inl rfl) (pe_lst pa_nil))
      (pss_cons (ps_for PassesOwn.never rfl (pi_range1 rfl B.range (pa_cons (pe_callB call_len (by rfl) B.len PySem.boot_len (pa_cons (pv 1) pa_nil)) pa_nil)) (pg_name (i := 4) scMixed.nd rfl (Or.inl rfl))
        (pss_one (ps_expr (pe_bm PySem.F.plainAttrs_list PySem.F.slot_list_append PySem.F.type_list_append mt_append (pv 3) (pa_cons
          (pe_bm PySem.F.plainAttrs_list PySem.F.slot_list_pop PySem.F.type_list_pop mt_popAt (pv 2) (pa_cons
            (pe_own Op hr (pa_cons (pv 0) (pa_cons (pe_callB call_len (by rfl) B.len PySem.boot_len (pa_cons (pv 2) pa_nil)) pa_nil))) pa_nil)) pa_nil)))))
      (pss_one (ps_ret (pv 3))))), ?_⟩
    try dsimp only [cxOf, Cx.nox, Cx.wish]
    have hsl := small_line hz
    walk_at "go"
    refine ⟨hsl, fun L hL => ?_⟩
    walk_at "go"
    refine ⟨Nat.zero_le _, fun T hT => ?_⟩
    have nLb : L ≠ b := fun q => by obtain ⟨_, _, _, e, _⟩ := hb; rw [q, e] at hL; cases hL
    have nTL : T ≠ L := fun q => by rw [q, upd_same] at hT; cases hT
    rw [upd_ne nTL] at hT
    have nTb : T ≠ b := fun q => by obtain ⟨_, _, _, e, _⟩ := hb; rw [q, e] at hT; cases hT
    walk_at "go"
    refine ⟨_, _, rfl, lenS hsl, ?_⟩
    walk_at "go"
    refine ⟨by omega, by omega, fr_range (lo := 0) (n := z.length) (fun i σ H' => ∃ (kk : Option V) (xs ys : List Str), σ = [some (.ref b), some (.str z), some (.ref L), some (.ref T), kk] ∧ H' L = some (.lst (xs.map V.str)) ∧ H' T = some (.lst (ys.map V.str)) ∧
        (ys ++ xs).Perm (sgn z) ∧ ys.length = i ∧ IsBag H' b (n + i) ∧ Kp b H H') ?_ ?_ ?_⟩
    · refine ⟨none, sgn z, [], rfl, ?_, upd_same, List.Perm.refl _, rfl, ?_, ?_⟩
      · rw [upd_ne nTL.symm, upd_same]
      · obtain ⟨d, s, c, e, r⟩ := hb
        exact ⟨d, s, c, by rw [upd_ne nTb.symm, upd_ne nLb.symm]; exact e, r⟩
      · exact Same.kp (Same.trans (same_new (o := HO.lst ((sgn z).map V.str)) hL) (same_new (by rw [upd_ne nTL]; exact hT)))
    · rintro i σ H' hi ⟨kk, xs, ys, rfl, eL, eT, pm, ly, hb', kp⟩
      have lxs : xs.length = z.length - i := by
        have := pm.length_eq
        rw [List.length_append, sgn_len] at this
        omega
      walk_at "go"
      refine ⟨tyL (SqL.of eT), ?_⟩
      walk_at "go"
      refine ⟨tyL (SqL.of eL), ?_⟩
      walk_at "go"
      refine ⟨_, _, rfl, lenL (SqL.of eL), ?_⟩
      walk_at "go"
      refine ⟨_, _, _, rfl, hb', by omega, by rw [List.length_map]; omega, fun r H2 r0 r1 hb2 off => ?_⟩
      rw [List.length_map] at r1
      have hr1 : r < xs.length := by omega
      have hj : r.toNat < xs.length := by omega
      walk_at "go"
      have eL2 := off.at nLb eL
      have eT2 := off.at nTb eT
      refine ⟨L, xs.map V.str, r, r.toNat, .str xs[r.toNat], rfl, rfl, eL2, by omega, by omega, by rw [List.length_map]; exact seqIx r0 hr1, by simp [hj], ?_⟩
      walk_at "go"
      refine ⟨T, ys.map V.str, _, rfl, rfl, by rw [upd_ne nTL]; exact eT2, by rw [List.length_map]; exact small1000 (by omega), ?_⟩
      walk_at "go"
      refine ⟨some (.int (0 + i)), xs.eraseIdx r.toNat, ys ++ [xs[r.toNat]], rfl, ?_, ?_, ?_, by simp [ly], ?_, ?_⟩
      · rw [upd_ne nTL.symm, upd_same, erase_map]
      · rw [upd_same]; simp
      · refine List.Perm.trans ?_ pm
        rw [List.append_assoc]
        exact (List.Perm.append_left ys (erase_perm hj))
      · obtain ⟨d, s, c, e, q⟩ := hb2
        exact ⟨d, s, c, by rw [upd_ne nTb.symm, upd_ne nLb.symm]; exact e, q⟩
      · intro c o hc e
        have n1 : c ≠ L := fun q => by rw [q, hL] at e; cases e
        have n2 : c ≠ T := fun q => by rw [q, hT] at e; cases e
        rw [upd_ne n2, upd_ne n1]
        exact off.at hc (kp c o hc e)
    · rintro σ H' ⟨kk, xs, ys, rfl, eL, eT, pm, ly, hb', kp⟩
      walk_at "go"
      have lx : xs = [] := by
        have := pm.length_eq
        rw [List.length_append, sgn_len] at this
        exact List.eq_nil_of_length_eq_zero (by omega)
      subst lx
      rw [List.append_nil] at pm
      exact k ys H' T pm hb' kp hT eT nTb

theorem app_cps (x y : Str) : (x ++ y).cps.toList = x.cps.toList ++ y.cps.toList := by
  show (x.cps ++ y.cps).toList = _
  exact Array.toList_append
theorem len_cps (x : Str) : x.length = x.cps.toList.length := by simp [Str.length]
theorem mem_sgn {z : Str} {x : V} (h : x ∈ (sgn z).map V.str) : ∃ c, c ∈ z.cps.toList ∧ x = .str ⟨#[c]⟩ := by
  obtain ⟨y, hy, rfl⟩ := List.mem_map.mp h
  obtain ⟨c, hc, rfl⟩ := List.mem_map.mp hy
  exact ⟨c, hc, rfl⟩
end
end K1

/-! S4 -/
/-! Texts as lists of signs; the good signs. -/
namespace K1
open PySem L2 PyProof.Rows
def one (c : Nat) : Str := ⟨#[c]⟩
theorem str_ext {x y : Str} (h : tl x = tl y) : x = y := by
  cases x with | mk a => cases y with | mk b => exact congrArg Str.mk (Array.toList_inj.mp h)
theorem tl_inj {x y : Str} : tl x = tl y ↔ x = y := ⟨str_ext, fun h => by rw [h]⟩
theorem one_inj {a b : Nat} (h : one a = one b) : a = b := by
  have := congrArg tl h
  simpa [one] using this
abbrev ALL : Str := "0123456789ABCDEFGHIJKLMNOPQRSTUVWXYZ"
/-- signs of a house -/
structure Good (z : Str) : Prop where
  lo : 2 ≤ (tl z).length
  hi : (tl z).length ≤ 12
  up : (tl z).Pairwise (· < ·)
  all : ∀ c ∈ tl z, c ∈ tl ALL
theorem sgn_one (z : Str) : sgn z = (tl z).map one := rfl
theorem ones : ∀ {zs : List Str}, (∀ y ∈ zs, ∃ c, y = one c) → ∃ l : List Nat, zs = l.map one
  | [], _ => ⟨[], rfl⟩
  | y :: zs, h => by
    obtain ⟨c, rfl⟩ := h y (by simp)
    obtain ⟨l, rfl⟩ := ones (zs := zs) fun z hz => h z (List.mem_cons_of_mem _ hz)
    exact ⟨c :: l, rfl⟩
theorem lt_one (a b : Nat) : Spec.ltCps (tl (one a)) (tl (one b)) = decide (a < b) := by
  show (decide (a < b) || (a == b && false)) = decide (a < b)
  rw [Bool.and_false, Bool.or_false]
theorem rising_le : ∀ (l : List Nat) (p : Nat), risingS (one p) (l.map one) = true → (p :: l).Pairwise (· ≤ ·)
  | [], p, _ => by simp
  | c :: l, p, h => by
    have h1 : p ≤ c ∧ risingS (one c) (l.map one) = true := by
      have e : risingS (one p) ((c :: l).map one) = (!Spec.ltCps (tl (one c)) (tl (one p)) && risingS (one c) (l.map one)) := rfl
      rw [e, lt_one] at h
      simpa using h
    have h2 := rising_le l c h1.2
    rw [List.pairwise_cons] at h2 ⊢
    refine ⟨fun d hd => ?_, by rw [List.pairwise_cons]; exact h2⟩
    rcases List.mem_cons.mp hd with rfl | hd
    · exact h1.1
    · exact Nat.le_trans h1.1 (h2.1 d hd)
theorem sorted_le (l : List Nat) (h : sortedS (l.map one) = true) : l.Pairwise (· ≤ ·) := by
  cases l with
  | nil => exact List.Pairwise.nil
  | cons c l => exact rising_le l c h
theorem join_ones : ∀ l : List Nat, tl (Str.join "" (l.map one)) = l
  | [] => rfl
  | [c] => rfl
  | c :: d :: l => by
    have ih := join_ones (d :: l)
    show tl (one c ++ "" ++ Str.join "" ((d :: l).map one)) = _
    rw [tl, app_cps, app_cps]
    rw [tl] at ih
    rw [ih]
    rfl
theorem nodup_all : (sgn ALL).Nodup := by decide +kernel
/-- what sorted of the first m of a mixed row of all signs, put together, is -/
theorem good_of {ys zs : List Str} {m : Nat} (hy : ys.Perm (sgn ALL)) (h2 : 2 ≤ m) (h12 : m ≤ 12) (hz : zs.Perm (ys.take m)) (hs : sortedS zs = true) :
    Good (Str.join "" zs) ∧ (tl (Str.join "" zs)).length = m ∧ (∀ y ∈ zs, y.length = 1) ∧ zs.length = m := by
  have hlen : ys.length = 36 := by rw [hy.length_eq]; decide +kernel
  have ht : (ys.take m).length = m := by rw [List.length_take]; omega
  have hzl : zs.length = m := by rw [hz.length_eq, ht]
  have hmem : ∀ y ∈ zs, ∃ c, y = one c ∧ c ∈ tl ALL := fun y q => by
    have a := hz.mem_iff.mp q
    have b := hy.mem_iff.mp (List.mem_of_mem_take a)
    obtain ⟨c, hc, rfl⟩ := List.mem_map.mp b
    exact ⟨c, rfl, hc⟩
  obtain ⟨l, rfl⟩ := ones (zs := zs) fun y q => by obtain ⟨c, e, _⟩ := hmem y q; exact ⟨c, e⟩
  have hnd : (l.map one).Nodup := hz.nodup_iff.mpr ((hy.nodup_iff.mpr nodup_all).sublist (List.take_sublist _ _))
  have hne : l.Pairwise (· ≠ ·) := (List.pairwise_map.mp hnd).imp fun h e => h (by rw [e])
  have hlt : l.Pairwise (· < ·) := ((sorted_le l hs).and hne).imp fun ⟨a, b⟩ => by omega
  have hl : l.length = m := by rw [← hzl, List.length_map]
  refine ⟨⟨?_, ?_, ?_, ?_⟩, ?_, ?_, hzl⟩
  · rw [join_ones, hl]; exact h2
  · rw [join_ones, hl]; exact h12
  · rw [join_ones]; exact hlt
  · rw [join_ones]
    intro c hc
    obtain ⟨d, e, hd⟩ := hmem (one c) (List.mem_map_of_mem hc)
    rw [one_inj e]; exact hd
  · rw [join_ones, hl]
  · intro y q
    obtain ⟨c, rfl, _⟩ := hmem y q
    rfl
end K1

/-! E4 -/
local macro_rules | `(tactic| walk_at "go") => `(tactic| repeat (first
  | with_reducible apply K1.r_seq
  | with_reducible apply K1.r_asg
  | ((with_reducible apply K1.r_name); (try dsimp only [List.set]))
  | ((with_reducible apply K1.r_var); (focus rfl))
  | with_reducible apply K1.r_c
  | with_reducible apply K1.r_op
  | with_reducible apply K1.r_un
  | with_reducible apply K1.r_I0
  | with_reducible apply K1.r_test
  | with_reducible apply K1.r_if
  | with_reducible apply K1.r_ifs
  | with_reducible apply K1.r_iteT
  | with_reducible apply K1.r_iteF
  | with_reducible apply K1.r_and
  | with_reducible apply K1.r_or
  | with_reducible apply K1.r_not
  | with_reducible apply K1.r_tB
  | with_reducible apply K1.r_andV
  | with_reducible apply K1.r_orV
  | with_reducible apply K1.r_notV
  | with_reducible apply K1.r_cb
  | with_reducible apply K1.r_cons
  | with_reducible apply K1.r_nil
  | with_reducible apply K1.r_ret
  | with_reducible apply K1.r_next
  | with_reducible apply K1.r_drop
  | with_reducible apply K1.r_lst
  | with_reducible apply K1.r_tup
  | with_reducible apply K1.r_call
  | with_reducible apply K1.r_gsub
  | with_reducible apply K1.r_for
  | with_reducible apply K1.r_bm
  | with_reducible apply K1.r_bm0
  | with_reducible apply K1.r_sl
  | with_reducible apply K1.r_noPart
  | with_reducible apply K1.r_part
  | with_reducible apply K1.r_iStr
  | with_reducible apply K1.r_iRng1
  | with_reducible apply K1.r_m1
  | refine ⟨_, rfl, ?_⟩
  | refine ⟨⟨_, rfl⟩, ?_⟩
  | refine Or.inl ⟨_, rfl, ?_⟩
  | dsimp only))

namespace K1
open PySem L2
abbrev sMany : Stmt := top 52
theorem scMany : FnScope ["_law_bag", "_law_many"] ["_law_bag"] (defScope sMany) := ⟨rfl, rfl, rfl, by decide +kernel, rfl, by decide +kernel, by decide +kernel⟩
abbrev OMixed (P : Program) (w : World) (K : PySem.W.Frag) (mg : Str → Option Value) (base : Heap) : Prop := Own P w K mg base "_law_mixed" 2 ["_law_bag", "_law_row"] spMixed
def spMany : Sp := fun vs H Q _ => ∃ (b : Addr) (n : Nat), vs = [.ref b] ∧ IsBag H b n ∧ n + 40 ≤ 2 ^ 40 ∧ ∀ (z : Str) H', Good z → IsBag H' b (n + 40) → Kp b H H' → Q (.str z) H'
section
variable {P : Program} {w : World} {K : PySem.W.Frag} {mg : Str → Option Value} {base : Heap}
theorem IsBag.new {H : Hp} {b p : Addr} {n : Nat} {o : HO} (h : IsBag H b n) (hp : H p = none) : IsBag (upd H p o) b n := by
  obtain ⟨d, s, c, e, r⟩ := h
  exact ⟨d, s, c, by rw [upd_ne (ne_of_none e hp)]; exact e, r⟩
theorem IsBag.ne {H : Hp} {b p : Addr} {n : Nat} (h : IsBag H b n) (hp : H p = none) : p ≠ b := fun q => by
  obtain ⟨_, _, _, e, _⟩ := h
  rw [q, e] at hp; cases hp
theorem cutV_take {xs : List V} {m : Int} (h0 : 0 ≤ m) : cutV xs none (some m) = xs.take m.toNat := by
  unfold cutV
  obtain ⟨k, rfl⟩ : ∃ k : Nat, m = k := ⟨m.toNat, by omega⟩
  rw [HT.sIx_none, HT.sIx_nat, List.drop_zero, Nat.sub_zero, Int.toNat_natCast]
  by_cases h : k ≤ xs.length
  · rw [Nat.min_eq_left h]
  · rw [Nat.min_eq_right (by omega), List.take_length, List.take_of_length_le (by omega)]
theorem ok_many {f : Addr} {fd : FuncData} (F : Fun K "_law_many_signs" "_law_many_signs" sMany f fd) (B : Bl mg) (Op : OPick P w K mg base) (Om : OMixed P w K mg base) : FnOk P w K mg base CX0 3 f fd ["_law_bag"] spMany := by
  refine F.ok scMany (fun vs H Q E h => ?_) (fun cdv A outer s H vs Q E hr h => ?_)
  · obtain ⟨b, n, rfl, _⟩ := h
    rfl
  · obtain ⟨b, n, rfl, hb, hn, k⟩ := h
    have hr1 : Room 1 _ := hr.mono (by decide)
    refine ⟨_, pss_cons (ps_set (i := 1) scMany.nd rfl (Or.inl rfl) (pe_op op_add pe_int (pe_own Op hr1 (pa_cons (pv 0) (pa_cons (pe_ix ix_list (pe_lst (pa_cons pe_int (pa_cons pe_int pa_nil)))
          (pe_own Op hr1 (pa_cons (pv 0) (pa_cons pe_int pa_nil))) (fun _ _ => rfl)) pa_nil)))))
      (pss_one (ps_ret (pe_join pe_str (pe_callB cr_sortedS (by rfl) B.sorted (by decide +kernel) (pa_cons (pe_slice sl_list (pe_own Om hr (pa_cons (pv 0) (pa_cons pe_str pa_nil))) po_none (po_some (pv 1))) pa_nil))))), ?_⟩
    try dsimp only [cxOf, Cx.nox, Cx.wish]
    walk_at "go"
    refine ⟨(by show 2 ≤ sizeLine; decide), fun p hp => ?_⟩
    have npb := hb.ne hp
    walk_at "go"
    refine ⟨_, _, n, rfl, hb.new hp, by omega, by decide, fun r H1 r0 r1 hb1 off1 => ?_⟩
    obtain ⟨v, ev, hv, _⟩ := at_nat' (xs := [V.int 3, V.int 11]) r0 (by show r < 2; omega)
    obtain ⟨q, rfl, q0, q1⟩ : ∃ q : Int, v = .int q ∧ 3 ≤ q ∧ q ≤ 11 := by
      rcases List.mem_cons.mp hv with rfl | hv
      · exact ⟨3, rfl, by decide, by decide⟩
      · rcases List.mem_cons.mp hv with rfl | hv
        · exact ⟨11, rfl, by decide, by decide⟩
        · cases hv
    refine r_ixL (SqL.of (off1.at npb upd_same)) ev ?_
    walk_at "go"
    refine ⟨_, _, _, rfl, hb1, by omega, by omega, fun r' H2 s0 s1 hb2 off2 => ?_⟩
    walk_at "go"
    refine ⟨_, _, _, rfl, hb2, (by show n + 1 + 1 + 36 ≤ 2 ^ 40; omega), (by decide), fun ys H3 l pm hb3 kp3 hl el nlb => ?_⟩
    walk_at "go"
    refine r_slL (SqL.of el) (fun l2 hl2 => ?_)
    walk_at "go"
    have ec : cutV (ys.map V.str) none (some (2 + r')) = (ys.take (2 + r').toNat).map V.str := by rw [cutV_take (by omega), List.map_take]
    refine ⟨l2, ys.take (2 + r').toNat, rfl, SqL.of (by rw [upd_same, ec]), ?_, fun zs l3 pz sz hl3 => ?_⟩
    · rw [List.length_take]; omega
    obtain ⟨gd, gl, g1, gz⟩ := good_of pm (m := (2 + r').toNat) (by omega) (by omega) pz sz
    walk_at "go"
    refine ⟨_, l3, zs, rfl, rfl, .inl (SqL.of upd_same), ?_, ?_⟩
    · have e1 : zs.map (·.length) = zs.map fun _ => 1 := List.map_congr_left g1
      rw [e1, gz]
      have e2 : ∀ l : List Str, (l.map fun _ => 1).sum = l.length := fun l => by induction l with | nil => rfl | cons a l ih => simp [ih]; omega
      rw [e2, gz]
      show (2 + r').toNat + (2 + r').toNat * 0 ≤ 16777216
      omega
    have ej : Txt.join ("" : Str) zs = Str.join "" zs := eq_of_beq (PyProof.Rows.join_plain_closes "" zs)
    show Q (.str (Txt.join ("" : Str) zs)) _
    rw [ej]
    refine k _ _ gd ?_ ?_
    · exact ((hb3.new hl2).new hl3).mono (by show n + 1 + 1 + 36 ≤ n + 40; omega)
    · refine Kp.trans (Same.kp (same_new hp)) (Kp.trans off1.kp (Kp.trans off2.kp (Kp.trans kp3 (Same.kp (Same.trans (same_new hl2) (same_new hl3))))))
end
end K1

/-! M4 -/
/-! Rules, their words, their data. -/
namespace K4
open PySem L2 PyProof.Rows
abbrev tl (z : Str) : List Nat := z.cps.toList
abbrev ALL : Str := "0123456789ABCDEFGHIJKLMNOPQRSTUVWXYZ"
theorem str_ext {x y : Str} (h : tl x = tl y) : x = y := by
  cases x with | mk a => cases y with | mk b => exact congrArg Str.mk (Array.toList_inj.mp h)
theorem len_tl (x : Str) : x.length = (tl x).length := by simp [Str.length]
/-- a number's word -/
def num (n : Nat) : Str := Str.ofString (toString ((n : Nat) : Int))
theorem tl_numL (n : Nat) : tl (num n) = TL.numL n := TL.tl_num n
def numOk (n : Nat) : Bool := (TL.numL n).all (fun c => 48 ≤ c && c ≤ 57) && 1 ≤ (TL.numL n).length && (TL.numL n).length ≤ 2 && ((TL.numL n).head? != some 48 || TL.numL n == [48])
theorem num_all : (List.range 61).all numOk = true := by decide +kernel
theorem num_ok {n : Nat} (h : n ≤ 60) : (∀ c ∈ tl (num n), 48 ≤ c ∧ c ≤ 57) ∧ 1 ≤ (tl (num n)).length ∧ (tl (num n)).length ≤ 2 ∧ ((tl (num n)).head? ≠ some 48 ∨ tl (num n) = [48]) := by
  have a := List.all_eq_true.mp num_all n (List.mem_range.mpr (by omega))
  rw [tl_numL]
  simpa [numOk, and_assoc] using a
theorem num_int {n : Nat} (h : n ≤ 60) : intText? (num n) = some (n : Int) := TL.int_num (by have := (num_ok h).2.2.1; rw [tl_numL] at this; omega)
theorem num_inj {n m : Nat} (hn : n ≤ 60) (hm : m ≤ 60) (e : num n = num m) : n = m := by
  have a := num_int hn
  rw [e, num_int hm] at a
  have b := Option.some.inj a
  omega
theorem num_no {n c : Nat} (h : n ≤ 60) (hc : c < 48) : c ∉ tl (num n) := fun q => by have := ((num_ok h).1 c q).1; omega
abbrev CM : Str := ","
abbrev SL : Str := "/"
abbrev SP : Str := " "
theorem tl_CM : tl CM = [44] := by decide +kernel
theorem tl_SL : tl SL = [47] := by decide +kernel
theorem tl_SP : tl SP = [32] := by decide +kernel
/-! ### joined -/
theorem spl_CM {ys : List Str} (h : ys ≠ []) (k : ∀ y ∈ ys, 44 ∉ tl y) : Txt.split (Txt.join CM ys) CM = ys := TL.split_join tl_CM (by decide +kernel) h k
theorem spl_SL {ys : List Str} (h : ys ≠ []) (k : ∀ y ∈ ys, 47 ∉ tl y) : Txt.split (Txt.join SL ys) SL = ys := TL.split_join tl_SL (by decide +kernel) h k
theorem spl_SP {ys : List Str} (h : ys ≠ []) (k : ∀ y ∈ ys, 32 ∉ tl y) : Txt.split (Txt.join SP ys) SP = ys := TL.split_join tl_SP (by decide +kernel) h k
theorem tl_joinL (y : Str) (ys : List Str) : tl (Txt.join y ys) = TL.joinL (tl y) (ys.map tl) := by
  show TL.tl _ = _
  rw [TL.join_eq, TL.tl_join]
theorem mem_joinL {S : List Nat} {c : Nat} : ∀ {ps : List (List Nat)}, c ∈ TL.joinL S ps → c ∈ S ∨ ∃ p ∈ ps, c ∈ p
  | [], h => by simp [TL.joinL] at h
  | [p], h => .inr ⟨p, List.mem_singleton.mpr rfl, h⟩
  | p :: q :: r, h => by
    have h' : c ∈ p ++ (S ++ TL.joinL S (q :: r)) := h
    rcases List.mem_append.mp h' with h' | h'
    · exact .inr ⟨p, List.mem_cons_self .., h'⟩
    rcases List.mem_append.mp h' with h' | h'
    · exact .inl h'
    rcases mem_joinL h' with h' | ⟨z, hz, hc⟩
    · exact .inl h'
    · exact .inr ⟨z, List.mem_cons_of_mem _ hz, hc⟩
theorem mem_join {y : Str} {c : Nat} {ys : List Str} (h : c ∈ tl (Txt.join y ys)) : c ∈ tl y ∨ ∃ p ∈ ys, c ∈ tl p := by
  rw [tl_joinL] at h
  rcases mem_joinL h with h | ⟨p, hp, hc⟩
  · exact .inl h
  · obtain ⟨z, hz, rfl⟩ := List.mem_map.mp hp
    exact .inr ⟨z, hz, hc⟩
theorem len_joinL {S : List Nat} {b : Nat} : ∀ {ps : List (List Nat)}, (∀ p ∈ ps, p.length ≤ b) → (TL.joinL S ps).length ≤ ps.length * (b + S.length)
  | [], _ => by simp [TL.joinL]
  | [p], h => by
    have := h p (List.mem_singleton.mpr rfl)
    show p.length ≤ _
    simp only [List.length_cons, List.length_nil]; omega
  | p :: q :: r, h => by
    have a := h p (List.mem_cons_self ..)
    have b' := len_joinL (S := S) (ps := q :: r) fun z hz => h z (List.mem_cons_of_mem _ hz)
    show (p ++ (S ++ TL.joinL S (q :: r))).length ≤ (((q :: r).length) + 1) * (b + S.length)
    rw [List.length_append, List.length_append, Nat.add_mul]
    omega
theorem len_join {y : Str} {b : Nat} {ys : List Str} (h : ∀ p ∈ ys, (tl p).length ≤ b) : (tl (Txt.join y ys)).length ≤ ys.length * (b + (tl y).length) := by
  rw [tl_joinL]
  have := len_joinL (S := tl y) (b := b) (ps := ys.map tl) (fun p hp => by obtain ⟨z, hz, rfl⟩ := List.mem_map.mp hp; exact h z hz)
  rw [List.length_map] at this
  exact this
theorem sum_le {ys : List Str} {b : Nat} (h : ∀ p ∈ ys, (tl p).length ≤ b) : (ys.map (·.length)).sum ≤ ys.length * b := by
  induction ys with
  | nil => simp
  | cons y ys ih =>
    have a := h y (List.mem_cons_self ..)
    have := ih fun p hp => h p (List.mem_cons_of_mem _ hp)
    rw [List.map_cons, List.sum_cons, List.length_cons, Nat.add_mul, len_tl]
    omega
/-- numbers joined by commas -/
def commas (ns : List Nat) : Str := Txt.join CM (ns.map num)
def Nums (b : Nat) (ns : List Nat) : Prop := ns ≠ [] ∧ ns.length ≤ 60 ∧ ∀ n ∈ ns, n ≤ b
theorem Nums.mono {a b : Nat} {ns : List Nat} (h : Nums a ns) (l : a ≤ b) : Nums b ns := ⟨h.1, h.2.1, fun n q => Nat.le_trans (h.2.2 n q) l⟩
theorem split_commas {ns : List Nat} (h : Nums 60 ns) : Txt.split (commas ns) CM = ns.map num :=
  spl_CM (fun e => h.1 (List.map_eq_nil_iff.mp e)) fun y hy => by
    obtain ⟨n, hn, rfl⟩ := List.mem_map.mp hy
    exact num_no (h.2.2 n hn) (by decide)
theorem map_num_inj : ∀ {xs ys : List Nat}, (∀ n ∈ xs, n ≤ 60) → (∀ n ∈ ys, n ≤ 60) → xs.map num = ys.map num → xs = ys
  | [], [], _, _, _ => rfl
  | [], _ :: _, _, _, h => by simp at h
  | _ :: _, [], _, _, h => by simp at h
  | x :: xs, y :: ys, a, b, h => by
    rw [List.map_cons, List.map_cons] at h
    have h1 := (List.cons.inj h)
    rw [num_inj (a x (List.mem_cons_self ..)) (b y (List.mem_cons_self ..)) h1.1, map_num_inj (fun n q => a n (List.mem_cons_of_mem _ q)) (fun n q => b n (List.mem_cons_of_mem _ q)) h1.2]
theorem commas_inj {xs ys : List Nat} (hx : Nums 60 xs) (hy : Nums 60 ys) (e : commas xs = commas ys) : xs = ys :=
  map_num_inj hx.2.2 hy.2.2 (by rw [← split_commas hx, ← split_commas hy, e])
theorem commas_no {ns : List Nat} {c : Nat} (h : Nums 60 ns) (hc : c < 48) (h44 : c ≠ 44) : c ∉ tl (commas ns) := fun q => by
  rcases mem_join q with q | ⟨p, hp, q⟩
  · rw [tl_CM] at q; simp at q; exact h44 q
  · obtain ⟨n, hn, rfl⟩ := List.mem_map.mp hp
    exact num_no (h.2.2 n hn) hc q
theorem commas_no47 {ns : List Nat} (h : Nums 60 ns) : 47 ∉ tl (commas ns) := commas_no h (by decide) (by decide)
theorem commas_len {ns : List Nat} (h : Nums 60 ns) : (tl (commas ns)).length ≤ ns.length * 3 := by
  have := len_join (y := CM) (b := 2) (ys := ns.map num) (fun p hp => by obtain ⟨n, hn, rfl⟩ := List.mem_map.mp hp; exact (num_ok (h.2.2 n hn)).2.2.1)
  rw [List.length_map, tl_CM] at this
  exact this
/-! ### parts -/
inductive Ow
  | any | back | not | both | either
  | sum (m : Nat) (ws : List Nat) (g : Nat)
  | square (rows : List (List Nat)) (gs : List Nat)
  | faces (fs : List Str)
  | cut (a b : Nat)
def Ow.kind : Ow → Nat
  | .any => 0 | .back => 1 | .not => 2 | .both => 3 | .either => 4 | .sum .. => 5 | .square .. => 6 | .faces .. => 7 | .cut .. => 8
def wd : Nat → Str
  | 0 => "any" | 1 => "back" | 2 => "not" | 3 => "both" | 4 => "either" | 5 => "sum" | 6 => "square" | 7 => "faces" | _ => "cut"
def ar : Nat → Nat
  | 0 => 0 | 1 => 1 | 2 => 1 | 3 => 2 | 4 => 2 | 5 => 0 | 6 => 0 | 7 => 1 | _ => 1
def mn : Nat → Nat
  | 5 => 3 | 6 => 2 | 7 => 1 | 8 => 2 | _ => 0
abbrev Ow.word (o : Ow) : Str := wd o.kind
theorem Ow.kind_lt (o : Ow) : o.kind < 9 := by cases o <;> (show (_ : Nat) < 9; simp only [Ow.kind]; decide)
theorem wd_inj : ∀ i < 9, ∀ j < 9, wd i = wd j → i = j := by decide +kernel
theorem wd_ok : ∀ i < 9, 32 ∉ tl (wd i) ∧ (tl (wd i)).length ≤ 6 ∧ 1 ≤ (tl (wd i)).length := by decide +kernel
def Ow.words : Ow → List Str
  | .sum m ws g => [num m, commas ws, num g]
  | .square rows gs => [Txt.join SL (rows.map commas), commas gs]
  | .faces fs => [Txt.join CM fs]
  | .cut a b => [num a, num b]
  | _ => []
def sq (t : Bool) (ds : List PyData) : PyData := if t = true then .tuple ds else .list ds
def pn (n : Nat) : PyData := .int n
def Ow.data (t : Bool) : Ow → List PyData
  | .sum m ws g => [pn m, sq t (ws.map pn), pn g]
  | .square rows gs => [sq t (rows.map fun row => sq t (row.map pn)), sq t (gs.map pn)]
  | .faces fs => [sq t (fs.map .str)]
  | .cut a b => [pn a, pn b]
  | _ => []
def Face (f : Str) : Prop := 2 ≤ (tl f).length ∧ (tl f).length ≤ 12 ∧ ∀ c ∈ tl f, c ∈ tl ALL
def Row (r : List Nat) : Prop := 2 ≤ r.length ∧ r.length ≤ 12 ∧ ∀ x ∈ r, x ≤ 59
def Ow.ok : Ow → Prop
  | .sum m ws g => 2 ≤ m ∧ m ≤ 60 ∧ Nums 59 ws ∧ ws.length ≤ 8 ∧ g ≤ 59
  | .square rows gs => rows ≠ [] ∧ rows.length ≤ 60 ∧ (∀ r ∈ rows, Row r) ∧ Nums 59 gs
  | .faces fs => fs ≠ [] ∧ fs.length ≤ 4 ∧ ∀ f ∈ fs, Face f
  | .cut a b => a ≤ 3 ∧ b ≤ 3
  | _ => True
theorem Row.nums {r : List Nat} (h : Row r) : Nums 60 r := ⟨fun e => by rw [e] at h; exact absurd h.1 (by decide), by have := h.2.1; omega, fun n q => Nat.le_trans (h.2.2 n q) (by decide)⟩
theorem all_ge : ∀ c ∈ tl ALL, 48 ≤ c := by decide +kernel
theorem Face.no {f : Str} {c : Nat} (h : Face f) (hc : c < 48) : c ∉ tl f := fun q => by have := all_ge c (h.2.2 c q); omega
theorem Ow.words_len (o : Ow) : o.words.length = mn o.kind := by cases o <;> rfl
theorem Ow.data_len (t : Bool) (o : Ow) : (o.data t).length = mn o.kind := by cases o <;> rfl

theorem Ow.words_ok {o : Ow} (h : o.ok) : ∀ w ∈ o.words, 32 ∉ tl w ∧ (tl w).length ≤ 2500 := by
  cases o with
  | sum m ws g =>
    obtain ⟨h1, h2, h3, h4, h5⟩ := h
    have c := commas_len (h3.mono (by decide : 59 ≤ 60))
    intro w hw
    simp only [Ow.words, List.mem_cons, List.not_mem_nil, or_false] at hw
    rcases hw with rfl | rfl | rfl
    · exact ⟨num_no h2 (by decide), by have := (num_ok h2).2.2.1; omega⟩
    · exact ⟨commas_no (h3.mono (by decide)) (by decide) (by decide), by omega⟩
    · exact ⟨num_no (by omega) (by decide), by have := (num_ok (show g ≤ 60 by omega)).2.2.1; omega⟩
  | square rows gs =>
    obtain ⟨h1, h2, h3, h4⟩ := h
    intro w hw
    simp only [Ow.words, List.mem_cons, List.not_mem_nil, or_false] at hw
    rcases hw with rfl | rfl
    · refine ⟨fun q => ?_, ?_⟩
      · rcases mem_join q with q | ⟨p, hp, q⟩
        · rw [tl_SL] at q; simp at q
        · obtain ⟨r, hr, rfl⟩ := List.mem_map.mp hp
          exact commas_no (h3 r hr).nums (by decide) (by decide) q
      · have := len_join (y := SL) (b := 36) (ys := rows.map commas) (fun p hp => by
          obtain ⟨r, hr, rfl⟩ := List.mem_map.mp hp
          have a := commas_len (h3 r hr).nums
          have b := (h3 r hr).2.1
          omega)
        rw [List.length_map, tl_SL] at this
        simp only [List.length_cons, List.length_nil] at this
        omega
    · have c := commas_len (h4.mono (by decide : 59 ≤ 60))
      have := h4.2.1
      exact ⟨commas_no (h4.mono (by decide)) (by decide) (by decide), by omega⟩
  | faces fs =>
    obtain ⟨h1, h2, h3⟩ := h
    intro w hw
    simp only [Ow.words, List.mem_cons, List.not_mem_nil, or_false] at hw
    subst hw
    refine ⟨fun q => ?_, ?_⟩
    · rcases mem_join q with q | ⟨p, hp, q⟩
      · rw [tl_CM] at q; simp at q
      · exact (h3 p hp).no (by decide) q
    · have := len_join (y := CM) (b := 12) (ys := fs) (fun p hp => (h3 p hp).2.1)
      rw [tl_CM] at this
      simp only [List.length_cons, List.length_nil] at this
      omega
  | cut a b =>
    obtain ⟨h1, h2⟩ := h
    intro w hw
    simp only [Ow.words, List.mem_cons, List.not_mem_nil, or_false] at hw
    rcases hw with rfl | rfl
    · exact ⟨num_no (by omega) (by decide), by have := (num_ok (show a ≤ 60 by omega)).2.2.1; omega⟩
    · exact ⟨num_no (by omega) (by decide), by have := (num_ok (show b ≤ 60 by omega)).2.2.1; omega⟩
  | _ => intro w hw; simp [Ow.words] at hw
theorem rows_split {rows : List (List Nat)} (h1 : rows ≠ []) (h3 : ∀ r ∈ rows, Row r) : Txt.split (Txt.join SL (rows.map commas)) SL = rows.map commas :=
  spl_SL (fun e => h1 (List.map_eq_nil_iff.mp e)) fun y hy => by
    obtain ⟨r, hr, rfl⟩ := List.mem_map.mp hy
    exact commas_no47 (h3 r hr).nums
theorem faces_split {fs : List Str} (h1 : fs ≠ []) (h3 : ∀ f ∈ fs, Face f) : Txt.split (Txt.join CM fs) CM = fs := spl_CM h1 fun y hy => (h3 y hy).no (by decide)
theorem map_commas_inj : ∀ {xs ys : List (List Nat)}, (∀ r ∈ xs, Row r) → (∀ r ∈ ys, Row r) → xs.map commas = ys.map commas → xs = ys
  | [], [], _, _, _ => rfl
  | [], _ :: _, _, _, h => by simp at h
  | _ :: _, [], _, _, h => by simp at h
  | x :: xs, y :: ys, a, b, h => by
    rw [List.map_cons, List.map_cons] at h
    have h1 := (List.cons.inj h)
    rw [commas_inj (a x (List.mem_cons_self ..)).nums (b y (List.mem_cons_self ..)).nums h1.1, map_commas_inj (fun n q => a n (List.mem_cons_of_mem _ q)) (fun n q => b n (List.mem_cons_of_mem _ q)) h1.2]
theorem Ow.words_inj {o p : Ow} (ho : o.ok) (hp : p.ok) (k : o.kind = p.kind) (e : o.words = p.words) : o = p := by
  cases o <;> cases p <;> first
    | rfl
    | (exact absurd k (by simp only [Ow.kind]; decide))
    | skip
  · rename_i m ws g m' ws' g'
    simp only [Ow.words, List.cons.injEq, and_true] at e
    obtain ⟨h1, h2, h3, h4, h5⟩ := ho
    obtain ⟨k1, k2, k3, k4, k5⟩ := hp
    rw [num_inj h2 k2 e.1, commas_inj (h3.mono (by decide)) (k3.mono (by decide)) e.2.1, num_inj (by omega) (by omega) e.2.2]
  · rename_i rows gs rows' gs'
    simp only [Ow.words, List.cons.injEq, and_true] at e
    obtain ⟨h1, h2, h3, h4⟩ := ho
    obtain ⟨k1, k2, k3, k4⟩ := hp
    have a : rows.map commas = rows'.map commas := by rw [← rows_split h1 h3, ← rows_split k1 k3, e.1]
    rw [map_commas_inj h3 k3 a, commas_inj (h4.mono (by decide)) (k4.mono (by decide)) e.2]
  · rename_i fs fs'
    simp only [Ow.words, List.cons.injEq, and_true] at e
    have a : fs = fs' := by rw [← faces_split ho.1 ho.2.2, ← faces_split hp.1 hp.2.2, e]
    rw [a]
  · rename_i a b a' b'
    simp only [Ow.words, List.cons.injEq, and_true] at e
    have h1 := ho.1
    have h2 := ho.2
    have k1 := hp.1
    have k2 := hp.2
    rw [num_inj (by omega) (by omega) e.1, num_inj (by omega) (by omega) e.2]
/-! ### rules -/
inductive R
  | n0 (o : Ow) | n1 (o : Ow) (a : R) | n2 (o : Ow) (a b : R)
def R.ow : R → Ow
  | .n0 o => o | .n1 o _ => o | .n2 o _ _ => o
def R.inner : R → List R
  | .n0 _ => [] | .n1 _ a => [a] | .n2 _ a b => [a, b]
def R.ok : R → Prop
  | .n0 o => o.ok ∧ ar o.kind = 0 | .n1 o a => o.ok ∧ ar o.kind = 1 ∧ a.ok | .n2 o a b => o.ok ∧ ar o.kind = 2 ∧ a.ok ∧ b.ok
def R.words : R → List Str
  | .n0 o => o.word :: o.words
  | .n1 o a => o.word :: (o.words ++ a.words)
  | .n2 o a b => o.word :: (o.words ++ (a.words ++ b.words))
def R.data (t : Bool) : R → PyData
  | .n0 o => sq t (.str o.word :: o.data t)
  | .n1 o a => sq t (.str o.word :: (o.data t ++ [a.data t]))
  | .n2 o a b => sq t (.str o.word :: (o.data t ++ [a.data t, b.data t]))
def R.parts : R → Nat
  | .n0 _ => 1 | .n1 _ a => a.parts + 1 | .n2 _ a b => a.parts + b.parts + 1
def R.depth : R → Nat
  | .n0 _ => 1 | .n1 _ a => a.depth + 1 | .n2 _ a b => max a.depth b.depth + 1
theorem R.depth_le : ∀ r : R, r.depth ≤ r.parts
  | .n0 _ => Nat.le_refl _
  | .n1 _ a => Nat.succ_le_succ a.depth_le
  | .n2 _ a b => by have h1 := a.depth_le; have h2 := b.depth_le; show max a.depth b.depth + 1 ≤ a.parts + b.parts + 1; omega
theorem R.parts_pos : ∀ r : R, 1 ≤ r.parts
  | .n0 _ => Nat.le_refl _
  | .n1 _ a => Nat.succ_le_succ (Nat.zero_le _)
  | .n2 _ a b => Nat.succ_le_succ (Nat.zero_le _)
theorem R.ok_ow : ∀ {r : R}, r.ok → r.ow.ok
  | .n0 _, h => h.1
  | .n1 _ _, h => h.1
  | .n2 _ _ _, h => h.1
theorem R.ok_ar : ∀ {r : R}, r.ok → r.inner.length = ar r.ow.kind
  | .n0 _, h => h.2.symm
  | .n1 _ _, h => h.2.1.symm
  | .n2 _ _ _, h => h.2.1.symm
theorem R.ok_in : ∀ {r : R}, r.ok → ∀ i ∈ r.inner, i.ok
  | .n0 _, _, i, q => by simp [R.inner] at q
  | .n1 _ _, h, i, q => by simp only [R.inner, List.mem_cons, List.not_mem_nil, or_false] at q; rw [q]; exact h.2.2
  | .n2 _ _ _, h, i, q => by
    simp only [R.inner, List.mem_cons, List.not_mem_nil, or_false] at q
    rcases q with rfl | rfl
    · exact h.2.2.1
    · exact h.2.2.2
theorem R.in_depth : ∀ {r : R}, ∀ i ∈ r.inner, i.depth + 1 ≤ r.depth
  | .n0 _, i, q => by simp [R.inner] at q
  | .n1 _ a, i, q => by simp only [R.inner, List.mem_cons, List.not_mem_nil, or_false] at q; rw [q]; exact Nat.le_refl _
  | .n2 _ a b, i, q => by
    simp only [R.inner, List.mem_cons, List.not_mem_nil, or_false] at q
    show i.depth + 1 ≤ max a.depth b.depth + 1
    rcases q with rfl | rfl <;> omega
theorem R.words_eq : ∀ r : R, r.words = r.ow.word :: (r.ow.words ++ (r.inner.map R.words).flatten)
  | .n0 o => by simp [R.words, R.ow, R.inner]
  | .n1 o a => by simp [R.words, R.ow, R.inner]
  | .n2 o a b => by simp [R.words, R.ow, R.inner]
theorem R.data_eq (t : Bool) : ∀ r : R, r.data t = sq t (.str r.ow.word :: (r.ow.data t ++ r.inner.map (R.data t)))
  | .n0 o => by simp [R.data, R.ow, R.inner]
  | .n1 o a => by simp [R.data, R.ow, R.inner]
  | .n2 o a b => by simp [R.data, R.ow, R.inner]
theorem R.parts_eq : ∀ r : R, r.parts = (r.inner.map R.parts).sum + 1
  | .n0 o => rfl
  | .n1 o a => by simp [R.parts, R.inner]
  | .n2 o a b => by simp [R.parts, R.inner]
theorem mn_le (k : Nat) : mn k ≤ 3 := by
  unfold mn
  split <;> decide
theorem R.words_len : ∀ r : R, r.words.length ≤ 4 * r.parts
  | .n0 o => by have := mn_le o.kind; simp only [R.words, R.parts, List.length_cons, Ow.words_len]; omega
  | .n1 o a => by have := mn_le o.kind; have := a.words_len; simp only [R.words, R.parts, List.length_cons, List.length_append, Ow.words_len]; omega
  | .n2 o a b => by have := mn_le o.kind; have := a.words_len; have := b.words_len; simp only [R.words, R.parts, List.length_cons, List.length_append, Ow.words_len]; omega
theorem R.words_ok : ∀ {r : R}, r.ok → ∀ w ∈ r.words, 32 ∉ tl w ∧ (tl w).length ≤ 2500
  | .n0 o, h, w, q => by
    have hw := wd_ok o.kind o.kind_lt
    simp only [R.words, List.mem_cons] at q
    rcases q with rfl | q
    · exact ⟨hw.1, Nat.le_trans hw.2.1 (by decide)⟩
    · exact Ow.words_ok h.1 w q
  | .n1 o a, h, w, q => by
    have hw := wd_ok o.kind o.kind_lt
    simp only [R.words, List.mem_cons, List.mem_append] at q
    rcases q with rfl | q | q
    · exact ⟨hw.1, Nat.le_trans hw.2.1 (by decide)⟩
    · exact Ow.words_ok h.1 w q
    · exact R.words_ok h.2.2 w q
  | .n2 o a b, h, w, q => by
    have hw := wd_ok o.kind o.kind_lt
    simp only [R.words, List.mem_cons, List.mem_append] at q
    rcases q with rfl | q | q | q
    · exact ⟨hw.1, Nat.le_trans hw.2.1 (by decide)⟩
    · exact Ow.words_ok h.1 w q
    · exact R.words_ok h.2.2.1 w q
    · exact R.words_ok h.2.2.2 w q
theorem R.words_ne (r : R) : r.words ≠ [] := by rw [r.words_eq]; simp
def R.text (r : R) : Str := Txt.join SP r.words
theorem R.split {r : R} (h : r.ok) : Txt.split r.text SP = r.words := spl_SP r.words_ne fun w q => (R.words_ok h w q).1
theorem R.text_len {r : R} (h : r.ok) : (tl r.text).length ≤ 10004 * r.parts := by
  have a := len_join (y := SP) (b := 2500) (ys := r.words) fun w q => (R.words_ok h w q).2
  rw [tl_SP] at a
  have b := r.words_len
  have c : (tl r.text).length ≤ r.words.length * (2500 + 1) := a
  omega
/-- the words tell the rule -/
theorem R.words_pre : ∀ {r s : R} {x y : List Str}, r.ok → s.ok → r.words ++ x = s.words ++ y → r = s ∧ x = y := by
  have kd : ∀ {o p : Ow} {x y : List Str}, o.ok → p.ok → o.word :: (o.words ++ x) = p.word :: (p.words ++ y) → o = p ∧ x = y := by
    intro o p x y ho hp e
    have e1 := List.cons.inj e
    have k := wd_inj _ o.kind_lt _ p.kind_lt e1.1
    have l : o.words.length = p.words.length := by rw [o.words_len, p.words_len, k]
    have e2 := List.append_inj e1.2 l
    exact ⟨Ow.words_inj ho hp k e2.1, e2.2⟩
  have sh : ∀ r : R, ∀ z : List Str, r.words ++ z = r.ow.word :: (r.ow.words ++ ((r.inner.map R.words).flatten ++ z)) := fun r z => by rw [r.words_eq]; simp
  intro r
  induction r with
  | n0 o =>
    intro s x y hr hs e
    rw [sh, sh] at e
    have k := kd hr.1 (R.ok_ow hs) e
    have a := R.ok_ar hs
    rw [← k.1, hr.2] at a
    cases s with
    | n0 p => exact ⟨by rw [show o = p from k.1], k.2⟩
    | n1 p c => simp [R.inner] at a
    | n2 p c d => simp [R.inner] at a
  | n1 o c ih =>
    intro s x y hr hs e
    rw [sh, sh] at e
    have k := kd hr.1 (R.ok_ow hs) e
    have a := R.ok_ar hs
    rw [← k.1, hr.2.1] at a
    cases s with
    | n0 p => simp [R.inner] at a
    | n1 p d =>
      have k2 : c.words ++ x = d.words ++ y := by simpa [R.inner] using k.2
      have q := ih hr.2.2 hs.2.2 k2
      exact ⟨by rw [show o = p from k.1, q.1], q.2⟩
    | n2 p c d => simp [R.inner] at a
  | n2 o c d ihc ihd =>
    intro s x y hr hs e
    rw [sh, sh] at e
    have k := kd hr.1 (R.ok_ow hs) e
    have a := R.ok_ar hs
    rw [← k.1, hr.2.1] at a
    cases s with
    | n0 p => simp [R.inner] at a
    | n1 p d => simp [R.inner] at a
    | n2 p c' d' =>
      have k2 : c.words ++ (d.words ++ x) = c'.words ++ (d'.words ++ y) := by simpa [R.inner] using k.2
      have q := ihc hr.2.2.1 hs.2.2.1 k2
      have q2 := ihd hr.2.2.2 hs.2.2.2 q.2
      exact ⟨by rw [show o = p from k.1, q.1, q2.1], q2.2⟩
theorem R.text_inj {r s : R} (hr : r.ok) (hs : s.ok) (e : r.text = s.text) : r = s :=
  (R.words_pre (x := []) (y := []) hr hs (by rw [List.append_nil, List.append_nil, ← R.split hr, ← R.split hs, e])).1
/-! ### data that are equal are the same -/
mutual
def pure : PyData → Bool
  | .int _ => true
  | .str _ => true
  | .tuple ds => pureA ds
  | _ => false
def pureA : List PyData → Bool
  | [] => true
  | d :: ds => pure d && pureA ds
end
mutual
theorem eqv_pure : ∀ (d e : PyData), pure d = true → PyData.eqv d e = true → pure e = true → d = e
  | .int i, e, _, h, q => by cases e <;> simp_all [PyData.eqv, pure]
  | .str i, e, _, h, q => by cases e <;> simp_all [PyData.eqv, pure]
  | .tuple ds, e, p, h, q => by
    cases e with
    | tuple es => rw [eqvA_pure ds es (by simpa [pure] using p) (by simpa [PyData.eqv] using h) (by simpa [pure] using q)]
    | _ => simp_all [PyData.eqv, pure]
  | .none, _, p, _, _ => by simp [pure] at p
  | .bool _, _, p, _, _ => by simp [pure] at p
  | .list _, _, p, _, _ => by simp [pure] at p
  | .dict _, _, p, _, _ => by simp [pure] at p
theorem eqvA_pure : ∀ (ds es : List PyData), pureA ds = true → PyData.eqvAll ds es = true → pureA es = true → ds = es
  | [], [], _, _, _ => rfl
  | [], _ :: _, _, h, _ => by simp [PyData.eqvAll] at h
  | _ :: _, [], _, h, _ => by simp [PyData.eqvAll] at h
  | d :: ds, e :: es, p, h, q => by
    simp only [pureA, Bool.and_eq_true] at p q
    simp only [PyData.eqvAll, Bool.and_eq_true] at h
    rw [eqv_pure d e p.1 h.1 q.1, eqvA_pure ds es p.2 h.2 q.2]
end
theorem pureA_iff : ∀ {ds : List PyData}, pureA ds = true ↔ ∀ d ∈ ds, pure d = true
  | [] => by simp [pureA]
  | d :: ds => by simp [pureA, pureA_iff]
theorem pure_nums (ns : List Nat) : pureA (ns.map pn) = true := pureA_iff.mpr fun d hd => by obtain ⟨n, _, rfl⟩ := List.mem_map.mp hd; rfl
theorem Ow.pure (o : Ow) : pureA (o.data true) = true := by
  cases o <;> simp only [Ow.data, pureA, sq, if_true, pn, K4.pure, pure_nums, Bool.and_true, Bool.true_and]
  · exact pureA_iff.mpr fun d hd => by obtain ⟨r, _, rfl⟩ := List.mem_map.mp hd; exact pure_nums r
  · exact pureA_iff.mpr fun d hd => by obtain ⟨r, _, rfl⟩ := List.mem_map.mp hd; rfl
theorem pureA_app {xs ys : List PyData} (h : pureA xs = true) (k : pureA ys = true) : pureA (xs ++ ys) = true :=
  pureA_iff.mpr fun d hd => by rcases List.mem_append.mp hd with q | q; exact pureA_iff.mp h d q; exact pureA_iff.mp k d q
theorem R.pure : ∀ r : R, K4.pure (r.data true) = true
  | .n0 o => by simpa [R.data, sq, K4.pure, pureA] using o.pure
  | .n1 o a => by simpa [R.data, sq, K4.pure, pureA] using pureA_app o.pure (by simpa [pureA] using a.pure)
  | .n2 o a b => by simpa [R.data, sq, K4.pure, pureA] using pureA_app o.pure (by simpa [pureA] using ⟨a.pure, b.pure⟩)

theorem pn_inj : ∀ {a b : Nat}, pn a = pn b → a = b := fun h => by
  have := PyData.int.inj h
  omega
theorem mapinj {α β : Type} {f : α → β} (hf : ∀ {a b}, f a = f b → a = b) : ∀ {xs ys : List α}, xs.map f = ys.map f → xs = ys
  | [], [], _ => rfl
  | [], _ :: _, h => by simp at h
  | _ :: _, [], h => by simp at h
  | x :: xs, y :: ys, h => by
    rw [List.map_cons, List.map_cons] at h
    have h1 := (List.cons.inj h)
    rw [hf h1.1, mapinj hf h1.2]
theorem Ow.data_inj {o p : Ow} (k : o.kind = p.kind) (e : o.data true = p.data true) : o = p := by
  cases o <;> cases p <;> first
    | rfl
    | (exact absurd k (by simp only [Ow.kind]; decide))
    | skip
  · simp only [Ow.data, sq, if_true, List.cons.injEq, and_true, PyData.tuple.injEq] at e
    rw [pn_inj e.1, mapinj pn_inj e.2.1, pn_inj e.2.2]
  · simp only [Ow.data, sq, if_true, List.cons.injEq, and_true, PyData.tuple.injEq] at e
    rw [mapinj (fun h => mapinj pn_inj (PyData.tuple.inj h)) e.1, mapinj pn_inj e.2]
  · simp only [Ow.data, sq, if_true, List.cons.injEq, and_true, PyData.tuple.injEq] at e
    rw [mapinj (fun h => PyData.str.inj h) e]
  · simp only [Ow.data, List.cons.injEq, and_true] at e
    rw [pn_inj e.1, pn_inj e.2]
theorem R.data_inj : ∀ {r s : R}, r.ok → s.ok → r.data true = s.data true → r = s := by
  have kd : ∀ {o p : Ow} {x y : List PyData}, PyData.tuple (.str o.word :: (o.data true ++ x)) = .tuple (.str p.word :: (p.data true ++ y)) → o = p ∧ x = y := by
    intro o p x y e
    have e1 := List.cons.inj (PyData.tuple.inj e)
    have k := wd_inj _ o.kind_lt _ p.kind_lt (PyData.str.inj e1.1)
    have l : (o.data true).length = (p.data true).length := by rw [o.data_len, p.data_len, k]
    have e2 := List.append_inj e1.2 l
    exact ⟨Ow.data_inj k e2.1, e2.2⟩
  have sh : ∀ r : R, r.data true = .tuple (.str r.ow.word :: (r.ow.data true ++ r.inner.map (R.data true))) := fun r => by rw [r.data_eq]; rfl
  intro r
  induction r with
  | n0 o =>
    intro s hr hs e
    rw [sh, sh] at e
    have k := kd e
    have a := R.ok_ar hs
    rw [← k.1] at a
    cases s with
    | n0 p => exact by rw [show o = p from k.1]
    | n1 p c => exact absurd k.2 (by simp [R.inner])
    | n2 p c d => exact absurd k.2 (by simp [R.inner])
  | n1 o c ih =>
    intro s hr hs e
    rw [sh, sh] at e
    have k := kd e
    cases s with
    | n0 p => exact absurd k.2 (by simp [R.inner])
    | n1 p d =>
      have k2 : c.data true = d.data true := by simpa [R.inner] using k.2
      rw [show o = p from k.1, ih hr.2.2 hs.2.2 k2]
    | n2 p c d => exact absurd k.2 (by simp [R.inner])
  | n2 o c d ihc ihd =>
    intro s hr hs e
    rw [sh, sh] at e
    have k := kd e
    cases s with
    | n0 p => exact absurd k.2 (by simp [R.inner])
    | n1 p d => exact absurd k.2 (by simp [R.inner])
    | n2 p c' d' =>
      have k2 : c.data true = c'.data true ∧ d.data true = d'.data true := by simpa [R.inner] using k.2
      rw [show o = p from k.1, ihc hr.2.2.1 hs.2.2.1 k2.1, ihd hr.2.2.2 hs.2.2.2 k2.2]
mutual
def flatN : PyData → Bool
  | .int _ => true
  | .str z => PyData.strOk z
  | .tuple ds => flatA ds
  | .list ds => flatA ds
  | _ => false
def flatA : List PyData → Bool
  | [] => true
  | d :: ds => flatN d && flatA ds
end
mutual
theorem canLay_flat : ∀ d : PyData, flatN d = true → PyData.canLay0 d = true
  | .int _, _ => by simp [PyData.canLay0]
  | .str _, h => by simpa [PyData.canLay0, flatN] using h
  | .tuple ds, h => by rw [PyData.canLay0]; exact canLayA_flat ds (by simpa [flatN] using h)
  | .list ds, h => by rw [PyData.canLay0]; exact canLayA_flat ds (by simpa [flatN] using h)
  | .none, h => by simp [flatN] at h
  | .bool _, h => by simp [flatN] at h
  | .dict _, h => by simp [flatN] at h
theorem canLayA_flat : ∀ ds : List PyData, flatA ds = true → PyData.canLayAll0 ds = true
  | [], _ => by simp [PyData.canLayAll0]
  | d :: ds, h => by
    simp only [flatA, Bool.and_eq_true] at h
    rw [PyData.canLayAll0, canLay_flat d h.1, canLayA_flat ds h.2]
    rfl
end

theorem flatA_iff : ∀ {ds : List PyData}, flatA ds = true ↔ ∀ d ∈ ds, flatN d = true
  | [] => by simp [flatA]
  | d :: ds => by simp [flatA, flatA_iff]
theorem depthA_le {n : Nat} : ∀ {ds : List PyData}, (∀ d ∈ ds, d.depth ≤ n) → PyData.depthAll ds ≤ n
  | [], _ => Nat.zero_le _
  | d :: ds, h => by
    rw [PyData.depthAll]
    have := h d (List.mem_cons_self ..)
    have := depthA_le fun e q => h e (List.mem_cons_of_mem _ q)
    omega
theorem flat_sq {t : Bool} {ds : List PyData} (h : ∀ d ∈ ds, flatN d = true) : flatN (sq t ds) = true := by
  cases t <;> exact flatA_iff.mpr h
theorem depth_sq {t : Bool} {ds : List PyData} {n : Nat} (h : ∀ d ∈ ds, d.depth ≤ n) : (sq t ds).depth ≤ n + 1 := by
  cases t <;> exact Nat.succ_le_succ (depthA_le h)
theorem mem_map_pn {ns : List Nat} {d : PyData} (h : d ∈ ns.map pn) : flatN d = true ∧ d.depth ≤ 0 := by
  obtain ⟨n, _, rfl⟩ := List.mem_map.mp h
  exact ⟨rfl, Nat.le_refl _⟩
end K4

/-! H4 -/
/-! Rules in a heap. -/
namespace K4
open PySem L2 K1 PyProof.Rows
abbrev vi (n : Nat) : V := .int n
section
variable {K : PySem.W.Frag} {H H' : Hp}
mutual
theorem dp_keep (k : Keeps K H H') : ∀ (d : PyData) (v : V), Dp K H v d → Dp K H' v d
  | .none, _, h => by cases h; exact .non
  | .bool b, _, h => by cases h; exact .bl b
  | .int i, _, h => by cases h; exact .int i
  | .str x, _, h => by cases h; exact .str x
  | .list ds, _, h => by
    cases h with
    | lst hs ha => exact .lst (k.1 _ _ hs) (dpA_keep k ds _ ha)
  | .tuple ds, _, h => by
    cases h with
    | tup hs ha => exact .tup (k.2 _ _ hs) (dpA_keep k ds _ ha)
  | .dict _, _, h => by cases h
theorem dpA_keep (k : Keeps K H H') : ∀ (ds : List PyData) (vs : List V), DpAll K H vs ds → DpAll K H' vs ds
  | [], _, h => by cases h; exact .nil
  | d :: ds, _, h => by
    cases h with
    | cons a b => exact .cons (dp_keep k d _ a) (dpA_keep k ds _ b)
end
abbrev KT (K : PySem.W.Frag) (H H' : Hp) : Prop := ∀ a xs, SqT K H a xs → SqT K H' a xs
mutual
theorem dp_pure (k : KT K H H') : ∀ (d : PyData) (v : V), pure d = true → Dp K H v d → Dp K H' v d
  | .none, _, p, _ => by simp [pure] at p
  | .bool b, _, p, _ => by simp [pure] at p
  | .int i, _, _, h => by cases h; exact .int i
  | .str x, _, _, h => by cases h; exact .str x
  | .list ds, _, p, _ => by simp [pure] at p
  | .tuple ds, _, p, h => by
    cases h with
    | tup hs ha => exact .tup (k _ _ hs) (dpA_pure k ds _ (by simpa [pure] using p) ha)
  | .dict _, _, _, h => by cases h
theorem dpA_pure (k : KT K H H') : ∀ (ds : List PyData) (vs : List V), pureA ds = true → DpAll K H vs ds → DpAll K H' vs ds
  | [], _, _, h => by cases h; exact .nil
  | d :: ds, _, p, h => by
    simp only [pureA, Bool.and_eq_true] at p
    cases h with
    | cons a b => exact .cons (dp_pure k d _ p.1 a) (dpA_pure k ds _ p.2 b)
end
theorem kt_lst {D : Addr} {xs ys : List V} (e : H D = some (.lst xs)) : KT K H (upd H D (.lst ys)) := fun a zs h =>
  Kp.sqT (b := D) (fun c o n q => by rw [upd_ne n]; exact q) e h
theorem kt_ins {D : Addr} {C dx : Addr} {fs gs : List (Str × V)} (e : H D = some (.ins C dx fs)) : KT K H (upd H D (.ins C dx gs)) := fun a zs h =>
  (Kp.keeps (b := D) (fun c o n q => by rw [upd_ne n]; exact q) e).2 _ _ h
theorem KT.trans {H2 : Hp} (x : KT K H H') (y : KT K H' H2) : KT K H H2 := fun a xs h => y a xs (x a xs h)
theorem Same.kt (e : Same H H') : KT K H H' := (Same.keeps e).2
theorem dpA_app : ∀ {vs : List V} {ds : List PyData} {ws : List V} {es : List PyData}, DpAll K H vs ds → DpAll K H ws es → DpAll K H (vs ++ ws) (ds ++ es)
  | _, _, _, _, .nil, h => h
  | _, _, _, _, .cons a b, h => .cons a (dpA_app b h)
theorem dpA_split : ∀ {ds es : List PyData} {vs : List V}, DpAll K H vs (ds ++ es) → ∃ xs ys, vs = xs ++ ys ∧ DpAll K H xs ds ∧ DpAll K H ys es
  | [], es, vs, h => ⟨[], vs, rfl, .nil, h⟩
  | d :: ds, es, _, h => by
    cases h with
    | cons a b =>
      obtain ⟨xs, ys, rfl, p, q⟩ := dpA_split b
      exact ⟨_ :: xs, ys, rfl, .cons a p, q⟩
theorem dpA_len : ∀ {vs : List V} {ds : List PyData}, DpAll K H vs ds → vs.length = ds.length
  | _, _, .nil => rfl
  | _, _, .cons _ b => congrArg (· + 1) (dpA_len b)
theorem dpA_get : ∀ {vs : List V} {ds : List PyData}, DpAll K H vs ds → ∀ {i : Nat} {v : V}, vs[i]? = some v → ∃ d, ds[i]? = some d ∧ Dp K H v d
  | _, _, .nil, i, v, h => by simp at h
  | _, _, .cons a b, 0, v, h => ⟨_, rfl, by simp at h; rw [← h]; exact a⟩
  | _, _, .cons a b, i + 1, v, h => dpA_get b (by simpa using h)
theorem dpA_nums : ∀ {ns : List Nat} {vs : List V}, DpAll K H vs (ns.map pn) ↔ vs = ns.map vi
  | [], vs => ⟨fun h => by cases h; rfl, fun h => by subst h; exact .nil⟩
  | n :: ns, vs => ⟨fun h => by
      cases h with
      | cons a b => cases a; rw [dpA_nums.mp b]; rfl, fun h => by subst h; exact .cons (.int _) (dpA_nums.mpr rfl)⟩
theorem dpA_strs : ∀ {ns : List Str} {vs : List V}, DpAll K H vs (ns.map .str) ↔ vs = ns.map V.str
  | [], vs => ⟨fun h => by cases h; rfl, fun h => by subst h; exact .nil⟩
  | n :: ns, vs => ⟨fun h => by
      cases h with
      | cons a b => cases a; rw [dpA_strs.mp b]; rfl, fun h => by subst h; exact .cons (.str _) (dpA_strs.mpr rfl)⟩
theorem dp_sq {t : Bool} {v : V} {ds : List PyData} (h : Dp K H v (sq t ds)) : ∃ xs, Sq K H v xs ∧ DpAll K H xs ds := by
  cases t
  · cases h with
    | lst a b => exact ⟨_, ⟨_, rfl, .inl a⟩, b⟩
  · cases h with
    | tup a b => exact ⟨_, ⟨_, rfl, .inr a⟩, b⟩
/-- numbers -/
def NumsAt (K : PySem.W.Frag) (H : Hp) (v : V) (ns : List Nat) : Prop := Sq K H v (ns.map vi)
def RowsAt (K : PySem.W.Frag) (H : Hp) : List V → List (List Nat) → Prop
  | [], [] => True
  | v :: vs, r :: rs => NumsAt K H v r ∧ RowsAt K H vs rs
  | _, _ => False
def OwAt (K : PySem.W.Frag) (H : Hp) (xs : List V) : Ow → Prop
  | .sum m ws g => ∃ w, xs = [vi m, w, vi g] ∧ NumsAt K H w ws
  | .square rows gs => ∃ a g rvs, xs = [a, g] ∧ Sq K H a rvs ∧ RowsAt K H rvs rows ∧ NumsAt K H g gs
  | .faces fs => ∃ f, xs = [f] ∧ Sq K H f (fs.map V.str)
  | .cut a b => xs = [vi a, vi b]
  | _ => xs = []
theorem RowsAt.keep (k : Keeps K H H') : ∀ {vs : List V} {rs : List (List Nat)}, RowsAt K H vs rs → RowsAt K H' vs rs
  | [], [], _ => trivial
  | v :: vs, r :: rs, h => ⟨h.1.keep k, RowsAt.keep k h.2⟩
  | [], _ :: _, h => h.elim
  | _ :: _, [], h => h.elim
theorem RowsAt.len : ∀ {vs : List V} {rs : List (List Nat)}, RowsAt K H vs rs → vs.length = rs.length
  | [], [], _ => rfl
  | v :: vs, r :: rs, h => congrArg (· + 1) (RowsAt.len h.2)
  | [], _ :: _, h => h.elim
  | _ :: _, [], h => h.elim
theorem RowsAt.get : ∀ {vs : List V} {rs : List (List Nat)}, RowsAt K H vs rs → ∀ {i : Nat} {v : V}, vs[i]? = some v → ∃ r, rs[i]? = some r ∧ NumsAt K H v r
  | [], [], _, i, v, e => by simp at e
  | v :: vs, r :: rs, h, 0, w, e => ⟨r, rfl, by simp at e; rw [← e]; exact h.1⟩
  | v :: vs, r :: rs, h, i + 1, w, e => RowsAt.get h.2 (by simpa using e)
  | [], _ :: _, h, _, _, _ => h.elim
  | _ :: _, [], h, _, _, _ => h.elim
theorem OwAt.keep (k : Keeps K H H') : ∀ {o : Ow} {xs : List V}, OwAt K H xs o → OwAt K H' xs o
  | .sum .., _, ⟨w, e, h⟩ => ⟨w, e, h.keep k⟩
  | .square .., _, ⟨a, g, rvs, e, h1, h2, h3⟩ => ⟨a, g, rvs, e, h1.keep k, h2.keep k, h3.keep k⟩
  | .faces .., _, ⟨f, e, h⟩ => ⟨f, e, h.keep k⟩
  | .cut .., _, h => h
  | .any, _, h => h
  | .back, _, h => h
  | .not, _, h => h
  | .both, _, h => h
  | .either, _, h => h
theorem OwAt.len : ∀ {o : Ow} {xs : List V}, OwAt K H xs o → xs.length = mn o.kind
  | .sum .., _, ⟨w, e, h⟩ => by rw [e]; rfl
  | .square .., _, ⟨a, g, rvs, e, h1, h2, h3⟩ => by rw [e]; rfl
  | .faces .., _, ⟨f, e, h⟩ => by rw [e]; rfl
  | .cut .., _, h => by rw [show _ = _ from h]; rfl
  | .any, _, h => by rw [show _ = _ from h]; rfl
  | .back, _, h => by rw [show _ = _ from h]; rfl
  | .not, _, h => by rw [show _ = _ from h]; rfl
  | .both, _, h => by rw [show _ = _ from h]; rfl
  | .either, _, h => by rw [show _ = _ from h]; rfl
theorem rows_of {t : Bool} : ∀ {rs : List (List Nat)} {vs : List V}, DpAll K H vs (rs.map fun row => sq t (row.map pn)) → RowsAt K H vs rs
  | [], _, .nil => trivial
  | r :: rs, _, .cons a b => by
    obtain ⟨xs, hx, hd⟩ := dp_sq a
    rw [dpA_nums.mp hd] at hx
    exact ⟨hx, rows_of b⟩
theorem nums_of {t : Bool} {v : V} {ns : List Nat} (h : Dp K H v (sq t (ns.map pn))) : NumsAt K H v ns := by
  obtain ⟨xs, hx, hd⟩ := dp_sq h
  rw [dpA_nums.mp hd] at hx
  exact hx
theorem ow_of {t : Bool} : ∀ {o : Ow} {xs : List V}, DpAll K H xs (o.data t) → OwAt K H xs o
  | .sum m ws g, _, .cons (.int _) (.cons b (.cons (.int _) .nil)) => ⟨_, rfl, nums_of b⟩
  | .square rows gs, _, .cons a (.cons b .nil) => by
    obtain ⟨rvs, h1, h2⟩ := dp_sq a
    exact ⟨_, _, rvs, rfl, h1, rows_of h2, nums_of b⟩
  | .faces fs, _, .cons a .nil => by
    obtain ⟨xs, h1, h2⟩ := dp_sq a
    rw [dpA_strs.mp h2] at h1
    exact ⟨_, rfl, h1⟩
  | .cut a b, _, .cons (.int _) (.cons (.int _) .nil) => rfl
  | .any, _, .nil => rfl
  | .back, _, .nil => rfl
  | .not, _, .nil => rfl
  | .both, _, .nil => rfl
  | .either, _, .nil => rfl
/-- a rule, of lists and tuples -/
def RAt (K : PySem.W.Frag) (H : Hp) : V → R → Prop
  | v, .n0 o => ∃ xs, Sq K H v (.str o.word :: (xs ++ [])) ∧ OwAt K H xs o
  | v, .n1 o a => ∃ xs i, Sq K H v (.str o.word :: (xs ++ [i])) ∧ OwAt K H xs o ∧ RAt K H i a
  | v, .n2 o a b => ∃ xs i j, Sq K H v (.str o.word :: (xs ++ [i, j])) ∧ OwAt K H xs o ∧ RAt K H i a ∧ RAt K H j b
def RAll (K : PySem.W.Frag) (H : Hp) : List V → List R → Prop
  | [], [] => True
  | v :: vs, r :: rs => RAt K H v r ∧ RAll K H vs rs
  | _, _ => False
theorem RAt.keep (k : Keeps K H H') : ∀ {r : R} {v : V}, RAt K H v r → RAt K H' v r
  | .n0 _, _, ⟨xs, h, o⟩ => ⟨xs, h.keep k, o.keep k⟩
  | .n1 _ _, _, ⟨xs, i, h, o, a⟩ => ⟨xs, i, h.keep k, o.keep k, RAt.keep k a⟩
  | .n2 _ _ _, _, ⟨xs, i, j, h, o, a, b⟩ => ⟨xs, i, j, h.keep k, o.keep k, RAt.keep k a, RAt.keep k b⟩
theorem RAll.keep (k : Keeps K H H') : ∀ {vs : List V} {rs : List R}, RAll K H vs rs → RAll K H' vs rs
  | [], [], _ => trivial
  | v :: vs, r :: rs, h => ⟨h.1.keep k, RAll.keep k h.2⟩
  | [], _ :: _, h => h.elim
  | _ :: _, [], h => h.elim
theorem RAll.get : ∀ {vs : List V} {rs : List R}, RAll K H vs rs → ∀ {i : Nat} {v : V}, vs[i]? = some v → ∃ r, rs[i]? = some r ∧ RAt K H v r
  | [], [], _, i, v, e => by simp at e
  | v :: vs, r :: rs, h, 0, w, e => ⟨r, rfl, by simp at e; rw [← e]; exact h.1⟩
  | v :: vs, r :: rs, h, i + 1, w, e => RAll.get h.2 (by simpa using e)
  | [], _ :: _, h, _, _, _ => h.elim
  | _ :: _, [], h, _, _, _ => h.elim
theorem RAll.len : ∀ {vs : List V} {rs : List R}, RAll K H vs rs → vs.length = rs.length
  | [], [], _ => rfl
  | v :: vs, r :: rs, h => congrArg (· + 1) (RAll.len h.2)
  | [], _ :: _, h => h.elim
  | _ :: _, [], h => h.elim
theorem RAt.open : ∀ {r : R} {v : V}, RAt K H v r → ∃ xs is, Sq K H v (.str r.ow.word :: (xs ++ is)) ∧ OwAt K H xs r.ow ∧ RAll K H is r.inner
  | .n0 _, _, ⟨xs, h, o⟩ => ⟨xs, [], h, o, trivial⟩
  | .n1 _ _, _, ⟨xs, i, h, o, a⟩ => ⟨xs, [i], h, o, a, trivial⟩
  | .n2 _ _ _, _, ⟨xs, i, j, h, o, a, b⟩ => ⟨xs, [i, j], h, o, a, b, trivial⟩
theorem RAt.of {t : Bool} : ∀ {r : R} {v : V}, Dp K H v (r.data t) → RAt K H v r
  | .n0 o, v, h => by
    obtain ⟨xs, h1, h2⟩ := dp_sq (show Dp K H v (sq t _) from h)
    cases h2 with
    | cons a b =>
      cases a
      exact ⟨_, by rw [List.append_nil]; exact h1, ow_of b⟩
  | .n1 o a, v, h => by
    obtain ⟨xs, h1, h2⟩ := dp_sq (show Dp K H v (sq t _) from h)
    cases h2 with
    | cons a b =>
      cases a
      obtain ⟨ys, zs, rfl, p, q⟩ := dpA_split b
      cases q with
      | cons q1 q2 =>
        cases q2
        exact ⟨ys, _, h1, ow_of p, RAt.of q1⟩
  | .n2 o a b, v, h => by
    obtain ⟨xs, h1, h2⟩ := dp_sq (show Dp K H v (sq t _) from h)
    cases h2 with
    | cons a b =>
      cases a
      obtain ⟨ys, zs, rfl, p, q⟩ := dpA_split b
      cases q with
      | cons q1 q2 =>
        cases q2 with
        | cons q2 q3 =>
          cases q3
          exact ⟨ys, _, _, h1, ow_of p, RAt.of q1, RAt.of q2⟩
end
end K4

/-! G4 -/
/-! The program's constants; rules for names of the module, unpacking of a list or tuple. -/
namespace K4
open PySem L2 K1 PyProof.Rows
def GI (mg : Str → Option Value) (x : Str) (i : Int) : Prop := ∃ t, mg x = some (.int i t)
def GS (mg : Str → Option Value) (x : Str) (z : Str) : Prop := ∃ t, mg x = some (.str z t)
abbrev DIG : Str := "0123456789"
structure Gc (K : PySem.W.Frag) (w : World) (mg : Str → Option Value) (dO dI : Addr) : Prop where
  LEAST_KINDS : GI mg "LEAST_KINDS" 2
  MOST_KINDS : GI mg "MOST_KINDS" 12
  LEAST_MODULUS : GI mg "LEAST_MODULUS" 2
  MOST_MODULUS : GI mg "MOST_MODULUS" 60
  MOST_WEIGHTS : GI mg "MOST_WEIGHTS" 8
  MOST_ROWS : GI mg "MOST_ROWS" 60
  MOST_FACES : GI mg "MOST_FACES" 4
  MOST_CUT : GI mg "MOST_CUT" 3
  MOST_PARTS : GI mg "MOST_PARTS" 40
  MOST_DIGITS : GI mg "MOST_DIGITS" 9
  MOST_NUMBER : GI mg "MOST_NUMBER" 59
  DIGITS : GS mg "DIGITS" DIG
  ALL_SIGNS : GS mg "ALL_SIGNS" K4.ALL
  OV : mg "OWN_VALUES" = some (.ref dO)
  IR : mg "INNER_RULES" = some (.ref dI)
  ov : ∀ k < 9, KDct K w dO (wd k) (.int (mn k))
  ir : ∀ k < 9, KDct K w dI (wd k) (.int (ar k))
  irD : ∃ es n, KDict K w dI es n
  irN : ∀ k < 9, ∃ r, PySem.W.nsIn K dI (wd k) = some (some r)
section
variable {X : Cx} {x : Str} {i : Int} {z : Str} {a : Addr} {pos : Pos}
theorem pe_gI (h : GI X.mg x i) (hg : Gl X x := by rfl) (hd : (x == ("__debug__" : Str)) = false := by decide) : PE X (.Name x pos) (tC (.int i)) := by
  obtain ⟨t, h⟩ := h
  exact pe_glob hg h ⟨t, rfl⟩ hd
theorem pe_gS (h : GS X.mg x z) (hg : Gl X x := by rfl) (hd : (x == ("__debug__" : Str)) = false := by decide) : PE X (.Name x pos) (tC (.str z)) := by
  obtain ⟨t, h⟩ := h
  exact pe_glob hg h ⟨t, rfl⟩ hd
theorem pe_gR (h : X.mg x = some (.ref a)) (hg : Gl X x := by rfl) (hd : (x == ("__debug__" : Str)) = false := by decide) : PE X (.Name x pos) (tC (.ref a)) := pe_glob hg h rfl hd
def gSq (K : PySem.W.Frag) (n : Nat) (t : TGs) : TG := fun v σ H Q => gTup K n t v σ H Q ∨ gUnl K n t v σ H Q
theorem pg_sq {es : List Expr} {k : Nat} {t : TGs} {n : Nat} (hc : X.calm = true) (h : PGs X es t)
    (hn : (assignEach es X.env).length = n := by rfl) (hst : (assignEach es X.env).findIdx? (·.1) = none := by rfl) : PG X (.Tuple es k pos) (gSq X.K n t) := by
  refine ⟨fun pins s σ H v u Q I r hw => ?_⟩
  rcases hw with hw | hw
  · exact (pg_tup (pos := pos) (k := k) hc h hn hst).run pins s σ H v u Q I r hw
  · exact (pg_unl (pos := pos) (k := k) hc h hn hst).run pins s σ H v u Q I r hw
end
theorem r_gSq {K : PySem.W.Frag} {n : Nat} {t : TGs} {v : V} {xs : List V} {σ : L2.St} {H : Hp} {Q : L2.St → Hp → Prop} (h : Sq K H v xs) (hn : xs.length = n) (q : t xs σ H Q) : gSq K n t v σ H Q := by
  obtain ⟨a, rfl, h | h⟩ := h
  · exact .inr ⟨a, xs, rfl, h, hn, q⟩
  · exact .inl ⟨a, xs, rfl, h, hn, q⟩
theorem r_kd {K : PySem.W.Frag} {w : World} {a : Addr} {z : Str} {v : V} {H : Hp} {Q : VK} (h : KDct K w a z v) (q : Q v H) : rIxD K w (.ref a) (.str z) H Q := ⟨a, z, v, rfl, rfl, h, q⟩
/-! ### texts that begin with a text -/
theorem pref_take : ∀ (y x : List Nat), y.isPrefixOf x = (decide (y.length ≤ x.length) && (x.take y.length == y))
  | [], x => by simp
  | b :: y, [] => by simp
  | b :: y, a :: x => by
    rw [List.isPrefixOf, pref_take y x]
    simp only [List.length_cons, List.take_succ_cons, Nat.add_le_add_iff_right]
    by_cases e : b = a
    · subst e; simp
    · have e' : ¬ a = b := fun q => e q.symm
      have b1 : (b == a) = false := by simpa using e
      have b3 : (a :: x.take y.length == b :: y) = false := by simp [e']
      rw [b1, Bool.false_and]
      simp [e']
theorem starts_iff (x y : Str) : Txt.startswith x y = (tl y).isPrefixOf (tl x) := by
  unfold Txt.startswith
  rw [PySem.StrLaws.subAt_eq, pref_take, List.drop_zero, Nat.zero_add, len_tl x, len_tl y]
theorem starts_app (x y : Str) : Txt.startswith x y = true ↔ ∃ r, tl x = tl y ++ r := by
  rw [starts_iff, List.isPrefixOf_iff_prefix]
  exact ⟨fun ⟨r, h⟩ => ⟨r, h.symm⟩, fun ⟨r, h⟩ => ⟨r, h.symm⟩⟩
theorem cutV_mid {xs : List V} (i j : Nat) : cutV xs (some (i : Int)) (some (j : Int)) = (xs.drop i).take (j - i) := by
  unfold cutV
  rw [HT.sIx_nat, HT.sIx_nat]
  by_cases h : i ≤ xs.length
  · rw [Nat.min_eq_left h]
    by_cases h2 : j ≤ xs.length
    · rw [Nat.min_eq_left h2]
    · rw [Nat.min_eq_right (by omega), List.take_of_length_le (by rw [List.length_drop]; omega), List.take_of_length_le (by rw [List.length_drop]; omega)]
  · have hi : min i xs.length = xs.length := Nat.min_eq_right (by omega)
    rw [hi]
    have e1 : xs.drop i = [] := List.drop_eq_nil_of_le (by omega)
    have e2 : xs.drop xs.length = [] := List.drop_eq_nil_of_le (by omega)
    rw [e1, e2]; simp
theorem cutV_from {xs : List V} (i : Nat) : cutV xs (some (i : Int)) none = xs.drop i := by
  unfold cutV
  rw [HT.sIx_nat, HT.sIx_none]
  by_cases h : i ≤ xs.length
  · rw [Nat.min_eq_left h, List.take_of_length_le (by rw [List.length_drop]; omega)]
  · have hi : min i xs.length = xs.length := Nat.min_eq_right (by omega)
    rw [hi]
    have e1 : xs.drop i = [] := List.drop_eq_nil_of_le (by omega)
    have e2 : xs.drop xs.length = [] := List.drop_eq_nil_of_le (by omega)
    rw [e1, e2]; simp
end K4

/-! P4a -/

local macro_rules | `(tactic| walk_at "go") => `(tactic| repeat (first
  | with_reducible apply K1.r_seq
  | with_reducible apply K1.r_asg
  | ((with_reducible apply K1.r_name); (try dsimp only [List.set]))
  | ((with_reducible apply K1.r_var); (focus rfl))
  | with_reducible apply K1.r_c
  | with_reducible apply K1.r_op
  | with_reducible apply K1.r_un
  | with_reducible apply K1.r_I0
  | with_reducible apply K1.r_test
  | with_reducible apply K1.r_if
  | with_reducible apply K1.r_ifs
  | with_reducible apply K1.r_iteT
  | with_reducible apply K1.r_iteF
  | with_reducible apply K1.r_and
  | with_reducible apply K1.r_or
  | with_reducible apply K1.r_not
  | with_reducible apply K1.r_tB
  | with_reducible apply K1.r_andV
  | with_reducible apply K1.r_orV
  | with_reducible apply K1.r_notV
  | with_reducible apply K1.r_cb
  | with_reducible apply K1.r_cons
  | with_reducible apply K1.r_star
  | with_reducible apply K1.r_nil
  | with_reducible apply K1.r_ret
  | with_reducible apply K1.r_next
  | with_reducible apply K1.r_drop
  | with_reducible apply K1.r_lst
  | with_reducible apply K1.r_tup
  | with_reducible apply K1.r_call
  | with_reducible apply K1.r_gsub
  | with_reducible apply K1.r_for
  | with_reducible apply K1.r_bm
  | with_reducible apply K1.r_bm0
  | with_reducible apply K1.r_sl
  | with_reducible apply K1.r_noPart
  | with_reducible apply K1.r_part
  | with_reducible apply K1.r_iStr
  | with_reducible apply K1.r_iSq
  | with_reducible apply K1.r_iRng1
  | with_reducible apply K1.r_m1
  | with_reducible apply K1.r_chain
  | ((with_reducible apply K1.r_eq); (focus rfl))
  | ((with_reducible apply K1.r_ne); (focus rfl))
  | with_reducible apply K1.r_gnil
  | with_reducible apply K1.r_gcons
  | with_reducible apply K1.r_tfld
  | with_reducible apply K1.r_sfld
  | with_reducible apply K1.r_meth
  | refine ⟨_, rfl, ?_⟩
  | refine ⟨⟨_, rfl⟩, ?_⟩
  | refine Or.inl ⟨_, rfl, ?_⟩
  | dsimp only))
namespace K4
open PySem L2 K1
abbrev sIsWhole : Stmt := top 6
abbrev nIsWhole : List Str := ["thing"]
theorem scIsWhole : FnScope nIsWhole ["thing"] (defScope sIsWhole) := ⟨rfl, rfl, rfl, by decide +kernel, rfl, by decide +kernel, by decide +kernel⟩
abbrev sIsWithin : Stmt := top 7
abbrev nIsWithin : List Str := ["thing", "least", "most"]
theorem scIsWithin : FnScope nIsWithin ["thing", "least", "most"] (defScope sIsWithin) := ⟨rfl, rfl, rfl, by decide +kernel, rfl, by decide +kernel, by decide +kernel⟩
abbrev sIsText : Stmt := top 8
abbrev nIsText : List Str := ["thing", "least", "most", "characters", "character"]
theorem scIsText : FnScope nIsText ["thing", "least", "most", "characters"] (defScope sIsText) := ⟨rfl, rfl, rfl, by decide +kernel, rfl, by decide +kernel, by decide +kernel⟩
abbrev sOwnValues : Stmt := top 22
abbrev nOwnValues : List Str := ["part"]
theorem scOwnValues : FnScope nOwnValues ["part"] (defScope sOwnValues) := ⟨rfl, rfl, rfl, by decide +kernel, rfl, by decide +kernel, by decide +kernel⟩
abbrev sInnerRules : Stmt := top 23
abbrev nInnerRules : List Str := ["part"]
theorem scInnerRules : FnScope nInnerRules ["part"] (defScope sInnerRules) := ⟨rfl, rfl, rfl, by decide +kernel, rfl, by decide +kernel, by decide +kernel⟩
abbrev sIntegerIn : Stmt := top 27
abbrev nIntegerIn : List Str := ["word", "least", "most"]
theorem scIntegerIn : FnScope nIntegerIn ["word", "least", "most"] (defScope sIntegerIn) := ⟨rfl, rfl, rfl, by decide +kernel, rfl, by decide +kernel, by decide +kernel⟩
def textB (lo hi : Int) (cs y : Str) : Bool := decide (lo ≤ y.length) && (decide ((y.length : Int) ≤ hi) && (tl y).all fun c => decide (c ∈ tl cs))
def spIsWhole : Sp := fun vs H Q _ => ∃ i : Int, vs = [.int i] ∧ Q (.bl true) H
def spIsWithin : Sp := fun vs H Q _ => ∃ i lo hi : Int, vs = [.int i, .int lo, .int hi] ∧ Q (.bl (decide (lo ≤ i) && decide (i ≤ hi))) H
def spIsText : Sp := fun vs H Q _ => ∃ (y : Str) (lo hi : Int) (cs : Str), vs = [.str y, .int lo, .int hi, .str cs] ∧ y.length ≤ 1000 ∧ ∀ H', Same H H' → Q (.bl (textB lo hi cs y)) H'
def spOwn (K : PySem.W.Frag) : Sp := fun vs H Q _ => ∃ (v : V) (k : Nat) (xs is : List V), vs = [v] ∧ k < 9 ∧ Sq K H v (.str (wd k) :: (xs ++ is)) ∧ xs.length = mn k ∧ ∀ v' H', Same H H' → Sq K H' v' xs → Q v' H'
def spInner (K : PySem.W.Frag) : Sp := fun vs H Q _ => ∃ (v : V) (k : Nat) (xs is : List V), vs = [v] ∧ k < 9 ∧ Sq K H v (.str (wd k) :: (xs ++ is)) ∧ xs.length = mn k ∧ ∀ p H', H p = none → Same H H' → Sq K H' (.ref p) is → Q (.ref p) H'
def spIntIn : Sp := fun vs H Q _ => ∃ n lo hi : Nat, vs = [.str (num n), vi lo, vi hi] ∧ n ≤ 60 ∧ lo ≤ n ∧ n ≤ hi ∧ ∀ H', Same H H' → Q (vi n) H'
theorem at0 {x : V} {xs : List V} : atI (x :: xs) 0 = some x := atI_nat (xs := x :: xs) (j := 0) rfl
theorem all_bl (l : List Nat) (f : Nat → Bool) : l.map (fun c => V.bl (f c)) = (l.map f).map V.bl := by rw [List.map_map]; rfl
section
variable {P : Program} {w : World} {K : PySem.W.Frag} {mg : Str → Option Value} {base : Heap} {dO dI : Addr}
theorem ok_isWhole {f : Addr} {fd : FuncData} (F : Fun K "is_whole" "is_whole" sIsWhole f fd) (B : Bl mg) : FnOk P w K mg base CX0 1 f fd ["thing"] spIsWhole := by
  refine F.ok scIsWhole (fun vs H Q E h => ?_) (fun cdv A outer s H vs Q E hr h => ?_)
  · obtain ⟨i, rfl, _⟩ := h
    rfl
  · obtain ⟨i, rfl, k⟩ := h
    refine ⟨_, (pss_one (ps_ret (pe_and (pe_callB (id := "isinstance") (r := rIsi K) call_isi (by rfl) B.isin (by decide +kernel) (pa_cons (pv 0) (pa_cons (pe_bltn (v := .ty "int") (by rfl) B.int (by decide +kernel) rfl) pa_nil))) (pe_one (pe_not (pe_callB (id := "isinstance") (r := rIsi K) call_isi (by rfl) B.isin (by decide +kernel) (pa_cons (pv 0) (pa_cons (pe_bltn (v := .ty "bool") (by rfl) B.bool (by decide +kernel) rfl) pa_nil)))))))), ?_⟩
    try dsimp only [cxOf, Cx.nox, Cx.wish]
    walk_at "go"
    refine r_isi (b := true) (.ty "int") (.base (.int _)) (kit_ty (by decide +kernel)) ?_
    walk_at "go"
    refine r_isi (b := false) (.ty "bool") (.base (.int _)) (kit_ty (by decide +kernel)) ?_
    walk_at "go"
    exact k
abbrev OWhole (P : Program) (w : World) (K : PySem.W.Frag) (mg : Str → Option Value) (base : Heap) : Prop := Own P w K mg base "is_whole" 1 ["thing"] spIsWhole
theorem ok_isWithin {f : Addr} {fd : FuncData} (F : Fun K "is_within" "is_within" sIsWithin f fd) (B : Bl mg) (Owh : OWhole P w K mg base) : FnOk P w K mg base CX0 2 f fd ["thing", "least", "most"] spIsWithin := by
  refine F.ok scIsWithin (fun vs H Q E h => ?_) (fun cdv A outer s H vs Q E hr h => ?_)
  · obtain ⟨i, lo, hi, rfl, _⟩ := h
    rfl
  · obtain ⟨i, lo, hi, rfl, k⟩ := h
    refine ⟨_, (pss_one (ps_ret (pe_and (pe_own Owh hr (pa_cons (pv 0) pa_nil)) (pe_one (pe_chain op_le op_le (pv 1) (pv 0) (pv 2)))))), ?_⟩
    try dsimp only [cxOf, Cx.nox, Cx.wish]
    walk_at "go"
    by_cases h1 : lo ≤ i
    · rw [decide_eq_true h1] at k ⊢
      rw [Bool.true_and] at k
      walk_at "go"
      exact k
    · rw [decide_eq_false h1] at k ⊢
      rw [Bool.false_and] at k
      walk_at "go"
      exact k
theorem ok_isText {f : Addr} {fd : FuncData} (F : Fun K "is_text" "is_text" sIsText f fd) (B : Bl mg) : FnOk P w K mg base CX0 1 f fd ["thing","least","most","characters"] spIsText := by
  refine F.ok scIsText (fun vs H Q E h => ?_) (fun cdv A outer s H vs Q E hr h => ?_)
  · obtain ⟨x, lo, hi, cs, rfl, _⟩ := h
    rfl
  · obtain ⟨y, lo, hi, cs, rfl, hy, k⟩ := h
    refine ⟨_, (pss_cons (ps_if (PW.pt (pw_or (pt_not (pt_val (pe_callB (id := "isinstance") (r := rIsi K) call_isi (by rfl) B.isin (by decide +kernel) (pa_cons (pv 0) (pa_cons (pe_bltn (v := .ty "str") (by rfl) B.str (by decide +kernel) rfl) pa_nil))))) (pw_or1 (pt_not (pt_chain op_le op_le (pv 1) (pe_callB call_len (by rfl) B.len PySem.boot_len (pa_cons (pv 0) pa_nil)) (pv 2)))))) (pss_one (ps_ret pe_bl)) pss_nil) (pss_one (ps_ret (pe_callB (cr_all rfl) (by rfl) B.all (by decide +kernel) (pa_cons (pe_lc (own := [("character", 4)]) (g := gName 4) (tt := tYes) rfl scIsText.nd (pi_str (pv 0)) (blkOk_by (N := nIsText) (sc := defScope sIsText) (by decide +kernel)) (fun _ _ _ _ _ => (pg_name (i := 4) scIsText.nd rfl (Or.inl rfl))) (fun _ _ _ _ _ => pts_nil) (fun _ _ _ _ _ => (pe_cmpR op_in_sign (pv 4) (pv 3) (by rfl)))) pa_nil))))), ?_⟩
    try dsimp only [cxOf, Cx.nox, Cx.wish]
    walk_at "go"
    refine r_isi (b := true) (.ty "str") (.base (.str _)) (kit_ty (by decide +kernel)) ?_
    walk_at "go"
    refine ⟨_, _, rfl, lenS (small_line hy), ?_⟩
    walk_at "go"
    unfold textB at k
    refine r_ite (fun h1 => ?_) (fun h1 => ?_)
    · rw [decide_eq_true h1, Bool.true_and] at k
      walk_at "go"
      by_cases h2 : (y.length : Int) ≤ hi
      · rw [decide_eq_true h2] at k ⊢
        rw [Bool.true_and] at k
        walk_at "go"
        intro D hD
        refine lc_smap (fun c => .bl (decide (c ∈ tl cs))) hD (small_line hy) (fun _ => rfl) (fun c hc H' R sm r => ?_) ?_
        · walk_at "go"
          exact ⟨c, cs, rfl, rfl, r⟩
        · walk_at "go"
          rw [all_bl]
          refine r_all (SqL.of upd_same) ?_
          have e : ((tl y).map fun c => decide (c ∈ tl cs)).all id = (tl y).all fun c => decide (c ∈ tl cs) := by rw [List.all_map]; rfl
          rw [e]
          exact k _ (same_new hD)
      · rw [decide_eq_false h2] at k ⊢
        walk_at "go"
        exact k H (Same.refl _)
    · rw [decide_eq_false h1] at k
      walk_at "go"
      exact k H (Same.refl _)
theorem ok_ownValues {f : Addr} {fd : FuncData} (F : Fun K "own_values" "own_values" sOwnValues f fd) (B : Bl mg) (G : Gc K w mg dO dI) : FnOk P w K mg base CX0 1 f fd ["part"] (spOwn K) := by
  refine F.ok scOwnValues (fun vs H Q E h => ?_) (fun cdv A outer s H vs Q E hr h => ?_)
  · obtain ⟨v, k, xs, is, rfl, _⟩ := h
    rfl
  · obtain ⟨v, c, xs, is, rfl, hc, hS, hl, k⟩ := h
    refine ⟨_, (pss_one (ps_ret (pe_slice sl_sq (pv 0) (po_some pe_int) (po_some (pe_op op_add pe_int (pe_ix ix_kdict (pe_gR G.OV) (pe_ix ix_seq (pv 0) pe_int (fun _ _ => rfl)) (fun _ _ => rfl))))))), ?_⟩
    try dsimp only [cxOf, Cx.nox, Cx.wish]
    walk_at "go"
    refine r_ixSq hS at0 ?_
    walk_at "go"
    refine r_kd (G.ov c hc) ?_
    walk_at "go"
    refine r_slSq hS fun v' H' sm h' => k v' H' sm ?_
    have e : cutV (.str (wd c) :: (xs ++ is)) (some 1) (some (1 + (mn c : Int))) = xs := by
      have := cutV_mid (xs := .str (wd c) :: (xs ++ is)) 1 (1 + mn c)
      rw [show ((1 + mn c : Nat) : Int) = 1 + (mn c : Int) by omega] at this
      rw [show ((1 : Nat) : Int) = 1 from rfl] at this
      rw [this, ← hl, List.drop_succ_cons, List.drop_zero, Nat.add_sub_cancel_left]
      simp
    rw [e] at h'
    exact h'
theorem ok_innerRules {f : Addr} {fd : FuncData} (F : Fun K "inner_rules" "inner_rules" sInnerRules f fd) (B : Bl mg) (G : Gc K w mg dO dI) : FnOk P w K mg base CX0 1 f fd ["part"] (spInner K) := by
  refine F.ok scInnerRules (fun vs H Q E h => ?_) (fun cdv A outer s H vs Q E hr h => ?_)
  · obtain ⟨v, k, xs, is, rfl, _⟩ := h
    rfl
  · obtain ⟨v, c, xs, is, rfl, hc, hS, hl, k⟩ := h
    refine ⟨_, (pss_one (ps_ret (pe_slice sl_sq (pv 0) (po_some (pe_op op_add pe_int (pe_ix ix_kdict (pe_gR G.OV) (pe_ix ix_seq (pv 0) pe_int (fun _ _ => rfl)) (fun _ _ => rfl)))) po_none))), ?_⟩
    try dsimp only [cxOf, Cx.nox, Cx.wish]
    walk_at "go"
    refine r_ixSq hS at0 ?_
    walk_at "go"
    refine r_kd (G.ov c hc) ?_
    walk_at "go"
    refine r_slNew hS (fun z => ?_) fun p H' hp sm h' => k p H' hp sm ?_
    · have := HT.sIx_nat ((V.str (wd c) :: (xs ++ is)).length) 0 (1 + mn c)
      rw [show ((1 + mn c : Nat) : Int) = 1 + (mn c : Int) by omega] at this
      rw [this, List.length_cons] at z
      omega
    have e : cutV (.str (wd c) :: (xs ++ is)) (some (1 + (mn c : Int))) none = is := by
      have := cutV_from (xs := .str (wd c) :: (xs ++ is)) (1 + mn c)
      rw [show ((1 + mn c : Nat) : Int) = 1 + (mn c : Int) by omega] at this
      rw [this, ← hl, Nat.add_comm, List.drop_succ_cons]
      simp
    rw [e] at h'
    exact h'
abbrev OText (P : Program) (w : World) (K : PySem.W.Frag) (mg : Str → Option Value) (base : Heap) : Prop := Own P w K mg base "is_text" 1 ["thing","least","most","characters"] spIsText
abbrev OWithin (P : Program) (w : World) (K : PySem.W.Frag) (mg : Str → Option Value) (base : Heap) : Prop := Own P w K mg base "is_within" 2 ["thing","least","most"] spIsWithin
theorem num_text {n : Nat} (h : n ≤ 60) : textB 1 9 DIG (num n) = true := by
  have a := num_ok h
  have d : ∀ c, 48 ≤ c ∧ c ≤ 57 → c ∈ tl DIG := by
    intro c hc
    obtain ⟨i, rfl⟩ : ∃ i : Nat, c = 48 + i := ⟨c - 48, by omega⟩
    have hi : i < 10 := by omega
    have : ∀ i < 10, 48 + i ∈ tl DIG := by decide +kernel
    exact this i hi
  unfold textB
  rw [decide_eq_true (by rw [len_tl]; omega), decide_eq_true (by rw [len_tl]; omega), Bool.true_and, Bool.true_and]
  exact List.all_eq_true.mpr fun c hc => decide_eq_true (d c (a.1 c hc))
theorem tl_zero : tl ("0" : Str) = [48] := by decide +kernel
theorem num_starts {n : Nat} (h : n ≤ 60) (q : Txt.startswith (num n) "0" = true) : num n = "0" := by
  obtain ⟨r, e⟩ := (starts_app _ _).mp q
  rw [tl_zero] at e
  rcases (num_ok h).2.2.2 with z | z
  · rw [e] at z; exact absurd rfl z
  · exact str_ext (z.trans tl_zero.symm)
theorem ok_integerIn {f : Addr} {fd : FuncData} (F : Fun K "integer_in" "integer_in" sIntegerIn f fd) (B : Bl mg) (G : Gc K w mg dO dI) (Ot : OText P w K mg base) (Owi : OWithin P w K mg base) : FnOk P w K mg base CX0 3 f fd ["word", "least", "most"] spIntIn := by
  refine F.ok scIntegerIn (fun vs H Q E h => ?_) (fun cdv A outer s H vs Q E hr h => ?_)
  · obtain ⟨n, lo, hi, rfl, _⟩ := h
    rfl
  · obtain ⟨n, lo, hi, rfl, hn, h1, h2, k⟩ := h
    refine ⟨_, (pss_cons (ps_if (PW.pt (pw_or (pt_not (pt_val (pe_own Ot (hr.mono (by omega)) (pa_cons (pv 0) (pa_cons pe_int (pa_cons (pe_gI G.MOST_DIGITS) (pa_cons (pe_gS G.DIGITS) pa_nil))))))) (pw_or1 (PW.pt (pw_and (pt_val (pe_m1 PySem.F.slot_str_startswith PySem.F.type_str_startswith mt_startswith (pv 0) pe_str)) (pw_and1 (pt_cmpR op_ne (pv 0) pe_str (nomark _)))))))) (pss_one (ps_ret pe_non)) pss_nil) (pss_one (ps_ret (pe_ifExp (pt_val (pe_own Owi hr (pa_cons (pe_callTy call_int_str (by rfl) B.int (by decide +kernel) (pa_cons (pv 0) pa_nil)) (pa_cons (pv 1) (pa_cons (pv 2) pa_nil))))) (pe_callTy call_int_str (by rfl) B.int (by decide +kernel) (pa_cons (pv 0) pa_nil)) pe_non)))), ?_⟩
    try dsimp only [cxOf, Cx.nox, Cx.wish]
    have hlen : (num n).length ≤ 2 := by rw [len_tl]; exact (num_ok hn).2.2.1
    walk_at "go"
    refine ⟨_, _, _, _, rfl, by omega, fun H1 s1 => ?_⟩
    rw [num_text hn]
    walk_at "go"
    refine ⟨_, _, rfl, rfl, ?_⟩
    walk_at "go"
    refine r_iteB (fun q => ?_) (fun q => ?_)
    · walk_at "go"
      refine r_iteN (fun z => absurd (congrArg V.str (num_starts hn q)) z) (fun _ => ?_)
      walk_at "go"
      refine ⟨_, _, rfl, num_int hn, by omega, ?_⟩
      walk_at "go"
      refine ⟨_, _, _, rfl, ?_⟩
      rw [decide_eq_true (by omega), decide_eq_true (by omega)]
      walk_at "go"
      refine ⟨_, _, rfl, num_int hn, by omega, ?_⟩
      exact k _ s1
    · walk_at "go"
      refine ⟨_, _, rfl, num_int hn, by omega, ?_⟩
      walk_at "go"
      refine ⟨_, _, _, rfl, ?_⟩
      rw [decide_eq_true (by omega), decide_eq_true (by omega)]
      walk_at "go"
      refine ⟨_, _, rfl, num_int hn, by omega, ?_⟩
      exact k _ s1
end
end K4

/-! P4b -/


namespace K4
open PySem L2 K1
abbrev sIntegersIn : Stmt := top 28
abbrev nIntegersIn : List Str := ["word", "least_many", "most_many", "most", "integers", "part"]
theorem scIntegersIn : FnScope nIntegersIn ["word", "least_many", "most_many", "most"] (defScope sIntegersIn) := ⟨rfl, rfl, rfl, by decide +kernel, rfl, by decide +kernel, by decide +kernel⟩
abbrev sCharactersIn : Stmt := top 29
abbrev nCharactersIn : List Str := ["word", "least", "most"]
theorem scCharactersIn : FnScope nCharactersIn ["word", "least", "most"] (defScope sCharactersIn) := ⟨rfl, rfl, rfl, by decide +kernel, rfl, by decide +kernel, by decide +kernel⟩
abbrev sTextsIn : Stmt := top 30
abbrev nTextsIn : List Str := ["word", "least_many", "most_many", "least", "most", "texts", "part"]
theorem scTextsIn : FnScope nTextsIn ["word", "least_many", "most_many", "least", "most"] (defScope sTextsIn) := ⟨rfl, rfl, rfl, by decide +kernel, rfl, by decide +kernel, by decide +kernel⟩
abbrev sIntegersWord : Stmt := top 31
abbrev nIntegersWord : List Str := ["integers", "number"]
theorem scIntegersWord : FnScope nIntegersWord ["integers"] (defScope sIntegersWord) := ⟨rfl, rfl, rfl, by decide +kernel, rfl, by decide +kernel, by decide +kernel⟩
theorem same_upd {H H' : Hp} {D : Addr} {o : HO} (s : Same H H') (h : H D = none) : Same H (upd H' D o) := fun c u e => by
  rw [upd_ne (ne_of_none e h)]
  exact s c u e
def spIntsIn : Sp := fun vs H Q _ => ∃ (ns : List Nat) (lm mm most : Nat), vs = [.str (commas ns), vi lm, vi mm, vi most] ∧ Nums most ns ∧ most ≤ 60 ∧ lm ≤ ns.length ∧ ns.length ≤ mm ∧ ∀ H' p, Same H H' → H' p = some (.tup (ns.map vi)) → Q (.ref p) H'
def spCharsIn : Sp := fun vs H Q _ => ∃ (z : Str) (lo hi : Nat), vs = [.str z, vi lo, vi hi] ∧ Face z ∧ lo ≤ (tl z).length ∧ (tl z).length ≤ hi ∧ ∀ H', Same H H' → Q (.str z) H'
def spTextsIn : Sp := fun vs H Q _ => ∃ (fs : List Str) (lm mm lo hi : Nat), vs = [.str (Txt.join CM fs), vi lm, vi mm, vi lo, vi hi] ∧ fs ≠ [] ∧ fs.length ≤ 100 ∧ (∀ f ∈ fs, Face f ∧ lo ≤ (tl f).length ∧ (tl f).length ≤ hi) ∧ lm ≤ fs.length ∧ fs.length ≤ mm ∧ ∀ H' p, Same H H' → H' p = some (.tup (fs.map V.str)) → Q (.ref p) H'
def spIntsWord (K : PySem.W.Frag) : Sp := fun vs H Q _ => ∃ (v : V) (ns : List Nat), vs = [v] ∧ NumsAt K H v ns ∧ ns.length ≤ 60 ∧ (∀ n ∈ ns, n ≤ 60) ∧ ∀ H', Same H H' → Q (.str (commas ns)) H'
theorem inV_nums (ns : List Nat) : inV .non (ns.map vi) = false := by
  unfold inV
  rw [List.any_eq_false]
  intro y hy
  obtain ⟨n, _, rfl⟩ := List.mem_map.mp hy
  simp [eqV]
theorem inV_strs (ns : List Str) : inV .non (ns.map V.str) = false := by
  unfold inV
  rw [List.any_eq_false]
  intro y hy
  obtain ⟨n, _, rfl⟩ := List.mem_map.mp hy
  simp [eqV]
theorem flat_nums (ns : List Nat) : (ns.map vi).all flatV = true := List.all_eq_true.mpr fun y hy => by obtain ⟨n, _, rfl⟩ := List.mem_map.mp hy; rfl
theorem flat_strs (ns : List Str) : (ns.map V.str).all flatV = true := List.all_eq_true.mpr fun y hy => by obtain ⟨n, _, rfl⟩ := List.mem_map.mp hy; rfl
theorem get_map {α : Type} {f : α → V} {l : List α} {i : Nat} {x : V} (h : (l.map f)[i]? = some x) : ∃ a, l[i]? = some a ∧ x = f a := by
  rw [List.getElem?_map] at h
  cases e : l[i]? with
  | none => rw [e] at h; cases h
  | some a => rw [e] at h; exact ⟨a, rfl, (Option.some.inj h).symm⟩
theorem take_next {α β : Type} {f : α → β} {l : List α} {i : Nat} {a : α} (h : l[i]? = some a) : (l.take i).map f ++ [f a] = (l.take (i + 1)).map f := by
  rw [List.take_succ, h]; simp
theorem acc_next {α : Type} {f : α → V} {l : List α} {acc : List V} {i : Nat} {a : α} (ha : acc = (l.take acc.length).map f) (hl : acc.length = i) (h : l[i]? = some a) : acc ++ [f a] = (l.take (acc ++ [f a]).length).map f := by
  subst hl
  rw [List.length_append]
  show _ = (l.take (acc.length + 1)).map f
  rw [← take_next h, ← ha]
theorem line60 {n : Nat} (h : n ≤ 1000) : n < sizeLine := small1000 h
section
variable {P : Program} {w : World} {K : PySem.W.Frag} {mg : Str → Option Value} {base : Heap} {dO dI : Addr}
abbrev OIntIn (P : Program) (w : World) (K : PySem.W.Frag) (mg : Str → Option Value) (base : Heap) : Prop := Own P w K mg base "integer_in" 3 ["word", "least", "most"] spIntIn
theorem ok_integersIn {f : Addr} {fd : FuncData} (F : Fun K "integers_in" "integers_in" sIntegersIn f fd) (B : Bl mg) (Oi : OIntIn P w K mg base) : FnOk P w K mg base CX0 4 f fd ["word", "least_many", "most_many", "most"] spIntsIn := by
  refine F.ok scIntegersIn (fun vs H Q E h => ?_) (fun cdv A outer s H vs Q E hr h => ?_)
  · obtain ⟨ns, lm, mm, most, rfl, _⟩ := h
    rfl
  · obtain ⟨ns, lm, mm, most, rfl, hN, hm, h1, h2, k⟩ := h
    have hN60 := hN.mono hm
    have hlen := commas_len hN60
    have h60 := hN.2.1
    refine ⟨_, (pss_cons (ps_setLc (i := 4) (own := [("part", 5)]) (g := gName 5) (tt := tYes) rfl scIntegersIn.nd rfl rfl (sw_true rfl rfl rfl (by decide +kernel)) (pi_list (pe_m1 PySem.F.slot_str_split PySem.F.type_str_split mt_split (pv 0) pe_str)) (blkOk_by (N := nIntegersIn) (sc := defScope sIntegersIn) (by decide +kernel)) (fun _ _ _ _ _ => (pg_name (i := 5) scIntegersIn.nd rfl (Or.inl rfl))) (fun _ _ _ _ _ => pts_nil) (fun _ _ _ _ _ => (pe_own Oi hr (pa_cons (pv 5) (pa_cons pe_int (pa_cons (pv 3) pa_nil)))))) (pss_cons (ps_if (PW.pt (pw_or (pt_cmpR op_in_seq pe_non (pv 4) (by rfl)) (pw_or1 (pt_not (pt_chain op_le op_le (pv 1) (pe_callB call_len (by rfl) B.len PySem.boot_len (pa_cons (pv 4) pa_nil)) (pv 2)))))) (pss_one (ps_ret pe_non)) pss_nil) (pss_one (ps_ret (pe_callTy call_tuple_of (by rfl) B.tuple (by decide +kernel) (pa_cons (pv 4) pa_nil)))))), ?_⟩
    try dsimp only [cxOf, Cx.nox, Cx.wish]
    walk_at "go"
    refine ⟨_, _, rfl, rfl, by decide +kernel, (by rw [len_tl, sizeLine_eq]; omega), fun p hp => ?_⟩
    rw [split_commas hN60]
    walk_at "go"
    refine ⟨⟨_, SqL.of upd_same⟩, fun D hD => ?_⟩
    have s0 : Same H (upd H p (.lst ((ns.map num).map V.str))) := same_new hp
    have e0 : (upd H p (.lst ((ns.map num).map V.str))) p = some (.lst ((ns.map num).map V.str)) := upd_same
    generalize (upd H p (.lst ((ns.map num).map V.str))) = H0 at *
    have lm' : ((ns.map num).map V.str).length = ns.length := by rw [List.length_map, List.length_map]
    refine lc_gen (walk_list (K := K) (a := p) (xs := (ns.map num).map V.str)) (fun _ => rfl) (fun acc H' => acc = (ns.take acc.length).map vi ∧ Same H0 H') ⟨rfl, same_new hD⟩ (fun acc H' _ q => SqL.of (q.2 _ _ e0)) ?_ ?_
    · rintro i x acc H' hx hl hacc ⟨ha, sm⟩
      obtain ⟨z, hz, rfl⟩ := get_map hx
      obtain ⟨n, hn, rfl⟩ : ∃ n, ns[i]? = some n ∧ z = num n := by
        rw [List.getElem?_map] at hz
        cases e : ns[i]? with
        | none => rw [e] at hz; cases hz
        | some a => rw [e] at hz; exact ⟨a, rfl, (Option.some.inj hz).symm⟩
      have hmem := hN.2.2 n (List.mem_of_getElem? hn)
      walk_at "go"
      refine ⟨n, 0, most, rfl, by omega, Nat.zero_le _, hmem, fun H2 s2 => ?_⟩
      refine pp_next (s2 _ _ hacc) hl (line60 (by have := (List.getElem?_eq_some_iff.mp hn).1; omega)) ⟨acc_next ha hl hn, same_upd (sm.trans s2) hD⟩
    · rintro acc H' hl hacc ⟨ha, sm⟩
      rw [lm'] at hl
      rw [hl, List.take_length] at ha
      subst ha
      walk_at "go"
      refine ⟨_, _, rfl, .inl (SqL.of hacc), rfl, flat_nums ns, ?_⟩
      rw [inV_nums]
      walk_at "go"
      refine ⟨_, _, rfl, lenL (SqL.of hacc), ?_⟩
      walk_at "go"
      rw [List.length_map]
      refine r_yes (by omega) ?_
      walk_at "go"
      rw [decide_eq_true (show ((ns.length : Nat) : Int) ≤ (mm : Int) by omega)]
      walk_at "go"
      refine ⟨_, _, rfl, .inl ⟨SqL.of hacc, fun q hq => ?_⟩⟩
      exact k _ q ((s0.trans sm).trans (same_new hq)) upd_same
theorem face_text {z : Str} {lo hi : Nat} (h : Face z) (h1 : lo ≤ (tl z).length) (h2 : (tl z).length ≤ hi) : textB lo hi K4.ALL z = true := by
  unfold textB
  rw [decide_eq_true (by rw [len_tl]; omega), decide_eq_true (by rw [len_tl]; omega), Bool.true_and, Bool.true_and]
  exact List.all_eq_true.mpr fun c hc => decide_eq_true (h.2.2 c hc)
theorem ok_charactersIn {f : Addr} {fd : FuncData} (F : Fun K "characters_in" "characters_in" sCharactersIn f fd) (B : Bl mg) (G : Gc K w mg dO dI) (Ot : OText P w K mg base) : FnOk P w K mg base CX0 2 f fd ["word", "least", "most"] spCharsIn := by
  refine F.ok scCharactersIn (fun vs H Q E h => ?_) (fun cdv A outer s H vs Q E hr h => ?_)
  · obtain ⟨z, lo, hi, rfl, _⟩ := h
    rfl
  · obtain ⟨z, lo, hi, rfl, hz, h1, h2, k⟩ := h
    refine ⟨_, (pss_one (ps_ret (pe_ifExp (pt_val (pe_own Ot hr (pa_cons (pv 0) (pa_cons (pv 1) (pa_cons (pv 2) (pa_cons (pe_gS G.ALL_SIGNS) pa_nil)))))) (pv 0) pe_non))), ?_⟩
    try dsimp only [cxOf, Cx.nox, Cx.wish]
    walk_at "go"
    refine ⟨_, _, _, _, rfl, (by rw [len_tl]; have := hz.2.1; omega), fun H1 s1 => ?_⟩
    rw [face_text hz h1 h2]
    walk_at "go"
    exact k _ s1
abbrev OCharsIn (P : Program) (w : World) (K : PySem.W.Frag) (mg : Str → Option Value) (base : Heap) : Prop := Own P w K mg base "characters_in" 2 ["word", "least", "most"] spCharsIn
theorem ok_textsIn {f : Addr} {fd : FuncData} (F : Fun K "texts_in" "texts_in" sTextsIn f fd) (B : Bl mg) (Oc : OCharsIn P w K mg base) : FnOk P w K mg base CX0 3 f fd ["word", "least_many", "most_many", "least", "most"] spTextsIn := by
  refine F.ok scTextsIn (fun vs H Q E h => ?_) (fun cdv A outer s H vs Q E hr h => ?_)
  · obtain ⟨fs, lm, mm, lo, hi, rfl, _⟩ := h
    rfl
  · obtain ⟨fs, lm, mm, lo, hi, rfl, hne, h60, hF, h1, h2, k⟩ := h
    have hlen := len_join (y := CM) (b := 12) (ys := fs) (fun p hp => (hF p hp).1.2.1)
    rw [tl_CM] at hlen
    simp only [List.length_cons, List.length_nil] at hlen
    refine ⟨_, (pss_cons (ps_setLc (i := 5) (own := [("part", 6)]) (g := gName 6) (tt := tYes) rfl scTextsIn.nd rfl rfl (sw_true rfl rfl rfl (by decide +kernel)) (pi_list (pe_m1 PySem.F.slot_str_split PySem.F.type_str_split mt_split (pv 0) pe_str)) (blkOk_by (N := nTextsIn) (sc := defScope sTextsIn) (by decide +kernel)) (fun _ _ _ _ _ => (pg_name (i := 6) scTextsIn.nd rfl (Or.inl rfl))) (fun _ _ _ _ _ => pts_nil) (fun _ _ _ _ _ => (pe_own Oc hr (pa_cons (pv 6) (pa_cons (pv 3) (pa_cons (pv 4) pa_nil)))))) (pss_cons (ps_if (PW.pt (pw_or (pt_cmpR op_in_seq pe_non (pv 5) (by rfl)) (pw_or1 (pt_not (pt_chain op_le op_le (pv 1) (pe_callB call_len (by rfl) B.len PySem.boot_len (pa_cons (pv 5) pa_nil)) (pv 2)))))) (pss_one (ps_ret pe_non)) pss_nil) (pss_one (ps_ret (pe_callTy call_tuple_of (by rfl) B.tuple (by decide +kernel) (pa_cons (pv 5) pa_nil)))))), ?_⟩
    try dsimp only [cxOf, Cx.nox, Cx.wish]
    walk_at "go"
    refine ⟨_, _, rfl, rfl, by decide +kernel, (by rw [len_tl, sizeLine_eq]; omega), fun p hp => ?_⟩
    have es : Txt.split (Txt.join CM fs) CM = fs := faces_split hne fun f hf => (hF f hf).1
    rw [es]
    walk_at "go"
    refine ⟨⟨_, SqL.of upd_same⟩, fun D hD => ?_⟩
    have s0 : Same H (upd H p (.lst (fs.map V.str))) := same_new hp
    have e0 : (upd H p (.lst (fs.map V.str))) p = some (.lst (fs.map V.str)) := upd_same
    generalize (upd H p (.lst (fs.map V.str))) = H0 at *
    have lm' : (fs.map V.str).length = fs.length := by rw [List.length_map]
    refine lc_gen (walk_list (K := K) (a := p) (xs := fs.map V.str)) (fun _ => rfl) (fun acc H' => acc = (fs.take acc.length).map V.str ∧ Same H0 H') ⟨rfl, same_new hD⟩ (fun acc H' _ q => SqL.of (q.2 _ _ e0)) ?_ ?_
    · rintro i x acc H' hx hl hacc ⟨ha, sm⟩
      obtain ⟨z, hz, rfl⟩ := get_map hx
      have hmem := hF z (List.mem_of_getElem? hz)
      walk_at "go"
      refine ⟨z, lo, hi, rfl, hmem.1, hmem.2.1, hmem.2.2, fun H2 s2 => ?_⟩
      exact pp_next (s2 _ _ hacc) hl (line60 (by have := (List.getElem?_eq_some_iff.mp hz).1; omega)) ⟨acc_next ha hl hz, same_upd (sm.trans s2) hD⟩
    · rintro acc H' hl hacc ⟨ha, sm⟩
      rw [lm'] at hl
      rw [hl, List.take_length] at ha
      subst ha
      walk_at "go"
      refine ⟨_, _, rfl, .inl (SqL.of hacc), rfl, flat_strs fs, ?_⟩
      rw [inV_strs]
      walk_at "go"
      refine ⟨_, _, rfl, lenL (SqL.of hacc), ?_⟩
      walk_at "go"
      rw [List.length_map]
      refine r_yes (by omega) ?_
      walk_at "go"
      rw [decide_eq_true (show ((fs.length : Nat) : Int) ≤ (mm : Int) by omega)]
      walk_at "go"
      refine ⟨_, _, rfl, .inl ⟨SqL.of hacc, fun q hq => ?_⟩⟩
      exact k _ q ((s0.trans sm).trans (same_new hq)) upd_same
theorem ok_integersWord {f : Addr} {fd : FuncData} (F : Fun K "integers_word" "integers_word" sIntegersWord f fd) (B : Bl mg) : FnOk P w K mg base CX0 1 f fd ["integers"] (spIntsWord K) := by
  refine F.ok scIntegersWord (fun vs H Q E h => ?_) (fun cdv A outer s H vs Q E hr h => ?_)
  · obtain ⟨v, ns, rfl, _⟩ := h
    rfl
  · obtain ⟨v, ns, rfl, hS, h60, hb, k⟩ := h
    refine ⟨_, (pss_one (ps_ret (pe_m1 PySem.F.slot_str_join PySem.F.type_str_join mt_join pe_str (pe_lc (own := [("number", 1)]) (g := gName 1) (tt := tYes) rfl scIntegersWord.nd (pi_sq (pv 0)) (blkOk_by (N := nIntegersWord) (sc := defScope sIntegersWord) (by decide +kernel)) (fun _ _ _ _ _ => (pg_name (i := 1) scIntegersWord.nd rfl (Or.inl rfl))) (fun _ _ _ _ _ => pts_nil) (fun _ _ _ _ _ => (pe_callTy call_str_int (by rfl) B.str (by decide +kernel) (pa_cons (pv 1) pa_nil))))))), ?_⟩
    try dsimp only [cxOf, Cx.nox, Cx.wish]
    walk_at "go"
    refine lc_sq hS (fun _ => rfl) (fun acc H' => acc = ((ns.map num).take acc.length).map V.str ∧ Same H H') (fun D hD => ⟨rfl, same_new hD⟩) (fun D acc H' _ _ q => Same.keeps q.2) ?_ _ ?_ (fun J h => h)
    · rintro D i x acc H' hD hx hl hacc ⟨ha, sm⟩
      obtain ⟨n, hn, rfl⟩ := get_map hx
      walk_at "go"
      have hmem := hb n (List.mem_of_getElem? hn)
      refine ⟨?_, ?_⟩
      · have : ((n : Int).natAbs).log2 < 1920 := by
          rw [Int.natAbs_natCast]
          exact Nat.lt_of_le_of_lt (Nat.log2_le_self n) (by omega)
        exact this
      · exact pp_next hacc hl (line60 (by have := (List.getElem?_eq_some_iff.mp hn).1; omega)) ⟨acc_next (f := V.str) (a := num n) ha hl (by rw [List.getElem?_map, hn]; rfl), same_upd sm hD⟩
    · rintro D acc H' hD hl hacc ⟨ha, sm⟩
      rw [List.length_map] at hl
      rw [hl, ← List.length_map (f := num), List.take_length] at ha
      subst ha
      walk_at "go"
      refine ⟨_, D, ns.map num, rfl, rfl, .inl (SqL.of hacc), ?_, ?_⟩
      · have := sum_le (ys := ns.map num) (b := 2) (fun p hp => by obtain ⟨n, hn, rfl⟩ := List.mem_map.mp hp; exact (num_ok (hb n hn)).2.2.1)
        rw [List.length_map] at this ⊢
        have e : (CM : Str).length = 1 := by rw [len_tl, tl_CM]; rfl
        rw [e]
        omega
      · exact k _ sm
end
end K4

/-! P4c -/


namespace K4
open PySem L2 K1
abbrev sRowsIn : Stmt := top 43
abbrev nRowsIn : List Str := ["word", "rows", "part"]
theorem scRowsIn : FnScope nRowsIn ["word"] (defScope sRowsIn) := ⟨rfl, rfl, rfl, by decide +kernel, rfl, by decide +kernel, by decide +kernel⟩
abbrev sOwnWords : Stmt := top 37
abbrev nOwnWords : List Str := ["word", "values", "modulus", "weights", "goal", "rows", "goals", "many", "row"]
theorem scOwnWords : FnScope nOwnWords ["word", "values"] (defScope sOwnWords) := ⟨rfl, rfl, rfl, by decide +kernel, rfl, by decide +kernel, by decide +kernel⟩
abbrev sRuleWords : Stmt := top 36
abbrev nRuleWords : List Str := ["rule", "words", "inner"]
theorem scRuleWords : FnScope nRuleWords ["rule"] (defScope sRuleWords) := ⟨rfl, rfl, rfl, by decide +kernel, rfl, by decide +kernel, by decide +kernel⟩
abbrev sWriteRule : Stmt := top 35
abbrev nWriteRule : List Str := ["rule"]
theorem scWriteRule : FnScope nWriteRule ["rule"] (defScope sWriteRule) := ⟨rfl, rfl, rfl, by decide +kernel, rfl, by decide +kernel, by decide +kernel⟩
abbrev rowD (r : List Nat) : PyData := .tuple (r.map pn)
theorem hu65_of {k : Nat} {A : Around} (r : Room k A) : A.units + 65 < cLine := by have := r.un; omega
theorem shaped_of {d : PyData} (h : flatN d = true) (k : d.depth ≤ 64) : SeqAt.shaped d = true := by
  unfold SeqAt.shaped
  rw [canLay_flat d h, decide_eq_true k]
  rfl
theorem rowD_flat (r : List Nat) : flatN (rowD r) = true ∧ (rowD r).depth ≤ 1 :=
  ⟨flat_sq (t := true) fun d hd => (mem_map_pn hd).1, depth_sq (t := true) (n := 0) fun d hd => (mem_map_pn hd).2⟩
theorem rowD_pure (r : List Nat) : pure (rowD r) = true := pure_nums r
def spRowsIn (K : PySem.W.Frag) : Sp := fun vs H Q _ => ∃ rows : List (List Nat), vs = [.str (Txt.join SL (rows.map commas))] ∧ rows ≠ [] ∧ rows.length ≤ 60 ∧ (∀ r ∈ rows, Row r) ∧ ∀ H' v, Same H H' → Dp K H' v (.tuple (rows.map rowD)) → Q v H'
def spOwnWords (K : PySem.W.Frag) : Sp := fun vs H Q _ => ∃ (o : Ow) (v : V) (xs : List V), vs = [.str o.word, v] ∧ Sq K H v xs ∧ OwAt K H xs o ∧ o.ok ∧ ∀ H' p, Same H H' → H' p = some (.lst (o.words.map V.str)) → Q (.ref p) H'
def spRW (K : PySem.W.Frag) (n : Nat) : Sp := fun vs H Q _ => ∃ (v : V) (r : R), vs = [v] ∧ RAt K H v r ∧ r.ok ∧ r.parts ≤ 100 ∧ r.depth ≤ n ∧ ∀ H' p, Same H H' → H p = none → H' p = some (.lst (r.words.map V.str)) → Q (.ref p) H'
def spWR (K : PySem.W.Frag) : Sp := fun vs H Q _ => ∃ (v : V) (r : R), vs = [v] ∧ RAt K H v r ∧ r.ok ∧ r.parts ≤ 100 ∧ r.depth ≤ 42 ∧ ∀ H', Same H H' → Q (.str r.text) H'
theorem kind_of {o : Ow} {k : Nat} (hk : k < 9) (h : V.str o.word = V.str (wd k)) : o.kind = k := wd_inj _ o.kind_lt _ hk (V.str.inj h)
section
variable {P : Program} {w : World} {K : PySem.W.Frag} {mg : Str → Option Value} {base : Heap} {dO dI : Addr}
theorem none_ok {f : Addr} {fd : FuncData} {k : Nat} {ps : List Str} {sp : Sp} (no : ∀ vs H Q E, ¬ sp vs H Q E) : FnOk P w K mg base CX0 k f fd ps sp :=
  ⟨fun vs H Q E h => absurd h (no vs H Q E), fun A outer s H args us vs Q E _ _ _ _ h => absurd h (no vs H Q E)⟩
abbrev OIntsIn (P : Program) (w : World) (K : PySem.W.Frag) (mg : Str → Option Value) (base : Heap) : Prop := Own P w K mg base "integers_in" 4 ["word", "least_many", "most_many", "most"] spIntsIn
theorem ok_rowsIn {f : Addr} {fd : FuncData} (F : Fun K "rows_in" "rows_in" sRowsIn f fd) (B : Bl mg) (G : Gc K w mg dO dI) (Ois : OIntsIn P w K mg base) : FnOk P w K mg base CX0 5 f fd ["word"] (spRowsIn K) := by
  refine F.ok scRowsIn (fun vs H Q E h => ?_) (fun cdv A outer s H vs Q E hr h => ?_)
  · obtain ⟨rows, rfl, _⟩ := h
    rfl
  · obtain ⟨rows, rfl, hne, h60, hR, k⟩ := h
    have hu65 := hu65_of hr
    have hlen := len_join (y := SL) (b := 36) (ys := rows.map commas) (fun p hp => by
      obtain ⟨r, hr, rfl⟩ := List.mem_map.mp hp
      have a := commas_len (hR r hr).nums
      have b := (hR r hr).2.1
      omega)
    rw [tl_SL, List.length_map] at hlen
    simp only [List.length_cons, List.length_nil] at hlen
    refine ⟨_, (pss_cons (ps_setLc (i := 1) (own := [("part", 2)]) (g := gName 2) (tt := tYes) rfl scRowsIn.nd rfl rfl (sw_true rfl rfl rfl (by decide +kernel)) (pi_list (pe_m1 PySem.F.slot_str_split PySem.F.type_str_split mt_split (pv 0) pe_str)) (blkOk_by (N := nRowsIn) (sc := defScope sRowsIn) (by decide +kernel)) (fun _ _ _ _ _ => (pg_name (i := 2) scRowsIn.nd rfl (Or.inl rfl))) (fun _ _ _ _ _ => pts_nil) (fun _ _ _ _ _ => (pe_own Ois hr (pa_cons (pv 2) (pa_cons (pe_gI G.LEAST_KINDS) (pa_cons (pe_gI G.MOST_KINDS) (pa_cons (pe_gI G.MOST_NUMBER) pa_nil))))))) (pss_one (ps_ret (pe_ifExp (PW.pt (pw_or (pt_cmpR (op_inD hu65) pe_non (pv 1) (by rfl)) (pw_or1 (pt_cmpR op_gt (pe_callB call_len (by rfl) B.len PySem.boot_len (pa_cons (pv 1) pa_nil)) (pe_gI G.MOST_ROWS) (nomark _))))) pe_non (pe_callTy call_tuple_of (by rfl) B.tuple (by decide +kernel) (pa_cons (pv 1) pa_nil)))))), ?_⟩
    try dsimp only [cxOf, Cx.nox, Cx.wish]
    walk_at "go"
    refine ⟨_, _, rfl, rfl, by decide +kernel, (by rw [len_tl, sizeLine_eq]; omega), fun p hp => ?_⟩
    have es : Txt.split (Txt.join SL (rows.map commas)) SL = rows.map commas := rows_split hne hR
    rw [es]
    walk_at "go"
    refine ⟨⟨_, SqL.of upd_same⟩, fun D hD => ?_⟩
    have s0 : Same H (upd H p (.lst ((rows.map commas).map V.str))) := same_new hp
    have e0 : (upd H p (.lst ((rows.map commas).map V.str))) p = some (.lst ((rows.map commas).map V.str)) := upd_same
    generalize (upd H p (.lst ((rows.map commas).map V.str))) = H0 at *
    refine lc_gen (walk_list (K := K) (a := p) (xs := (rows.map commas).map V.str)) (fun _ => rfl) (fun acc H' => DpAll K H' acc ((rows.take acc.length).map rowD) ∧ Same H0 H') ⟨.nil, same_new hD⟩ (fun acc H' _ q => SqL.of (q.2 _ _ e0)) ?_ ?_
    · rintro i x acc H' hx hl hacc ⟨ha, sm⟩
      obtain ⟨z, hz, rfl⟩ := get_map hx
      obtain ⟨r, hrr, rfl⟩ : ∃ r, rows[i]? = some r ∧ z = commas r := by
        rw [List.getElem?_map] at hz
        cases e : rows[i]? with
        | none => rw [e] at hz; cases hz
        | some a => rw [e] at hz; exact ⟨a, rfl, (Option.some.inj hz).symm⟩
      have hmem := hR r (List.mem_of_getElem? hrr)
      walk_at "go"
      refine ⟨r, 2, 12, 59, rfl, ⟨hmem.nums.1, hmem.nums.2.1, hmem.2.2⟩, by decide, hmem.1, hmem.2.1, fun H2 q s2 e2 => ?_⟩
      refine pp_next (s2 _ _ hacc) hl (line60 (by have := (List.getElem?_eq_some_iff.mp hrr).1; omega)) ⟨?_, same_upd (sm.trans s2) hD⟩
      have kt : KT K H2 (upd H2 D (.lst (acc ++ [.ref q]))) := kt_lst (s2 _ _ hacc)
      have h1 : DpAll K (upd H2 D (.lst (acc ++ [.ref q]))) (acc ++ [.ref q]) ((rows.take acc.length).map rowD ++ [rowD r]) :=
        dpA_app (dpA_pure (KT.trans (Same.kt s2) kt) _ _ (pureA_iff.mpr fun d hd => by obtain ⟨r, _, rfl⟩ := List.mem_map.mp hd; exact rowD_pure r) ha)
          (.cons (.tup (kt _ _ (SqT.of e2)) (dpA_nums.mpr rfl)) .nil)
      rw [hl, take_next hrr] at h1
      rw [List.length_append, hl]
      exact h1
    · rintro acc H' hl hacc ⟨ha, sm⟩
      rw [List.length_map, List.length_map] at hl
      rw [hl, List.take_length] at ha
      walk_at "go"
      refine ⟨.none, rows.map rowD, .non, .lst (SqL.of hacc) ha, (by simp [SeqAt.shaped, PyData.canLay0, PyData.depth]), shaped_of ?_ ?_, ?_⟩
      · exact flat_sq (t := false) fun d hd => by obtain ⟨r, _, rfl⟩ := List.mem_map.mp hd; exact (rowD_flat r).1
      · exact Nat.le_trans (depth_sq (t := false) (n := 1) fun d hd => by obtain ⟨r, _, rfl⟩ := List.mem_map.mp hd; exact (rowD_flat r).2) (by decide)
      have en : ((rows.map rowD).any fun z => PyData.eqv z .none) = false := by
        rw [List.any_eq_false]
        intro d hd
        obtain ⟨r, _, rfl⟩ := List.mem_map.mp hd
        simp [PyData.eqv]
      rw [en]
      walk_at "go"
      refine ⟨_, _, rfl, lenL (SqL.of hacc), ?_⟩
      walk_at "go"
      refine r_no (by omega) ?_
      walk_at "go"
      refine ⟨_, _, rfl, .inl ⟨SqL.of hacc, fun q hq => ?_⟩⟩
      exact k _ _ ((s0.trans sm).trans (same_new hq)) (.tup (SqT.of upd_same) (dpA_pure (Same.kt (same_new hq)) _ _ (pureA_iff.mpr fun d hd => by obtain ⟨r, _, rfl⟩ := List.mem_map.mp hd; exact rowD_pure r) ha))
end
end K4

/-! P4d -/


namespace K4
open PySem L2 K1
section
variable {P : Program} {w : World} {K : PySem.W.Frag} {mg : Str → Option Value} {base : Heap} {dO dI : Addr}
abbrev OIntsWord (P : Program) (w : World) (K : PySem.W.Frag) (mg : Str → Option Value) (base : Heap) : Prop := Own P w K mg base "integers_word" 1 ["integers"] (spIntsWord K)
theorem log_ok {n : Nat} (h : n ≤ 60) : ((n : Int).natAbs).log2 < 1920 := by
  rw [Int.natAbs_natCast]
  exact Nat.lt_of_le_of_lt (Nat.log2_le_self n) (by omega)
theorem ok_ownWords {f : Addr} {fd : FuncData} (F : Fun K "own_words" "own_words" sOwnWords f fd) (B : Bl mg) (Oiw : OIntsWord P w K mg base) : FnOk P w K mg base CX0 2 f fd ["word", "values"] (spOwnWords K) := by
  refine F.ok scOwnWords (fun vs H Q E h => ?_) (fun cdv A outer s H vs Q E hr h => ?_)
  · obtain ⟨o, v, xs, rfl, _⟩ := h
    rfl
  · obtain ⟨o, v, xs, rfl, hS, hO, hok, k⟩ := h
    refine ⟨_, (pss_cons (ps_if (pt_cmpR op_eq (pv 0) pe_str (nomark _)) (pss_cons (ps_asg (pv 1) (pg_sq rfl (pgs_cons (pg_name (i := 2) scOwnWords.nd rfl (Or.inl rfl)) (pgs_cons (pg_name (i := 3) scOwnWords.nd rfl (Or.inl rfl)) (pgs_cons (pg_name (i := 4) scOwnWords.nd rfl (Or.inl rfl)) pgs_nil))))) (pss_one (ps_ret (pe_lst (pa_cons (pe_callTy call_str_int (by rfl) B.str (by decide +kernel) (pa_cons (pv 2) pa_nil)) (pa_cons (pe_own Oiw hr (pa_cons (pv 3) pa_nil)) (pa_cons (pe_callTy call_str_int (by rfl) B.str (by decide +kernel) (pa_cons (pv 4) pa_nil)) pa_nil))))))) pss_nil) (pss_cons (ps_if (pt_cmpR op_eq (pv 0) pe_str (nomark _)) (pss_cons (ps_asg (pv 1) (pg_sq rfl (pgs_cons (pg_name (i := 5) scOwnWords.nd rfl (Or.inl rfl)) (pgs_cons (pg_name (i := 6) scOwnWords.nd rfl (Or.inl rfl)) pgs_nil)))) (pss_one (ps_ret (pe_lst (pa_cons (pe_m1 PySem.F.slot_str_join PySem.F.type_str_join mt_join pe_str (pe_lc (own := [("row", 8)]) (g := gName 8) (tt := tYes) rfl scOwnWords.nd (pi_sq (pv 5)) (blkOk_by (N := nOwnWords) (sc := defScope sOwnWords) (by decide +kernel)) (fun _ _ _ _ _ => (pg_name (i := 8) scOwnWords.nd rfl (Or.inl rfl))) (fun _ _ _ _ _ => pts_nil) (fun _ _ _ _ _ => (pe_own Oiw hr (pa_cons (pv 8) pa_nil))))) (pa_cons (pe_own Oiw hr (pa_cons (pv 6) pa_nil)) pa_nil)))))) pss_nil) (pss_cons (ps_if (pt_cmpR op_eq (pv 0) pe_str (nomark _)) (pss_one (ps_ret (pe_lst (pa_cons (pe_m1 PySem.F.slot_str_join PySem.F.type_str_join mt_join pe_str (pe_ix ix_seq (pv 1) pe_int (fun _ _ => rfl))) pa_nil)))) pss_nil) (pss_one (ps_ret (pe_lc (own := [("many", 7)]) (g := gName 7) (tt := tYes) rfl scOwnWords.nd (pi_sq (pv 1)) (blkOk_by (N := nOwnWords) (sc := defScope sOwnWords) (by decide +kernel)) (fun _ _ _ _ _ => (pg_name (i := 7) scOwnWords.nd rfl (Or.inl rfl))) (fun _ _ _ _ _ => pts_nil) (fun _ _ _ _ _ => (pe_callTy call_str_int (by rfl) B.str (by decide +kernel) (pa_cons (pv 7) pa_nil))))))))), ?_⟩
    try dsimp only [cxOf, Cx.nox, Cx.wish]
    walk_at "go"
    refine r_ite (fun h5 => ?_) (fun h5 => ?_)
    · have e := kind_of (k := 5) (by decide) h5
      cases o <;> first | (exact absurd e (by simp only [Ow.kind]; decide)) | skip
      rename_i m ws g
      obtain ⟨wv, rfl, hW⟩ := hO
      obtain ⟨a1, a2, a3, a4, a5⟩ := hok
      walk_at "go"
      refine r_gSq hS rfl ?_
      walk_at "go"
      refine ⟨log_ok a2, ?_⟩
      walk_at "go"
      refine ⟨_, ws, rfl, hW, by omega, fun n hn => Nat.le_trans (a3.2.2 n hn) (by decide), fun H1 s1 => ?_⟩
      walk_at "go"
      refine ⟨log_ok (by omega), ?_⟩
      walk_at "go"
      refine ⟨(by show 3 ≤ sizeLine; decide), fun p hp => ?_⟩
      exact k _ p (s1.trans (same_new hp)) upd_same
    walk_at "go"
    refine r_ite (fun h6 => ?_) (fun h6 => ?_)
    · have e := kind_of (k := 6) (by decide) h6
      cases o <;> first | (exact absurd e (by simp only [Ow.kind]; decide)) | skip
      rename_i rows gs
      obtain ⟨av, gv, rvs, rfl, hA, hR, hG⟩ := hO
      obtain ⟨a1, a2, a3, a4⟩ := hok
      walk_at "go"
      refine r_gSq hS rfl ?_
      walk_at "go"
      have hl := hR.len
      refine lc_sq hA (fun _ => rfl) (fun acc H' => acc = ((rows.map commas).take acc.length).map V.str ∧ Same H H') (fun D hD => ⟨rfl, same_new hD⟩) (fun D acc H' _ _ q => Same.keeps q.2) ?_ _ ?_ (fun J h => h)
      · rintro D i x acc H' hD hx hl hacc ⟨ha, sm⟩
        obtain ⟨r, hr', hN⟩ := hR.get hx
        have hmem := a3 r (List.mem_of_getElem? hr')
        walk_at "go"
        refine ⟨_, r, rfl, hN.same sm, hmem.nums.2.1, hmem.nums.2.2, fun H2 s2 => ?_⟩
        exact pp_next (s2 _ _ hacc) hl (line60 (by have := (List.getElem?_eq_some_iff.mp hr').1; omega)) ⟨acc_next (f := V.str) (a := commas r) ha hl (by rw [List.getElem?_map, hr']; rfl), same_upd (sm.trans s2) hD⟩
      · rintro D acc H' hD hl' hacc ⟨ha, sm⟩
        rw [hl', hl, ← List.length_map (f := commas), List.take_length] at ha
        subst ha
        walk_at "go"
        refine ⟨_, D, rows.map commas, rfl, rfl, .inl (SqL.of hacc), ?_, ?_⟩
        · have := sum_le (ys := rows.map commas) (b := 36) (fun p hp => by
            obtain ⟨r, hr, rfl⟩ := List.mem_map.mp hp
            have a := commas_len (a3 r hr).nums
            have b := (a3 r hr).2.1
            omega)
          have e : ("/" : Str).length = 1 := by rw [len_tl, tl_SL]; rfl
          rw [e]
          rw [List.length_map] at this ⊢
          omega
        walk_at "go"
        refine ⟨_, gs, rfl, hG.same sm, a4.2.1, fun n hn => Nat.le_trans (a4.2.2 n hn) (by decide), fun H3 s3 => ?_⟩
        walk_at "go"
        refine ⟨(by show 2 ≤ sizeLine; decide), fun p hp => ?_⟩
        exact k _ p ((sm.trans s3).trans (same_new hp)) upd_same
    walk_at "go"
    refine r_ite (fun h7 => ?_) (fun h7 => ?_)
    · have e := kind_of (k := 7) (by decide) h7
      cases o <;> first | (exact absurd e (by simp only [Ow.kind]; decide)) | skip
      rename_i fs
      obtain ⟨fv, rfl, hF⟩ := hO
      obtain ⟨a1, a2, a3⟩ := hok
      walk_at "go"
      refine r_ixSq hS at0 ?_
      walk_at "go"
      obtain ⟨q, rfl, hq⟩ := hF
      refine ⟨_, q, fs, rfl, rfl, hq, ?_, ?_⟩
      · have := sum_le (ys := fs) (b := 12) (fun p hp => (a3 p hp).2.1)
        have e : ("," : Str).length = 1 := by rw [len_tl, tl_CM]; rfl
        rw [e]
        omega
      walk_at "go"
      refine ⟨(by show 1 ≤ sizeLine; decide), fun p hp => ?_⟩
      exact k _ p (same_new hp) upd_same
    walk_at "go"
    obtain ⟨ns, hxs, hws, h60, hb⟩ : ∃ ns : List Nat, xs = ns.map vi ∧ o.words = ns.map num ∧ ns.length ≤ 60 ∧ ∀ n ∈ ns, n ≤ 60 := by
      cases o with
      | sum m ws g => exact absurd rfl h5
      | square rows gs => exact absurd rfl h6
      | faces fs => exact absurd rfl h7
      | cut a b =>
        have h1 := hok.1
        have h2 := hok.2
        refine ⟨[a, b], hO, rfl, (by show 2 ≤ 60; decide), fun n hn => ?_⟩
        simp only [List.mem_cons, List.not_mem_nil, or_false] at hn
        rcases hn with rfl | rfl <;> omega
      | _ => exact ⟨[], hO, rfl, by decide, fun n hn => absurd hn (by simp)⟩
    subst hxs
    refine lc_sq hS (fun _ => rfl) (fun acc H' => acc = ((ns.map num).take acc.length).map V.str ∧ Same H H') (fun D hD => ⟨rfl, same_new hD⟩) (fun D acc H' _ _ q => Same.keeps q.2) ?_ _ ?_ (fun J h => h)
    · rintro D i x acc H' hD hx hl hacc ⟨ha, sm⟩
      obtain ⟨n, hn, rfl⟩ := get_map hx
      walk_at "go"
      have hmem := hb n (List.mem_of_getElem? hn)
      refine ⟨log_ok hmem, ?_⟩
      exact pp_next hacc hl (line60 (by have := (List.getElem?_eq_some_iff.mp hn).1; omega)) ⟨acc_next (f := V.str) (a := num n) ha hl (by rw [List.getElem?_map, hn]; rfl), same_upd sm hD⟩
    · rintro D acc H' hD hl hacc ⟨ha, sm⟩
      rw [List.length_map] at hl
      rw [hl, ← List.length_map (f := num), List.take_length] at ha
      subst ha
      rw [← hws] at hacc
      exact k _ D sm hacc
end
end K4

/-! P4e -/


namespace K4
open PySem L2 K1
section
variable {P : Program} {w : World} {K : PySem.W.Frag} {mg : Str → Option Value} {base : Heap} {dO dI : Addr}
abbrev OOwnWords (P : Program) (w : World) (K : PySem.W.Frag) (mg : Str → Option Value) (base : Heap) : Prop := Own P w K mg base "own_words" 2 ["word", "values"] (spOwnWords K)
abbrev OOwnValues (P : Program) (w : World) (K : PySem.W.Frag) (mg : Str → Option Value) (base : Heap) : Prop := Own P w K mg base "own_values" 1 ["part"] (spOwn K)
abbrev OInnerRules (P : Program) (w : World) (K : PySem.W.Frag) (mg : Str → Option Value) (base : Heap) : Prop := Own P w K mg base "inner_rules" 1 ["part"] (spInner K)
abbrev ORW (n : Nat) (P : Program) (w : World) (K : PySem.W.Frag) (mg : Str → Option Value) (base : Heap) : Prop := Own P w K mg base "rule_words" (n + 2) ["rule"] (spRW K n)
theorem words_bound {r : R} (h : r.parts ≤ 100) : r.words.length ≤ 400 := by have := r.words_len; omega
theorem part_le {r i : R} (h : i ∈ r.inner) : i.parts ≤ r.parts := by
  cases r with
  | n0 o => simp [R.inner] at h
  | n1 o a => simp only [R.inner, List.mem_cons, List.not_mem_nil, or_false] at h; subst h; simp only [R.parts]; omega
  | n2 o a b => simp only [R.inner, List.mem_cons, List.not_mem_nil, or_false] at h; simp only [R.parts]; rcases h with rfl | rfl <;> omega
theorem flat_next {r : R} {i : Nat} {x : R} (h : r.inner[i]? = some x) : (((r.inner.take i).map R.words).flatten ++ x.words) = ((r.inner.take (i + 1)).map R.words).flatten := by
  rw [List.take_succ, h]; simp
theorem take_words_le (r : R) (i : Nat) : (r.ow.word :: (r.ow.words ++ ((r.inner.take i).map R.words).flatten)).length ≤ r.words.length := by
  rw [r.words_eq]
  have : ((r.inner.take i).map R.words).flatten.length ≤ ((r.inner).map R.words).flatten.length := by
    conv => rhs; rw [← List.take_append_drop i r.inner]
    rw [List.map_append, List.flatten_append, List.length_append]
    omega
  simp only [List.length_cons, List.length_append]
  omega
theorem ok_ruleWords {n : Nat} {f : Addr} {fd : FuncData} (F : Fun K "rule_words" "rule_words" sRuleWords f fd) (B : Bl mg) (Oow : OOwnWords P w K mg base) (Oov : OOwnValues P w K mg base) (Oir : OInnerRules P w K mg base) (Orw : ORW n P w K mg base) :
    FnOk P w K mg base CX0 (n + 1 + 2) f fd ["rule"] (spRW K (n + 1)) := by
  refine F.ok scRuleWords (fun vs H Q E h => ?_) (fun cdv A outer s H vs Q E hr h => ?_)
  · obtain ⟨v, r, rfl, _⟩ := h
    rfl
  · obtain ⟨v, r, rfl, hA, hok, h100, hd, k⟩ := h
    have hwb := words_bound h100
    obtain ⟨xs, is, hS, hO, hI⟩ := hA.open
    have hxl := hO.len
    refine ⟨_, (pss_cons (ps_set (i := 1) scRuleWords.nd rfl (Or.inl rfl) (pe_lst (pa_cons (pe_ix ix_seq (pv 0) pe_int (fun _ _ => rfl)) (StX.pa_star (pe_own Oow (hr.mono (by omega)) (pa_cons (pe_ix ix_seq (pv 0) pe_int (fun _ _ => rfl)) (pa_cons (pe_own Oov (hr.mono (by omega)) (pa_cons (pv 0) pa_nil)) pa_nil))) pa_nil)))) (pss_cons (ps_for PassesOwn.never rfl (pi_sq (pe_own Oir (hr.mono (by omega)) (pa_cons (pv 0) pa_nil))) (pg_name (i := 2) scRuleWords.nd rfl (Or.inl rfl)) (pss_one (ps_expr (pe_bm PySem.F.plainAttrs_list PySem.F.slot_list_extend PySem.F.type_list_extend mt_extend (pv 1) (pa_cons (pe_own Orw hr (pa_cons (pv 2) pa_nil)) pa_nil))))) (pss_one (ps_ret (pv 1))))), ?_⟩
    try dsimp only [cxOf, Cx.nox, Cx.wish]
    walk_at "go"
    refine r_ixSq hS at0 ?_
    walk_at "go"
    refine r_ixSq hS at0 ?_
    walk_at "go"
    refine ⟨v, r.ow.kind, xs, is, rfl, r.ow.kind_lt, hS, hxl, fun v1 H1 s1 h1 => ?_⟩
    walk_at "go"
    refine ⟨r.ow, v1, xs, rfl, h1, hO.keep (Same.keeps s1), R.ok_ow hok, fun H2 p s2 e2 => ?_⟩
    refine ⟨p, _, rfl, .inr (SqL.of e2), ?_⟩
    walk_at "go"
    have hlen1 : (r.ow.words).length ≤ 3 := by rw [Ow.words_len]; exact mn_le _
    refine ⟨(by rw [List.length_cons, List.append_nil, List.length_map]; exact Nat.le_of_lt (line60 (by omega))), fun L hL => ?_⟩
    have s12 := s1.trans s2
    have hLH : H L = none := s12.free hL
    walk_at "go"
    have s3 : Same H (upd H2 L (.lst (V.str r.ow.word :: (r.ow.words.map V.str ++ [])))) := same_upd s12 hLH
    refine ⟨v, r.ow.kind, xs, is, rfl, r.ow.kind_lt, hS.same s3, hxl, fun p3 H3 hp3 s4 h3 => ?_⟩
    have np : V.ref p3 ≠ V.ref L := fun q => by rw [V.ref.inj q, upd_same] at hp3; cases hp3
    have eL : H3 L = some (.lst ((r.ow.word :: (r.ow.words ++ ((r.inner.take 0).map R.words).flatten)).map V.str)) := by
      rw [s4 _ _ upd_same]
      simp
    have s5 := s3.trans s4
    refine fr_sq h3 (fun i σ H' => ∃ oi, σ = [some v, some (.ref L), oi] ∧ Same H H' ∧ Kp L H3 H' ∧ H' L = some (.lst ((r.ow.word :: (r.ow.words ++ ((r.inner.take i).map R.words).flatten)).map V.str))) ⟨none, rfl, s5, Kp.refl _ _, eL⟩ (fun i σ H' _ ⟨_, _, _, kp, _⟩ => Kp.at kp np) ?_ ?_ (fun J h => h)
    · rintro i x σ H' hx ⟨oi, rfl, sm, kp, el⟩
      obtain ⟨ri, hri, hRA⟩ := hI.get hx
      have hmem := List.mem_of_getElem? hri
      walk_at "go"
      refine ⟨tyL (SqL.of el), ?_⟩
      walk_at "go"
      refine ⟨x, ri, rfl, hRA.keep (Same.keeps sm), R.ok_in hok ri hmem, Nat.le_trans (part_le hmem) h100, by have := R.in_depth ri hmem; omega, fun H4 q s6 hq e4 => ?_⟩
      walk_at "go"
      have tb := take_words_le r i
      have wb := words_bound (Nat.le_trans (part_le hmem) h100)
      refine ⟨L, q, _, _, rfl, rfl, s6 _ _ el, e4, ?_, ?_⟩
      · rw [List.length_map, List.length_map]
        exact Nat.le_of_lt (line60 (by omega))
      refine ⟨_, rfl, same_upd (sm.trans s6) hLH, fun c o n e => ?_, ?_⟩
      · rw [upd_ne n]
        exact s6 _ _ (kp c o n e)
      · rw [upd_same, ← List.map_append, List.cons_append, List.append_assoc, flat_next hri]
    · rintro σ H' ⟨oi, rfl, sm, kp, el⟩
      walk_at "go"
      rw [hI.len, List.take_length, ← r.words_eq] at el
      exact k _ L sm hLH el
theorem rw_all {f : Addr} {fd : FuncData} (F : Fun K "rule_words" "rule_words" sRuleWords f fd) (B : Bl mg) (Oow : OOwnWords P w K mg base) (Oov : OOwnValues P w K mg base) (Oir : OInnerRules P w K mg base)
    (m : mg "rule_words" = some (.ref f)) (b : Binds K fd ["rule"] []) : ∀ n : Nat, ORW n P w K mg base
  | 0 => ⟨f, fd, none_ok fun vs H Q E h => by obtain ⟨v, r, _, _, _, _, hd, _⟩ := h; cases r <;> simp [R.depth] at hd, m, F.kp, b⟩
  | n + 1 => ⟨f, fd, ok_ruleWords F B Oow Oov Oir (rw_all F B Oow Oov Oir m b n), m, F.kp, b⟩
theorem ok_writeRule {f : Addr} {fd : FuncData} (F : Fun K "write_rule" "write_rule" sWriteRule f fd) (B : Bl mg) (Orw : ORW 42 P w K mg base) : FnOk P w K mg base CX0 45 f fd ["rule"] (spWR K) := by
  refine F.ok scWriteRule (fun vs H Q E h => ?_) (fun cdv A outer s H vs Q E hr h => ?_)
  · obtain ⟨v, r, rfl, _⟩ := h
    rfl
  · obtain ⟨v, r, rfl, hA, hok, h100, hd, k⟩ := h
    refine ⟨_, (pss_one (ps_ret (pe_m1 PySem.F.slot_str_join PySem.F.type_str_join mt_join pe_str (pe_own Orw (hr.mono (by omega)) (pa_cons (pv 0) pa_nil))))), ?_⟩
    try dsimp only [cxOf, Cx.nox, Cx.wish]
    walk_at "go"
    refine ⟨v, r, rfl, hA, hok, h100, hd, fun H1 p s1 _ e1 => ?_⟩
    walk_at "go"
    refine ⟨_, p, r.words, rfl, rfl, .inl (SqL.of e1), ?_, k _ s1⟩
    have := sum_le (ys := r.words) (b := 2500) (fun p hp => (R.words_ok hok p hp).2)
    have wb := words_bound h100
    have e : (" " : Str).length = 1 := by rw [len_tl, tl_SP]; rfl
    rw [e]
    omega
end
end K4

/-! D4 -/
/-! The data of rules: their shapes; lists in place of tuples; what a new thing holds; ends of texts. -/
namespace K4
open PySem L2 K1
theorem strOk_of {z : Str} (h : ∀ c ∈ tl z, c < 1114112) : PyData.strOk z = true := by
  unfold PyData.strOk
  rw [← Array.all_toList]
  exact List.all_eq_true.mpr fun c hc => decide_eq_true (h c hc)
theorem all_lt : ∀ c ∈ tl K4.ALL, c < 1114112 := by decide +kernel
theorem wd_str : ∀ i < 9, PyData.strOk (wd i) = true := by decide +kernel
theorem Face.str {f : Str} (h : Face f) : PyData.strOk f = true := strOk_of fun c hc => all_lt c (h.2.2 c hc)
theorem Ow.flat {o : Ow} (h : o.ok) (t : Bool) : ∀ d ∈ o.data t, flatN d = true ∧ d.depth ≤ 2 := by
  have nums : ∀ ns : List Nat, flatN (sq t (ns.map pn)) = true ∧ (sq t (ns.map pn)).depth ≤ 1 := fun ns =>
    ⟨flat_sq fun d hd => (mem_map_pn hd).1, depth_sq (n := 0) fun d hd => (mem_map_pn hd).2⟩
  cases o with
  | sum m ws g =>
    intro d hd
    simp only [Ow.data, List.mem_cons, List.not_mem_nil, or_false] at hd
    rcases hd with rfl | rfl | rfl
    · exact ⟨rfl, Nat.zero_le _⟩
    · exact ⟨(nums ws).1, Nat.le_trans (nums ws).2 (by decide)⟩
    · exact ⟨rfl, Nat.zero_le _⟩
  | square rows gs =>
    intro d hd
    simp only [Ow.data, List.mem_cons, List.not_mem_nil, or_false] at hd
    rcases hd with rfl | rfl
    · exact ⟨flat_sq fun d hd => by obtain ⟨r, _, rfl⟩ := List.mem_map.mp hd; exact (nums r).1, depth_sq (n := 1) fun d hd => by obtain ⟨r, _, rfl⟩ := List.mem_map.mp hd; exact (nums r).2⟩
    · exact ⟨(nums gs).1, Nat.le_trans (nums gs).2 (by decide)⟩
  | faces fs =>
    intro d hd
    simp only [Ow.data, List.mem_cons, List.not_mem_nil, or_false] at hd
    subst hd
    refine ⟨flat_sq fun d hd => by obtain ⟨r, hr, rfl⟩ := List.mem_map.mp hd; exact (h.2.2 r hr).str, Nat.le_trans (depth_sq (n := 0) fun d hd => ?_) (by decide)⟩
    obtain ⟨r, hr, rfl⟩ := List.mem_map.mp hd
    exact Nat.le_refl _
  | cut a b =>
    intro d hd
    simp only [Ow.data, List.mem_cons, List.not_mem_nil, or_false] at hd
    rcases hd with rfl | rfl <;> exact ⟨rfl, Nat.zero_le _⟩
  | _ => intro d hd; simp [Ow.data] at hd
theorem R.flat (t : Bool) : ∀ {r : R}, r.ok → flatN (r.data t) = true ∧ (r.data t).depth ≤ r.depth + 2
  | .n0 o, h => by
    have a := Ow.flat h.1 t
    refine ⟨flat_sq fun d hd => ?_, depth_sq (n := 2) fun d hd => ?_⟩
    all_goals
      simp only [List.mem_cons] at hd
      rcases hd with rfl | hd
    · exact wd_str _ o.kind_lt
    · exact (a d hd).1
    · exact Nat.zero_le _
    · exact (a d hd).2
  | .n1 o r, h => by
    have a := Ow.flat h.1 t
    have b := R.flat t h.2.2
    refine ⟨flat_sq fun d hd => ?_, depth_sq (n := r.depth + 2) fun d hd => ?_⟩
    all_goals
      simp only [List.mem_cons, List.mem_append, List.not_mem_nil, or_false] at hd
      rcases hd with rfl | hd | rfl
    · exact wd_str _ o.kind_lt
    · exact (a d hd).1
    · exact b.1
    · exact Nat.zero_le _
    · exact Nat.le_trans (a d hd).2 (by omega)
    · exact b.2
  | .n2 o r s, h => by
    have a := Ow.flat h.1 t
    have b := R.flat t h.2.2.1
    have c := R.flat t h.2.2.2
    refine ⟨flat_sq fun d hd => ?_, depth_sq (n := max r.depth s.depth + 2) fun d hd => ?_⟩
    all_goals
      simp only [List.mem_cons, List.mem_append, List.not_mem_nil, or_false] at hd
      rcases hd with rfl | hd | rfl | rfl
    · exact wd_str _ o.kind_lt
    · exact (a d hd).1
    · exact b.1
    · exact c.1
    · exact Nat.zero_le _
    · exact Nat.le_trans (a d hd).2 (by omega)
    · exact Nat.le_trans b.2 (by omega)
    · exact Nat.le_trans c.2 (by omega)
theorem R.shaped (t : Bool) {r : R} (h : r.ok) (k : r.depth ≤ 62) : SeqAt.shaped (r.data t) = true := shaped_of (R.flat t h).1 (Nat.le_trans (R.flat t h).2 (by omega))
theorem R.refl (t : Bool) {r : R} (h : r.ok) : PyData.eqv (r.data t) (r.data t) = true := SeqAt.eqv_refl _ (canLay_flat _ (R.flat t h).1)
mutual
def lstd : PyData → PyData
  | .tuple ds => .list (lstA ds)
  | d => d
def lstA : List PyData → List PyData
  | [] => []
  | d :: ds => lstd d :: lstA ds
end
theorem lstA_map : ∀ ds : List PyData, lstA ds = ds.map lstd
  | [] => rfl
  | d :: ds => by rw [lstA, lstA_map ds]; rfl
theorem lstd_nums (ns : List Nat) : (ns.map pn).map lstd = ns.map pn := by
  rw [List.map_map]
  exact List.map_congr_left fun n _ => by simp [pn, lstd]
theorem lstd_tup (ds : List PyData) : lstd (.tuple ds) = .list (ds.map lstd) := by rw [lstd, lstA_map]
theorem Ow.lst (o : Ow) : (o.data true).map lstd = o.data false := by
  cases o with
  | sum m ws g => simp only [Ow.data, List.map_cons, List.map_nil, sq, if_true, lstd_tup, lstd_nums]; simp [pn, lstd]
  | square rows gs =>
    simp only [Ow.data, List.map_cons, List.map_nil, sq, if_true, lstd_tup, lstd_nums, List.map_map]
    simp only [Bool.false_eq_true, if_false]
    refine congrArg (fun x => [PyData.list x, PyData.list (gs.map pn)]) ?_
    exact List.map_congr_left fun r _ => by show lstd (.tuple (r.map pn)) = _; rw [lstd_tup, lstd_nums]
  | faces fs =>
    simp only [Ow.data, List.map_cons, List.map_nil, sq, if_true, lstd_tup, List.map_map]
    simp only [Bool.false_eq_true, if_false]
    refine congrArg (fun x => [PyData.list x]) ?_
    exact List.map_congr_left fun r _ => by simp [lstd]
  | cut a b => simp [Ow.data, pn, lstd]
  | _ => simp [Ow.data]
theorem R.lst : ∀ r : R, lstd (r.data true) = r.data false
  | .n0 o => by
    show lstd (.tuple _) = .list _
    rw [lstd_tup, List.map_cons, o.lst]
    simp [lstd]
  | .n1 o a => by
    show lstd (.tuple _) = .list _
    rw [lstd_tup, List.map_cons, List.map_append, o.lst, List.map_cons, a.lst]
    simp [lstd]
  | .n2 o a b => by
    show lstd (.tuple _) = .list _
    rw [lstd_tup, List.map_cons, List.map_append, o.lst, List.map_cons, List.map_cons, a.lst, b.lst]
    simp [lstd]
mutual
def wide : PyData → Bool
  | .tuple ds => decide (ds.length ≤ 1000) && wideA ds
  | _ => true
def wideA : List PyData → Bool
  | [] => true
  | d :: ds => wide d && wideA ds
end
theorem wideA_iff : ∀ {ds : List PyData}, wideA ds = true ↔ ∀ d ∈ ds, wide d = true
  | [] => by simp [wideA]
  | d :: ds => by simp [wideA, wideA_iff]
theorem wide_tup {ds : List PyData} (h : ds.length ≤ 1000) (k : ∀ d ∈ ds, wide d = true) : wide (.tuple ds) = true := by
  rw [wide, decide_eq_true h, wideA_iff.mpr k]
  rfl
theorem wide_nums {ns : List Nat} (h : ns.length ≤ 1000) : wide (.tuple (ns.map pn)) = true := wide_tup (by rw [List.length_map]; exact h) fun d hd => by obtain ⟨n, _, rfl⟩ := List.mem_map.mp hd; rfl
theorem Ow.wide {o : Ow} (h : o.ok) : ∀ d ∈ o.data true, K4.wide d = true := by
  cases o with
  | sum m ws g =>
    intro d hd
    simp only [Ow.data, List.mem_cons, List.not_mem_nil, or_false] at hd
    rcases hd with rfl | rfl | rfl
    · rfl
    · exact wide_nums (by have := h.2.2.1.2.1; omega)
    · rfl
  | square rows gs =>
    intro d hd
    simp only [Ow.data, List.mem_cons, List.not_mem_nil, or_false] at hd
    rcases hd with rfl | rfl
    · exact wide_tup (by rw [List.length_map]; have := h.2.1; omega) fun d hd => by obtain ⟨r, hr, rfl⟩ := List.mem_map.mp hd; exact wide_nums (by have := (h.2.2.1 r hr).2.1; omega)
    · exact wide_nums (by have := h.2.2.2.2.1; omega)
  | faces fs =>
    intro d hd
    simp only [Ow.data, List.mem_cons, List.not_mem_nil, or_false] at hd
    subst hd
    exact wide_tup (by rw [List.length_map]; have := h.2.1; omega) fun d hd => by obtain ⟨r, hr, rfl⟩ := List.mem_map.mp hd; rfl
  | cut a b =>
    intro d hd
    simp only [Ow.data, List.mem_cons, List.not_mem_nil, or_false] at hd
    rcases hd with rfl | rfl <;> rfl
  | _ => intro d hd; simp [Ow.data] at hd
theorem R.wide : ∀ {r : R}, r.ok → K4.wide (r.data true) = true
  | .n0 o, h => wide_tup (by have := mn_le o.kind; rw [List.length_cons, Ow.data_len]; omega) fun d hd => by
      simp only [List.mem_cons] at hd
      rcases hd with rfl | hd
      · rfl
      · exact Ow.wide h.1 d hd
  | .n1 o a, h => wide_tup (by have := mn_le o.kind; rw [List.length_cons, List.length_append, Ow.data_len]; simp only [List.length_cons, List.length_nil]; omega) fun d hd => by
      simp only [List.mem_cons, List.mem_append, List.not_mem_nil, or_false] at hd
      rcases hd with rfl | hd | rfl
      · rfl
      · exact Ow.wide h.1 d hd
      · exact R.wide h.2.2
  | .n2 o a b, h => wide_tup (by have := mn_le o.kind; rw [List.length_cons, List.length_append, Ow.data_len]; simp only [List.length_cons, List.length_nil]; omega) fun d hd => by
      simp only [List.mem_cons, List.mem_append, List.not_mem_nil, or_false] at hd
      rcases hd with rfl | hd | rfl | rfl
      · rfl
      · exact Ow.wide h.1 d hd
      · exact R.wide h.2.2.1
      · exact R.wide h.2.2.2
/-! ### what is new in a heap -/
def New (H H' : Hp) : Hp := fun c => match H c with | none => H' c | some _ => none
theorem New.same {H H' : Hp} : Same (New H H') H' := fun c u e => by
  unfold New at e
  cases h : H c with
  | none => rw [h] at e; exact e
  | some o => rw [h] at e; cases e
theorem New.at {H H' : Hp} {c : Addr} (h : H c = none) : New H H' c = H' c := by unfold New; rw [h]
theorem New.le {H0 H1 H H' : Hp} (a : ∀ c, H1 c = none → H0 c = none) (s : ∀ c u, H1 c = none → H c = some u → H' c = some u) : Same (New H1 H) (New H0 H') := fun c u e => by
  unfold New at e
  cases h : H1 c with
  | none => rw [h] at e; rw [New.at (a c h)]; exact s c u h e
  | some o => rw [h] at e; cases e
section
variable {K : PySem.W.Frag} {H : Hp} {a : Addr} {xs : List V}
theorem tyxT (h : SqT K H a xs) : TyX K H (.ref a) (.type "tuple") := by
  rcases h with (h | ⟨u, h⟩) | ⟨o, its, n, e, c, _⟩
  · exact .base (.tup h)
  · exact .fTuple h
  · exact .kTuple e c
theorem tyxL (h : SqL K H a xs) : TyX K H (.ref a) (.type "list") := by
  rcases h with (h | ⟨u, h⟩) | ⟨o, its, n, e, c, _⟩
  · exact .base (.lst h)
  · exact .base (.frz h)
  · exact .kList e c
end
/-! ### ends of texts -/
theorem ends_app (x y r : Str) (h : tl x = tl r ++ tl y) : Txt.endswith x y = true := by
  have lx : x.length = r.length + y.length := by rw [len_tl x, len_tl r, len_tl y, h, List.length_append]
  unfold Txt.endswith
  rw [PySem.StrLaws.subAt_eq]
  have e : x.length - y.length = (tl r).length := by rw [lx, ← len_tl r]; omega
  have e2 : y.length = (tl y).length := len_tl y
  show (decide (0 + y.length ≤ x.length) && (((tl x).drop (x.length - y.length)).take y.length == tl y)) = true
  rw [e, h, List.drop_left, e2, List.take_length, decide_eq_true (by omega)]
  simp
theorem joinL_app {S : List Nat} : ∀ {xs ys : List (List Nat)}, xs ≠ [] → ys ≠ [] → TL.joinL S (xs ++ ys) = TL.joinL S xs ++ (S ++ TL.joinL S ys)
  | [], _, h, _ => absurd rfl h
  | [x], [], _, h => absurd rfl h
  | [x], y :: ys, _, _ => rfl
  | x :: z :: xs, ys, _, h => by
    show x ++ (S ++ TL.joinL S (z :: xs ++ ys)) = x ++ (S ++ TL.joinL S (z :: xs)) ++ _
    rw [joinL_app (by simp) h]
    simp
theorem join_app {s : Str} {xs ys : List Str} (h : xs ≠ []) (k : ys ≠ []) : tl (Txt.join s (xs ++ ys)) = tl (Txt.join s xs) ++ (tl s ++ tl (Txt.join s ys)) := by
  rw [tl_joinL, tl_joinL, tl_joinL, List.map_append, joinL_app (by simpa using h) (by simpa using k)]
end K4

/-! W4a -/


namespace K4
open PySem L2 K1
abbrev sWInit : Stmt := inClass (top 32) 0
abbrev nWInit : List Str := ["self", "line", "text"]
theorem scWInit : FnScope nWInit ["self", "line", "text"] (defScope sWInit) := ⟨rfl, rfl, rfl, by decide +kernel, rfl, by decide +kernel, by decide +kernel⟩
abbrev sWHere : Stmt := inClass (top 32) 1
abbrev nWHere : List Str := ["self"]
theorem scWHere : FnScope nWHere ["self"] (defScope sWHere) := ⟨rfl, rfl, rfl, by decide +kernel, rfl, by decide +kernel, by decide +kernel⟩
abbrev sWTaken : Stmt := inClass (top 32) 2
abbrev nWTaken : List Str := ["self", "worth"]
theorem scWTaken : FnScope nWTaken ["self", "worth"] (defScope sWTaken) := ⟨rfl, rfl, rfl, by decide +kernel, rfl, by decide +kernel, by decide +kernel⟩
abbrev sWTakeInt : Stmt := inClass (top 32) 5
abbrev nWTakeInt : List Str := ["self", "least", "most"]
theorem scWTakeInt : FnScope nWTakeInt ["self", "least", "most"] (defScope sWTakeInt) := ⟨rfl, rfl, rfl, by decide +kernel, rfl, by decide +kernel, by decide +kernel⟩
abbrev sWMore : Stmt := inClass (top 32) 7
abbrev nWMore : List Str := ["self"]
theorem scWMore : FnScope nWMore ["self"] (defScope sWMore) := ⟨rfl, rfl, rfl, by decide +kernel, rfl, by decide +kernel, by decide +kernel⟩
abbrev sWFinish : Stmt := inClass (top 32) 8
abbrev nWFinish : List Str := ["self"]
theorem scWFinish : FnScope nWFinish ["self"] (defScope sWFinish) := ⟨rfl, rfl, rfl, by decide +kernel, rfl, by decide +kernel, by decide +kernel⟩
/-! ### the object of the words -/
theorem nWL : ¬ (("words" : Str) = "line") := by decide +kernel
theorem nAL : ¬ (("at" : Str) = "line") := by decide +kernel
theorem nAW : ¬ (("at" : Str) = "words") := by decide +kernel
theorem nWA : ¬ (("words" : Str) = "at") := by decide +kernel
theorem nLA : ¬ (("line" : Str) = "at") := by decide +kernel
theorem nLW : ¬ (("line" : Str) = "words") := by decide +kernel
def flds (t : Addr) (z : Int) : List (Str × V) := [("line", .int 0), ("words", .ref t), ("at", .int z)]
theorem flds_line (t : Addr) (z : Int) : (flds t z).lookup ("line" : Str) = some (.int 0) := rfl
theorem lk {a b : Str} {v : V} {l : List (Str × V)} (h : ¬ a = b) : List.lookup a ((b, v) :: l) = List.lookup a l := by
  rw [List.lookup_cons]
  have : (a == b) = false := by simpa using h
  rw [this]
theorem lkS {a : Str} {v : V} {l : List (Str × V)} : List.lookup a ((a, v) :: l) = some v := by
  rw [List.lookup_cons, beq_self_eq_true]
theorem flds_words (t : Addr) (z : Int) : (flds t z).lookup ("words" : Str) = some (.ref t) := by
  unfold flds
  rw [lk nWL, lkS]
theorem flds_at (t : Addr) (z : Int) : (flds t z).lookup ("at" : Str) = some (.int z) := by
  unfold flds
  rw [lk nAL, lk nAW, lkS]
theorem flds_no (t : Addr) (z : Int) {m : Str} (h1 : ¬ m = "line") (h2 : ¬ m = "words") (h3 : ¬ m = "at") : (flds t z).lookup m = none := by
  unfold flds
  rw [lk h1, lk h2, lk h3]
  rfl
theorem flds_put (t : Addr) (z y : Int) : putF "at" (.int y) (flds t z) = flds t y := by
  show (if ("line" : Str) = "at" then _ else (("line" : Str), V.int 0) :: (if ("words" : Str) = "at" then _ else (("words" : Str), V.ref t) :: (if ("at" : Str) = "at" then [(("at" : Str), V.int y)] else _))) = flds t y
  rw [if_neg nLA, if_neg nWA, if_pos rfl]
  rfl
structure WordsAt (C : Addr) (H : Hp) (p : Addr) (ws : List Str) (z : Nat) : Prop where
  ob : ∃ dx t, H p = some (.ins C dx (flds t z)) ∧ H t = some (.tup (ws.map V.str))
  le : ws.length ≤ 1000
structure TW (K : PySem.W.Frag) (mg : Str → Option Value) (C : Addr) : Prop where
  cl : Cls K C
  nL : NoAttr K C "line"
  nW : NoAttr K C "words"
  nA : NoAttr K C "at"
  mgC : mg "Words" = some (.ref C)
def spWInit (C : Addr) : Sp := fun vs H Q _ => ∃ (p dx : Addr) (ws : List Str), vs = [.ref p, .int 0, .str (Txt.join SP ws)] ∧ H p = some (.ins C dx []) ∧ ws ≠ [] ∧ ws.length ≤ 1000 ∧ (∀ w ∈ ws, 32 ∉ tl w ∧ (tl w).length ≤ 2500) ∧ ∀ H', WordsAt C H' p ws 0 → Kp p H H' → Q .non H'
def spHere (C : Addr) : Sp := fun vs H Q _ => ∃ (p : Addr) (ws : List Str) (z : Nat) (x : Str), vs = [.ref p] ∧ WordsAt C H p ws z ∧ ws[z]? = some x ∧ Q (.str x) H
def spTaken (C : Addr) : Sp := fun vs H Q _ => ∃ (p : Addr) (ws : List Str) (z : Nat) (x : V), vs = [.ref p, x] ∧ WordsAt C H p ws z ∧ x ≠ .non ∧ ∀ H', WordsAt C H' p ws (z + 1) → Off p H H' → Q x H'
def spTakeInt (C : Addr) : Sp := fun vs H Q _ => ∃ (p : Addr) (ws : List Str) (z n lo hi : Nat), vs = [.ref p, vi lo, vi hi] ∧ WordsAt C H p ws z ∧ ws[z]? = some (num n) ∧ n ≤ 60 ∧ lo ≤ n ∧ n ≤ hi ∧ ∀ H', WordsAt C H' p ws (z + 1) → Kp p H H' → Q (vi n) H'
def spMore (C : Addr) : Sp := fun vs H Q _ => ∃ (p : Addr) (ws : List Str) (z : Nat), vs = [.ref p] ∧ WordsAt C H p ws z ∧ z = ws.length ∧ Q (.bl false) H
def spFinish (C : Addr) : Sp := fun vs H Q _ => ∃ (p : Addr) (ws : List Str) (z : Nat), vs = [.ref p] ∧ WordsAt C H p ws z ∧ z = ws.length ∧ Q .non H
/-- a method that stands in the class -/
def OwnM (P : Program) (w : World) (K : PySem.W.Frag) (mg : Str → Option Value) (base : Heap) (C : Addr) (m : Str) (k : Nat) (ps : List Str) (sp : Sp) : Prop :=
  ∃ (f : Addr) (fd : FuncData), FnOk P w K mg base CX0 k f fd ps sp ∧ Meth K C m f ∧ Binds K fd ps []
section
variable {P : Program} {w : World} {K : PySem.W.Frag} {mg : Str → Option Value} {base : Heap} {dO dI C : Addr}
theorem WordsAt.same {H H' : Hp} {p : Addr} {ws : List Str} {z : Nat} (h : WordsAt C H p ws z) (s : Same H H') : WordsAt C H' p ws z := by
  obtain ⟨⟨dx, t, a, b⟩, l⟩ := h
  exact ⟨⟨dx, t, s _ _ a, s _ _ b⟩, l⟩
theorem WordsAt.keeps {H H' : Hp} {p : Addr} {ws : List Str} {z : Nat} (h : WordsAt C H p ws z) (k : Kp p H H') : Keeps K H H' := by
  obtain ⟨⟨dx, t, a, b⟩, l⟩ := h
  exact Kp.keeps k a
theorem r_fld {H : Hp} {f : Str} {v : V} {Q : VK} {p dx : Addr} {fs : List (Str × V)} (h : H p = some (.ins C dx fs)) (c : Cls K C) (n : NoAttr K C f) (l : fs.lookup f = some v) (q : Q v H) :
    ∃ a C dx fs v, V.ref p = .ref a ∧ H a = some (.ins C dx fs) ∧ Cls K C ∧ NoAttr K C f ∧ fs.lookup f = some v ∧ Q v H := ⟨p, C, dx, fs, v, rfl, h, c, n, l, q⟩
theorem ok_wInit {f : Addr} {fd : FuncData} (F : Fun K "__init__" "Words.__init__" sWInit f fd) (B : Bl mg) (T : TW K mg C) : FnOk P w K mg base CX0 1 f fd ["self", "line", "text"] (spWInit C) := by
  refine F.ok scWInit (fun vs H Q E h => ?_) (fun cdv A outer s H vs Q E hr h => ?_)
  · obtain ⟨p, dx, ws, rfl, _⟩ := h
    rfl
  · obtain ⟨p, dx, ws, rfl, hp, hne, hl, hw, k⟩ := h
    have tlen := len_join (y := SP) (b := 2500) (ys := ws) fun x q => (hw x q).2
    rw [tl_SP] at tlen
    simp only [List.length_cons, List.length_nil] at tlen
    refine ⟨_, (pss_cons (ps_if (pt_not (pt_val (pe_callB (id := "isinstance") (r := rIsi K) call_isi (by rfl) B.isin (by decide +kernel) (pa_cons (pv 2) (pa_cons (pe_bltn (v := .ty "str") (by rfl) B.str (by decide +kernel) rfl) pa_nil))))) (pss_one ps_never) pss_nil) (pss_cons (ps_fld (pv 0) (pv 1) rfl) (pss_cons (ps_fld (pv 0) (pe_callTy call_tuple_of (by rfl) B.tuple (by decide +kernel) (pa_cons (pe_m1 PySem.F.slot_str_split PySem.F.type_str_split mt_split (pv 2) pe_str) pa_nil)) rfl) (pss_one (ps_fld (pv 0) pe_int rfl))))), ?_⟩
    try dsimp only [cxOf, Cx.nox, Cx.wish]
    walk_at "go"
    refine r_isi (b := true) (.ty "str") (.base (.str _)) (kit_ty (by decide +kernel)) ?_
    walk_at "go"
    refine ⟨p, C, dx, _, rfl, hp, T.cl, T.nL, by decide, ?_⟩
    walk_at "go"
    refine ⟨_, _, rfl, rfl, by decide +kernel, (by rw [len_tl, sizeLine_eq]; omega), fun q hq => ?_⟩
    have es : Txt.split (Txt.join SP ws) SP = ws := spl_SP hne fun x q => (hw x q).1
    rw [es]
    have nqp : q ≠ p := fun z => by rw [z, upd_same] at hq; cases hq
    have hqH : H q = none := by rw [upd_ne nqp] at hq; exact hq
    walk_at "go"
    refine ⟨_, _, rfl, .inl ⟨SqL.of upd_same, fun t ht => ?_⟩⟩
    have ntq : t ≠ q := fun z => by rw [z, upd_same] at ht; cases ht
    rw [upd_ne ntq] at ht
    have ntp : t ≠ p := fun z => by rw [z, upd_same] at ht; cases ht
    rw [upd_ne ntp] at ht
    walk_at "go"
    refine ⟨p, C, dx, _, rfl, (by rw [upd_ne ntp.symm, upd_ne nqp.symm, upd_same]), T.cl, T.nW, (by show 1 < 1000; decide), ?_⟩
    walk_at "go"
    refine ⟨p, C, dx, _, rfl, upd_same, T.cl, T.nA, (by show 2 < 1000; decide), ?_⟩
    walk_at "go"
    refine k _ ⟨⟨dx, t, ?_, ?_⟩, hl⟩ ?_
    · rw [upd_same]
      have e1 : putF "line" (V.int 0) [] = [(("line" : Str), V.int 0)] := rfl
      have e2 : putF "words" (V.ref t) [(("line" : Str), V.int 0)] = [(("line" : Str), V.int 0), (("words" : Str), V.ref t)] := by
        show (if ("line" : Str) = "words" then _ else (("line" : Str), V.int 0) :: [(("words" : Str), V.ref t)]) = _
        rw [if_neg nLW]
      have e3 : putF "at" (V.int 0) [(("line" : Str), V.int 0), (("words" : Str), V.ref t)] = flds t 0 := by
        show (if ("line" : Str) = "at" then _ else (("line" : Str), V.int 0) :: (if ("words" : Str) = "at" then _ else (("words" : Str), V.ref t) :: [(("at" : Str), V.int 0)])) = _
        rw [if_neg nLA, if_neg nWA]
        rfl
      rw [e1, e2, e3]
      rfl
    · rw [upd_ne ntp, upd_ne ntp, upd_same]
    · intro c o n e
      rw [upd_ne n, upd_ne n, upd_ne (ne_of_none e ht), upd_ne (ne_of_none e hqH), upd_ne n]
      exact e
theorem ok_wHere {f : Addr} {fd : FuncData} (F : Fun K "here" "Words.here" sWHere f fd) (B : Bl mg) (T : TW K mg C) : FnOk P w K mg base CX0 1 f fd ["self"] (spHere C) := by
  refine F.ok scWHere (fun vs H Q E h => ?_) (fun cdv A outer s H vs Q E hr h => ?_)
  · obtain ⟨p, ws, z, x, rfl, _⟩ := h
    rfl
  · obtain ⟨p, ws, z, x, rfl, ⟨⟨dx, t, hp, ht⟩, hl⟩, hx, k⟩ := h
    have hz := (List.getElem?_eq_some_iff.mp hx).1
    refine ⟨_, (pss_cons (ps_if (pt_cmpR op_eq (pe_fld (pv 0) rfl) (pe_callB call_len (by rfl) B.len PySem.boot_len (pa_cons (pe_fld (pv 0) rfl) pa_nil)) (nomark _)) (pss_one ps_never) pss_nil) (pss_one (ps_ret (pe_ix ix_tup (pe_fld (pv 0) rfl) (pe_fld (pv 0) rfl) (fun _ _ => rfl))))), ?_⟩
    try dsimp only [cxOf, Cx.nox, Cx.wish]
    walk_at "go"
    refine ⟨p, C, dx, _, _, rfl, hp, T.cl, T.nA, flds_at _ _, ?_⟩
    walk_at "go"
    refine ⟨p, C, dx, _, _, rfl, hp, T.cl, T.nW, flds_words _ _, ?_⟩
    walk_at "go"
    refine ⟨_, _, rfl, lenT (SqT.of ht), ?_⟩
    walk_at "go"
    refine r_no (fun q => ?_) ?_
    · have := V.int.inj q
      rw [List.length_map] at this
      omega
    walk_at "go"
    refine ⟨p, C, dx, _, _, rfl, hp, T.cl, T.nW, flds_words _ _, ?_⟩
    walk_at "go"
    refine ⟨p, C, dx, _, _, rfl, hp, T.cl, T.nA, flds_at _ _, ?_⟩
    walk_at "go"
    exact r_ixT (SqT.of ht) (atI_nat (by rw [List.getElem?_map, hx]; rfl)) k
theorem ok_wTaken {f : Addr} {fd : FuncData} (F : Fun K "taken" "Words.taken" sWTaken f fd) (B : Bl mg) (T : TW K mg C) : FnOk P w K mg base CX0 1 f fd ["self", "worth"] (spTaken C) := by
  refine F.ok scWTaken (fun vs H Q E h => ?_) (fun cdv A outer s H vs Q E hr h => ?_)
  · obtain ⟨p, ws, z, x, rfl, _⟩ := h
    rfl
  · obtain ⟨p, ws, z, x, rfl, ⟨⟨dx, t, hp, ht⟩, hl⟩, hx, k⟩ := h
    refine ⟨_, (pss_cons (ps_if (pt_cmpR op_isN (pv 1) pe_non (nomark _)) (pss_one ps_never) pss_nil) (pss_cons (ps_fldaug (pv 0) pe_int in_add) (pss_one (ps_ret (pv 1))))), ?_⟩
    try dsimp only [cxOf, Cx.nox, Cx.wish]
    walk_at "go"
    refine ⟨rfl, ?_⟩
    walk_at "go"
    refine r_no hx ?_
    walk_at "go"
    refine ⟨p, C, dx, _, _, rfl, hp, T.cl, T.nA, flds_at _ _, ?_⟩
    walk_at "go"
    refine ⟨_, _, rfl, rfl, dx, _, hp, (by show 3 < 1000; decide), ?_⟩
    walk_at "go"
    have ntp : t ≠ p := fun q => by rw [q, hp] at ht; cases ht
    refine k _ ⟨⟨dx, t, ?_, ?_⟩, hl⟩ Off.upd
    · rw [upd_same, flds_put]
      rfl
    · rw [upd_ne ntp]; exact ht
end
end K4

/-! W4b -/


namespace K4
open PySem L2 K1
abbrev sRuleWordIn : Stmt := top 41
abbrev nRuleWordIn : List Str := ["word", "begun"]
theorem scRuleWordIn : FnScope nRuleWordIn ["word", "begun"] (defScope sRuleWordIn) := ⟨rfl, rfl, rfl, by decide +kernel, rfl, by decide +kernel, by decide +kernel⟩
abbrev sTakenValues : Stmt := top 42
abbrev nTakenValues : List Str := ["words", "word"]
theorem scTakenValues : FnScope nTakenValues ["words", "word"] (defScope sTakenValues) := ⟨rfl, rfl, rfl, by decide +kernel, rfl, by decide +kernel, by decide +kernel⟩
def spRuleWordIn : Sp := fun vs H Q _ => ∃ (k b : Nat), vs = [.str (wd k), vi b] ∧ k < 9 ∧ b < 40 ∧ Q (.str (wd k)) H
def spTakenValues (K : PySem.W.Frag) (C : Addr) : Sp := fun vs H Q _ => ∃ (p : Addr) (o : Ow) (ws rest : List Str) (z : Nat), vs = [.ref p, .str o.word] ∧ WordsAt C H p ws z ∧ ws.drop z = o.words ++ rest ∧ o.ok ∧
  ∀ H' q xs, WordsAt C H' p ws (z + o.words.length) → Kp p H H' → H' q = some (.lst xs) → DpAll K H' xs (o.data true) → Q (.ref q) H'
theorem drop_at {ws rest : List Str} {x : Str} {z : Nat} (h : ws.drop z = x :: rest) : ws[z]? = some x ∧ ws.drop (z + 1) = rest := by
  have e : ws[z]? = some x := by
    have := congrArg List.head? h
    rw [List.head?_drop] at this
    exact this
  refine ⟨e, ?_⟩
  have := congrArg List.tail h
  rw [List.tail_drop] at this
  exact this
section
variable {P : Program} {w : World} {K : PySem.W.Frag} {mg : Str → Option Value} {base : Heap} {dO dI C : Addr}
theorem ok_wTakeInt {f fT fH : Addr} {fd fdT fdH : FuncData} (F : Fun K "take_integer" "Words.take_integer" sWTakeInt f fd) (B : Bl mg) (T : TW K mg C) (Oi : OIntIn P w K mg base)
    (GT : FnOk P w K mg base CX0 1 fT fdT ["self", "worth"] (spTaken C)) (mT : Meth K C "taken" fT) (bT : Binds K fdT ["self", "worth"] []) (GH : FnOk P w K mg base CX0 1 fH fdH ["self"] (spHere C)) (mH : Meth K C "here" fH) (bH : Binds K fdH ["self"] []) :
    FnOk P w K mg base CX0 4 f fd ["self", "least", "most"] (spTakeInt C) := by
  refine F.ok scWTakeInt (fun vs H Q E h => ?_) (fun cdv A outer s H vs Q E hr h => ?_)
  · obtain ⟨p, ws, z, n, lo, hi, rfl, _⟩ := h
    rfl
  · obtain ⟨p, ws, z, n, lo, hi, rfl, hW, hx, hn, h1, h2, k⟩ := h
    obtain ⟨⟨dx, t, hp, ht⟩, hl⟩ := id hW
    refine ⟨_, (pss_one (ps_ret (pe_meth (pv 0) T.cl mT GT (hr.mono (by omega)) bT .nil pass0 (pa_cons (pe_own Oi hr (pa_cons (pe_meth0 (pv 0) T.cl mH GH (hr.mono (by omega)) bH .nil pass0) (pa_cons (pv 1) (pa_cons (pv 2) pa_nil)))) pa_nil)))), ?_⟩
    try dsimp only [cxOf, Cx.nox, Cx.wish]
    walk_at "go"
    refine ⟨p, dx, _, rfl, hp, flds_no _ _ (by decide +kernel) (by decide +kernel) (by decide +kernel), ?_⟩
    walk_at "go"
    refine ⟨p, dx, _, rfl, hp, flds_no _ _ (by decide +kernel) (by decide +kernel) (by decide +kernel), ?_⟩
    walk_at "go"
    refine ⟨p, ws, z, num n, rfl, hW, hx, ?_⟩
    walk_at "go"
    refine ⟨n, lo, hi, rfl, hn, h1, h2, fun H1 s1 => ?_⟩
    walk_at "go"
    exact ⟨p, ws, z, vi n, rfl, hW.same s1, (fun q => nomatch q), fun H2 w2 o2 => k H2 w2 ((Same.kp s1).trans o2.kp)⟩
theorem ok_wMore {f : Addr} {fd : FuncData} (F : Fun K "more" "Words.more" sWMore f fd) (B : Bl mg) (T : TW K mg C) : FnOk P w K mg base CX0 1 f fd ["self"] (spMore C) := by
  refine F.ok scWMore (fun vs H Q E h => ?_) (fun cdv A outer s H vs Q E hr h => ?_)
  · obtain ⟨p, ws, z, rfl, _⟩ := h
    rfl
  · obtain ⟨p, ws, z, rfl, ⟨⟨dx, t, hp, ht⟩, hl⟩, hz, k⟩ := h
    refine ⟨_, (pss_one (ps_ret (pe_cmpR op_lt (pe_fld (pv 0) rfl) (pe_callB call_len (by rfl) B.len PySem.boot_len (pa_cons (pe_fld (pv 0) rfl) pa_nil)) (nomark _)))), ?_⟩
    try dsimp only [cxOf, Cx.nox, Cx.wish]
    walk_at "go"
    refine ⟨p, C, dx, _, _, rfl, hp, T.cl, T.nA, flds_at _ _, ?_⟩
    walk_at "go"
    refine ⟨p, C, dx, _, _, rfl, hp, T.cl, T.nW, flds_words _ _, ?_⟩
    walk_at "go"
    refine ⟨_, _, rfl, lenT (SqT.of ht), ?_⟩
    walk_at "go"
    rw [decide_eq_false (by rw [List.length_map]; omega)]
    exact k
theorem ok_wFinish {f fM : Addr} {fd fdM : FuncData} (F : Fun K "finish" "Words.finish" sWFinish f fd) (B : Bl mg) (T : TW K mg C) (GM : FnOk P w K mg base CX0 1 fM fdM ["self"] (spMore C)) (mM : Meth K C "more" fM) (bM : Binds K fdM ["self"] []) :
    FnOk P w K mg base CX0 2 f fd ["self"] (spFinish C) := by
  refine F.ok scWFinish (fun vs H Q E h => ?_) (fun cdv A outer s H vs Q E hr h => ?_)
  · obtain ⟨p, ws, z, rfl, _⟩ := h
    rfl
  · obtain ⟨p, ws, z, rfl, hW, hz, k⟩ := h
    obtain ⟨⟨dx, t, hp, ht⟩, hl⟩ := id hW
    refine ⟨_, (pss_one (ps_if (pt_val (pe_meth0 (pv 0) T.cl mM GM hr bM .nil pass0)) (pss_one ps_never) pss_nil)), ?_⟩
    try dsimp only [cxOf, Cx.nox, Cx.wish]
    walk_at "go"
    refine ⟨p, dx, _, rfl, hp, flds_no _ _ (by decide +kernel) (by decide +kernel) (by decide +kernel), ?_⟩
    walk_at "go"
    refine ⟨p, ws, z, rfl, hW, hz, ?_⟩
    walk_at "go"
    exact k
theorem ok_ruleWordIn {f : Addr} {fd : FuncData} (F : Fun K "rule_word_in" "rule_word_in" sRuleWordIn f fd) (B : Bl mg) (G : Gc K w mg dO dI) : FnOk P w K mg base CX0 1 f fd ["word", "begun"] spRuleWordIn := by
  refine F.ok scRuleWordIn (fun vs H Q E h => ?_) (fun cdv A outer s H vs Q E hr h => ?_)
  · obtain ⟨k, b, rfl, _⟩ := h
    rfl
  · obtain ⟨c, b, rfl, hc, hb, k⟩ := h
    obtain ⟨es, m, DD⟩ := G.irD
    obtain ⟨r, hrr⟩ := G.irN c hc
    refine ⟨_, (pss_one (ps_ret (pe_ifExp (PW.pt (pw_and (pt_cmpR (op_in_kd DD) (pv 0) (pe_gR G.IR) (by rfl)) (pw_and1 (pt_cmpR op_lt (pv 1) (pe_gI G.MOST_PARTS) (nomark _))))) (pv 0) pe_non))), ?_⟩
    try dsimp only [cxOf, Cx.nox, Cx.wish]
    walk_at "go"
    refine ⟨_, some r, rfl, rfl, hrr, ?_⟩
    walk_at "go"
    refine r_yes (by omega) ?_
    walk_at "go"
    exact k
abbrev ORowsIn (P : Program) (w : World) (K : PySem.W.Frag) (mg : Str → Option Value) (base : Heap) : Prop := Own P w K mg base "rows_in" 5 ["word"] (spRowsIn K)
abbrev OTextsIn (P : Program) (w : World) (K : PySem.W.Frag) (mg : Str → Option Value) (base : Heap) : Prop := Own P w K mg base "texts_in" 3 ["word", "least_many", "most_many", "least", "most"] spTextsIn
end
end K4

/-! W4c -/


namespace K4
open PySem L2 K1
section
variable {P : Program} {w : World} {K : PySem.W.Frag} {mg : Str → Option Value} {base : Heap} {dO dI C : Addr}
def NoF (m : Str) : Prop := ¬ m = "line" ∧ ¬ m = "words" ∧ ¬ m = "at"
theorem r_mW {H : Hp} {p : Addr} {ws : List Str} {z : Nat} {m : Str} {R : Prop} (hW : WordsAt C H p ws z) (hm : NoF m) (q : R) : ∃ a dx fs, V.ref p = .ref a ∧ H a = some (.ins C dx fs) ∧ fs.lookup m = none ∧ R := by
  obtain ⟨⟨dx, t, hp, ht⟩, hl⟩ := hW
  exact ⟨p, dx, _, rfl, hp, flds_no _ _ hm.1 hm.2.1 hm.2.2, q⟩
theorem noT : NoF "taken" := ⟨by decide +kernel, by decide +kernel, by decide +kernel⟩
theorem noH : NoF "here" := ⟨by decide +kernel, by decide +kernel, by decide +kernel⟩
theorem noI : NoF "take_integer" := ⟨by decide +kernel, by decide +kernel, by decide +kernel⟩
theorem noF : NoF "finish" := ⟨by decide +kernel, by decide +kernel, by decide +kernel⟩
theorem ok_takenValues {f fT fH fI : Addr} {fd fdT fdH fdI : FuncData} (F : Fun K "taken_values" "taken_values" sTakenValues f fd) (B : Bl mg) (G : Gc K w mg dO dI) (T : TW K mg C)
    (GT : FnOk P w K mg base CX0 1 fT fdT ["self", "worth"] (spTaken C)) (mT : Meth K C "taken" fT) (bT : Binds K fdT ["self", "worth"] []) (GH : FnOk P w K mg base CX0 1 fH fdH ["self"] (spHere C)) (mH : Meth K C "here" fH) (bH : Binds K fdH ["self"] [])
    (GI : FnOk P w K mg base CX0 4 fI fdI ["self", "least", "most"] (spTakeInt C)) (mI : Meth K C "take_integer" fI) (bI : Binds K fdI ["self", "least", "most"] [])
    (Ois : OIntsIn P w K mg base) (Orows : ORowsIn P w K mg base) (Otx : OTextsIn P w K mg base) : FnOk P w K mg base CX0 6 f fd ["words", "word"] (spTakenValues K C) := by
  refine F.ok scTakenValues (fun vs H Q E h => ?_) (fun cdv A outer s H vs Q E hr h => ?_)
  · obtain ⟨p, o, ws, rest, z, rfl, _⟩ := h
    rfl
  · obtain ⟨p, o, ws, rest, z, rfl, hW, hd, hok, k⟩ := h
    refine ⟨_, (pss_cons (ps_if (pt_cmpR op_eq (pv 1) pe_str (nomark _)) (pss_one (ps_ret (pe_lst (pa_cons (pe_meth (pv 0) T.cl mI GI (hr.mono (by omega)) bI .nil pass0 (pa_cons (pe_gI G.LEAST_MODULUS) (pa_cons (pe_gI G.MOST_MODULUS) pa_nil))) (pa_cons (pe_meth (pv 0) T.cl mT GT (hr.mono (by omega)) bT .nil pass0 (pa_cons (pe_own Ois (hr.mono (by omega)) (pa_cons (pe_meth0 (pv 0) T.cl mH GH (hr.mono (by omega)) bH .nil pass0) (pa_cons pe_int (pa_cons (pe_gI G.MOST_WEIGHTS) (pa_cons (pe_gI G.MOST_NUMBER) pa_nil))))) pa_nil)) (pa_cons (pe_meth (pv 0) T.cl mI GI (hr.mono (by omega)) bI .nil pass0 (pa_cons pe_int (pa_cons (pe_gI G.MOST_NUMBER) pa_nil))) pa_nil)))))) pss_nil) (pss_cons (ps_if (pt_cmpR op_eq (pv 1) pe_str (nomark _)) (pss_one (ps_ret (pe_lst (pa_cons (pe_meth (pv 0) T.cl mT GT (hr.mono (by omega)) bT .nil pass0 (pa_cons (pe_own Orows hr (pa_cons (pe_meth0 (pv 0) T.cl mH GH (hr.mono (by omega)) bH .nil pass0) pa_nil)) pa_nil)) (pa_cons (pe_meth (pv 0) T.cl mT GT (hr.mono (by omega)) bT .nil pass0 (pa_cons (pe_own Ois (hr.mono (by omega)) (pa_cons (pe_meth0 (pv 0) T.cl mH GH (hr.mono (by omega)) bH .nil pass0) (pa_cons pe_int (pa_cons (pe_gI G.MOST_ROWS) (pa_cons (pe_gI G.MOST_NUMBER) pa_nil))))) pa_nil)) pa_nil))))) pss_nil) (pss_cons (ps_if (pt_cmpR op_eq (pv 1) pe_str (nomark _)) (pss_one (ps_ret (pe_lst (pa_cons (pe_meth (pv 0) T.cl mT GT (hr.mono (by omega)) bT .nil pass0 (pa_cons (pe_own Otx (hr.mono (by omega)) (pa_cons (pe_meth0 (pv 0) T.cl mH GH (hr.mono (by omega)) bH .nil pass0) (pa_cons pe_int (pa_cons (pe_gI G.MOST_FACES) (pa_cons (pe_gI G.LEAST_KINDS) (pa_cons (pe_gI G.MOST_KINDS) pa_nil)))))) pa_nil)) pa_nil)))) pss_nil) (pss_cons (ps_if (pt_cmpR op_eq (pv 1) pe_str (nomark _)) (pss_one (ps_ret (pe_lst (pa_cons (pe_meth (pv 0) T.cl mI GI (hr.mono (by omega)) bI .nil pass0 (pa_cons pe_int (pa_cons (pe_gI G.MOST_CUT) pa_nil))) (pa_cons (pe_meth (pv 0) T.cl mI GI (hr.mono (by omega)) bI .nil pass0 (pa_cons pe_int (pa_cons (pe_gI G.MOST_CUT) pa_nil))) pa_nil))))) pss_nil) (pss_one (ps_ret (pe_lst pa_nil))))))), ?_⟩
    try dsimp only [cxOf, Cx.nox, Cx.wish]
    walk_at "go"
    refine r_ite (fun h5 => ?_) (fun h5 => ?_)
    · have e := kind_of (k := 5) (by decide) h5
      cases o <;> first | (exact absurd e (by simp only [Ow.kind]; decide)) | skip
      rename_i m wl g
      obtain ⟨a1, a2, a3, a4, a5⟩ := hok
      obtain ⟨d1, e1⟩ := drop_at (show ws.drop z = num m :: ([commas wl, num g] ++ rest) from hd)
      obtain ⟨d2, e2⟩ := drop_at e1
      obtain ⟨d3, e3⟩ := drop_at e2
      walk_at "go"
      refine r_mW hW noI ?_
      walk_at "go"
      refine ⟨p, ws, z, m, 2, 60, rfl, hW, d1, a2, a1, a2, fun H1 w1 k1 => ?_⟩
      walk_at "go"
      refine r_mW w1 noT ?_
      walk_at "go"
      refine r_mW w1 noH ?_
      walk_at "go"
      refine ⟨p, ws, z + 1, commas wl, rfl, w1, d2, ?_⟩
      walk_at "go"
      refine ⟨wl, 1, 8, 59, rfl, a3, by decide, List.length_pos_iff.mpr a3.1, a4, fun H2 q s2 q2 => ?_⟩
      walk_at "go"
      refine ⟨p, ws, z + 1, .ref q, rfl, w1.same s2, (fun x => nomatch x), fun H3 w3 o3 => ?_⟩
      walk_at "go"
      refine r_mW w3 noI ?_
      walk_at "go"
      refine ⟨p, ws, z + 1 + 1, g, 0, 59, rfl, w3, d3, by omega, Nat.zero_le _, a5, fun H4 w4 k4 => ?_⟩
      walk_at "go"
      refine ⟨(by show 3 ≤ sizeLine; decide), fun r hr' => ?_⟩
      have kt : KT K H2 (upd H4 r (.lst [vi m, .ref q, vi g])) := KT.trans ((w1.same s2).keeps o3.kp).2 (KT.trans (w3.keeps k4).2 (Same.kt (same_new hr')))
      refine k _ r _ (w4.same (same_new hr')) (k1.trans ((Same.kp s2).trans (o3.kp.trans (k4.trans (Same.kp (same_new hr')))))) upd_same ?_
      exact .cons (.int _) (.cons (.tup (kt _ _ (SqT.of q2)) (dpA_nums.mpr rfl)) (.cons (.int _) .nil))
    walk_at "go"
    refine r_ite (fun h6 => ?_) (fun h6 => ?_)
    · have e := kind_of (k := 6) (by decide) h6
      cases o <;> first | (exact absurd e (by simp only [Ow.kind]; decide)) | skip
      rename_i rows gs
      obtain ⟨a1, a2, a3, a4⟩ := hok
      obtain ⟨d1, e1⟩ := drop_at (show ws.drop z = Txt.join SL (rows.map commas) :: ([commas gs] ++ rest) from hd)
      obtain ⟨d2, e2⟩ := drop_at e1
      walk_at "go"
      refine r_mW hW noT ?_
      walk_at "go"
      refine r_mW hW noH ?_
      walk_at "go"
      refine ⟨p, ws, z, _, rfl, hW, d1, ?_⟩
      walk_at "go"
      refine ⟨a1, a2, a3, fun H1 v1 s1 q1 => ?_⟩
      walk_at "go"
      refine ⟨p, ws, z, v1, rfl, hW.same s1, (fun x => by rw [x] at q1; cases q1), fun H2 w2 o2 => ?_⟩
      walk_at "go"
      refine r_mW w2 noT ?_
      walk_at "go"
      refine r_mW w2 noH ?_
      walk_at "go"
      refine ⟨p, ws, z + 1, _, rfl, w2, d2, ?_⟩
      walk_at "go"
      refine ⟨gs, 1, 60, 59, rfl, a4, by decide, List.length_pos_iff.mpr a4.1, a4.2.1, fun H3 q s3 q3 => ?_⟩
      walk_at "go"
      refine ⟨p, ws, z + 1, .ref q, rfl, w2.same s3, (fun x => nomatch x), fun H4 w4 o4 => ?_⟩
      walk_at "go"
      refine ⟨(by show 2 ≤ sizeLine; decide), fun r hr' => ?_⟩
      have kt3 : KT K H3 (upd H4 r (.lst [v1, .ref q])) := KT.trans ((w2.same s3).keeps o4.kp).2 (Same.kt (same_new hr'))
      have kt1 : KT K H1 (upd H4 r (.lst [v1, .ref q])) := KT.trans ((hW.same s1).keeps o2.kp).2 (KT.trans (Same.kt s3) kt3)
      refine k _ r _ (w4.same (same_new hr')) ((Same.kp s1).trans (o2.kp.trans ((Same.kp s3).trans (o4.kp.trans (Same.kp (same_new hr')))))) upd_same ?_
      exact .cons (dp_pure kt1 _ _ (pureA_iff.mpr fun d hd => by obtain ⟨r, _, rfl⟩ := List.mem_map.mp hd; exact rowD_pure r) q1) (.cons (.tup (kt3 _ _ (SqT.of q3)) (dpA_nums.mpr rfl)) .nil)
    walk_at "go"
    refine r_ite (fun h7 => ?_) (fun h7 => ?_)
    · have e := kind_of (k := 7) (by decide) h7
      cases o <;> first | (exact absurd e (by simp only [Ow.kind]; decide)) | skip
      rename_i fs
      obtain ⟨a1, a2, a3⟩ := hok
      obtain ⟨d1, e1⟩ := drop_at (show ws.drop z = Txt.join CM fs :: ([] ++ rest) from hd)
      walk_at "go"
      refine r_mW hW noT ?_
      walk_at "go"
      refine r_mW hW noH ?_
      walk_at "go"
      refine ⟨p, ws, z, _, rfl, hW, d1, ?_⟩
      walk_at "go"
      refine ⟨fs, 1, 4, 2, 12, rfl, a1, by omega, fun f hf => ⟨a3 f hf, (a3 f hf).1, (a3 f hf).2.1⟩, List.length_pos_iff.mpr a1, a2, fun H1 q s1 q1 => ?_⟩
      walk_at "go"
      refine ⟨p, ws, z, .ref q, rfl, hW.same s1, (fun x => nomatch x), fun H2 w2 o2 => ?_⟩
      walk_at "go"
      refine ⟨(by show 1 ≤ sizeLine; decide), fun r hr' => ?_⟩
      have kt1 : KT K H1 (upd H2 r (.lst [.ref q])) := KT.trans ((hW.same s1).keeps o2.kp).2 (Same.kt (same_new hr'))
      refine k _ r _ (w2.same (same_new hr')) ((Same.kp s1).trans (o2.kp.trans (Same.kp (same_new hr')))) upd_same ?_
      exact .cons (.tup (kt1 _ _ (SqT.of q1)) (dpA_strs.mpr rfl)) .nil
    walk_at "go"
    refine r_ite (fun h8 => ?_) (fun h8 => ?_)
    · have e := kind_of (k := 8) (by decide) h8
      cases o <;> first | (exact absurd e (by simp only [Ow.kind]; decide)) | skip
      rename_i a b
      obtain ⟨a1, a2⟩ := hok
      obtain ⟨d1, e1⟩ := drop_at (show ws.drop z = num a :: ([num b] ++ rest) from hd)
      obtain ⟨d2, e2⟩ := drop_at e1
      walk_at "go"
      refine r_mW hW noI ?_
      walk_at "go"
      refine ⟨p, ws, z, a, 0, 3, rfl, hW, d1, by omega, Nat.zero_le _, a1, fun H1 w1 k1 => ?_⟩
      walk_at "go"
      refine r_mW w1 noI ?_
      walk_at "go"
      refine ⟨p, ws, z + 1, b, 0, 3, rfl, w1, d2, by omega, Nat.zero_le _, a2, fun H2 w2 k2 => ?_⟩
      walk_at "go"
      refine ⟨(by show 2 ≤ sizeLine; decide), fun r hr' => ?_⟩
      refine k _ r _ (w2.same (same_new hr')) (k1.trans (k2.trans (Same.kp (same_new hr')))) upd_same ?_
      exact .cons (.int _) (.cons (.int _) .nil)
    walk_at "go"
    refine ⟨(by show 0 ≤ sizeLine; decide), fun r hr' => ?_⟩
    have hdata : o.data true = [] ∧ o.words = [] := by
      cases o with
      | sum m ws g => exact absurd rfl h5
      | square rows gs => exact absurd rfl h6
      | faces fs => exact absurd rfl h7
      | cut a b => exact absurd rfl h8
      | _ => exact ⟨rfl, rfl⟩
    rw [hdata.1, hdata.2] at k
    exact k _ r [] (hW.same (same_new hr')) (Same.kp (same_new hr')) upd_same .nil
end
end K4

/-! W4d -/


namespace K4
open PySem L2 K1
abbrev sTakeRule : Stmt := top 40
abbrev nTakeRule : List Str := ["words", "begun", "word", "values", "inner", "_", "rule"]
theorem scTakeRule : FnScope nTakeRule ["words", "begun"] (defScope sTakeRule) := ⟨rfl, rfl, rfl, by decide +kernel, rfl, by decide +kernel, by decide +kernel⟩
abbrev sTakeLast : Stmt := top 39
abbrev nTakeLast : List Str := ["words", "rule", "_"]
theorem scTakeLast : FnScope nTakeLast ["words"] (defScope sTakeLast) := ⟨rfl, rfl, rfl, by decide +kernel, rfl, by decide +kernel, by decide +kernel⟩
abbrev sReadRule : Stmt := top 38
abbrev nReadRule : List Str := ["text"]
theorem scReadRule : FnScope nReadRule ["text"] (defScope sReadRule) := ⟨rfl, rfl, rfl, by decide +kernel, rfl, by decide +kernel, by decide +kernel⟩
def spTakeRule (K : PySem.W.Frag) (C : Addr) (n : Nat) : Sp := fun vs H Q _ => ∃ (p : Addr) (r : R) (ws rest : List Str) (z b : Nat), vs = [.ref p, vi b] ∧ WordsAt C H p ws z ∧ ws.drop z = r.words ++ rest ∧ r.ok ∧ b + r.parts ≤ 40 ∧ r.depth ≤ n ∧
  ∀ H' q t, WordsAt C H' p ws (z + r.words.length) → Kp p H H' → H' q = some (.tup [.ref t, vi (b + r.parts)]) → Dp K H' (.ref t) (r.data true) → Q (.ref q) H'
def spTakeLast (K : PySem.W.Frag) (C : Addr) : Sp := fun vs H Q _ => ∃ (p : Addr) (r : R), vs = [.ref p] ∧ WordsAt C H p r.words 0 ∧ r.ok ∧ r.parts ≤ 40 ∧ ∀ H' t, Kp p H H' → Dp K H' (.ref t) (r.data true) → Q (.ref t) H'
def spReadRule (K : PySem.W.Frag) : Sp := fun vs H Q _ => ∃ r : R, vs = [.str r.text] ∧ r.ok ∧ r.parts ≤ 40 ∧ ∀ H' t, Same H H' → Dp K H' (.ref t) (r.data true) → Q (.ref t) H'
section
variable {P : Program} {w : World} {K : PySem.W.Frag} {mg : Str → Option Value} {base : Heap} {dO dI C : Addr}
abbrev ORuleWordIn (P : Program) (w : World) (K : PySem.W.Frag) (mg : Str → Option Value) (base : Heap) : Prop := Own P w K mg base "rule_word_in" 1 ["word", "begun"] spRuleWordIn
abbrev OTakenValues (C : Addr) (P : Program) (w : World) (K : PySem.W.Frag) (mg : Str → Option Value) (base : Heap) : Prop := Own P w K mg base "taken_values" 6 ["words", "word"] (spTakenValues K C)
abbrev OTakeRule (n : Nat) (C : Addr) (P : Program) (w : World) (K : PySem.W.Frag) (mg : Str → Option Value) (base : Heap) : Prop := Own P w K mg base "take_rule" (n + 6) ["words", "begun"] (spTakeRule K C n)
theorem kp_upd {b L : Addr} {H H' : Hp} {o : HO} (k : Kp b H H') (h : H L = none) : Kp b H (upd H' L o) := fun c u n e => by
  rw [upd_ne (ne_of_none e h)]
  exact k c u n e
theorem sum_next {r : R} {i : Nat} {x : R} (h : r.inner[i]? = some x) : ((r.inner.take i).map R.parts).sum + x.parts = ((r.inner.take (i + 1)).map R.parts).sum := by
  rw [List.take_succ, h]; simp
theorem sum_take (r : R) (i : Nat) : ((r.inner.take i).map R.parts).sum + 1 ≤ r.parts := by
  rw [r.parts_eq]
  have : ((r.inner.take i).map R.parts).sum ≤ (r.inner.map R.parts).sum := by
    conv => rhs; rw [← List.take_append_drop i r.inner]
    rw [List.map_append, List.sum_append]
    omega
  omega
theorem flat_split {r : R} {i : Nat} {x : R} (h : r.inner[i]? = some x) : ∃ tail, (r.inner.map R.words).flatten = ((r.inner.take i).map R.words).flatten ++ (x.words ++ tail) := by
  have hi := (List.getElem?_eq_some_iff.mp h).1
  refine ⟨((r.inner.drop (i + 1)).map R.words).flatten, ?_⟩
  conv => lhs; rw [← List.take_append_drop i r.inner]
  rw [List.map_append, List.flatten_append]
  have e : r.inner.drop i = x :: r.inner.drop (i + 1) := by
    rw [List.drop_eq_getElem_cons hi]
    have := (List.getElem?_eq_some_iff.mp h).2
    rw [this]
  rw [e, List.map_cons, List.flatten_cons]
theorem drop_more {ws xs ys : List Str} {z : Nat} (h : ws.drop z = xs ++ ys) : ws.drop (z + xs.length) = ys := by
  rw [← List.drop_drop, h, List.drop_left]
theorem len_flat_next {r : R} {i : Nat} {x : R} (h : r.inner[i]? = some x) : (((r.inner.take i).map R.words).flatten).length + x.words.length = (((r.inner.take (i + 1)).map R.words).flatten).length := by
  rw [← flat_next h, List.length_append]
theorem ok_takeRule {n : Nat} {f fT fH : Addr} {fd fdT fdH : FuncData} (F : Fun K "take_rule" "take_rule" sTakeRule f fd) (B : Bl mg) (G : Gc K w mg dO dI) (T : TW K mg C)
    (GT : FnOk P w K mg base CX0 1 fT fdT ["self", "worth"] (spTaken C)) (mT : Meth K C "taken" fT) (bT : Binds K fdT ["self", "worth"] []) (GH : FnOk P w K mg base CX0 1 fH fdH ["self"] (spHere C)) (mH : Meth K C "here" fH) (bH : Binds K fdH ["self"] [])
    (Ori : ORuleWordIn P w K mg base) (Otv : OTakenValues C P w K mg base) (Otr : OTakeRule n C P w K mg base) : FnOk P w K mg base CX0 (n + 1 + 6) f fd ["words", "begun"] (spTakeRule K C (n + 1)) := by
  refine F.ok scTakeRule (fun vs H Q E h => ?_) (fun cdv A outer s H vs Q E hr h => ?_)
  · obtain ⟨p, r, ws, rest, z, b, rfl, _⟩ := h
    rfl
  · obtain ⟨p, r, ws, rest, z, b, rfl, hW, hd, hok, hb, hdp, k⟩ := h
    have hpos := r.parts_pos
    have hd0 : ws.drop z = r.ow.word :: (r.ow.words ++ ((r.inner.map R.words).flatten ++ rest)) := by rw [hd, r.words_eq]; simp
    obtain ⟨d1, e1⟩ := drop_at hd0
    have e2 := drop_more e1
    refine ⟨_, (pss_cons (ps_set (i := 2) scTakeRule.nd rfl (Or.inl rfl) (pe_meth (pv 0) T.cl mT GT (hr.mono (by omega)) bT .nil pass0 (pa_cons (pe_own Ori (hr.mono (by omega)) (pa_cons (pe_meth0 (pv 0) T.cl mH GH (hr.mono (by omega)) bH .nil pass0) (pa_cons (pv 1) pa_nil))) pa_nil))) (pss_cons (ps_set (i := 3) scTakeRule.nd rfl (Or.inl rfl) (pe_own Otv (hr.mono (by omega)) (pa_cons (pv 0) (pa_cons (pv 2) pa_nil)))) (pss_cons (ps_aug (i := 1) scTakeRule.nd rfl (Or.inl rfl) pe_int ip_add) (pss_cons (ps_set (i := 4) scTakeRule.nd rfl (Or.inl rfl) (pe_lst pa_nil)) (pss_cons (ps_for PassesOwn.never rfl (pi_range1 rfl B.range (pa_cons (pe_ix ix_kdict (pe_gR G.IR) (pv 2) (fun _ _ => rfl)) pa_nil)) (pg_name (i := 5) scTakeRule.nd rfl (Or.inl rfl)) (pss_cons (ps_asg (pe_own Otr hr (pa_cons (pv 0) (pa_cons (pv 1) pa_nil))) (pg_tup rfl (pgs_cons (pg_name (i := 6) scTakeRule.nd rfl (Or.inl rfl)) (pgs_cons (pg_name (i := 1) scTakeRule.nd rfl (Or.inl rfl)) pgs_nil)))) (pss_one (ps_expr (pe_bm PySem.F.plainAttrs_list PySem.F.slot_list_append PySem.F.type_list_append mt_append (pv 4) (pa_cons (pv 6) pa_nil)))))) (pss_one (ps_ret (pe_tup (pa_cons (pe_tup (pa_cons (pv 2) (StX.pa_star (pv 3) (StX.pa_star (pv 4) pa_nil)))) (pa_cons (pv 1) pa_nil)))))))))), ?_⟩
    try dsimp only [cxOf, Cx.nox, Cx.wish]
    walk_at "go"
    refine r_mW hW noT ?_
    walk_at "go"
    refine r_mW hW noH ?_
    walk_at "go"
    refine ⟨p, ws, z, _, rfl, hW, d1, ?_⟩
    walk_at "go"
    refine ⟨r.ow.kind, b, rfl, r.ow.kind_lt, by omega, ?_⟩
    walk_at "go"
    refine ⟨p, ws, z, _, rfl, hW, (fun x => nomatch x), fun H1 w1 o1 => ?_⟩
    walk_at "go"
    refine ⟨p, r.ow, ws, _, z + 1, rfl, w1, e1, R.ok_ow hok, fun H2 q xs w2 k2 eq hdat => ?_⟩
    walk_at "go"
    refine ⟨_, _, rfl, rfl, ?_⟩
    walk_at "go"
    refine ⟨(by show 0 ≤ sizeLine; decide), fun L hL => ?_⟩
    walk_at "go"
    refine r_kd (G.ir _ r.ow.kind_lt) ?_
    walk_at "go"
    have hal := R.ok_ar hok
    have npq : q ≠ p := fun x => by obtain ⟨⟨dx, t, hp, _⟩, _⟩ := w2; rw [x, hp] at eq; cases eq
    have nLp : L ≠ p := fun x => by obtain ⟨⟨dx, t, hp, _⟩, _⟩ := w2; rw [x, hp] at hL; cases hL
    have nqL : q ≠ L := fun x => by rw [x, hL] at eq; cases eq
    have kp2 : Kp p H H2 := o1.kp.trans k2
    have hLH : H L = none := by
      obtain ⟨⟨dx, t, hp, _⟩, _⟩ := id w2
      exact Kp.free kp2 hp hL
    have ar2 : ar r.ow.kind ≤ 2 := by rw [← hal]; cases r <;> simp [R.inner]
    refine ⟨by omega, by omega, fr_range (lo := 0) (n := ar r.ow.kind) (fun i σ H' => ∃ (x : Int) (o5 o6 : Option V) (ts : List V), σ = [some (.ref p), some (.int x), some (.str r.ow.word), some (.ref q), some (.ref L), o5, o6] ∧
      x = ((b + 1 + ((r.inner.take i).map R.parts).sum : Nat) : Int) ∧ WordsAt C H' p ws (z + 1 + r.ow.words.length + (((r.inner.take i).map R.words).flatten).length) ∧ Kp p H H' ∧ H' q = some (.lst xs) ∧ DpAll K H' xs (r.ow.data true) ∧ H' L = some (.lst ts) ∧ DpAll K H' ts ((r.inner.take i).map (R.data true)))
      ⟨_, none, none, [], rfl, ?_, ?_, ?_, ?_, ?_, upd_same, .nil⟩ ?_ ?_⟩
    · simp
    · exact (w2.same (same_new hL))
    · exact kp_upd kp2 hLH
    · rw [upd_ne nqL]; exact eq
    · exact dpA_pure (Same.kt (same_new hL)) _ _ r.ow.pure hdat
    · rintro i σ H' hi ⟨x, o5, o6, ts, rfl, rfl, w', k', eq', dx', eL', dt'⟩
      obtain ⟨ri, hri⟩ : ∃ ri, r.inner[i]? = some ri := ⟨r.inner[i]'(by omega), by simp [show i < r.inner.length by omega]⟩
      have hmem := List.mem_of_getElem? hri
      have hsum := sum_next hri
      have hst := sum_take r (i + 1)
      obtain ⟨tail, hft⟩ := flat_split hri
      have e3 : ws.drop (z + 1 + r.ow.words.length + (((r.inner.take i).map R.words).flatten).length) = ri.words ++ (tail ++ rest) :=
        drop_more (by rw [e2, hft, List.append_assoc, List.append_assoc])
      have hin := R.in_depth ri hmem
      walk_at "go"
      refine ⟨p, ri, ws, tail ++ rest, _, _, rfl, w', e3, R.ok_in hok ri hmem, by omega, by omega, fun H3 q3 t3 w3 k3 e4 d3 => ?_⟩
      refine ⟨q3, _, rfl, SqT.of e4, rfl, ?_⟩
      walk_at "go"
      have eL3 := k3 _ _ nLp eL'
      refine ⟨tyL (SqL.of eL3), ?_⟩
      walk_at "go"
      have tl' : ts.length = i := by rw [dpA_len dt', List.length_map, List.length_take]; omega
      refine ⟨L, ts, _, rfl, rfl, eL3, line60 (by omega), ?_⟩
      have kt : KT K H' (upd H3 L (.lst (ts ++ [.ref t3]))) := KT.trans (w'.keeps k3).2 (kt_lst eL3)
      refine ⟨_, _, _, ts ++ [.ref t3], rfl, ?_, ?_, ?_, ?_, ?_, upd_same, ?_⟩
      · show ((b + 1 + ((r.inner.take i).map R.parts).sum + ri.parts : Nat) : Int) = _
        omega
      · obtain ⟨⟨dx, t, hp, ht⟩, hl⟩ := w3
        have n1 : p ≠ L := fun z => nLp z.symm
        have n2 : t ≠ L := fun z => by rw [z, eL3] at ht; cases ht
        rw [← len_flat_next hri, ← Nat.add_assoc]
        exact ⟨⟨dx, t, by rw [upd_ne n1]; exact hp, by rw [upd_ne n2]; exact ht⟩, hl⟩
      · exact kp_upd (k'.trans k3) hLH
      · rw [upd_ne nqL]; exact k3 _ _ npq eq'
      · exact dpA_pure kt _ _ r.ow.pure dx'
      · rw [← take_next hri]
        exact dpA_app (dpA_pure kt _ _ (pureA_iff.mpr fun d hd => by obtain ⟨r, _, rfl⟩ := List.mem_map.mp hd; exact r.pure) dt') (.cons (dp_pure (kt_lst eL3) _ _ ri.pure d3) .nil)
    · rintro σ H' ⟨x, o5, o6, ts, rfl, rfl, w', k', eq', dx', eL', dt'⟩
      rw [← hal, List.take_length] at w' dt'
      walk_at "go"
      refine ⟨q, xs, rfl, .inr (SqL.of eq'), ?_⟩
      walk_at "go"
      refine ⟨L, ts, rfl, .inr (SqL.of eL'), ?_⟩
      walk_at "go"
      have xl := dpA_len dx'
      have tl' := dpA_len dt'
      rw [Ow.data_len] at xl
      rw [List.length_map] at tl'
      have m3 := mn_le r.ow.kind
      refine ⟨Nat.le_of_lt (line60 (by rw [List.length_cons, List.length_append, List.length_append]; simp only [List.length_nil]; omega)), fun t ht => ?_⟩
      walk_at "go"
      refine ⟨(by show 2 ≤ sizeLine; decide), fun q' hq' => ?_⟩
      have ntq : t ≠ q' := fun z => by rw [← z, upd_same] at hq'; cases hq'
      have sm := Same.trans (same_new (o := HO.tup (V.str r.ow.word :: (xs ++ (ts ++ [])))) ht) (same_new (o := HO.tup [.ref t, .int ((b + 1 + ((r.inner.take (ar r.ow.kind)).map R.parts).sum : Nat) : Int)]) hq')
      refine k _ q' t ?_ (k'.trans (Same.kp sm)) ?_ ?_
      · have e : z + r.words.length = z + 1 + r.ow.words.length + ((r.inner.map R.words).flatten).length := by
          rw [r.words_eq, List.length_cons, List.length_append]; omega
        rw [e]
        exact w'.same sm
      · rw [upd_same, ← hal, List.take_length]
        have e : ((b + 1 + (r.inner.map R.parts).sum : Nat) : Int) = ((b + r.parts : Nat) : Int) := by rw [r.parts_eq]; omega
        rw [e]
      · rw [r.data_eq true]
        refine .tup (SqT.of (by rw [upd_ne ntq, upd_same])) (.cons (.str _) ?_)
        rw [← List.append_nil (List.map (R.data true) r.inner)]
        exact dpA_app (dpA_pure (Same.kt sm) _ _ r.ow.pure dx') (dpA_app (dpA_pure (Same.kt sm) _ _ (pureA_iff.mpr fun d hd => by obtain ⟨r, _, rfl⟩ := List.mem_map.mp hd; exact r.pure) dt') .nil)
theorem tr_all {f fT fH : Addr} {fd fdT fdH : FuncData} (F : Fun K "take_rule" "take_rule" sTakeRule f fd) (B : Bl mg) (G : Gc K w mg dO dI) (T : TW K mg C)
    (GT : FnOk P w K mg base CX0 1 fT fdT ["self", "worth"] (spTaken C)) (mT : Meth K C "taken" fT) (bT : Binds K fdT ["self", "worth"] []) (GH : FnOk P w K mg base CX0 1 fH fdH ["self"] (spHere C)) (mH : Meth K C "here" fH) (bH : Binds K fdH ["self"] [])
    (Ori : ORuleWordIn P w K mg base) (Otv : OTakenValues C P w K mg base) (m : mg "take_rule" = some (.ref f)) (b : Binds K fd ["words", "begun"] []) : ∀ n : Nat, OTakeRule n C P w K mg base
  | 0 => ⟨f, fd, none_ok fun vs H Q E h => by obtain ⟨p, r, ws, rest, z, b, _, _, _, _, _, hd, _⟩ := h; cases r <;> simp [R.depth] at hd, m, F.kp, b⟩
  | n + 1 => ⟨f, fd, ok_takeRule F B G T GT mT bT GH mH bH Ori Otv (tr_all F B G T GT mT bT GH mH bH Ori Otv m b n), m, F.kp, b⟩
theorem ok_takeLast {f fF : Addr} {fd fdF : FuncData} (F : Fun K "take_last_rule" "take_last_rule" sTakeLast f fd) (B : Bl mg) (Otr : OTakeRule 40 C P w K mg base) (T : TW K mg C)
    (GF : FnOk P w K mg base CX0 2 fF fdF ["self"] (spFinish C)) (mF : Meth K C "finish" fF) (bF : Binds K fdF ["self"] []) : FnOk P w K mg base CX0 47 f fd ["words"] (spTakeLast K C) := by
  refine F.ok scTakeLast (fun vs H Q E h => ?_) (fun cdv A outer s H vs Q E hr h => ?_)
  · obtain ⟨p, r, rfl, _⟩ := h
    rfl
  · obtain ⟨p, r, rfl, hW, hok, h40, k⟩ := h
    refine ⟨_, (pss_cons (ps_asg (pe_own Otr (hr.mono (by omega)) (pa_cons (pv 0) (pa_cons pe_int pa_nil))) (pg_tup rfl (pgs_cons (pg_name (i := 1) scTakeLast.nd rfl (Or.inl rfl)) (pgs_cons (pg_name (i := 2) scTakeLast.nd rfl (Or.inl rfl)) pgs_nil)))) (pss_cons (ps_expr (pe_meth0 (pv 0) T.cl mF GF (hr.mono (by omega)) bF .nil pass0)) (pss_one (ps_ret (pv 1))))), ?_⟩
    try dsimp only [cxOf, Cx.nox, Cx.wish]
    walk_at "go"
    refine ⟨p, r, r.words, [], 0, 0, rfl, hW, by simp, hok, by omega, by have := r.depth_le; omega, fun H1 q t w1 k1 e1 d1 => ?_⟩
    refine ⟨q, _, rfl, SqT.of e1, rfl, ?_⟩
    walk_at "go"
    refine r_mW w1 noF ?_
    walk_at "go"
    refine ⟨p, r.words, _, rfl, w1, by omega, ?_⟩
    walk_at "go"
    exact k H1 t k1 d1
abbrev OTakeLast (C : Addr) (P : Program) (w : World) (K : PySem.W.Frag) (mg : Str → Option Value) (base : Heap) : Prop := Own P w K mg base "take_last_rule" 47 ["words"] (spTakeLast K C)
theorem ok_readRule {f fI : Addr} {fd fdI : FuncData} (F : Fun K "read_rule" "read_rule" sReadRule f fd) (B : Bl mg) (T : TW K mg C) (Otl : OTakeLast C P w K mg base) (MK : Mk K C fI)
    (GI : FnOk P w K mg base CX0 1 fI fdI ["self", "line", "text"] (spWInit C)) (bI : Binds K fdI ["self", "line", "text"] []) : FnOk P w K mg base CX0 48 f fd ["text"] (spReadRule K) := by
  refine F.ok scReadRule (fun vs H Q E h => ?_) (fun cdv A outer s H vs Q E hr h => ?_)
  · obtain ⟨r, rfl, _⟩ := h
    rfl
  · obtain ⟨r, rfl, hok, h40, k⟩ := h
    refine ⟨_, (pss_one (ps_ret (pe_own Otl hr (pa_cons (pe_make MK GI (hr.mono (by omega)) (by rfl) T.mgC bI .nil pass0 (pa_cons pe_int (pa_cons (pv 0) pa_nil))) pa_nil)))), ?_⟩
    try dsimp only [cxOf, Cx.nox, Cx.wish]
    walk_at "go"
    intro x dx nx ndx nex
    have wl := r.words_len
    refine ⟨x, dx, r.words, rfl, upd_same, r.words_ne, by omega, R.words_ok hok, fun H1 w1 k1 => ⟨rfl, ?_⟩⟩
    walk_at "go"
    refine ⟨x, r, rfl, w1, hok, h40, fun H2 t k2 d2 => ?_⟩
    refine k H2 t (fun c o e => ?_) d2
    have n1 : c ≠ x := ne_of_none e nx
    exact k2 c o n1 (k1 c o n1 (by rw [upd_ne n1, upd_ne (ne_of_none e ndx)]; exact e))
end
end K4

/-! L4a -/


namespace K4
open PySem L2 K1
abbrev sLCommas : Stmt := top 53
abbrev nLCommas : List Str := ["_law_row", "_law_one"]
theorem scLCommas : FnScope nLCommas ["_law_row"] (defScope sLCommas) := ⟨rfl, rfl, rfl, by decide +kernel, rfl, by decide +kernel, by decide +kernel⟩
abbrev sLRuleWords : Stmt := top 54
abbrev nLRuleWords : List Str := ["_law_rule", "_law_word", "_law_row"]
theorem scLRuleWords : FnScope nLRuleWords ["_law_rule"] (defScope sLRuleWords) := ⟨rfl, rfl, rfl, by decide +kernel, rfl, by decide +kernel, by decide +kernel⟩
abbrev sLListed : Stmt := top 49
abbrev nLListed : List Str := ["_law_thing", "_law_part"]
theorem scLListed : FnScope nLListed ["_law_thing"] (defScope sLListed) := ⟨rfl, rfl, rfl, by decide +kernel, rfl, by decide +kernel, by decide +kernel⟩
abbrev sLNoList : Stmt := top 50
abbrev nLNoList : List Str := ["_law_thing", "_law_part"]
theorem scLNoList : FnScope nLNoList ["_law_thing"] (defScope sLNoList) := ⟨rfl, rfl, rfl, by decide +kernel, rfl, by decide +kernel, by decide +kernel⟩
abbrev sLSame : Stmt := top 51
abbrev nLSame : List Str := ["_law_told", "_law_wanted"]
theorem scLSame : FnScope nLSame ["_law_told", "_law_wanted"] (defScope sLSame) := ⟨rfl, rfl, rfl, by decide +kernel, rfl, by decide +kernel, by decide +kernel⟩
def spListed (K : PySem.W.Frag) (n : Nat) : Sp := fun vs H Q _ => ∃ (v : V) (d : PyData), vs = [v] ∧ Dp K H v d ∧ pure d = true ∧ wide d = true ∧ d.depth < n ∧ ∀ H' v', Same H H' → Dp K (New H H') v' (lstd d) → Q v' H'
def spNoList (K : PySem.W.Frag) (n : Nat) : Sp := fun vs H Q _ => ∃ (v : V) (d : PyData), vs = [v] ∧ Dp K H v d ∧ pure d = true ∧ wide d = true ∧ d.depth < n ∧ ∀ H', Same H H' → Q (.bl true) H'
def spSame (K : PySem.W.Frag) : Sp := fun vs H Q _ => ∃ (a b : V) (r : R), vs = [a, b] ∧ Dp K H a (r.data true) ∧ Dp K H b (r.data true) ∧ r.ok ∧ r.parts ≤ 40 ∧ ∀ H', Same H H' → Q (.bl true) H'
theorem depthA_mem {n : Nat} : ∀ {ds : List PyData}, PyData.depthAll ds ≤ n → ∀ d ∈ ds, d.depth ≤ n
  | [], _, d, h => by simp at h
  | e :: ds, h, d, hd => by
    rw [PyData.depthAll] at h
    rcases List.mem_cons.mp hd with rfl | hd
    · omega
    · exact depthA_mem (by omega) d hd
section
variable {P : Program} {w : World} {K : PySem.W.Frag} {mg : Str → Option Value} {base : Heap} {dO dI : Addr}
theorem ok_lCommas {f : Addr} {fd : FuncData} (F : Fun K "_law_commas" "_law_commas" sLCommas f fd) (B : Bl mg) : FnOk P w K mg base CX0 1 f fd ["_law_row"] (spIntsWord K) := by
  refine F.ok scLCommas (fun vs H Q E h => ?_) (fun cdv A outer s H vs Q E hr h => ?_)
  · obtain ⟨v, ns, rfl, _⟩ := h
    rfl
  · obtain ⟨v, ns, rfl, hS, h60, hb, k⟩ := h
    refine ⟨_, (pss_one (ps_ret (pe_m1 PySem.F.slot_str_join PySem.F.type_str_join mt_join pe_str (pe_lc (own := [("_law_one", 1)]) (g := gName 1) (tt := tYes) rfl scLCommas.nd (pi_sq (pv 0)) (blkOk_by (N := nLCommas) (sc := defScope sLCommas) (by decide +kernel)) (fun _ _ _ _ _ => (pg_name (i := 1) scLCommas.nd rfl (Or.inl rfl))) (fun _ _ _ _ _ => pts_nil) (fun _ _ _ _ _ => (pe_callTy call_str_int (by rfl) B.str (by decide +kernel) (pa_cons (pv 1) pa_nil))))))), ?_⟩
    try dsimp only [cxOf, Cx.nox, Cx.wish]
    walk_at "go"
    refine lc_sq hS (fun _ => rfl) (fun acc H' => acc = ((ns.map num).take acc.length).map V.str ∧ Same H H') (fun D hD => ⟨rfl, same_new hD⟩) (fun D acc H' _ _ q => Same.keeps q.2) ?_ _ ?_ (fun J h => h)
    · rintro D i x acc H' hD hx hl hacc ⟨ha, sm⟩
      obtain ⟨n, hn, rfl⟩ := get_map hx
      walk_at "go"
      have hmem := hb n (List.mem_of_getElem? hn)
      refine ⟨?_, ?_⟩
      · have : ((n : Int).natAbs).log2 < 1920 := by
          rw [Int.natAbs_natCast]
          exact Nat.lt_of_le_of_lt (Nat.log2_le_self n) (by omega)
        exact this
      · exact pp_next hacc hl (line60 (by have := (List.getElem?_eq_some_iff.mp hn).1; omega)) ⟨acc_next (f := V.str) (a := num n) ha hl (by rw [List.getElem?_map, hn]; rfl), same_upd sm hD⟩
    · rintro D acc H' hD hl hacc ⟨ha, sm⟩
      rw [List.length_map] at hl
      rw [hl, ← List.length_map (f := num), List.take_length] at ha
      subst ha
      walk_at "go"
      refine ⟨_, D, ns.map num, rfl, rfl, .inl (SqL.of hacc), ?_, ?_⟩
      · have := sum_le (ys := ns.map num) (b := 2) (fun p hp => by obtain ⟨n, hn, rfl⟩ := List.mem_map.mp hp; exact (num_ok (hb n hn)).2.2.1)
        rw [List.length_map] at this ⊢
        have e : (CM : Str).length = 1 := by rw [len_tl, tl_CM]; rfl
        rw [e]
        omega
      · exact k _ sm
abbrev OLL (n : Nat) (P : Program) (w : World) (K : PySem.W.Frag) (mg : Str → Option Value) (base : Heap) : Prop := Own P w K mg base "_law_listed_of" n ["_law_thing"] (spListed K n)
abbrev ONL (n : Nat) (P : Program) (w : World) (K : PySem.W.Frag) (mg : Str → Option Value) (base : Heap) : Prop := Own P w K mg base "_law_no_list" n ["_law_thing"] (spNoList K n)
theorem ok_listed {n : Nat} {f : Addr} {fd : FuncData} (F : Fun K "_law_listed_of" "_law_listed_of" sLListed f fd) (B : Bl mg) (Oll : OLL n P w K mg base) : FnOk P w K mg base CX0 (n + 1) f fd ["_law_thing"] (spListed K (n + 1)) := by
  refine F.ok scLListed (fun vs H Q E h => ?_) (fun cdv A outer s H vs Q E hr h => ?_)
  · obtain ⟨v, d, rfl, _⟩ := h
    rfl
  · obtain ⟨v, d, rfl, hv, hp, hw, hd, k⟩ := h
    refine ⟨_, (pss_cons (ps_if (PW.pt (pw_or (pt_val (pe_callB (id := "isinstance") (r := rIsi K) call_isi (by rfl) B.isin (by decide +kernel) (pa_cons (pv 0) (pa_cons (pe_bltn (v := .ty "tuple") (by rfl) B.tuple (by decide +kernel) rfl) pa_nil)))) (pw_or1 (pt_val (pe_callB (id := "isinstance") (r := rIsi K) call_isi (by rfl) B.isin (by decide +kernel) (pa_cons (pv 0) (pa_cons (pe_bltn (v := .ty "list") (by rfl) B.list (by decide +kernel) rfl) pa_nil))))))) (pss_one (ps_ret (pe_lc (own := [("_law_part", 1)]) (g := gName 1) (tt := tYes) rfl scLListed.nd (pi_tup (pv 0)) (blkOk_by (N := nLListed) (sc := defScope sLListed) (by decide +kernel)) (fun _ _ _ _ _ => (pg_name (i := 1) scLListed.nd rfl (Or.inl rfl))) (fun _ _ _ _ _ => pts_nil) (fun _ _ _ _ _ => (pe_own Oll hr (pa_cons (pv 1) pa_nil)))))) pss_nil) (pss_one (ps_ret (pv 0)))), ?_⟩
    try dsimp only [cxOf, Cx.nox, Cx.wish]
    walk_at "go"
    cases hv with
    | int i =>
      refine r_isi (b := false) (.ty "tuple") (.base (.int _)) (kit_ty (by decide +kernel)) ?_
      walk_at "go"
      refine r_isi (b := false) (.ty "list") (.base (.int _)) (kit_ty (by decide +kernel)) ?_
      walk_at "go"
      exact k H _ (Same.refl _) (.int i)
    | str x =>
      refine r_isi (b := false) (.ty "tuple") (.base (.str _)) (kit_ty (by decide +kernel)) ?_
      walk_at "go"
      refine r_isi (b := false) (.ty "list") (.base (.str _)) (kit_ty (by decide +kernel)) ?_
      walk_at "go"
      exact k H _ (Same.refl _) (.str x)
    | non => simp [pure] at hp
    | bl => simp [pure] at hp
    | lst => simp [pure] at hp
    | @tup a xs ds hS hA =>
      have hpA : pureA ds = true := by simpa [pure] using hp
      have hwA : ds.length ≤ 1000 ∧ wideA ds = true := by simpa [wide] using hw
      have hdA : PyData.depthAll ds < n := by rw [PyData.depth] at hd; omega
      refine r_isi (b := true) (.ty "tuple") (tyxT hS) (kit_ty (by decide +kernel)) ?_
      walk_at "go"
      refine ⟨⟨_, hS⟩, fun D hD => ?_⟩
      have s1 : Same H (upd H D (.lst [])) := same_new hD
      have e1 : (upd H D (.lst [])) D = some (.lst []) := upd_same
      refine lc_gen (walk_tup (K := K) (a := a) (xs := xs)) (fun _ => rfl) (fun acc H' => DpAll K (New (upd H D (.lst [])) H') acc ((ds.take acc.length).map lstd) ∧ Same H H') ⟨.nil, s1⟩ (fun acc H' _ q => Same.sqT q.2 hS) ?_ ?_
      · rintro i x acc H' hx hl hacc ⟨ha, sm⟩
        obtain ⟨di, hdi, hxd⟩ := dpA_get hA hx
        have hmem := List.mem_of_getElem? hdi
        have hil := (List.getElem?_eq_some_iff.mp hdi).1
        walk_at "go"
        refine ⟨x, di, rfl, dp_keep (Same.keeps sm) _ _ hxd, pureA_iff.mp hpA di hmem, wideA_iff.mp hwA.2 di hmem, Nat.lt_of_le_of_lt (depthA_mem (Nat.le_refl _) di hmem) hdA, fun H2 v2 s2 d2 => ?_⟩
        refine pp_next (s2 _ _ hacc) hl (line60 (by omega)) ⟨?_, same_upd (sm.trans s2) hD⟩
        have g0 : ∀ c, H' c = none → (upd H D (.lst [])) c = none := fun c hc => by
          by_cases q : c = D
          · rw [q, hacc] at hc; cases hc
          · rw [upd_ne q]; exact sm.free hc
        have g1 : Same (New H' H2) (New (upd H D (.lst [])) (upd H2 D (.lst (acc ++ [v2])))) := New.le g0 fun c u hc e => by
          have q : c ≠ D := fun q => by rw [q, hacc] at hc; cases hc
          rw [upd_ne q]; exact e
        have g2 : Same (New (upd H D (.lst [])) H') (New (upd H D (.lst [])) (upd H2 D (.lst (acc ++ [v2])))) := New.le (fun c h => h) fun c u hc e => by
          have q : c ≠ D := fun q => by rw [q, upd_same] at hc; cases hc
          rw [upd_ne q]; exact s2 _ _ e
        have r1 := dpA_app (dpA_keep (Same.keeps g2) _ _ ha) (.cons (dp_keep (Same.keeps g1) _ _ d2) .nil)
        rw [hl, take_next hdi] at r1
        rw [List.length_append, hl]
        exact r1
      · rintro acc H' hl hacc ⟨ha, sm⟩
        have hxl := dpA_len hA
        rw [hl, hxl, List.take_length] at ha
        walk_at "go"
        refine k _ _ sm ?_
        rw [lstd_tup]
        have g : Same (New (upd H D (.lst [])) H') (New H H') := New.le (fun c h => by
          by_cases q : c = D
          · rw [q]; exact hD
          · rw [upd_ne q] at h; exact h) fun c u _ e => e
        refine .lst (SqL.of ?_) (dpA_keep (Same.keeps g) _ _ ha)
        rw [New.at hD]
        exact hacc
theorem ll_all {f : Addr} {fd : FuncData} (F : Fun K "_law_listed_of" "_law_listed_of" sLListed f fd) (B : Bl mg) (m : mg "_law_listed_of" = some (.ref f)) (b : Binds K fd ["_law_thing"] []) : ∀ n : Nat, OLL n P w K mg base
  | 0 => ⟨f, fd, none_ok fun vs H Q E h => by obtain ⟨v, d, _, _, _, _, hd, _⟩ := h; omega, m, F.kp, b⟩
  | n + 1 => ⟨f, fd, ok_listed F B (ll_all F B m b n), m, F.kp, b⟩
theorem ok_noList {n : Nat} {f : Addr} {fd : FuncData} (F : Fun K "_law_no_list" "_law_no_list" sLNoList f fd) (B : Bl mg) (Onl : ONL n P w K mg base) : FnOk P w K mg base CX0 (n + 1) f fd ["_law_thing"] (spNoList K (n + 1)) := by
  refine F.ok scLNoList (fun vs H Q E h => ?_) (fun cdv A outer s H vs Q E hr h => ?_)
  · obtain ⟨v, d, rfl, _⟩ := h
    rfl
  · obtain ⟨v, d, rfl, hv, hp, hw, hd, k⟩ := h
    refine ⟨_, (pss_cons (ps_if (pt_val (pe_callB (id := "isinstance") (r := rIsi K) call_isi (by rfl) B.isin (by decide +kernel) (pa_cons (pv 0) (pa_cons (pe_bltn (v := .ty "tuple") (by rfl) B.tuple (by decide +kernel) rfl) pa_nil)))) (pss_one (ps_ret (pe_callB (cr_all rfl) (by rfl) B.all (by decide +kernel) (pa_cons (pe_lc (own := [("_law_part", 1)]) (g := gName 1) (tt := tYes) rfl scLNoList.nd (pi_tup (pv 0)) (blkOk_by (N := nLNoList) (sc := defScope sLNoList) (by decide +kernel)) (fun _ _ _ _ _ => (pg_name (i := 1) scLNoList.nd rfl (Or.inl rfl))) (fun _ _ _ _ _ => pts_nil) (fun _ _ _ _ _ => (pe_own Onl hr (pa_cons (pv 1) pa_nil)))) pa_nil)))) pss_nil) (pss_one (ps_ret (pe_and (pe_not (pe_callB (id := "isinstance") (r := rIsi K) call_isi (by rfl) B.isin (by decide +kernel) (pa_cons (pv 0) (pa_cons (pe_bltn (v := .ty "list") (by rfl) B.list (by decide +kernel) rfl) pa_nil)))) (pe_one (pe_not (pe_callB (id := "isinstance") (r := rIsi K) call_isi (by rfl) B.isin (by decide +kernel) (pa_cons (pv 0) (pa_cons (pe_bltn (v := .ty "bool") (by rfl) B.bool (by decide +kernel) rfl) pa_nil))))))))), ?_⟩
    try dsimp only [cxOf, Cx.nox, Cx.wish]
    walk_at "go"
    cases hv with
    | int i =>
      refine r_isi (b := false) (.ty "tuple") (.base (.int _)) (kit_ty (by decide +kernel)) ?_
      walk_at "go"
      refine r_isi (b := false) (.ty "list") (.base (.int _)) (kit_ty (by decide +kernel)) ?_
      walk_at "go"
      refine r_isi (b := false) (.ty "bool") (.base (.int _)) (kit_ty (by decide +kernel)) ?_
      walk_at "go"
      exact k H (Same.refl _)
    | str x =>
      refine r_isi (b := false) (.ty "tuple") (.base (.str _)) (kit_ty (by decide +kernel)) ?_
      walk_at "go"
      refine r_isi (b := false) (.ty "list") (.base (.str _)) (kit_ty (by decide +kernel)) ?_
      walk_at "go"
      refine r_isi (b := false) (.ty "bool") (.base (.str _)) (kit_ty (by decide +kernel)) ?_
      walk_at "go"
      exact k H (Same.refl _)
    | non => simp [pure] at hp
    | bl => simp [pure] at hp
    | lst => simp [pure] at hp
    | @tup a xs ds hS hA =>
      have hpA : pureA ds = true := by simpa [pure] using hp
      have hwA : ds.length ≤ 1000 ∧ wideA ds = true := by simpa [wide] using hw
      have hdA : PyData.depthAll ds < n := by rw [PyData.depth] at hd; omega
      refine r_isi (b := true) (.ty "tuple") (tyxT hS) (kit_ty (by decide +kernel)) ?_
      walk_at "go"
      refine ⟨⟨_, hS⟩, fun D hD => ?_⟩
      refine lc_gen (walk_tup (K := K) (a := a) (xs := xs)) (fun _ => rfl) (fun acc H' => acc = (List.replicate acc.length true).map V.bl ∧ Same H H') ⟨rfl, same_new hD⟩ (fun acc H' _ q => Same.sqT q.2 hS) ?_ ?_
      · rintro i x acc H' hx hl hacc ⟨ha, sm⟩
        obtain ⟨di, hdi, hxd⟩ := dpA_get hA hx
        have hmem := List.mem_of_getElem? hdi
        have hil := (List.getElem?_eq_some_iff.mp hdi).1
        walk_at "go"
        refine ⟨x, di, rfl, dp_keep (Same.keeps sm) _ _ hxd, pureA_iff.mp hpA di hmem, wideA_iff.mp hwA.2 di hmem, Nat.lt_of_le_of_lt (depthA_mem (Nat.le_refl _) di hmem) hdA, fun H2 s2 => ?_⟩
        refine pp_next (s2 _ _ hacc) hl (line60 (by omega)) ⟨?_, same_upd (sm.trans s2) hD⟩
        rw [List.length_append]
        show acc ++ [V.bl true] = (List.replicate (acc.length + 1) true).map V.bl
        rw [List.replicate_succ', List.map_append, ← ha]
        rfl
      · rintro acc H' hl hacc ⟨ha, sm⟩
        walk_at "go"
        rw [ha] at hacc
        refine r_all (SqL.of hacc) ?_
        have e : (List.replicate acc.length true).all id = true := List.all_eq_true.mpr fun b hb => by rw [(List.mem_replicate.mp hb).2]; rfl
        rw [e]
        exact k _ sm
theorem nl_all {f : Addr} {fd : FuncData} (F : Fun K "_law_no_list" "_law_no_list" sLNoList f fd) (B : Bl mg) (m : mg "_law_no_list" = some (.ref f)) (b : Binds K fd ["_law_thing"] []) : ∀ n : Nat, ONL n P w K mg base
  | 0 => ⟨f, fd, none_ok fun vs H Q E h => by obtain ⟨v, d, _, _, _, _, hd, _⟩ := h; omega, m, F.kp, b⟩
  | n + 1 => ⟨f, fd, ok_noList F B (nl_all F B m b n), m, F.kp, b⟩
theorem ok_same {f : Addr} {fd : FuncData} (F : Fun K "_law_same_tuple" "_law_same_tuple" sLSame f fd) (B : Bl mg) (Onl : ONL 45 P w K mg base) : FnOk P w K mg base CX0 46 f fd ["_law_told", "_law_wanted"] (spSame K) := by
  refine F.ok scLSame (fun vs H Q E h => ?_) (fun cdv A outer s H vs Q E hr h => ?_)
  · obtain ⟨a, b, r, rfl, _⟩ := h
    rfl
  · obtain ⟨a, b, r, rfl, ha, hb, hok, h40, k⟩ := h
    have hdp := r.depth_le
    refine ⟨_, (pss_one (ps_ret (pe_and (pe_callB (id := "isinstance") (r := rIsi K) call_isi (by rfl) B.isin (by decide +kernel) (pa_cons (pv 0) (pa_cons (pe_bltn (v := .ty "tuple") (by rfl) B.tuple (by decide +kernel) rfl) pa_nil))) (pe_and (pe_cmpR (op_eqD hr.units) (pv 0) (pv 1) (nomark _)) (pe_one (pe_own Onl (hr.mono (by omega)) (pa_cons (pv 0) pa_nil))))))), ?_⟩
    try dsimp only [cxOf, Cx.nox, Cx.wish]
    walk_at "go"
    have hT : TyX K H a (.type "tuple") := by
      rw [r.data_eq true] at ha
      cases ha with
      | tup h _ => exact tyxT h
    refine r_isi (b := true) (.ty "tuple") hT (kit_ty (by decide +kernel)) ?_
    walk_at "go"
    refine ⟨_, _, ha, hb, R.shaped true hok (by omega), R.shaped true hok (by omega), ?_⟩
    rw [R.refl true hok]
    walk_at "go"
    exact ⟨a, _, rfl, ha, r.pure, R.wide hok, by have := (R.flat true hok).2; omega, fun H1 s1 => k H1 s1⟩
end
end K4

/-! L4b -/


namespace K4
open PySem L2 K1
section
variable {P : Program} {w : World} {K : PySem.W.Frag} {mg : Str → Option Value} {base : Heap} {dO dI : Addr}
abbrev OLR (n : Nat) (P : Program) (w : World) (K : PySem.W.Frag) (mg : Str → Option Value) (base : Heap) : Prop := Own P w K mg base "_law_rule_words" (n + 1) ["_law_rule"] (spRW K n)
abbrev OLCommas (P : Program) (w : World) (K : PySem.W.Frag) (mg : Str → Option Value) (base : Heap) : Prop := Own P w K mg base "_law_commas" 1 ["_law_row"] (spIntsWord K)
theorem at_n {xs : List V} {x : V} (n : Nat) (h : xs[n]? = some x) : atI xs (n : Int) = some x := atI_nat h
theorem log_ok' {n : Nat} (h : n ≤ 60) : ((n : Int).natAbs).log2 < 1920 := by
  rw [Int.natAbs_natCast]
  exact Nat.lt_of_le_of_lt (Nat.log2_le_self n) (by omega)
theorem ok_lRuleWords {n : Nat} {f : Addr} {fd : FuncData} (F : Fun K "_law_rule_words" "_law_rule_words" sLRuleWords f fd) (B : Bl mg) (Ocm : OLCommas P w K mg base) (Olr : OLR n P w K mg base) :
    FnOk P w K mg base CX0 (n + 1 + 1) f fd ["_law_rule"] (spRW K (n + 1)) := by
  refine F.ok scLRuleWords (fun vs H Q E h => ?_) (fun cdv A outer s H vs Q E hr h => ?_)
  · obtain ⟨v, r, rfl, _⟩ := h
    rfl
  · obtain ⟨v, r, rfl, hA, hok, h100, hd, k⟩ := h
    have hwb := words_bound h100
    have hokO := R.ok_ow hok
    have harr := R.ok_ar hok
    have hpl : ∀ i ∈ r.inner, i.ok ∧ i.parts ≤ 100 ∧ i.depth ≤ n := fun i hi => ⟨R.ok_in hok i hi, Nat.le_trans (part_le hi) h100, by have := R.in_depth i hi; omega⟩
    have hwl : ∀ i ∈ r.inner, i.words.length ≤ 400 := fun i hi => words_bound (hpl i hi).2.1
    have hweq := r.words_eq
    obtain ⟨xs, is, hS, hO, hI⟩ := hA.open
    refine ⟨_, (pss_cons (ps_set (i := 1) scLRuleWords.nd rfl (Or.inl rfl) (pe_ix ix_seq (pv 0) pe_int (fun _ _ => rfl))) (pss_cons (ps_if (pt_cmpR op_eq (pv 1) pe_str (nomark _)) (pss_one (ps_ret (pe_lst (pa_cons (pv 1) (pa_cons (pe_callTy call_str_int (by rfl) B.str (by decide +kernel) (pa_cons (pe_ix ix_seq (pv 0) pe_int (fun _ _ => rfl)) pa_nil)) (pa_cons (pe_own Ocm (hr.mono (by omega)) (pa_cons (pe_ix ix_seq (pv 0) pe_int (fun _ _ => rfl)) pa_nil)) (pa_cons (pe_callTy call_str_int (by rfl) B.str (by decide +kernel) (pa_cons (pe_ix ix_seq (pv 0) pe_int (fun _ _ => rfl)) pa_nil)) pa_nil))))))) pss_nil) (pss_cons (ps_if (pt_cmpR op_eq (pv 1) pe_str (nomark _)) (pss_one (ps_ret (pe_lst (pa_cons (pv 1) (pa_cons (pe_m1 PySem.F.slot_str_join PySem.F.type_str_join mt_join pe_str (pe_lc (own := [("_law_row", 2)]) (g := gName 2) (tt := tYes) rfl scLRuleWords.nd (pi_sq (pe_ix ix_seq (pv 0) pe_int (fun _ _ => rfl))) (blkOk_by (N := nLRuleWords) (sc := defScope sLRuleWords) (by decide +kernel)) (fun _ _ _ _ _ => (pg_name (i := 2) scLRuleWords.nd rfl (Or.inl rfl))) (fun _ _ _ _ _ => pts_nil) (fun _ _ _ _ _ => (pe_own Ocm (hr.mono (by omega)) (pa_cons (pv 2) pa_nil))))) (pa_cons (pe_own Ocm (hr.mono (by omega)) (pa_cons (pe_ix ix_seq (pv 0) pe_int (fun _ _ => rfl)) pa_nil)) pa_nil)))))) pss_nil) (pss_cons (ps_if (pt_cmpR op_eq (pv 1) pe_str (nomark _)) (pss_one (ps_ret (pe_op op_cat (pe_lst (pa_cons (pv 1) (pa_cons (pe_m1 PySem.F.slot_str_join PySem.F.type_str_join mt_join pe_str (pe_ix ix_seq (pv 0) pe_int (fun _ _ => rfl))) pa_nil))) (pe_own Olr hr (pa_cons (pe_ix ix_seq (pv 0) pe_int (fun _ _ => rfl)) pa_nil))))) pss_nil) (pss_cons (ps_if (pt_cmpR op_eq (pv 1) pe_str (nomark _)) (pss_one (ps_ret (pe_op op_cat (pe_lst (pa_cons (pv 1) (pa_cons (pe_callTy call_str_int (by rfl) B.str (by decide +kernel) (pa_cons (pe_ix ix_seq (pv 0) pe_int (fun _ _ => rfl)) pa_nil)) (pa_cons (pe_callTy call_str_int (by rfl) B.str (by decide +kernel) (pa_cons (pe_ix ix_seq (pv 0) pe_int (fun _ _ => rfl)) pa_nil)) pa_nil)))) (pe_own Olr hr (pa_cons (pe_ix ix_seq (pv 0) pe_int (fun _ _ => rfl)) pa_nil))))) pss_nil) (pss_cons (ps_if (pt_cmpR op_eq (pv 1) pe_str (nomark _)) (pss_one (ps_ret (pe_lst (pa_cons (pv 1) pa_nil)))) pss_nil) (pss_cons (ps_if (pt_cmpR op_in_seq (pv 1) (pe_tup (pa_cons pe_str (pa_cons pe_str pa_nil))) (by rfl)) (pss_one (ps_ret (pe_op op_cat (pe_lst (pa_cons (pv 1) pa_nil)) (pe_own Olr hr (pa_cons (pe_ix ix_seq (pv 0) pe_int (fun _ _ => rfl)) pa_nil))))) pss_nil) (pss_one (ps_ret (pe_op op_cat (pe_op op_cat (pe_lst (pa_cons (pv 1) pa_nil)) (pe_own Olr hr (pa_cons (pe_ix ix_seq (pv 0) pe_int (fun _ _ => rfl)) pa_nil))) (pe_own Olr hr (pa_cons (pe_ix ix_seq (pv 0) pe_int (fun _ _ => rfl)) pa_nil)))))))))))), ?_⟩
    try dsimp only [cxOf, Cx.nox, Cx.wish]
    walk_at "go"
    refine r_ixSq hS at0 ?_
    walk_at "go"
    generalize ho : r.ow = o at *
    generalize hi : r.inner = il at *
    refine r_ite (fun h5 => ?_) (fun h5 => ?_)
    · have e := kind_of (k := 5) (by decide) h5
      cases o <;> first | (exact absurd e (by simp only [Ow.kind]; decide)) | skip
      rename_i m ws g
      obtain ⟨wv, rfl, hW⟩ := hO
      obtain ⟨a1, a2, a3, a4, a5⟩ := hokO
      have hil : il = [] := List.eq_nil_of_length_eq_zero harr
      subst hil
      walk_at "go"
      refine r_ixSq hS (at_n 1 rfl) ?_
      walk_at "go"
      refine ⟨log_ok' a2, ?_⟩
      walk_at "go"
      refine r_ixSq hS (at_n 2 rfl) ?_
      walk_at "go"
      refine ⟨_, ws, rfl, hW, a3.2.1, fun n hn => Nat.le_trans (a3.2.2 n hn) (by decide), fun H1 s1 => ?_⟩
      walk_at "go"
      refine r_ixSq (hS.same s1) (at_n 3 rfl) ?_
      walk_at "go"
      refine ⟨log_ok' (by omega), ?_⟩
      walk_at "go"
      refine ⟨(by show 4 ≤ sizeLine; decide), fun p hp => ?_⟩
      refine k _ p (s1.trans (same_new hp)) (s1.free hp) ?_
      rw [upd_same, hweq]
      rfl
    walk_at "go"
    refine r_ite (fun h6 => ?_) (fun h6 => ?_)
    · have e := kind_of (k := 6) (by decide) h6
      cases o <;> first | (exact absurd e (by simp only [Ow.kind]; decide)) | skip
      rename_i rows gs
      obtain ⟨av, gv, rvs, rfl, hAr, hR, hG⟩ := hO
      obtain ⟨a1, a2, a3, a4⟩ := hokO
      have hil : il = [] := List.eq_nil_of_length_eq_zero harr
      subst hil
      walk_at "go"
      refine r_ixSq hS (at_n 1 rfl) ?_
      walk_at "go"
      have hl := hR.len
      refine lc_sq hAr (fun _ => rfl) (fun acc H' => acc = ((rows.map commas).take acc.length).map V.str ∧ Same H H') (fun D hD => ⟨rfl, same_new hD⟩) (fun D acc H' _ _ q => Same.keeps q.2) ?_ _ ?_ (fun J h => h)
      · rintro D i x acc H' hD hx hl hacc ⟨ha, sm⟩
        obtain ⟨r, hr', hN⟩ := hR.get hx
        have hmem := a3 r (List.mem_of_getElem? hr')
        walk_at "go"
        refine ⟨_, r, rfl, hN.same sm, hmem.nums.2.1, hmem.nums.2.2, fun H2 s2 => ?_⟩
        exact pp_next (s2 _ _ hacc) hl (line60 (by have := (List.getElem?_eq_some_iff.mp hr').1; omega)) ⟨acc_next (f := V.str) (a := commas r) ha hl (by rw [List.getElem?_map, hr']; rfl), same_upd (sm.trans s2) hD⟩
      · rintro D acc H' hD hl' hacc ⟨ha, sm⟩
        rw [hl', hl, ← List.length_map (f := commas), List.take_length] at ha
        subst ha
        walk_at "go"
        refine ⟨_, D, rows.map commas, rfl, rfl, .inl (SqL.of hacc), ?_, ?_⟩
        · have := sum_le (ys := rows.map commas) (b := 36) (fun p hp => by
            obtain ⟨r, hr, rfl⟩ := List.mem_map.mp hp
            have a := commas_len (a3 r hr).nums
            have b := (a3 r hr).2.1
            omega)
          have e : ("/" : Str).length = 1 := by rw [len_tl, tl_SL]; rfl
          rw [e]
          rw [List.length_map] at this ⊢
          omega
        walk_at "go"
        refine r_ixSq (hS.same sm) (at_n 2 rfl) ?_
        walk_at "go"
        refine ⟨_, gs, rfl, hG.same sm, a4.2.1, fun n hn => Nat.le_trans (a4.2.2 n hn) (by decide), fun H3 s3 => ?_⟩
        walk_at "go"
        refine ⟨(by show 3 ≤ sizeLine; decide), fun p hp => ?_⟩
        refine k _ p ((sm.trans s3).trans (same_new hp)) ((sm.trans s3).free hp) ?_
        rw [upd_same, hweq]
        simp [Ow.words]
    walk_at "go"
    have one_in : il.length = 1 → ∃ i0 iv, il = [i0] ∧ is = [iv] ∧ RAt K H iv i0 := fun h => by
      obtain ⟨i0, rfl⟩ := List.length_eq_one_iff.mp h
      match is, hI with
      | [iv], hI => exact ⟨i0, iv, rfl, rfl, hI.1⟩
    refine r_ite (fun h7 => ?_) (fun h7 => ?_)
    · have e := kind_of (k := 7) (by decide) h7
      cases o <;> first | (exact absurd e (by simp only [Ow.kind]; decide)) | skip
      rename_i fs
      obtain ⟨fv, rfl, hF⟩ := hO
      obtain ⟨a1, a2, a3⟩ := hokO
      obtain ⟨i0, iv, rfl, rfl, hi0⟩ := one_in harr
      obtain ⟨b1, b2, b3⟩ := hpl i0 (by simp)
      have b4 := hwl i0 (by simp)
      walk_at "go"
      refine r_ixSq hS (at_n 1 rfl) ?_
      walk_at "go"
      obtain ⟨q, rfl, hq⟩ := hF
      refine ⟨_, q, fs, rfl, rfl, hq.symm.symm, ?_, ?_⟩
      · have := sum_le (ys := fs) (b := 12) (fun p hp => (a3 p hp).2.1)
        have e : ("," : Str).length = 1 := by rw [len_tl, tl_CM]; rfl
        rw [e]
        omega
      walk_at "go"
      refine ⟨(by show 2 ≤ sizeLine; decide), fun p1 hp1 => ?_⟩
      walk_at "go"
      have s1 := same_new (o := HO.lst [V.str (Ow.faces fs).word, V.str (Txt.join "," fs)]) hp1
      refine r_ixSq (hS.same s1) (at_n 2 rfl) ?_
      walk_at "go"
      refine ⟨iv, i0, rfl, hi0.keep (Same.keeps s1), b1, b2, b3, fun H2 q2 s2 hq2 e2 => ?_⟩
      refine ⟨p1, q2, _, _, rfl, rfl, s2 _ _ upd_same, e2, (by rw [List.length_map]; exact Nat.le_of_lt (line60 (by show 2 + i0.words.length ≤ 1000; omega))), fun p hp => ?_⟩
      refine k _ p ((s1.trans s2).trans (same_new hp)) ((s1.trans s2).free hp) ?_
      rw [upd_same, hweq]
      simp [Ow.words]
    walk_at "go"
    refine r_ite (fun h8 => ?_) (fun h8 => ?_)
    · have e := kind_of (k := 8) (by decide) h8
      cases o <;> first | (exact absurd e (by simp only [Ow.kind]; decide)) | skip
      rename_i a b
      obtain rfl := hO
      obtain ⟨a1, a2⟩ := hokO
      obtain ⟨i0, iv, rfl, rfl, hi0⟩ := one_in harr
      obtain ⟨b1, b2, b3⟩ := hpl i0 (by simp)
      have b4 := hwl i0 (by simp)
      walk_at "go"
      refine r_ixSq hS (at_n 1 rfl) ?_
      walk_at "go"
      refine ⟨log_ok' (by omega), ?_⟩
      walk_at "go"
      refine r_ixSq hS (at_n 2 rfl) ?_
      walk_at "go"
      refine ⟨log_ok' (by omega), ?_⟩
      walk_at "go"
      refine ⟨(by show 3 ≤ sizeLine; decide), fun p1 hp1 => ?_⟩
      walk_at "go"
      have s1 := same_new (o := HO.lst [V.str (Ow.cut a b).word, V.str (toString (a : Int)), V.str (toString (b : Int))]) hp1
      refine r_ixSq (hS.same s1) (at_n 3 rfl) ?_
      walk_at "go"
      refine ⟨iv, i0, rfl, hi0.keep (Same.keeps s1), b1, b2, b3, fun H2 q2 s2 hq2 e2 => ?_⟩
      refine ⟨p1, q2, _, _, rfl, rfl, s2 _ _ upd_same, e2, (by rw [List.length_map]; exact Nat.le_of_lt (line60 (by show 3 + i0.words.length ≤ 1000; omega))), fun p hp => ?_⟩
      refine k _ p ((s1.trans s2).trans (same_new hp)) ((s1.trans s2).free hp) ?_
      rw [upd_same, hweq]
      simp [Ow.words]
      exact ⟨rfl, rfl⟩
    walk_at "go"
    refine r_ite (fun h0 => ?_) (fun h0 => ?_)
    · have e := kind_of (k := 0) (by decide) h0
      cases o <;> first | (exact absurd e (by simp only [Ow.kind]; decide)) | skip
      have hil : il = [] := List.eq_nil_of_length_eq_zero harr
      subst hil
      walk_at "go"
      refine ⟨(by show 1 ≤ sizeLine; decide), fun p hp => ?_⟩
      refine k _ p (same_new hp) hp ?_
      rw [upd_same, hweq]
      rfl
    walk_at "go"
    refine ⟨(by show 2 ≤ sizeLine; decide), fun pt hpt => ?_⟩
    walk_at "go"
    refine ⟨pt, _, rfl, .inr (SqT.of upd_same), rfl, rfl, ?_⟩
    have s0 := same_new (o := HO.tup [V.str "back", V.str "not"]) hpt
    by_cases hk : o.kind = 1 ∨ o.kind = 2
    · have hin : inV (V.str o.word) [V.str "back", V.str "not"] = true := by
        show inV (V.str (wd o.kind)) _ = true
        rcases hk with hk | hk <;> rw [hk] <;> decide +kernel
      have har1 : il.length = 1 := by rw [harr]; rcases hk with hk | hk <;> rw [hk] <;> rfl
      have how : o.words = [] ∧ xs = [] := by
        cases o <;> first | (exact ⟨rfl, hO⟩) | (exact absurd hk (by simp only [Ow.kind]; decide))
      obtain ⟨how, rfl⟩ := how
      obtain ⟨i0, iv, rfl, rfl, hi0⟩ := one_in har1
      obtain ⟨b1, b2, b3⟩ := hpl i0 (by simp)
      have b4 := hwl i0 (by simp)
      walk_at "go"
      rw [hin]
      walk_at "go"
      refine ⟨(by show 1 ≤ sizeLine; decide), fun p1 hp1 => ?_⟩
      walk_at "go"
      have s1 := s0.trans (same_new (o := HO.lst [V.str o.word]) hp1)
      refine r_ixSq (hS.same s1) (at_n 1 rfl) ?_
      walk_at "go"
      refine ⟨iv, i0, rfl, hi0.keep (Same.keeps s1), b1, b2, b3, fun H2 q2 s2 hq2 e2 => ?_⟩
      refine ⟨p1, q2, _, _, rfl, rfl, s2 _ _ upd_same, e2, (by rw [List.length_map]; exact Nat.le_of_lt (line60 (by show 1 + i0.words.length ≤ 1000; omega))), fun p hp => ?_⟩
      refine k _ p ((s1.trans s2).trans (same_new hp)) ((s1.trans s2).free hp) ?_
      rw [upd_same, hweq, how]
      simp
    · have hk34 : o.kind = 3 ∨ o.kind = 4 := by
        cases o with
        | sum m ws g => exact absurd rfl h5
        | square rows gs => exact absurd rfl h6
        | faces fs => exact absurd rfl h7
        | cut a b => exact absurd rfl h8
        | any => exact absurd rfl h0
        | back => exact absurd (.inl rfl) hk
        | not => exact absurd (.inr rfl) hk
        | both => exact .inl rfl
        | either => exact .inr rfl
      have hin : inV (V.str o.word) [V.str "back", V.str "not"] = false := by
        show inV (V.str (wd o.kind)) _ = false
        rcases hk34 with hk | hk <;> rw [hk] <;> decide +kernel
      have har2 : il.length = 2 := by rw [harr]; rcases hk34 with hk | hk <;> rw [hk] <;> rfl
      have how : o.words = [] ∧ xs = [] := by
        cases o <;> first | (exact ⟨rfl, hO⟩) | (exact absurd hk34 (by simp only [Ow.kind]; decide))
      obtain ⟨how, rfl⟩ := how
      obtain ⟨i0, i1, iv, jv, rfl, rfl, hi0, hi1⟩ : ∃ i0 i1 iv jv, il = [i0, i1] ∧ is = [iv, jv] ∧ RAt K H iv i0 ∧ RAt K H jv i1 := by
        match il, is, hI, har2 with
        | [i0, i1], [iv, jv], hI, _ => exact ⟨i0, i1, iv, jv, rfl, rfl, hI.1, hI.2.1⟩
      obtain ⟨b1, b2, b3⟩ := hpl i0 (by simp)
      have b4 := hwl i0 (by simp)
      obtain ⟨c1, c2, c3⟩ := hpl i1 (by simp)
      have c4 := hwl i1 (by simp)
      walk_at "go"
      rw [hin]
      walk_at "go"
      refine ⟨(by show 1 ≤ sizeLine; decide), fun p1 hp1 => ?_⟩
      walk_at "go"
      have s1 := s0.trans (same_new (o := HO.lst [V.str o.word]) hp1)
      refine r_ixSq (hS.same s1) (at_n 1 rfl) ?_
      walk_at "go"
      refine ⟨iv, i0, rfl, hi0.keep (Same.keeps s1), b1, b2, b3, fun H2 q2 s2 hq2 e2 => ?_⟩
      refine ⟨p1, q2, _, _, rfl, rfl, s2 _ _ upd_same, e2, (by rw [List.length_map]; exact Nat.le_of_lt (line60 (by show 1 + i0.words.length ≤ 1000; omega))), fun p3 hp3 => ?_⟩
      walk_at "go"
      have s3 := (s1.trans s2).trans (same_new (o := HO.lst ([V.str o.word] ++ i0.words.map V.str)) hp3)
      refine r_ixSq (hS.same s3) (at_n 2 rfl) ?_
      walk_at "go"
      refine ⟨jv, i1, rfl, hi1.keep (Same.keeps s3), c1, c2, c3, fun H4 q4 s4 hq4 e4 => ?_⟩
      refine ⟨p3, q4, _, _, rfl, rfl, s4 _ _ upd_same, e4, (by rw [List.length_append, List.length_map, List.length_map]; exact Nat.le_of_lt (line60 (by show 1 + i0.words.length + i1.words.length ≤ 1000; omega))), fun p hp => ?_⟩
      refine k _ p ((s3.trans s4).trans (same_new hp)) ((s3.trans s4).free hp) ?_
      rw [upd_same, hweq, how]
      simp
theorem lr_all {f : Addr} {fd : FuncData} (F : Fun K "_law_rule_words" "_law_rule_words" sLRuleWords f fd) (B : Bl mg) (Ocm : OLCommas P w K mg base) (m : mg "_law_rule_words" = some (.ref f)) (b : Binds K fd ["_law_rule"] []) : ∀ n : Nat, OLR n P w K mg base
  | 0 => ⟨f, fd, none_ok fun vs H Q E h => by obtain ⟨v, r, _, _, _, _, hd, _⟩ := h; cases r <;> simp [R.depth] at hd, m, F.kp, b⟩
  | n + 1 => ⟨f, fd, ok_lRuleWords F B Ocm (lr_all F B Ocm m b n), m, F.kp, b⟩
end
end K4

/-! L4c -/


namespace K4
open PySem L2 K1
abbrev sLLeaf : Stmt := top 55
abbrev nLLeaf : List Str := ["_law_bag", "_law_signs", "_law_room", "_law_way", "_law_modulus", "_law_weights", "_law_most_rows", "_law_many", "_law_rows", "_law_goals", "_law_z", "_law_k", "_law_sign"]
theorem scLLeaf : FnScope nLLeaf ["_law_bag", "_law_signs", "_law_room"] (defScope sLLeaf) := ⟨rfl, rfl, rfl, by decide +kernel, rfl, by decide +kernel, by decide +kernel⟩
abbrev scZ : Scope := { kind := ScopeKind.function, names := [(".0", NameKind.local), ("_law_z", NameKind.local), ("tuple", NameKind.globalImplicit), ("_law_bag", NameKind.cell), ("_law_many", NameKind.cell), ("_law_signs", NameKind.cell)], isGenerator := false, isCoroutine := false }
def spLeaf (K : PySem.W.Frag) : Sp := fun vs H Q _ => ∃ (b : Addr) (z : Str) (room : Int) (n : Nat), vs = [.ref b, .str z, .int room] ∧ Good z ∧ IsBag H b n ∧ n + 1000 ≤ 2 ^ 40 ∧ 0 ≤ room ∧ room ≤ 1000 ∧
  ∀ H' v o, Ow.ok o → ar o.kind = 0 → IsBag H' b (n + 1000) → Kp b H H' → Dp K H' v ((R.n0 o).data true) → Q v H'
section
variable {P : Program} {w : World} {K : PySem.W.Frag} {mg : Str → Option Value} {base : Heap} {dO dI : Addr}
theorem bag_kt {H H' : Hp} {b : Addr} {n : Nat} (h : IsBag H b n) (k : Kp b H H') : KT K H H' := fun a xs q => by
  obtain ⟨d, s, c, e, _⟩ := h
  exact Kp.sqT k e q
theorem bag_upd {H : Hp} {b D : Addr} {n : Nat} {o : HO} (h : IsBag H b n) (nD : D ≠ b) : IsBag (upd H D o) b n := by
  obtain ⟨d, s, c, e, r⟩ := h
  exact ⟨d, s, c, by rw [upd_ne nD.symm]; exact e, r⟩
theorem kp_upd' {b L : Addr} {H H' : Hp} {o : HO} (k : Kp b H H') (h : H L = none) : Kp b H (upd H' L o) := fun c u n e => by
  rw [upd_ne (ne_of_none e h)]
  exact k c u n e
theorem line_small {n : Nat} (h : n ≤ 1000) : n < sizeLine := small1000 h
theorem nums_pure (ns : List Nat) : pure (.tuple (ns.map pn)) = true := pure_nums ns
theorem r_ifJ {c : TT} {ta tb : TE} {σ : L2.St} {H : Hp} {Q : VK} (A : VK) (q : ∀ Q' : VK, (∀ x H', A x H' → Q' x H') → tIf c ta tb σ H Q') (key : ∀ x H', A x H' → Q x H') : tIf c ta tb σ H Q := q Q key
theorem ok_leaf {f : Addr} {fd : FuncData} (F : Fun K "_law_text_leaf" "_law_text_leaf" sLLeaf f fd) (B : Bl mg) (Op : OPick P w K mg base) : FnOk P w K mg base CX0 2 f fd ["_law_bag", "_law_signs", "_law_room"] (spLeaf K) := by
  refine F.ok scLLeaf (fun vs H Q E h => ?_) (fun cdv A outer s H vs Q E hr h => ?_)
  · obtain ⟨b, z, room, n, rfl, _⟩ := h
    rfl
  · obtain ⟨b, z, room, n, rfl, hz, hb, hn, h0, h1, k⟩ := h
    refine ⟨_, (pss_cons (ps_set (i := 3) scLLeaf.nd rfl (Or.inl rfl) (pe_own Op hr (pa_cons (pv 0) (pa_cons pe_int pa_nil)))) (pss_cons (ps_if (pt_cmpR op_eq (pv 3) pe_int (nomark _)) (pss_one (ps_ret (pe_tup (pa_cons pe_str pa_nil)))) pss_nil) (pss_cons (ps_if (pt_cmpR op_lt (pv 3) pe_int (nomark _)) (pss_cons (ps_set (i := 4) scLLeaf.nd rfl (Or.inr rfl) (pe_op op_add pe_int (pe_own Op hr (pa_cons (pv 0) (pa_cons (pe_ix ix_list (pe_lst (pa_cons pe_int (pa_cons pe_int pa_nil))) (pe_own Op hr (pa_cons (pv 0) (pa_cons pe_int pa_nil))) (fun _ _ => rfl)) pa_nil))))) (pss_cons (ps_setLc (i := 5) (own := [("_law_k", 11)]) (g := gName 11) (tt := tYes) rfl scLLeaf.nd rfl rfl (sw_true rfl rfl rfl (by decide +kernel)) (pi_range1 rfl B.range (pa_cons (pe_op op_add pe_int (pe_own Op hr (pa_cons (pv 0) (pa_cons (pe_ix ix_list (pe_lst (pa_cons pe_int (pa_cons pe_int pa_nil))) (pe_own Op hr (pa_cons (pv 0) (pa_cons pe_int pa_nil))) (fun _ _ => rfl)) pa_nil)))) pa_nil)) (blkOk_by (N := nLLeaf) (sc := defScope sLLeaf) (by decide +kernel)) (fun _ _ _ _ _ => (pg_name (i := 11) scLLeaf.nd rfl (Or.inl rfl))) (fun _ _ _ _ _ => pts_nil) (fun _ _ _ _ _ => (pe_own Op hr (pa_cons (pv 0) (pa_cons (pv 4) pa_nil))))) (pss_one (ps_ret (pe_tup (pa_cons pe_str (pa_cons (pv 4) (pa_cons (pe_callTy call_tuple_of (by rfl) B.tuple (by decide +kernel) (pa_cons (pv 5) pa_nil)) (pa_cons (pe_own Op hr (pa_cons (pv 0) (pa_cons (pv 4) pa_nil))) pa_nil))))))))) pss_nil) (pss_cons (ps_set (i := 6) scLLeaf.nd rfl (Or.inl rfl) (pe_callB (call_max2 rfl) (by rfl) B.max (by decide +kernel) (pa_cons pe_int (pa_cons (pe_callB (call_min2 rfl) (by rfl) B.min (by decide +kernel) (pa_cons pe_int (pa_cons (pe_op op_fdivN (pv 2) (pe_op op_mul pe_int (pe_callB call_len (by rfl) B.len PySem.boot_len (pa_cons (pv 1) pa_nil)))) pa_nil))) pa_nil)))) (pss_cons (ps_set (i := 7) scLLeaf.nd rfl (Or.inr rfl) (pe_ifExp (pt_cmpR op_lt (pv 3) pe_int (nomark _)) (pe_op op_add pe_int (pe_own Op hr (pa_cons (pv 0) (pa_cons (pe_callB (call_min2 rfl) (by rfl) B.min (by decide +kernel) (pa_cons (pv 6) (pa_cons pe_int pa_nil))) pa_nil)))) (pv 6))) (pss_cons (ps_setLc (i := 8) (own := [("_law_z", 10)]) (g := gName 10) (tt := tYes) rfl scLLeaf.nd rfl rfl (sw_true rfl rfl rfl (by decide +kernel)) (pi_range1 rfl B.range (pa_cons (pv 7) pa_nil)) (blkOk_by (N := nLLeaf) (sc := defScope sLLeaf) (by decide +kernel)) (fun _ _ _ _ _ => (pg_name (i := 10) scLLeaf.nd rfl (Or.inl rfl))) (fun _ _ _ _ _ => pts_nil) (fun _ _ _ _ _ => (pe_callTy (T := "tuple") (r := rTupOf K) call_tupOf (by rfl) B.tuple (by decide +kernel) (pa_cons (pe_lc (own := [("_law_sign", 12)]) (g := gName 12) (tt := tYes) rfl scLLeaf.nd (pi_str (pv 1)) (blkOk_by (N := nLLeaf) (sc := scZ) (by decide +kernel)) (fun _ _ _ _ _ => (pg_name (i := 12) scLLeaf.nd rfl (Or.inl rfl))) (fun _ _ _ _ _ => pts_nil) (fun _ _ _ _ _ => (pe_own Op hr (pa_cons (pv 0) (pa_cons (pv 7) pa_nil))))) pa_nil)))) (pss_cons (ps_setLc (i := 9) (own := [("_law_z", 10)]) (g := gName 10) rfl scLLeaf.nd rfl rfl (sw_true rfl rfl rfl (by decide +kernel)) (pi_range1 rfl B.range (pa_cons (pv 7) pa_nil)) (blkOk_by (N := nLLeaf) (sc := defScope sLLeaf) (by decide +kernel)) (fun _ _ _ _ _ => (pg_name (i := 10) scLLeaf.nd rfl (Or.inl rfl))) (fun _ _ _ _ _ => (pts_one (pt_cmpR op_eq (pe_own Op hr (pa_cons (pv 0) (pa_cons pe_int pa_nil))) pe_int (nomark _)))) (fun _ _ _ _ _ => (pv 10))) (pss_one (ps_ret (pe_tup (pa_cons pe_str (pa_cons (pe_callTy call_tuple_of (by rfl) B.tuple (by decide +kernel) (pa_cons (pv 8) pa_nil)) (pa_cons (pe_ifExp (pt_truth (pv 9) (by intro _; rfl)) (pe_callTy call_tuple_of (by rfl) B.tuple (by decide +kernel) (pa_cons (pv 9) pa_nil)) (pe_tup (pa_cons (pe_op op_sub (pv 7) pe_int) pa_nil))) pa_nil))))))))))))), ?_⟩
    try dsimp only [cxOf, Cx.nox, Cx.wish]
    walk_at "go"
    refine ⟨_, _, n, rfl, hb, by omega, by decide, fun way H1 w0 w1 hb1 of1 => ?_⟩
    have k1 := of1.kp
    walk_at "go"
    refine r_ite (fun hw => ?_) (fun hw => ?_)
    · walk_at "go"
      refine ⟨(by show 1 ≤ sizeLine; decide), fun p hp => ?_⟩
      refine k _ _ .any trivial rfl ((hb1.mono (by omega)).new hp) (k1.trans (Same.kp (same_new hp))) ?_
      exact .tup (SqT.of upd_same) (.cons (.str _) .nil)
    walk_at "go"
    refine r_ite (fun hw4 => ?_) (fun hw4 => ?_)
    · -- a sum
      walk_at "go"
      refine ⟨(by show 2 ≤ sizeLine; decide), fun p hp => ?_⟩
      have npb := hb1.ne hp
      walk_at "go"
      refine ⟨_, _, n + 1, rfl, hb1.new hp, by omega, by decide, fun r1 H2 r10 r11 hb2 of2 => ?_⟩
      obtain ⟨v1, ev1, hv1, _⟩ := at_nat' (xs := [V.int 4, V.int 59]) r10 (by show r1 < 2; omega)
      obtain ⟨q1, rfl, q10, q11⟩ : ∃ q : Int, v1 = .int q ∧ 4 ≤ q ∧ q ≤ 59 := by
        simp only [List.mem_cons, List.not_mem_nil, or_false] at hv1
        rcases hv1 with rfl | rfl
        · exact ⟨4, rfl, by decide, by decide⟩
        · exact ⟨59, rfl, by decide, by decide⟩
      refine r_ixL (SqL.of (of2.at npb upd_same)) ev1 ?_
      walk_at "go"
      refine ⟨_, _, n + 2, rfl, hb2, by omega, by omega, fun m1 H3 m10 m11 hb3 of3 => ?_⟩
      have k3 : Kp b H H3 := k1.trans ((Same.kp (same_new hp)).trans (of2.kp.trans of3.kp))
      walk_at "go"
      obtain ⟨m, hm⟩ : ∃ m : Nat, 2 + m1 = (m : Int) := ⟨(2 + m1).toNat, by omega⟩
      rw [hm]
      have m2 : 2 ≤ m := by omega
      have m60 : m ≤ 60 := by omega
      refine ⟨(by show 2 ≤ sizeLine; decide), fun p2 hp2 => ?_⟩
      have np2b := hb3.ne hp2
      walk_at "go"
      refine ⟨_, _, n + 3, rfl, hb3.new hp2, by omega, by decide, fun r2 H4 r20 r21 hb4 of4 => ?_⟩
      obtain ⟨v2, ev2, hv2, _⟩ := at_nat' (xs := [V.int 2, V.int 8]) r20 (by show r2 < 2; omega)
      obtain ⟨q2, rfl, q20, q21⟩ : ∃ q : Int, v2 = .int q ∧ 2 ≤ q ∧ q ≤ 8 := by
        simp only [List.mem_cons, List.not_mem_nil, or_false] at hv2
        rcases hv2 with rfl | rfl
        · exact ⟨2, rfl, by decide, by decide⟩
        · exact ⟨8, rfl, by decide, by decide⟩
      refine r_ixL (SqL.of (of4.at np2b upd_same)) ev2 ?_
      walk_at "go"
      refine ⟨_, _, n + 4, rfl, hb4, by omega, by omega, fun m3 H5 m30 m31 hb5 of5 => ?_⟩
      have k5 : Kp b H H5 := k3.trans ((Same.kp (same_new hp2)).trans (of4.kp.trans of5.kp))
      walk_at "go"
      obtain ⟨c, hc⟩ : ∃ c : Nat, 1 + m3 = (c : Int) := ⟨(1 + m3).toNat, by omega⟩
      rw [hc]
      have c1 : 1 ≤ c := by omega
      have c8 : c ≤ 8 := by omega
      refine ⟨by omega, by omega, fun D hD => ?_⟩
      have nDb := hb5.ne hD
      refine lc_gen (walk_rng (lo := 0) (n := c)) (fun _ => rfl) (fun acc H' => ∃ ns : List Nat, acc = ns.map vi ∧ (∀ x ∈ ns, x < m) ∧ IsBag H' b (n + 5 + acc.length) ∧ Kp b H5 H') ⟨[], rfl, (fun x h => absurd h (by simp)), hb5.new hD, Same.kp (same_new hD)⟩ (fun _ _ _ _ => trivial) ?_ ?_
      · rintro i x acc H' hx hl hacc ⟨ns, rfl, hns, hbi, ki⟩
        have hic : i < c := by have := (List.getElem?_eq_some_iff.mp hx).1; rw [List.length_map, List.length_range] at this; exact this
        rw [hl] at hbi
        walk_at "go"
        refine ⟨_, _, n + 5 + i, rfl, hbi, by omega, by omega, fun r H6 r0 r1' hb6 of6 => ?_⟩
        have e6 := of6.at nDb hacc
        refine pp_next e6 hl (line_small (by omega)) ⟨ns ++ [r.toNat], ?_, ?_, ?_, ?_⟩
        · rw [List.map_append]
          show _ = ns.map vi ++ [V.int (r.toNat : Int)]
          rw [Int.toNat_of_nonneg r0]
        · intro x hx
          rcases List.mem_append.mp hx with hx | hx
          · exact hns x hx
          · simp only [List.mem_cons, List.not_mem_nil, or_false] at hx
            omega
        · rw [List.length_append, hl]
          exact bag_upd hb6 nDb
        · exact kp_upd' (ki.trans of6.kp) hD
      · rintro acc H6 hl hacc ⟨ns, rfl, hns, hb6, k6⟩
        rw [List.length_map, List.length_map, List.length_range] at hl
        rw [List.length_map, hl] at hb6
        walk_at "go"
        refine ⟨_, _, rfl, .inl ⟨SqL.of hacc, fun t ht => ?_⟩⟩
        have ntb := hb6.ne ht
        walk_at "go"
        refine ⟨_, _, n + 5 + c, rfl, hb6.new ht, by omega, by omega, fun g H7 g0 g1 hb7 of7 => ?_⟩
        walk_at "go"
        refine ⟨(by show 4 ≤ sizeLine; decide), fun p hp => ?_⟩
        obtain ⟨g', rfl⟩ : ∃ g' : Nat, g = (g' : Int) := ⟨g.toNat, by omega⟩
        refine k _ _ (.sum m ns g') ⟨m2, m60, ⟨?_, by omega, fun x hx => by have := hns x hx; omega⟩, by omega, by omega⟩ rfl ((hb7.mono (by omega)).new hp) ?_ ?_
        · intro q; rw [q] at hl; simp at hl; omega
        · exact k5.trans (k6.trans ((Same.kp (same_new ht)).trans (of7.kp.trans (Same.kp (same_new hp)))))
        · have e7 : H7 t = some (.tup (ns.map vi)) := of7.at ntb upd_same
          refine .tup (SqT.of upd_same) (.cons (.str _) (.cons (.int _) (.cons (.tup (SqT.of ?_) (dpA_nums.mpr rfl)) (.cons (.int _) .nil))))
          rw [upd_ne (ne_of_none e7 hp)]
          exact e7
    walk_at "go"
    have hzl : 2 ≤ (tl z).length := hz.lo
    have hzh : (tl z).length ≤ 12 := hz.hi
    have lz : z.length = (tl z).length := len_tl z
    refine ⟨_, _, rfl, lenS (by rw [len_tl]; exact Nat.le_of_lt (line_small (by omega))), ?_⟩
    walk_at "go"
    refine r_I (.inl ⟨by decide, by decide⟩) ?_
    walk_at "go"
    refine r_I ⟨by omega, by omega⟩ ?_
    generalize room.fdiv (3 * (z.length : Int)) = q
    walk_at "go"
    refine ⟨_, _, rfl, ?_⟩
    walk_at "go"
    refine ⟨_, _, rfl, ?_⟩
    obtain ⟨M, hM, M1, M60⟩ : ∃ M : Nat, (if (if q < 60 then q else 60) > 1 then (if q < 60 then q else 60) else 1) = (M : Int) ∧ 1 ≤ M ∧ M ≤ 60 := by
      refine ⟨(if (if q < 60 then q else 60) > 1 then (if q < 60 then q else 60) else 1).toNat, (Int.toNat_of_nonneg ?_).symm, ?_, ?_⟩ <;> (repeat' split) <;> omega
    rw [hM]
    refine K1.r_name ?_
    try dsimp only [List.set]
    refine K1.r_seq ?_
    refine K1.r_asg ?_
    refine r_ifJ (fun x Hm => ∃ mv : Nat, x = .int mv ∧ 1 ≤ mv ∧ mv ≤ 60 ∧ IsBag Hm b (n + 2) ∧ Kp b H Hm) (fun Q' hQ => ?_) ?_
    · walk_at "go"
      refine r_ite (fun h6 => ?_) (fun h6 => ?_)
      · walk_at "go"
        refine ⟨_, _, rfl, ?_⟩
        walk_at "go"
        refine ⟨_, _, n + 1, rfl, hb1, by omega, by split <;> omega, fun r H2 r0 r1 hb2 of2 => ?_⟩
        walk_at "go"
        have r1' : r < 60 := by
          rcases r1 with r1 | r1
          · split at r1 <;> omega
          · omega
        have r3 : r + 1 ≤ 60 := by omega
        obtain ⟨mv, hmv⟩ : ∃ mv : Nat, 1 + r = (mv : Int) := ⟨(1 + r).toNat, by omega⟩
        rw [hmv]
        exact hQ _ _ ⟨mv, rfl, by omega, by omega, hb2, k1.trans of2.kp⟩
      · walk_at "go"
        exact hQ _ _ ⟨M, rfl, M1, M60, hb1.mono (by omega), k1⟩
    rintro x Hm ⟨mv, rfl, mv1, mv60, hbm, km⟩
    walk_at "go"
    refine ⟨by omega, by omega, fun D hD => ?_⟩
    have nDb := hbm.ne hD
    have hDH : H D = none := by
      obtain ⟨_, _, _, e, _⟩ := id hbm
      exact Kp.free km e hD
    refine lc_gen (walk_rng (lo := 0) (n := mv)) (fun _ => rfl) (fun acc H' => ∃ rws : List (List Nat), DpAll K H' acc (rws.map rowD) ∧ rws.length = acc.length ∧ (∀ r ∈ rws, r.length = (tl z).length ∧ ∀ x ∈ r, x < mv) ∧ IsBag H' b (n + 2 + 13 * acc.length) ∧ Kp b H H')
      ⟨[], .nil, rfl, (fun x h => absurd h (by simp)), (hbm.new hD), kp_upd' km hDH⟩ (fun _ _ _ _ => trivial) ?_ ?_
    · rintro i x acc H' hx hl hacc ⟨rws, hdp, hrl, hrw, hbi, ki⟩
      have hic : i < mv := by have := (List.getElem?_eq_some_iff.mp hx).1; rw [List.length_map, List.length_range] at this; exact this
      rw [hl] at hbi
      walk_at "go"
      intro D2 hD2
      have nD2b := hbi.ne hD2
      refine lc_gen walk_sgn (fun _ => rfl) (fun acc2 H'' => ∃ xs : List Nat, acc2 = xs.map vi ∧ (∀ x ∈ xs, x < mv) ∧ IsBag H'' b (n + 2 + 13 * i + acc2.length) ∧ Kp b H' H'') ⟨[], rfl, (fun x h => absurd h (by simp)), hbi.new hD2, Same.kp (same_new hD2)⟩ (fun _ _ _ _ => trivial) ?_ ?_
      · rintro j y acc2 H2 hy hl2 hacc2 ⟨xs, rfl, hxs, hb2, k2⟩
        have hjz : j < (tl z).length := by have := (List.getElem?_eq_some_iff.mp hy).1; rw [List.length_map, sgn_len, len_tl] at this; exact this
        rw [hl2] at hb2
        walk_at "go"
        refine ⟨_, _, n + 2 + 13 * i + j, rfl, hb2, by omega, by omega, fun r H3 r0 r1' hb3 of3 => ?_⟩
        have e3 := of3.at nD2b hacc2
        refine pp_next e3 hl2 (line_small (by omega)) ⟨xs ++ [r.toNat], ?_, ?_, ?_, ?_⟩
        · rw [List.map_append]
          show _ = xs.map vi ++ [V.int (r.toNat : Int)]
          rw [Int.toNat_of_nonneg r0]
        · intro x hx
          rcases List.mem_append.mp hx with hx | hx
          · exact hxs x hx
          · simp only [List.mem_cons, List.not_mem_nil, or_false] at hx
            omega
        · rw [List.length_append, hl2]
          exact bag_upd hb3 nD2b
        · exact kp_upd' (k2.trans of3.kp) hD2
      · rintro acc2 H2 hl2 hacc2 ⟨xs, rfl, hxs, hb2, k2⟩
        rw [List.length_map, List.length_map, sgn_len, len_tl] at hl2
        rw [List.length_map, hl2] at hb2
        walk_at "go"
        refine ⟨_, _, rfl, .inl ⟨SqL.of hacc2, fun t ht => ?_⟩⟩
        have eD : H2 D = some (.lst acc) := k2 _ _ nDb hacc
        have ntD : D ≠ t := ne_of_none eD ht
        have ntb := hb2.ne ht
        have eD' : (upd H2 t (.tup (xs.map vi))) D = some (.lst acc) := by rw [upd_ne ntD]; exact eD
        have kt1 : KT K H' (upd (upd H2 t (.tup (xs.map vi))) D (.lst (acc ++ [.ref t]))) := KT.trans (bag_kt hbi k2) (KT.trans (Same.kt (same_new ht)) (kt_lst eD'))
        have kt2 : KT K (upd H2 t (.tup (xs.map vi))) (upd (upd H2 t (.tup (xs.map vi))) D (.lst (acc ++ [.ref t]))) := kt_lst eD'
        refine pp_next eD' hl (line_small (by omega)) ⟨rws ++ [xs], ?_, ?_, ?_, ?_, ?_⟩
        · rw [List.map_append]
          exact dpA_app (dpA_pure kt1 _ _ (pureA_iff.mpr fun d hd => by obtain ⟨r, _, rfl⟩ := List.mem_map.mp hd; exact rowD_pure r) hdp) (.cons (.tup (kt2 _ _ (SqT.of upd_same)) (dpA_nums.mpr rfl)) .nil)
        · rw [List.length_append, List.length_append, hrl]; rfl
        · intro r hr'
          rcases List.mem_append.mp hr' with hr' | hr'
          · exact hrw r hr'
          · simp only [List.mem_cons, List.not_mem_nil, or_false] at hr'
            rw [hr']
            exact ⟨hl2, hxs⟩
        · rw [List.length_append, hl]
          exact bag_upd (bag_upd (hb2.mono (by show _ ≤ n + 2 + 13 * (i + 1); omega)) ntb) nDb
        · exact kp_upd' (ki.trans (k2.trans (Same.kp (same_new ht)))) hDH
    · rintro acc H6 hl hacc ⟨rws, hdp, hrl, hrw, hb6, k6⟩
      rw [List.length_map, List.length_range] at hl
      rw [hl] at hb6 hrl
      walk_at "go"
      refine ⟨by omega, by omega, fun D2 hD2 => ?_⟩
      have nD2b := hb6.ne hD2
      have nDD2 : D ≠ D2 := ne_of_none hacc hD2
      refine lc_it walk_range (fun i H' => ∃ gs : List Nat, H' D2 = some (.lst (gs.map vi)) ∧ gs.length ≤ i ∧ (∀ g ∈ gs, g < i) ∧ IsBag H' b (n + 2 + 13 * mv + i) ∧ Kp b H6 H') ⟨[], upd_same, Nat.le_refl _, (fun g h => absurd h (by simp)), hb6.new hD2, Same.kp (same_new hD2)⟩ (fun _ _ _ _ => trivial) ?_ ?_
      · rintro i x H1' H2 hi ⟨gs, hgs, hgl, hgb, hbi, ki⟩ ⟨rfl, rfl⟩
        refine ⟨rfl, ?_⟩
        walk_at "go"
        refine ⟨_, _, _, rfl, hbi, by omega, by decide, fun r H3 r0 r1' hb3 of3 => ?_⟩
        have e3 := of3.at nD2b hgs
        walk_at "go"
        refine r_ite (fun hz0 => ?_) (fun hz0 => ?_)
        · walk_at "go"
          refine ⟨_, e3, by rw [List.length_map]; exact line_small (by omega), gs ++ [i], ?_, ?_, ?_, ?_, ?_⟩
          · rw [upd_same, List.map_append]
            show some (HO.lst (gs.map vi ++ [V.int (0 + (i : Int))])) = some (HO.lst (gs.map vi ++ [V.int (i : Int)]))
            rw [Int.zero_add]
          · rw [List.length_append]; simp only [List.length_cons, List.length_nil]; omega
          · intro g hg
            rcases List.mem_append.mp hg with hg | hg
            · have := hgb g hg; omega
            · simp only [List.mem_cons, List.not_mem_nil, or_false] at hg
              omega
          · exact bag_upd hb3 nD2b
          · exact kp_upd' (ki.trans of3.kp) hD2
        · exact ⟨gs, e3, by omega, fun g hg => by have := hgb g hg; omega, hb3, ki.trans of3.kp⟩
      · rintro H7 ⟨gs, hgs, hgl, hgb, hb7, k7⟩
        have eD : H7 D = some (.lst acc) := k7 _ _ nDb hacc
        walk_at "go"
        refine ⟨_, _, rfl, .inl ⟨SqL.of eD, fun t ht => ?_⟩⟩
        have s8 := same_new (o := HO.tup acc) ht
        have kt8 : KT K H6 (upd H7 t (.tup acc)) := KT.trans (bag_kt hb6 k7) (Same.kt s8)
        have d8 : Dp K (upd H7 t (.tup acc)) (.ref t) (.tuple (rws.map rowD)) := .tup (SqT.of upd_same) (dpA_pure kt8 _ _ (pureA_iff.mpr fun d hd => by obtain ⟨r, _, rfl⟩ := List.mem_map.mp hd; exact rowD_pure r) hdp)
        have fin : ∀ (H9 : Hp) (u p : Addr) (gs' : List Nat), Same (upd H7 t (.tup acc)) H9 → H9 u = some (.tup (gs'.map vi)) → Nums 59 gs' → H9 p = none → Q (.ref p) (upd H9 p (.tup [.str "square", .ref t, .ref u])) := by
          intro H9 u p gs' s9 eu hN hp
          refine k _ _ (.square rws gs') ⟨?_, by omega, ?_, hN⟩ rfl ?_ ?_ ?_
          · intro q; rw [q] at hrl; simp at hrl; omega
          · intro r hr'
            have := hrw r hr'
            exact ⟨by omega, by omega, fun x hx => by have := this.2 x hx; omega⟩
          · have hb8 : IsBag (upd H7 t (.tup acc)) b (n + 1000) := (hb7.mono (by omega)).new ht
            obtain ⟨d, sl, c, e, rr⟩ := hb8
            exact ⟨d, sl, c, by rw [upd_ne (ne_of_none (s9 _ _ e) hp)]; exact s9 _ _ e, rr⟩
          · exact k6.trans (k7.trans ((Same.kp s8).trans ((Same.kp s9).trans (Same.kp (same_new hp)))))
          · have s10 := same_new (o := HO.tup [.str "square", .ref t, .ref u]) hp
            refine .tup (SqT.of upd_same) (.cons (.str _) (.cons ?_ (.cons (.tup (SqT.of ?_) (dpA_nums.mpr rfl)) .nil)))
            · exact dp_pure (KT.trans (Same.kt s9) (Same.kt s10)) _ _ (pureA_iff.mpr fun d hd => by obtain ⟨r, _, rfl⟩ := List.mem_map.mp hd; exact rowD_pure r) d8
            · rw [upd_ne (ne_of_none eu hp)]; exact eu
        have eG : (upd H7 t (.tup acc)) D2 = some (.lst (gs.map vi)) := s8 _ _ hgs
        walk_at "go"
        refine ⟨!(gs.map vi).isEmpty, .inl ⟨_, SqL.of eG, rfl⟩, ?_⟩
        refine r_iteB (fun hne => ?_) (fun he => ?_)
        · walk_at "go"
          refine ⟨_, _, rfl, .inl ⟨SqL.of eG, fun u hu => ?_⟩⟩
          walk_at "go"
          refine ⟨(by show 3 ≤ sizeLine; decide), fun p hp => ?_⟩
          refine fin _ u p gs (same_new hu) upd_same ⟨?_, by omega, fun g hg => by have := hgb g hg; omega⟩ hp
          intro q; rw [q] at hne; simp at hne
        · walk_at "go"
          refine ⟨(by show 1 ≤ sizeLine; decide), fun u hu => ?_⟩
          walk_at "go"
          refine ⟨(by show 3 ≤ sizeLine; decide), fun p hp => ?_⟩
          refine fin _ u p [mv - 1] (same_new hu) ?_ ⟨by simp, by simp, fun g hg => by simp at hg; omega⟩ hp
          rw [upd_same]
          show some (HO.tup [V.int ((mv : Int) - 1)]) = some (HO.tup [V.int ((mv - 1 : Nat) : Int)])
          rw [show ((mv : Int) - 1) = ((mv - 1 : Nat) : Int) by omega]
end
end K4

/-! L4d -/


namespace K4
open PySem L2 K1
abbrev sLTextRule : Stmt := top 56
abbrev nLTextRule : List Str := ["_law_bag", "_law_signs", "_law_parts", "_law_room", "_law_way", "_law_many", "_law_first", "_law_inner", "_law_faces", "_law_k", "_law_sign"]
theorem scLTextRule : FnScope nLTextRule ["_law_bag", "_law_signs", "_law_parts", "_law_room"] (defScope sLTextRule) := ⟨rfl, rfl, rfl, by decide +kernel, rfl, by decide +kernel, by decide +kernel⟩
def spTextRule (K : PySem.W.Frag) (N : Nat) : Sp := fun vs H Q _ => ∃ (b : Addr) (z : Str) (p : Nat) (room : Int) (n : Nat), vs = [.ref b, .str z, vi p, .int room] ∧ Good z ∧ IsBag H b n ∧ n + 1000 * p ≤ 2 ^ 39 ∧ 1 ≤ p ∧ p < N ∧ p ≤ 40 ∧ 0 ≤ room ∧ room ≤ 1000 ∧
  ∀ H' v r, R.ok r → r.parts = p → IsBag H' b (n + 1000 * p) → Kp b H H' → Dp K H' v (r.data true) → Q v H'
theorem good_face {z y : Str} (h : Good z) (l : (tl y).length = (tl z).length) (k : ∀ c ∈ tl y, c ∈ tl z) : Face y := by
  have h1 : 2 ≤ (tl z).length := h.lo
  have h2 : (tl z).length ≤ 12 := h.hi
  exact ⟨by omega, by omega, fun c hc => h.all c (k c hc)⟩
section
variable {P : Program} {w : World} {K : PySem.W.Frag} {mg : Str → Option Value} {base : Heap} {dO dI : Addr}
abbrev OLeaf (P : Program) (w : World) (K : PySem.W.Frag) (mg : Str → Option Value) (base : Heap) : Prop := Own P w K mg base "_law_text_leaf" 2 ["_law_bag", "_law_signs", "_law_room"] (spLeaf K)
abbrev OTextRule (N : Nat) (P : Program) (w : World) (K : PySem.W.Frag) (mg : Str → Option Value) (base : Heap) : Prop := Own P w K mg base "_law_text_rule" (N + 3) ["_law_bag", "_law_signs", "_law_parts", "_law_room"] (spTextRule K N)
theorem ok_textRule {N : Nat} {f : Addr} {fd : FuncData} (F : Fun K "_law_text_rule" "_law_text_rule" sLTextRule f fd) (B : Bl mg) (Op : OPick P w K mg base) (Oo : OOneOf P w K mg base) (Olf : OLeaf P w K mg base) (Otx : OTextRule N P w K mg base) :
    FnOk P w K mg base CX0 (N + 1 + 3) f fd ["_law_bag", "_law_signs", "_law_parts", "_law_room"] (spTextRule K (N + 1)) := by
  refine F.ok scLTextRule (fun vs H Q E h => ?_) (fun cdv A outer s H vs Q E hr h => ?_)
  · obtain ⟨b, z, p, room, n, rfl, _⟩ := h
    rfl
  · obtain ⟨b, z, p, room, n, rfl, hz, hb, hn, p1, pN, p40, h0, h1, k⟩ := h
    have hzl : 2 ≤ (tl z).length := hz.lo
    have hzh : (tl z).length ≤ 12 := hz.hi
    have lz : z.length = (tl z).length := len_tl z
    refine ⟨_, (pss_cons (ps_if (pt_cmpR op_eq (pv 2) pe_int (nomark _)) (pss_one (ps_ret (pe_own Olf (hr.mono (by omega)) (pa_cons (pv 0) (pa_cons (pv 1) (pa_cons (pv 3) pa_nil)))))) pss_nil) (pss_cons (ps_set (i := 4) scLTextRule.nd rfl (Or.inl rfl) (pe_own Op (hr.mono (by omega)) (pa_cons (pv 0) (pa_cons pe_int pa_nil)))) (pss_cons (ps_if (PW.pt (pw_and (pt_cmpR op_gt (pv 2) pe_int (nomark _)) (pw_and1 (pt_cmpR op_lt (pv 4) pe_int (nomark _))))) (pss_cons (ps_set (i := 5) scLTextRule.nd rfl (Or.inl rfl) (pe_op op_add pe_int (pe_own Op (hr.mono (by omega)) (pa_cons (pv 0) (pa_cons (pe_op op_sub (pv 2) pe_int) pa_nil))))) (pss_cons (ps_set (i := 6) scLTextRule.nd rfl (Or.inl rfl) (pe_own Otx hr (pa_cons (pv 0) (pa_cons (pv 1) (pa_cons (pv 5) (pa_cons (pv 3) pa_nil)))))) (pss_one (ps_ret (pe_tup (pa_cons (pe_ix ix_list (pe_lst (pa_cons pe_str (pa_cons pe_str (pa_cons pe_str pa_nil)))) (pv 4) (fun _ _ => rfl)) (pa_cons (pv 6) (pa_cons (pe_own Otx hr (pa_cons (pv 0) (pa_cons (pv 1) (pa_cons (pe_op op_sub (pe_op op_sub (pv 2) pe_int) (pv 5)) (pa_cons (pv 3) pa_nil))))) pa_nil)))))))) pss_nil) (pss_cons (ps_set (i := 7) scLTextRule.nd rfl (Or.inl rfl) (pe_own Otx hr (pa_cons (pv 0) (pa_cons (pv 1) (pa_cons (pe_op op_sub (pv 2) pe_int) (pa_cons (pv 3) pa_nil)))))) (pss_cons (ps_if (pt_cmpR op_eq (pv 4) pe_int (nomark _)) (pss_one (ps_ret (pe_tup (pa_cons pe_str (pa_cons (pv 7) pa_nil))))) pss_nil) (pss_cons (ps_if (pt_cmpR op_eq (pv 4) pe_int (nomark _)) (pss_one (ps_ret (pe_tup (pa_cons pe_str (pa_cons (pe_own Op (hr.mono (by omega)) (pa_cons (pv 0) (pa_cons pe_int pa_nil))) (pa_cons (pe_own Op (hr.mono (by omega)) (pa_cons (pv 0) (pa_cons pe_int pa_nil))) (pa_cons (pv 7) pa_nil))))))) pss_nil) (pss_cons (ps_if (pt_cmpR op_eq (pv 4) pe_int (nomark _)) (pss_cons (ps_set (i := 8) scLTextRule.nd rfl (Or.inl rfl) (pe_lst pa_nil)) (pss_cons (ps_for PassesOwn.never rfl (pi_range1 rfl B.range (pa_cons (pe_ifExp (pt_cmpR op_lt (pv 3) pe_int (nomark _)) pe_int (pe_op op_add pe_int (pe_own Op (hr.mono (by omega)) (pa_cons (pv 0) (pa_cons pe_int pa_nil))))) pa_nil)) (pg_name (i := 9) scLTextRule.nd rfl (Or.inl rfl)) (pss_one (ps_expr (pe_bm PySem.F.plainAttrs_list PySem.F.slot_list_append PySem.F.type_list_append mt_append (pv 8) (pa_cons (pe_m1 PySem.F.slot_str_join PySem.F.type_str_join mt_join pe_str (pe_lc (own := [("_law_sign", 10)]) (g := gName 10) (tt := tYes) rfl scLTextRule.nd (pi_str (pv 1)) (blkOk_by (N := nLTextRule) (sc := defScope sLTextRule) (by decide +kernel)) (fun _ _ _ _ _ => (pg_name (i := 10) scLTextRule.nd rfl (Or.inl rfl))) (fun _ _ _ _ _ => pts_nil) (fun _ _ _ _ _ => (pe_own Oo (hr.mono (by omega)) (pa_cons (pv 0) (pa_cons (pv 1) pa_nil)))))) pa_nil))))) (pss_one (ps_ret (pe_tup (pa_cons pe_str (pa_cons (pe_callTy call_tuple_of (by rfl) B.tuple (by decide +kernel) (pa_cons (pv 8) pa_nil)) (pa_cons (pv 7) pa_nil)))))))) pss_nil) (pss_one (ps_ret (pe_tup (pa_cons pe_str (pa_cons (pv 7) pa_nil)))))))))))), ?_⟩
    try dsimp only [cxOf, Cx.nox, Cx.wish]
    walk_at "go"
    refine r_ite (fun hp1 => ?_) (fun hp1 => ?_)
    · have hp : p = 1 := by have := V.int.inj hp1; omega
      subst hp
      walk_at "go"
      refine ⟨_, z, room, n, rfl, hz, hb, by omega, h0, h1, fun H1 v o ho ha hb1 k1 d1 => ?_⟩
      exact k H1 v (.n0 o) ⟨ho, ha⟩ rfl hb1 k1 d1
    have p2 : 2 ≤ p := by
      rcases Nat.lt_or_ge p 2 with q | q
      · exact absurd (congrArg V.int (show (p : Int) = 1 by omega)) hp1
      · exact q
    walk_at "go"
    refine ⟨_, _, n, rfl, hb, by omega, by decide, fun way H1 w0 w1 hb1 of1 => ?_⟩
    have k1 := of1.kp
    have w7 : way < 7 := by omega
    walk_at "go"
    by_cases hc : p > 2 ∧ way < 3
    · obtain ⟨hp3, hw3⟩ := hc
      refine r_yes (by omega) ?_
      walk_at "go"
      refine r_yes hw3 ?_
      walk_at "go"
      refine ⟨_, _, n + 1, rfl, hb1, by omega, by omega, fun m H2 m0 m1 hb2 of2 => ?_⟩
      walk_at "go"
      obtain ⟨mm, hmm⟩ : ∃ mm : Nat, 1 + m = (mm : Int) := ⟨(1 + m).toNat, by omega⟩
      rw [hmm]
      have mm1 : 1 ≤ mm := by omega
      have mm2 : mm + 2 ≤ p := by omega
      refine ⟨b, z, mm, room, n + 2, rfl, hz, hb2, by omega, mm1, by omega, by omega, h0, h1, fun H3 v1 r1 ok1 pr1 hb3 k3 d3 => ?_⟩
      walk_at "go"
      refine ⟨(by show 3 ≤ sizeLine; decide), fun l hl => ?_⟩
      have sl := same_new (o := HO.lst [V.str "both", V.str "either", V.str "either"]) hl
      obtain ⟨o, ho, hok, har, how⟩ : ∃ o : Ow, atI [V.str "both", V.str "either", V.str "either"] way = some (.str o.word) ∧ o.ok ∧ ar o.kind = 2 ∧ o.data true = [] := by
        obtain rfl | rfl | rfl : way = 0 ∨ way = 1 ∨ way = 2 := by omega
        · exact ⟨.both, rfl, trivial, rfl, rfl⟩
        · exact ⟨.either, rfl, trivial, rfl, rfl⟩
        · exact ⟨.either, rfl, trivial, rfl, rfl⟩
      walk_at "go"
      refine r_ixL (SqL.of upd_same) ho ?_
      walk_at "go"
      obtain ⟨p', hp'⟩ : ∃ p' : Nat, (p : Int) - 1 - (mm : Int) = (p' : Int) := ⟨p - 1 - mm, by omega⟩
      rw [hp']
      have e' : mm + p' + 1 = p := by omega
      refine ⟨b, z, p', room, n + 2 + 1000 * mm, rfl, hz, hb3.new hl, by omega, by omega, by omega, by omega, h0, h1, fun H4 v2 r2 ok2 pr2 hb4 k4 d4 => ?_⟩
      walk_at "go"
      refine ⟨(by show 3 ≤ sizeLine; decide), fun q hq => ?_⟩
      have s5 := same_new (o := HO.tup [.str o.word, v1, v2]) hq
      refine k _ _ (.n2 o r1 r2) ⟨hok, har, ok1, ok2⟩ (by show r1.parts + r2.parts + 1 = p; omega) ((hb4.mono (by omega)).new hq) (k1.trans (of2.kp.trans (k3.trans ((Same.kp sl).trans (k4.trans (Same.kp s5)))))) ?_
      have kt3 : KT K H3 (upd H4 q (.tup [.str o.word, v1, v2])) := KT.trans (Same.kt sl) (KT.trans (bag_kt (hb3.new hl) k4) (Same.kt s5))
      refine .tup (SqT.of upd_same) (.cons (.str _) ?_)
      rw [how]
      exact .cons (dp_pure kt3 _ _ r1.pure d3) (.cons (dp_pure (Same.kt s5) _ _ r2.pure d4) .nil)
    · by_cases hp3 : p > 2
      refine r_yes (by omega) ?_
      walk_at "go"
      refine r_no (fun q => hc ⟨hp3, q⟩) ?_
      walk_at "go"
      rotate_left
      refine r_no (by omega) ?_
      walk_at "go"
      all_goals
        obtain ⟨p', hp'⟩ : ∃ p' : Nat, (p : Int) - 1 = (p' : Int) := ⟨p - 1, by omega⟩
        rw [hp']
        have e' : p' + 1 = p := by omega
        refine ⟨b, z, p', room, n + 1, rfl, hz, hb1, by omega, by omega, by omega, by omega, h0, h1, fun H2 v1 r1 ok1 pr1 hb2 k2 d2 => ?_⟩
        have k12 := k1.trans k2
        walk_at "go"
        refine r_ite (fun h3 => ?_) (fun h3 => ?_)
        · walk_at "go"
          refine ⟨(by show 2 ≤ sizeLine; decide), fun q hq => ?_⟩
          have s5 := same_new (o := HO.tup [.str "back", v1]) hq
          refine k _ _ (.n1 .back r1) ⟨trivial, rfl, ok1⟩ (by show r1.parts + 1 = p; omega) ((hb2.mono (by omega)).new hq) (k12.trans (Same.kp s5)) ?_
          exact .tup (SqT.of upd_same) (.cons (.str _) (.cons (dp_pure (Same.kt s5) _ _ r1.pure d2) .nil))
        walk_at "go"
        refine r_ite (fun h4 => ?_) (fun h4 => ?_)
        · walk_at "go"
          refine ⟨_, _, n + 1 + 1000 * p', rfl, hb2, by omega, by decide, fun a H3 a0 a1 hb3 of3 => ?_⟩
          walk_at "go"
          refine ⟨_, _, n + 2 + 1000 * p', rfl, hb3.mono (by omega), by omega, by decide, fun c H4 c0 c1 hb4 of4 => ?_⟩
          walk_at "go"
          refine ⟨(by show 4 ≤ sizeLine; decide), fun q hq => ?_⟩
          obtain ⟨a', rfl⟩ : ∃ a' : Nat, a = (a' : Int) := ⟨a.toNat, by omega⟩
          obtain ⟨c', rfl⟩ : ∃ c' : Nat, c = (c' : Int) := ⟨c.toNat, by omega⟩
          have s5 := same_new (o := HO.tup [.str "cut", vi a', vi c', v1]) hq
          have kk : Kp b H2 (upd H4 q (.tup [.str "cut", vi a', vi c', v1])) := of3.kp.trans (of4.kp.trans (Same.kp s5))
          refine k _ _ (.n1 (.cut a' c') r1) ⟨⟨by omega, by omega⟩, rfl, ok1⟩ (by show r1.parts + 1 = p; omega) ((hb4.mono (by omega)).new hq) (k12.trans kk) ?_
          exact .tup (SqT.of upd_same) (.cons (.str _) (.cons (.int _) (.cons (.int _) (.cons (dp_pure (bag_kt hb2 kk) _ _ r1.pure d2) .nil))))
        walk_at "go"
        refine r_ite (fun h5 => ?_) (fun h5 => ?_)
        · walk_at "go"
          refine ⟨(by show 0 ≤ sizeLine; decide), fun L hL => ?_⟩
          have nLb := hb2.ne hL
          have sL := same_new (o := HO.lst []) hL
          refine K1.r_name ?_
          try dsimp only [List.set]
          refine K1.r_seq ?_
          refine K1.r_for ?_
          refine K1.r_iRng1 ?_
          refine K1.r_cons ?_
          refine r_ifJ (fun x Hm => ∃ c : Nat, x = .int c ∧ 1 ≤ c ∧ c ≤ 4 ∧ IsBag Hm b (n + 2 + 1000 * p') ∧ Kp b H2 Hm ∧ Hm L = some (.lst [])) (fun Q' hQ => ?_) ?_
          · walk_at "go"
            refine r_ite (fun h6 => ?_) (fun h6 => ?_)
            · walk_at "go"
              exact hQ _ _ ⟨1, rfl, by decide, by decide, (hb2.new hL).mono (by omega), Same.kp sL, upd_same⟩
            · walk_at "go"
              refine ⟨_, _, n + 1 + 1000 * p', rfl, hb2.new hL, by omega, by decide, fun a H3 a0 a1 hb3 of3 => ?_⟩
              walk_at "go"
              obtain ⟨a', rfl⟩ : ∃ a' : Nat, a = (a' : Int) := ⟨a.toNat, by omega⟩
              refine hQ _ _ ⟨1 + a', ?_, by omega, by omega, hb3.mono (by omega), (Same.kp sL).trans of3.kp, of3.at nLb upd_same⟩
              rw [show (1 : Int) + (a' : Int) = ((1 + a' : Nat) : Int) by omega]
          rintro x Hm ⟨c, rfl, c1, c4, hbm, km, eLm⟩
          walk_at "go"
          refine ⟨by omega, by omega, fr_range (lo := 0) (n := c) (fun i σ H' => ∃ (fs : List Str) (ok : Option V), σ = [some (.ref b), some (.str z), some (vi p), some (.int room), some (.int way), none, none, some v1, some (.ref L), ok, none] ∧
            H' L = some (.lst (fs.map V.str)) ∧ fs.length = i ∧ (∀ f ∈ fs, Face f) ∧ IsBag H' b (n + 2 + 1000 * p' + 12 * i) ∧ Kp b H2 H') ⟨[], none, rfl, eLm, rfl, (fun f h => absurd h (by simp)), hbm, km⟩ ?_ ?_⟩
          · rintro i σ H3 hi ⟨fs, ok, rfl, eL, hfl, hff, hb3, k3⟩
            walk_at "go"
            refine ⟨tyL (SqL.of eL), ?_⟩
            walk_at "go"
            intro D hD
            have nDb := hb3.ne hD
            refine lc_gen walk_sgn (fun _ => rfl) (fun acc H' => ∃ cs : List Nat, acc = (cs.map one).map V.str ∧ (∀ c ∈ cs, c ∈ tl z) ∧ IsBag H' b (n + 2 + 1000 * p' + 12 * i + acc.length) ∧ Kp b H3 H') ⟨[], rfl, (fun x h => absurd h (by simp)), hb3.new hD, Same.kp (same_new hD)⟩ (fun _ _ _ _ => trivial) ?_ ?_
            · rintro j y acc H4 hy hl hacc ⟨cs, rfl, hcs, hb4, k4⟩
              have hjz : j < (tl z).length := by have := (List.getElem?_eq_some_iff.mp hy).1; rw [List.length_map, sgn_len, len_tl] at this; exact this
              rw [hl] at hb4
              walk_at "go"
              refine ⟨b, .str z, _, _, rfl, hb4, by omega, .inl ⟨z, rfl, rfl, by omega⟩, ?_, fun x H5 hx hb5 of5 => ?_⟩
              · intro q
                have := congrArg List.length q
                rw [List.length_map, sgn_len, List.length_nil] at this
                omega
              obtain ⟨ch, hch, rfl⟩ := mem_sgn hx
              have e5 := of5.at nDb hacc
              refine pp_next e5 hl (line_small (by omega)) ⟨cs ++ [ch], ?_, ?_, ?_, ?_⟩
              · rw [List.map_append, List.map_append]; rfl
              · intro x hx
                rcases List.mem_append.mp hx with hx | hx
                · exact hcs x hx
                · simp only [List.mem_cons, List.not_mem_nil, or_false] at hx
                  rw [hx]; exact hch
              · rw [List.length_append, hl]
                exact bag_upd hb5 nDb
              · exact kp_upd' (k4.trans of5.kp) hD
            · rintro acc H4 hl hacc ⟨cs, rfl, hcs, hb4, k4⟩
              rw [List.length_map, List.length_map, List.length_map, sgn_len, len_tl] at hl
              rw [List.length_map, List.length_map, hl] at hb4
              walk_at "go"
              refine ⟨_, D, cs.map one, rfl, rfl, .inl (SqL.of hacc), ?_, ?_⟩
              · have := sum_le (ys := cs.map one) (b := 1) (fun p hp => by obtain ⟨x, hx, rfl⟩ := List.mem_map.mp hp; exact Nat.le_refl 1)
                rw [List.length_map] at this ⊢
                have e : ("" : Str).length = 0 := by decide
                rw [e]
                omega
              walk_at "go"
              have eL4 : H4 L = some (.lst (fs.map V.str)) := k4 _ _ nLb eL
              refine ⟨L, _, _, rfl, rfl, eL4, line_small (by rw [List.length_map]; omega), ?_⟩
              walk_at "go"
              have et : tl (Txt.join ("" : Str) (cs.map one)) = cs := by
                have : Txt.join ("" : Str) (cs.map one) = Str.join "" (cs.map one) := TL.join_eq _ _
                rw [this]
                exact join_ones cs
              refine ⟨fs ++ [Txt.join ("" : Str) (cs.map one)], _, rfl, ?_, by rw [List.length_append, hfl]; rfl, ?_, ?_, ?_⟩
              · rw [upd_same, List.map_append]; rfl
              · intro f hf
                rcases List.mem_append.mp hf with hf | hf
                · exact hff f hf
                · simp only [List.mem_cons, List.not_mem_nil, or_false] at hf
                  rw [hf]
                  exact good_face hz (by rw [et]; exact hl) (by rw [et]; exact hcs)
              · exact bag_upd (hb4.mono (by omega)) nLb
              · exact kp_upd' (k3.trans k4) hL
          · rintro σ H3 ⟨fs, ok, rfl, eL, hfl, hff, hb3, k3⟩
            walk_at "go"
            refine ⟨_, _, rfl, .inl ⟨SqL.of eL, fun t ht => ?_⟩⟩
            walk_at "go"
            refine ⟨(by show 3 ≤ sizeLine; decide), fun q hq => ?_⟩
            have s5 := same_new (o := HO.tup (fs.map V.str)) ht
            have s6 := same_new (o := HO.tup [.str "faces", .ref t, v1]) hq
            refine k _ _ (.n1 (.faces fs) r1) ⟨⟨?_, by omega, hff⟩, rfl, ok1⟩ (by show r1.parts + 1 = p; omega) (((hb3.mono (by omega)).new ht).new hq) (k12.trans (k3.trans ((Same.kp s5).trans (Same.kp s6)))) ?_
            · intro q; rw [q] at hfl; simp at hfl; omega
            have et : (upd H3 t (.tup (fs.map V.str))) t = some (.tup (fs.map V.str)) := upd_same
            refine .tup (SqT.of upd_same) (.cons (.str _) (.cons (.tup (SqT.of (s6 _ _ et)) (dpA_strs.mpr rfl)) (.cons (dp_pure (KT.trans (bag_kt hb2 k3) (KT.trans (Same.kt s5) (Same.kt s6))) _ _ r1.pure d2) .nil)))
        walk_at "go"
        refine ⟨(by show 2 ≤ sizeLine; decide), fun q hq => ?_⟩
        have s5 := same_new (o := HO.tup [.str "not", v1]) hq
        refine k _ _ (.n1 .not r1) ⟨trivial, rfl, ok1⟩ (by show r1.parts + 1 = p; omega) ((hb2.mono (by omega)).new hq) (k12.trans (Same.kp s5)) ?_
        exact .tup (SqT.of upd_same) (.cons (.str _) (.cons (dp_pure (Same.kt s5) _ _ r1.pure d2) .nil))
theorem tx_all {f : Addr} {fd : FuncData} (F : Fun K "_law_text_rule" "_law_text_rule" sLTextRule f fd) (B : Bl mg) (Op : OPick P w K mg base) (Oo : OOneOf P w K mg base) (Olf : OLeaf P w K mg base)
    (m : mg "_law_text_rule" = some (.ref f)) (b : Binds K fd ["_law_bag", "_law_signs", "_law_parts", "_law_room"] []) : ∀ n : Nat, OTextRule n P w K mg base
  | 0 => ⟨f, fd, none_ok fun vs H Q E h => by obtain ⟨_, _, _, _, _, _, _, _, _, _, h, _⟩ := h; omega, m, F.kp, b⟩
  | n + 1 => ⟨f, fd, ok_textRule F B Op Oo Olf (tx_all F B Op Oo Olf m b n), m, F.kp, b⟩
end
end K4

/-! L4e -/


namespace K4
open PySem L2 K1
abbrev sLWritten : Stmt := top 57
abbrev nLWritten : List Str := ["_law_rule", "_law_text", "_law_listed", "_law_told", "_law_each"]
theorem scLWritten : FnScope nLWritten ["_law_rule"] (defScope sLWritten) := ⟨rfl, rfl, rfl, by decide +kernel, rfl, by decide +kernel, by decide +kernel⟩
abbrev sLEnds : Stmt := top 58
abbrev nLEnds : List Str := ["_law_rule", "_law_k", "_law_inner", "_law_outer"]
theorem scLEnds : FnScope nLEnds ["_law_rule"] (defScope sLEnds) := ⟨rfl, rfl, rfl, by decide +kernel, rfl, by decide +kernel, by decide +kernel⟩
def spWritten (K : PySem.W.Frag) : Sp := fun vs H Q _ => ∃ (v : V) (r : R), vs = [v] ∧ Dp K H v (r.data true) ∧ r.ok ∧ r.parts ≤ 40 ∧ ∀ H', Same H H' → Q (.bl true) H'
theorem last_in {r : R} (h : r.ok) (k : ¬ ar r.ow.kind = 0) : ∃ i ∈ r.inner, (∃ pre, r.words = r.ow.word :: pre ++ i.words) ∧ ∀ (K : PySem.W.Frag) (H : Hp) (v : V), Dp K H v (r.data true) → ∃ xs u, Sq K H v xs ∧ xs[xs.length - 1]? = some u ∧ xs[0]? = some (.str r.ow.word) ∧ 1 ≤ xs.length ∧ Dp K H u (i.data true) := by
  cases r with
  | n0 o => exact absurd h.2 k
  | n1 o a =>
    refine ⟨a, by simp [R.inner], ⟨o.words, rfl⟩, fun K H v hv => ?_⟩
    obtain ⟨xs, h1, h2⟩ := dp_sq (show Dp K H v (sq true _) from hv)
    cases h2 with
    | cons p q =>
      cases p
      obtain ⟨ys, zs, rfl, p1, q1⟩ := dpA_split q
      cases q1 with
      | cons q1 q2 =>
        cases q2
        exact ⟨_, _, h1, by simp, rfl, by simp, q1⟩
  | n2 o a b =>
    refine ⟨b, by simp [R.inner], ⟨o.words ++ a.words, by simp [R.words, R.ow]⟩, fun K H v hv => ?_⟩
    obtain ⟨xs, h1, h2⟩ := dp_sq (show Dp K H v (sq true _) from hv)
    cases h2 with
    | cons p q =>
      cases p
      obtain ⟨ys, zs, rfl, p1, q1⟩ := dpA_split q
      cases q1 with
      | cons q1 q2 =>
        cases q2 with
        | cons q2 q3 =>
          cases q3
          refine ⟨_, _, h1, ?_, rfl, by simp, q2⟩
          rw [List.length_cons, List.length_append]
          simp
theorem app_tl (x y : Str) : tl (x ++ y) = tl x ++ tl y := app_cps x y
section
variable {P : Program} {w : World} {K : PySem.W.Frag} {mg : Str → Option Value} {base : Heap} {dO dI : Addr}
abbrev OWR (P : Program) (w : World) (K : PySem.W.Frag) (mg : Str → Option Value) (base : Heap) : Prop := Own P w K mg base "write_rule" 45 ["rule"] (spWR K)
abbrev OSame (P : Program) (w : World) (K : PySem.W.Frag) (mg : Str → Option Value) (base : Heap) : Prop := Own P w K mg base "_law_same_tuple" 46 ["_law_told", "_law_wanted"] (spSame K)
abbrev ORead (P : Program) (w : World) (K : PySem.W.Frag) (mg : Str → Option Value) (base : Heap) : Prop := Own P w K mg base "read_rule" 48 ["text"] (spReadRule K)
theorem words_join {r : R} (h : r.ok) (k : r.parts ≤ 100) : (r.words.map (·.length)).sum + r.words.length * (" " : Str).length ≤ 16777216 := by
  have := sum_le (ys := r.words) (b := 2500) (fun p hp => (R.words_ok h p hp).2)
  have wb := words_bound k
  have e : (" " : Str).length = 1 := by rw [len_tl, tl_SP]; rfl
  rw [e]
  omega
theorem ok_written {f : Addr} {fd : FuncData} (F : Fun K "_law_written" "_law_written" sLWritten f fd) (B : Bl mg) (Olr : OLR 42 P w K mg base) (Oll : OLL 45 P w K mg base) (Owr : OWR P w K mg base) (Osm : OSame P w K mg base) (Ord : ORead P w K mg base) :
    FnOk P w K mg base CX0 49 f fd ["_law_rule"] (spWritten K) := by
  refine F.ok scLWritten (fun vs H Q E h => ?_) (fun cdv A outer s H vs Q E hr h => ?_)
  · obtain ⟨v, r, rfl, _⟩ := h
    rfl
  · obtain ⟨v, r, rfl, hv, hok, h40, k⟩ := h
    have hdp := r.depth_le
    have hfl := (R.flat true hok).2
    have hRA : RAt K H v r := RAt.of hv
    refine ⟨_, (pss_cons (ps_set (i := 1) scLWritten.nd rfl (Or.inr rfl) (pe_m1 PySem.F.slot_str_join PySem.F.type_str_join mt_join pe_str (pe_own Olr (hr.mono (by omega)) (pa_cons (pv 0) pa_nil)))) (pss_cons (ps_set (i := 2) scLWritten.nd rfl (Or.inl rfl) (pe_own Oll (hr.mono (by omega)) (pa_cons (pv 0) pa_nil))) (pss_cons (ps_set (i := 3) scLWritten.nd rfl (Or.inl rfl) (pe_lst (pa_cons (pe_own Owr (hr.mono (by omega)) (pa_cons (pv 0) pa_nil)) (pa_cons (pe_own Owr (hr.mono (by omega)) (pa_cons (pv 2) pa_nil)) (pa_cons (pe_own Owr (hr.mono (by omega)) (pa_cons (pv 0) pa_nil)) pa_nil))))) (pss_cons (ps_if (PW.pt (pw_or (pt_not (pt_val (pe_callB (cr_all rfl) (by rfl) B.all (by decide +kernel) (pa_cons (pe_lc (own := [("_law_each", 4)]) (g := gName 4) (tt := tYes) rfl scLWritten.nd (pi_list (pv 3)) (blkOk_by (N := nLWritten) (sc := defScope sLWritten) (by decide +kernel)) (fun _ _ _ _ _ => (pg_name (i := 4) scLWritten.nd rfl (Or.inl rfl))) (fun _ _ _ _ _ => pts_nil) (fun _ _ _ _ _ => (pe_and (pe_callB (id := "isinstance") (r := rIsi K) call_isi (by rfl) B.isin (by decide +kernel) (pa_cons (pv 4) (pa_cons (pe_bltn (v := .ty "str") (by rfl) B.str (by decide +kernel) rfl) pa_nil))) (pe_one (pe_cmpR op_eq (pv 4) (pv 1) (nomark _)))))) pa_nil)))) (pw_or1 (pt_cmpR (op_neD hr.units) (pv 2) (pe_own Oll (hr.mono (by omega)) (pa_cons (pv 0) pa_nil)) (nomark _))))) (pss_one (ps_ret pe_bl)) pss_nil) (pss_one (ps_ret (pe_and (pe_own Osm (hr.mono (by omega)) (pa_cons (pe_own Ord hr (pa_cons (pv 1) pa_nil)) (pa_cons (pv 0) pa_nil))) (pe_one (pe_own Osm (hr.mono (by omega)) (pa_cons (pe_own Ord hr (pa_cons (pe_ix ix_list (pv 3) pe_int (fun _ _ => rfl)) pa_nil)) (pa_cons (pv 0) pa_nil))))))))))), ?_⟩
    try dsimp only [cxOf, Cx.nox, Cx.wish]
    walk_at "go"
    refine ⟨v, r, rfl, hRA, hok, by omega, by omega, fun H1 p1 s1 _ e1 => ?_⟩
    walk_at "go"
    refine ⟨_, p1, r.words, rfl, rfl, .inl (SqL.of e1), words_join hok (by omega), ?_⟩
    walk_at "go"
    refine ⟨v, _, rfl, dp_keep (Same.keeps s1) _ _ hv, r.pure, R.wide hok, by omega, fun H2 vl s2 d2 => ?_⟩
    rw [R.lst] at d2
    have d2' := dp_keep (Same.keeps (New.same (H := H1) (H' := H2))) _ _ d2
    have s12 := s1.trans s2
    walk_at "go"
    refine ⟨v, r, rfl, hRA.keep (Same.keeps s12), hok, by omega, by omega, fun H3 s3 => ?_⟩
    walk_at "go"
    have hRL : RAt K H3 vl r := RAt.of (dp_keep (Same.keeps s3) _ _ d2')
    refine ⟨vl, r, rfl, hRL, hok, by omega, by omega, fun H4 s4 => ?_⟩
    walk_at "go"
    have s14 := s12.trans (s3.trans s4)
    refine ⟨v, r, rfl, hRA.keep (Same.keeps s14), hok, by omega, by omega, fun H5 s5 => ?_⟩
    walk_at "go"
    refine ⟨(by show 3 ≤ sizeLine; decide), fun L hL => ?_⟩
    have s6 := same_new (o := HO.lst [V.str r.text, V.str r.text, V.str r.text]) hL
    walk_at "go"
    refine ⟨⟨_, SqL.of upd_same⟩, fun D hD => ?_⟩
    have eL : (upd H5 L (.lst [V.str r.text, V.str r.text, V.str r.text])) L = some (.lst [V.str r.text, V.str r.text, V.str r.text]) := upd_same
    generalize (upd H5 L (.lst [V.str r.text, V.str r.text, V.str r.text])) = H6 at *
    refine lc_gen (walk_list (K := K) (a := L) (xs := [V.str r.text, V.str r.text, V.str r.text])) (fun _ => rfl) (fun acc H' => acc = (List.replicate acc.length true).map V.bl ∧ Same H6 H') ⟨rfl, same_new hD⟩ (fun acc H' _ q => SqL.of (q.2 _ _ eL)) ?_ ?_
    · rintro i x acc H' hx hl hacc ⟨ha, sm⟩
      have hi : i < 3 := (List.getElem?_eq_some_iff.mp hx).1
      obtain rfl : x = V.str r.text := by
        have := List.mem_of_getElem? hx
        simp only [List.mem_cons, List.not_mem_nil, or_false] at this
        rcases this with h | h | h <;> exact h
      walk_at "go"
      refine r_isi (b := true) (.ty "str") (.base (.str _)) (kit_ty (by decide +kernel)) ?_
      walk_at "go"
      have et : Txt.join " " r.words = r.text := rfl
      rw [et, decide_eq_true rfl]
      refine pp_next hacc hl (line60 (by omega)) ⟨?_, same_upd sm hD⟩
      rw [List.length_append]
      show acc ++ [V.bl true] = (List.replicate (acc.length + 1) true).map V.bl
      rw [List.replicate_succ', List.map_append, ← ha]
      rfl
    · rintro acc H7 hl hacc ⟨ha, sm7⟩
      walk_at "go"
      rw [ha] at hacc
      refine r_all (SqL.of hacc) ?_
      have e : (List.replicate acc.length true).all id = true := List.all_eq_true.mpr fun b hb => by rw [(List.mem_replicate.mp hb).2]; rfl
      rw [e]
      walk_at "go"
      have s47 : Same H4 H7 := s5.trans (s6.trans sm7)
      have s17 := s14.trans s47
      refine ⟨v, _, rfl, dp_keep (Same.keeps s17) _ _ hv, r.pure, R.wide hok, by omega, fun H8 vl2 s8 d8 => ?_⟩
      rw [R.lst] at d8
      have d8' := dp_keep (Same.keeps (New.same (H := H7) (H' := H8))) _ _ d8
      have dl8 : Dp K H8 vl (r.data false) := dp_keep (Same.keeps (s3.trans (s4.trans (s47.trans s8)))) _ _ d2'
      refine ⟨_, _, dl8, d8', R.shaped false hok (by omega), R.shaped false hok (by omega), ?_⟩
      rw [R.refl false hok]
      walk_at "go"
      have s18 := s17.trans s8
      refine ⟨hok, h40, fun H9 t s9 d9 => ?_⟩
      walk_at "go"
      refine ⟨.ref t, v, r, rfl, d9, dp_keep (Same.keeps (s18.trans s9)) _ _ hv, hok, h40, fun H10 s10 => ?_⟩
      walk_at "go"
      have eL10 : H10 L = some (.lst [V.str r.text, V.str r.text, V.str r.text]) := (s8.trans (s9.trans s10)) _ _ (sm7 _ _ eL)
      refine r_ixL (SqL.of eL10) (at_n 1 rfl) ?_
      walk_at "go"
      refine ⟨hok, h40, fun H11 t2 s11 d11 => ?_⟩
      walk_at "go"
      have s111 := s18.trans (s9.trans (s10.trans s11))
      exact ⟨.ref t2, v, r, rfl, d11, dp_keep (Same.keeps s111) _ _ hv, hok, h40, fun H12 s12 => k H12 (s111.trans s12)⟩
theorem ok_ends {f : Addr} {fd : FuncData} (F : Fun K "_law_ends" "_law_ends" sLEnds f fd) (B : Bl mg) (Olr : OLR 42 P w K mg base) (Owr : OWR P w K mg base) : FnOk P w K mg base CX0 46 f fd ["_law_rule"] (spWritten K) := by
  refine F.ok scLEnds (fun vs H Q E h => ?_) (fun cdv A outer s H vs Q E hr h => ?_)
  · obtain ⟨v, r, rfl, _⟩ := h
    rfl
  · obtain ⟨v, r, rfl, hv, hok, h40, k⟩ := h
    refine ⟨_, (pss_cons (ps_for PassesOwn.never rfl (pi_range1 rfl B.range (pa_cons pe_int pa_nil)) (pg_name (i := 1) scLEnds.nd rfl (Or.inl rfl)) (pss_cons (ps_if (pt_cmpR op_in_seq (pe_ix ix_seq (pv 0) pe_int (fun _ _ => rfl)) (pe_tup (pa_cons pe_str (pa_cons pe_str (pa_cons pe_str pa_nil)))) (by rfl)) (pss_one (ps_ret (pe_cmpR op_eq (pe_own Owr hr (pa_cons (pv 0) pa_nil)) (pe_m1 PySem.F.slot_str_join PySem.F.type_str_join mt_join pe_str (pe_own Olr (hr.mono (by omega)) (pa_cons (pv 0) pa_nil))) (nomark _)))) pss_nil) (pss_cons (ps_set (i := 2) scLEnds.nd rfl (Or.inl rfl) (pe_ix ix_seq (pv 0) (pe_op op_sub (pe_callB call_len (by rfl) B.len PySem.boot_len (pa_cons (pv 0) pa_nil)) pe_int) (fun _ _ => rfl))) (pss_cons (ps_set (i := 3) scLEnds.nd rfl (Or.inl rfl) (pe_own Owr hr (pa_cons (pv 0) pa_nil))) (pss_cons (ps_if (PW.pt (pw_or (pt_not (pt_val (pe_m1 PySem.F.slot_str_endswith PySem.F.type_str_endswith mt_endswith (pv 3) (pe_op op_add_str pe_str (pe_own Owr hr (pa_cons (pv 2) pa_nil)))))) (pw_or1 (pt_not (pt_val (pe_m1 PySem.F.slot_str_startswith PySem.F.type_str_startswith mt_startswith (pv 3) (pe_op op_add_str (pe_ix ix_seq (pv 0) pe_int (fun _ _ => rfl)) pe_str))))))) (pss_one (ps_ret pe_bl)) pss_nil) (pss_one (ps_set (i := 0) scLEnds.nd rfl (Or.inl rfl) (pv 2)))))))) (pss_one (ps_ret pe_bl))), ?_⟩
    try dsimp only [cxOf, Cx.nox, Cx.wish]
    walk_at "go"
    refine ⟨by omega, by omega, fr_range (lo := 0) (n := 40) (fun i σ H' => ∃ (u : V) (r : R) (o1 o2 o3 : Option V), σ = [some u, o1, o2, o3] ∧ Dp K H' u (r.data true) ∧ r.ok ∧ r.parts ≤ 40 ∧ Same H H') ⟨v, r, none, none, none, rfl, hv, hok, h40, Same.refl _⟩ ?_ ?_⟩
    · rintro i σ H1 hi ⟨u, r, o1, o2, o3, rfl, hu, hok, h40, sm⟩
      have hdp := r.depth_le
      have hRA : RAt K H1 u r := RAt.of hu
      obtain ⟨xs, is, hS, hO, hI⟩ := hRA.open
      walk_at "go"
      refine r_ixSq hS at0 ?_
      walk_at "go"
      refine ⟨(by show 3 ≤ sizeLine; decide), fun pt hpt => ?_⟩
      have s0 := same_new (o := HO.tup [V.str "sum", V.str "square", V.str "any"]) hpt
      walk_at "go"
      refine ⟨pt, _, rfl, .inr (SqT.of upd_same), rfl, rfl, ?_⟩
      have hk9 := r.ow.kind_lt
      by_cases har : ar r.ow.kind = 0
      · have hin : inV (V.str r.ow.word) [V.str "sum", V.str "square", V.str "any"] = true := by
          show inV (V.str (wd r.ow.kind)) _ = true
          have : ∀ k < 9, ar k = 0 → inV (V.str (wd k)) [V.str "sum", V.str "square", V.str "any"] = true := by decide +kernel
          exact this _ hk9 har
        rw [hin]
        walk_at "go"
        refine ⟨u, r, rfl, hRA.keep (Same.keeps s0), hok, by omega, by omega, fun H2 s2 => ?_⟩
        walk_at "go"
        have s02 := s0.trans s2
        refine ⟨u, r, rfl, hRA.keep (Same.keeps s02), hok, by omega, by omega, fun H3 p3 s3 _ e3 => ?_⟩
        walk_at "go"
        refine ⟨_, p3, r.words, rfl, rfl, .inl (SqL.of e3), words_join hok (by omega), ?_⟩
        walk_at "go"
        have et : Txt.join " " r.words = r.text := rfl
        rw [et, decide_eq_true rfl]
        exact k _ (sm.trans (s02.trans s3))
      · have hin : inV (V.str r.ow.word) [V.str "sum", V.str "square", V.str "any"] = false := by
          show inV (V.str (wd r.ow.kind)) _ = false
          have : ∀ k < 9, ¬ ar k = 0 → inV (V.str (wd k)) [V.str "sum", V.str "square", V.str "any"] = false := by decide +kernel
          exact this _ hk9 har
        rw [hin]
        walk_at "go"
        obtain ⟨li, hli, ⟨pre, hpre⟩, hlast⟩ := last_in hok har
        obtain ⟨ys, iv, hSy, hyl, hy0, hy1, hiv⟩ := hlast K H1 u hu
        have lok := R.ok_in hok li hli
        have lpt : li.parts ≤ 40 := Nat.le_trans (part_le hli) h40
        have ldp := li.depth_le
        refine ⟨_, _, rfl, (hSy.same s0).len, ?_⟩
        walk_at "go"
        refine r_ixSq (hSy.same s0) (y := iv) ?_ ?_
        · rw [show ((ys.length : Int) - 1) = ((ys.length - 1 : Nat) : Int) by omega]
          exact at_n _ hyl
        walk_at "go"
        refine ⟨u, r, rfl, hRA.keep (Same.keeps s0), hok, by omega, by omega, fun H2 s2 => ?_⟩
        have s02 := s0.trans s2
        have hiv2 := dp_keep (Same.keeps s02) _ _ hiv
        walk_at "go"
        refine ⟨iv, li, rfl, RAt.of hiv2, lok, by omega, by omega, fun H3 s3 => ?_⟩
        walk_at "go"
        have lt1 := R.text_len hok
        have lt2 := R.text_len lok
        have wl := wd_ok r.ow.kind r.ow.kind_lt
        refine ⟨_, _, rfl, rfl, ?_, ?_⟩
        · rw [len_tl, len_tl, tl_SP, sizeLine_eq]
          simp only [List.length_cons, List.length_nil]
          omega
        walk_at "go"
        refine ⟨_, _, rfl, rfl, ?_⟩
        have hne : li.words ≠ [] := li.words_ne
        have eE : Txt.endswith r.text (" " ++ li.text) = true := by
          refine ends_app _ _ (Txt.join SP (r.ow.word :: pre)) ?_
          rw [app_tl, R.text, hpre, join_app (by simp) hne]
          rfl
        rw [eE]
        walk_at "go"
        refine r_ixSq (hS.same (s02.trans s3)) at0 ?_
        walk_at "go"
        refine ⟨_, _, rfl, rfl, ?_, ?_⟩
        · rw [len_tl, len_tl, tl_SP, sizeLine_eq]
          simp only [List.length_cons, List.length_nil]
          have wl2 : (tl r.ow.word).length ≤ 6 := wl.2.1
          omega
        walk_at "go"
        refine ⟨_, _, rfl, rfl, ?_⟩
        have eS : Txt.startswith r.text (r.ow.word ++ " ") = true := by
          refine (starts_app _ _).mpr ⟨tl (Txt.join SP (pre ++ li.words)), ?_⟩
          have e1 : r.words = [r.ow.word] ++ (pre ++ li.words) := by rw [hpre]; rfl
          rw [app_tl, R.text, e1, join_app (by simp) (by simp [hne]), List.append_assoc]
          rfl
        rw [eS]
        walk_at "go"
        refine ⟨_, li, _, _, _, rfl, dp_keep (Same.keeps s3) _ _ hiv2, lok, lpt, sm.trans (s02.trans s3)⟩
    · rintro σ H1 ⟨u, r, o1, o2, o3, rfl, hu, hok, h40, sm⟩
      walk_at "go"
      exact k H1 sm
end
end K4

/-! L4f -/


namespace K4
open PySem L2 K1
abbrev sLLaw : Stmt := top 59
abbrev nLLaw : List Str := ["_law_script", "_law_bag", "_law_signs", "_law_rules", "_law_many", "_law_k", "_law_parts", "_law_first", "_law_second", "_law_word"]
theorem scLLaw : FnScope nLLaw ["_law_script"] (defScope sLLaw) := ⟨rfl, rfl, rfl, by decide +kernel, rfl, by decide +kernel, by decide +kernel⟩
def spLaw (K : PySem.W.Frag) : Sp := fun vs H Q _ => ∃ (a : Addr) (ns : List Int), vs = [.ref a] ∧ SqL K H a (ns.map V.int) ∧ ns.length ≤ 63 ∧ ∀ H', Q (.bl true) H'
theorem text_two {o : Ow} {r s : R} (how : o.words = []) : (R.n2 o r s).text = Txt.join SP [o.word, r.text, s.text] := by
  refine str_ext ?_
  have e : (R.n2 o r s).words = [o.word] ++ (r.words ++ s.words) := by simp [R.words, how]
  rw [R.text, e, join_app (by simp) (by simp [r.words_ne]), join_app r.words_ne s.words_ne, tl_joinL SP [o.word, r.text, s.text]]
  rfl
theorem same_text {r s : R} (hr : r.ok) (hs : s.ok) : decide (V.bl (decide (V.str r.text = V.str s.text)) = V.bl (PyData.eqv (r.data true) (s.data true))) = true := by
  refine decide_eq_true ?_
  by_cases e : r = s
  · subst e
    rw [R.refl true hr, decide_eq_true rfl]
  · rw [decide_eq_false (fun q => e (R.text_inj hr hs (V.str.inj q)))]
    cases h : PyData.eqv (r.data true) (s.data true) with
    | false => rfl
    | true => exact absurd (R.data_inj hr hs (eqv_pure _ _ r.pure h s.pure)) e
theorem r_ifsJ {c : TT} {u w : TS} {σ : L2.St} {H : Hp} {nx : L2.St → Hp → Prop} {rt : VK} {bk ct : L2.St → Hp → Prop} (A : L2.St → Hp → Prop)
    (q : ∀ nx' : L2.St → Hp → Prop, (∀ σ H, A σ H → nx' σ H) → tIfS c u w ⟨nx', rt, bk, ct⟩ σ H) (key : ∀ σ H, A σ H → nx σ H) : tIfS c u w ⟨nx, rt, bk, ct⟩ σ H := q nx key
theorem fdiv_600 {p : Nat} (h : 1 ≤ p) : 0 ≤ (600 : Int).fdiv (p : Int) ∧ (600 : Int).fdiv (p : Int) ≤ 600 := by
  rw [Int.fdiv_eq_ediv_of_nonneg _ (by omega)]
  exact ⟨Int.ediv_nonneg (by decide) (by omega), Int.ediv_le_self _ (by decide)⟩
section
variable {P : Program} {w : World} {K : PySem.W.Frag} {mg : Str → Option Value} {base : Heap} {dO dI : Addr}
abbrev OBagOf (P : Program) (w : World) (K : PySem.W.Frag) (mg : Str → Option Value) (base : Heap) : Prop := Own P w K mg base "_law_bag_of" 1 ["_law_script", "_law_at"] (spBagOf K)
abbrev OMany (P : Program) (w : World) (K : PySem.W.Frag) (mg : Str → Option Value) (base : Heap) : Prop := Own P w K mg base "_law_many_signs" 3 ["_law_bag"] spMany
abbrev OWritten (P : Program) (w : World) (K : PySem.W.Frag) (mg : Str → Option Value) (base : Heap) : Prop := Own P w K mg base "_law_written" 49 ["_law_rule"] (spWritten K)
abbrev OEnds (P : Program) (w : World) (K : PySem.W.Frag) (mg : Str → Option Value) (base : Heap) : Prop := Own P w K mg base "_law_ends" 46 ["_law_rule"] (spWritten K)
theorem ok_law {f : Addr} {fd : FuncData} (F : Fun K "law" "law" sLLaw f fd) (B : Bl mg) (Ob : OBagOf P w K mg base) (Om : OMany P w K mg base) (Op : OPick P w K mg base) (Otx : OTextRule 41 P w K mg base)
    (Owt : OWritten P w K mg base) (Oen : OEnds P w K mg base) (Owr : OWR P w K mg base) (Oll : OLL 45 P w K mg base) : FnOk P w K mg base CX0 50 f fd ["_law_script"] (spLaw K) := by
  refine F.ok scLLaw (fun vs H Q E h => ?_) (fun cdv A outer s H vs Q E hr h => ?_)
  · obtain ⟨a, ns, rfl, _⟩ := h
    rfl
  · obtain ⟨a, ns, rfl, hS, hlen, k⟩ := h
    refine ⟨_, (pss_cons (ps_set (i := 1) scLLaw.nd rfl (Or.inl rfl) (pe_own Ob (hr.mono (by omega)) (pa_cons (pv 0) (pa_cons pe_int pa_nil)))) (pss_cons (ps_set (i := 2) scLLaw.nd rfl (Or.inl rfl) (pe_own Om (hr.mono (by omega)) (pa_cons (pv 1) pa_nil))) (pss_cons (ps_set (i := 3) scLLaw.nd rfl (Or.inl rfl) (pe_lst pa_nil)) (pss_cons (ps_set (i := 4) scLLaw.nd rfl (Or.inl rfl) pe_int) (pss_cons (ps_for PassesOwn.never rfl (pi_range1 rfl B.range (pa_cons pe_int pa_nil)) (pg_name (i := 5) scLLaw.nd rfl (Or.inl rfl)) (pss_cons (ps_set (i := 1) scLLaw.nd rfl (Or.inl rfl) (pe_own Ob (hr.mono (by omega)) (pa_cons (pv 0) (pa_cons (pe_op op_add pe_int (pv 5)) pa_nil)))) (pss_cons (ps_set (i := 6) scLLaw.nd rfl (Or.inl rfl) (pe_ix ix_list (pe_lst (pa_cons pe_int (pa_cons pe_int (pa_cons pe_int (pa_cons pe_int (pa_cons pe_int (pa_cons pe_int (pa_cons pe_int (pa_cons pe_int pa_nil))))))))) (pe_own Op (hr.mono (by omega)) (pa_cons (pv 1) (pa_cons pe_int pa_nil))) (fun _ _ => rfl))) (pss_cons (ps_if (pt_cmpR op_eq (pe_own Op (hr.mono (by omega)) (pa_cons (pv 1) (pa_cons pe_int pa_nil))) pe_int (nomark _)) (pss_one (ps_set (i := 6) scLLaw.nd rfl (Or.inl rfl) (pe_op op_add pe_int (pe_own Op (hr.mono (by omega)) (pa_cons (pv 1) (pa_cons pe_int pa_nil)))))) pss_nil) (pss_cons (ps_set (i := 4) scLLaw.nd rfl (Or.inl rfl) (pe_op op_add (pv 4) (pv 6))) (pss_one (ps_expr (pe_bm PySem.F.plainAttrs_list PySem.F.slot_list_append PySem.F.type_list_append mt_append (pv 3) (pa_cons (pe_own Otx (hr.mono (by omega)) (pa_cons (pv 1) (pa_cons (pv 2) (pa_cons (pv 6) (pa_cons (pe_op op_add pe_int (pe_op op_fdivN pe_int (pv 6))) pa_nil))))) pa_nil))))))))) (pss_cons (ps_if (PW.pt (pw_or (pt_not (pt_val (pe_own Owt hr (pa_cons (pe_ix ix_list (pv 3) pe_int (fun _ _ => rfl)) pa_nil)))) (pw_or (pt_not (pt_val (pe_own Owt hr (pa_cons (pe_ix ix_list (pv 3) pe_int (fun _ _ => rfl)) pa_nil)))) (pw_or1 (pt_not (pt_val (pe_own Oen (hr.mono (by omega)) (pa_cons (pe_ix ix_list (pv 3) pe_int (fun _ _ => rfl)) pa_nil)))))))) (pss_one (ps_ret pe_bl)) pss_nil) (pss_cons (ps_set (i := 7) scLLaw.nd rfl (Or.inl rfl) (pe_own Owr (hr.mono (by omega)) (pa_cons (pe_ix ix_list (pv 3) pe_int (fun _ _ => rfl)) pa_nil))) (pss_cons (ps_set (i := 8) scLLaw.nd rfl (Or.inl rfl) (pe_own Owr (hr.mono (by omega)) (pa_cons (pe_ix ix_list (pv 3) pe_int (fun _ _ => rfl)) pa_nil))) (pss_cons (ps_set (i := 9) scLLaw.nd rfl (Or.inl rfl) (pe_ix ix_list (pe_lst (pa_cons pe_str (pa_cons pe_str pa_nil))) (pe_own Op (hr.mono (by omega)) (pa_cons (pv 1) (pa_cons pe_int pa_nil))) (fun _ _ => rfl))) (pss_cons (ps_if (PW.pt (pw_and (pt_cmpR op_le (pv 4) pe_int (nomark _)) (pw_and1 (pt_cmpR op_ne (pe_own Owr (hr.mono (by omega)) (pa_cons (pe_lst (pa_cons (pv 9) (pa_cons (pe_ix ix_list (pv 3) pe_int (fun _ _ => rfl)) (pa_cons (pe_own Oll (hr.mono (by omega)) (pa_cons (pe_ix ix_list (pv 3) pe_int (fun _ _ => rfl)) pa_nil)) pa_nil)))) pa_nil)) (pe_m1 PySem.F.slot_str_join PySem.F.type_str_join mt_join pe_str (pe_lst (pa_cons (pv 9) (pa_cons (pv 7) (pa_cons (pv 8) pa_nil))))) (nomark _))))) (pss_one (ps_ret pe_bl)) pss_nil) (pss_one (ps_ret (pe_and (pe_own Owt hr (pa_cons (pe_ix ix_list (pv 3) pe_int (fun _ _ => rfl)) pa_nil)) (pe_one (pe_cmpR op_eq (pe_cmpR op_eq (pv 7) (pv 8) (nomark _)) (pe_cmpR (op_eqD hr.units) (pe_ix ix_list (pv 3) pe_int (fun _ _ => rfl)) (pe_ix ix_list (pv 3) pe_int (fun _ _ => rfl)) (nomark _)) (nomark _)))))))))))))))), ?_⟩
    try dsimp only [cxOf, Cx.nox, Cx.wish]
    walk_at "go"
    refine ⟨a, ns, 0, rfl, hS, hlen, Int.le_refl 0, by decide, fun H1 b0 s1 hb0 hb1 => ?_⟩
    walk_at "go"
    refine ⟨b0, 0, rfl, hb1, by decide, fun z H2 hz hb2 k2 => ?_⟩
    have sm2 : Same H H2 := fun c o e => k2 c o (ne_of_none e hb0) (s1 _ _ e)
    walk_at "go"
    refine ⟨(by show 0 ≤ sizeLine; decide), fun L hL => ?_⟩
    have nLb := hb2.ne hL
    have hLH : H L = none := sm2.free hL
    walk_at "go"
    refine ⟨by decide, by decide, fr_range (lo := 0) (n := 2) (fun i σ H' => ∃ (bg : Addr) (nb : Nat) (rs : List R) (vs : List V) (mv : Int) (o5 o6 : Option V), σ = [some (.ref a), some (.ref bg), some (.str z), some (.ref L), some (.int mv), o5, o6, none, none, none] ∧
      Same H H' ∧ IsBag H' bg nb ∧ nb ≤ 2 ^ 39 ∧ H' L = some (.lst vs) ∧ DpAll K H' vs (rs.map (R.data true)) ∧ rs.length = i ∧ (∀ r ∈ rs, R.ok r ∧ r.parts ≤ 40) ∧ mv = ((1 + (rs.map R.parts).sum : Nat) : Int))
      ⟨b0, 40, [], [], 1, none, none, rfl, sm2.trans (same_new hL), hb2.new hL, by decide, upd_same, .nil, rfl, (fun r h => absurd h (by simp)), rfl⟩ ?_ ?_⟩
    · rintro i σ H3 hi ⟨bg, nb, rs, vs, mv, o5, o6, rfl, sm, hbg, hnb, eL, hd, hrl, hrs, hmv⟩
      walk_at "go"
      refine ⟨a, ns, _, rfl, sm.seq hS, hlen, by omega, by omega, fun H4 pb s4 hpb hb4 => ?_⟩
      have hpbH : H pb = none := sm.free hpb
      have nLp : L ≠ pb := ne_of_none eL hpb
      walk_at "go"
      refine ⟨(by show 8 ≤ sizeLine; decide), fun l hl => ?_⟩
      have nlb := hb4.ne hl
      have sl := same_new (o := HO.lst [V.int 1, V.int 1, V.int 2, V.int 3, V.int 4, V.int 6, V.int 12, V.int 40]) hl
      walk_at "go"
      refine ⟨_, _, 0, rfl, hb4.new hl, by decide, by decide, fun r0 H5 r00 r01 hb5 of5 => ?_⟩
      obtain ⟨v0, ev0, hv0, _⟩ := at_nat' (xs := [V.int 1, V.int 1, V.int 2, V.int 3, V.int 4, V.int 6, V.int 12, V.int 40]) r00 (by show r0 < 8; omega)
      obtain ⟨p0, rfl, p01, p02⟩ : ∃ p : Nat, v0 = vi p ∧ 1 ≤ p ∧ p ≤ 40 := by
        simp only [List.mem_cons, List.not_mem_nil, or_false] at hv0
        rcases hv0 with rfl | rfl | rfl | rfl | rfl | rfl | rfl | rfl
        · exact ⟨1, rfl, by decide, by decide⟩
        · exact ⟨1, rfl, by decide, by decide⟩
        · exact ⟨2, rfl, by decide, by decide⟩
        · exact ⟨3, rfl, by decide, by decide⟩
        · exact ⟨4, rfl, by decide, by decide⟩
        · exact ⟨6, rfl, by decide, by decide⟩
        · exact ⟨12, rfl, by decide, by decide⟩
        · exact ⟨40, rfl, by decide, by decide⟩
      have k45 : Kp pb H4 H5 := (Same.kp sl).trans of5.kp
      refine r_ixL (SqL.of (of5.at nlb upd_same)) ev0 ?_
      refine K1.r_name ?_
      try dsimp only [List.set]
      refine K1.r_seq ?_
      refine r_ifsJ (fun σ Hm => ∃ p : Nat, σ = [some (.ref a), some (.ref pb), some (.str z), some (.ref L), some (.int mv), some (.int (0 + i)), some (vi p), none, none, none] ∧ 1 ≤ p ∧ p ≤ 40 ∧ IsBag Hm pb 3 ∧ Kp pb H4 Hm) (fun nx' hnx => ?_) ?_
      · walk_at "go"
        refine ⟨_, _, 1, rfl, hb5, by decide, by decide, fun r1 H6 r10 r11 hb6 of6 => ?_⟩
        walk_at "go"
        refine r_ite (fun h0 => ?_) (fun h0 => ?_)
        · walk_at "go"
          refine ⟨_, _, 2, rfl, hb6, by decide, by decide, fun r2 H7 r20 r21 hb7 of7 => ?_⟩
          walk_at "go"
          obtain ⟨p, hp⟩ : ∃ p : Nat, 1 + r2 = (p : Int) := ⟨(1 + r2).toNat, by omega⟩
          rw [hp]
          exact hnx _ _ ⟨p, rfl, by omega, by omega, hb7, k45.trans (of6.kp.trans of7.kp)⟩
        · walk_at "go"
          exact hnx _ _ ⟨p0, rfl, p01, p02, hb6.mono (by decide), k45.trans of6.kp⟩
      rintro σ' Hm ⟨p, rfl, p1, p40, hbm, km⟩
      walk_at "go"
      have eLm : Hm L = some (.lst vs) := km _ _ nLp (s4 _ _ eL)
      refine ⟨tyL (SqL.of eLm), ?_⟩
      walk_at "go"
      refine r_I ⟨by omega, by omega⟩ ?_
      have hq := fdiv_600 p1
      walk_at "go"
      refine ⟨pb, z, p, _, 3, rfl, hz, hbm, by omega, p1, by omega, p40, by omega, by omega, fun H8 v r ok pr hb8 k8 d8 => ?_⟩
      walk_at "go"
      have k48 := km.trans k8
      have eL8 : H8 L = some (.lst vs) := k8 _ _ nLp eLm
      have vl : vs.length = i := by rw [dpA_len hd, List.length_map, hrl]
      refine ⟨L, vs, _, rfl, rfl, eL8, line_small (by omega), ?_⟩
      walk_at "go"
      have s38 : Same H H8 := fun c o e => k48 c o (ne_of_none e hpbH) (s4 _ _ (sm _ _ e))
      have kt : KT K H3 (upd H8 L (.lst (vs ++ [v]))) := KT.trans (Same.kt s4) (KT.trans (bag_kt hb4 k48) (kt_lst eL8))
      refine ⟨pb, _, rs ++ [r], vs ++ [v], _, _, _, rfl, same_upd s38 hLH, bag_upd hb8 nLp, by omega, upd_same, ?_, by rw [List.length_append, hrl]; rfl, ?_, ?_⟩
      · rw [List.map_append]
        exact dpA_app (dpA_pure kt _ _ (pureA_iff.mpr fun d hd => by obtain ⟨r, _, rfl⟩ := List.mem_map.mp hd; exact r.pure) hd) (.cons (dp_pure (kt_lst eL8) _ _ r.pure d8) .nil)
      · intro x hx
        rcases List.mem_append.mp hx with hx | hx
        · exact hrs x hx
        · simp only [List.mem_cons, List.not_mem_nil, or_false] at hx
          rw [hx]; exact ⟨ok, by omega⟩
      · rw [hmv, List.map_append, List.sum_append]
        simp only [List.map_cons, List.map_nil, List.sum_cons, List.sum_nil]
        omega
    · rintro σ H3 ⟨bg, nb, rs, vs, mv, o5, o6, rfl, sm, hbg, hnb, eL, hd, hrl, hrs, hmv⟩
      obtain ⟨r0, r1, rfl⟩ : ∃ r0 r1, rs = [r0, r1] := by
        match rs, hrl with
        | [x, y], _ => exact ⟨x, y, rfl⟩
      obtain ⟨v0, v1, rfl, d0, d1⟩ : ∃ v0 v1, vs = [v0, v1] ∧ Dp K H3 v0 (r0.data true) ∧ Dp K H3 v1 (r1.data true) := by
        cases hd with
        | cons x y =>
          cases y with
          | cons y w =>
            cases w
            exact ⟨_, _, rfl, x, y⟩
      obtain ⟨ok0, p0⟩ := hrs r0 (by simp)
      obtain ⟨ok1, p1⟩ := hrs r1 (by simp)
      have dp0 := r0.depth_le
      have dp1 := r1.depth_le
      have fl0 := (R.flat true ok0).2
      have fl1 := (R.flat true ok1).2
      walk_at "go"
      refine r_ixL (SqL.of eL) at0 ?_
      walk_at "go"
      refine ⟨v0, r0, rfl, d0, ok0, p0, fun H4 s4 => ?_⟩
      walk_at "go"
      refine r_ixL (SqL.of (s4 _ _ eL)) (at_n 1 rfl) ?_
      walk_at "go"
      refine ⟨v1, r1, rfl, dp_keep (Same.keeps s4) _ _ d1, ok1, p1, fun H5 s5 => ?_⟩
      have s45 := s4.trans s5
      walk_at "go"
      refine r_ixL (SqL.of (s45 _ _ eL)) (at_n 1 rfl) ?_
      walk_at "go"
      refine ⟨v1, r1, rfl, dp_keep (Same.keeps s45) _ _ d1, ok1, p1, fun H6 s6 => ?_⟩
      have s46 := s45.trans s6
      walk_at "go"
      refine r_ixL (SqL.of (s46 _ _ eL)) at0 ?_
      walk_at "go"
      refine ⟨v0, r0, rfl, RAt.of (dp_keep (Same.keeps s46) _ _ d0), ok0, by omega, by omega, fun H7 s7 => ?_⟩
      have s47 := s46.trans s7
      walk_at "go"
      refine r_ixL (SqL.of (s47 _ _ eL)) (at_n 1 rfl) ?_
      walk_at "go"
      refine ⟨v1, r1, rfl, RAt.of (dp_keep (Same.keeps s47) _ _ d1), ok1, by omega, by omega, fun H8 s8 => ?_⟩
      have s48 := s47.trans s8
      walk_at "go"
      refine ⟨(by show 2 ≤ sizeLine; decide), fun l hl => ?_⟩
      have hb8 : IsBag H8 bg nb := by
        obtain ⟨d, s, c, e, rr⟩ := hbg
        exact ⟨d, s, c, s48 _ _ e, rr⟩
      have nlb := hb8.ne hl
      have nlL : L ≠ l := ne_of_none (s48 _ _ eL) hl
      have s9 := same_new (o := HO.lst [V.str "both", V.str "either"]) hl
      walk_at "go"
      refine ⟨_, _, nb, rfl, hb8.new hl, by omega, by decide, fun q H10 q0 q1 hb10 of10 => ?_⟩
      obtain ⟨o, ho, hok, har, how⟩ : ∃ o : Ow, atI [V.str "both", V.str "either"] q = some (.str o.word) ∧ o.ok ∧ ar o.kind = 2 ∧ o.words = [] := by
        obtain rfl | rfl : q = 0 ∨ q = 1 := by omega
        · exact ⟨.both, rfl, trivial, rfl, rfl⟩
        · exact ⟨.either, rfl, trivial, rfl, rfl⟩
      refine r_ixL (SqL.of (of10.at nlb upd_same)) ho ?_
      have k810 : Kp bg H8 H10 := (Same.kp s9).trans of10.kp
      have kt10 : KT K H3 H10 := KT.trans (Same.kt s48) (bag_kt hb8 k810)
      have d0' := dp_pure kt10 _ _ r0.pure d0
      have d1' := dp_pure kt10 _ _ r1.pure d1
      have nLbg : L ≠ bg := fun x => by
        obtain ⟨dd, ss, cc, e, _⟩ := hbg
        rw [← x, eL] at e
        have := HO.lst.inj (Option.some.inj e)
        have h0 := (List.cons.inj this).1
        rw [h0] at d0
        rw [r0.data_eq true] at d0
        cases d0
      have eL10 : H10 L = some (.lst [v0, v1]) := k810 _ _ nLbg (s48 _ _ eL)
      walk_at "go"
      by_cases h40 : mv ≤ 40
      · refine r_yes h40 ?_
        walk_at "go"
        refine r_ixL (SqL.of eL10) at0 ?_
        walk_at "go"
        refine r_ixL (SqL.of eL10) (at_n 1 rfl) ?_
        walk_at "go"
        refine ⟨v1, _, rfl, d1', r1.pure, R.wide ok1, by omega, fun H11 vl s11 d11 => ?_⟩
        rw [R.lst] at d11
        have d11' := dp_keep (Same.keeps (New.same (H := H10) (H' := H11))) _ _ d11
        walk_at "go"
        refine ⟨(by show 3 ≤ sizeLine; decide), fun m hm => ?_⟩
        have s12 := same_new (o := HO.lst [V.str o.word, v0, vl]) hm
        have sx := s11.trans s12
        have dpt : (R.n2 o r0 r1).depth ≤ 42 := by show max r0.depth r1.depth + 1 ≤ 42; omega
        have ppt : (R.n2 o r0 r1).parts ≤ 100 := by show r0.parts + r1.parts + 1 ≤ 100; omega
        have okt : (R.n2 o r0 r1).ok := ⟨hok, har, ok0, ok1⟩
        have hOw : OwAt K (upd H11 m (.lst [V.str o.word, v0, vl])) [] o := by
          cases o with
          | both => rfl
          | either => rfl
          | any => exact absurd har (by decide)
          | back => exact absurd har (by decide)
          | not => exact absurd har (by decide)
          | sum => simp [Ow.words] at how
          | square => simp [Ow.words] at how
          | faces => simp [Ow.words] at how
          | cut => simp [Ow.words] at how
        walk_at "go"
        refine ⟨.ref m, R.n2 o r0 r1, rfl, ⟨[], v0, vl, ⟨m, rfl, .inl (SqL.of upd_same)⟩, hOw, RAt.of (dp_keep (Same.keeps sx) _ _ d0'), RAt.of (dp_keep (Same.keeps s12) _ _ d11')⟩, okt, ppt, dpt, fun H13 s13 => ?_⟩
        walk_at "go"
        refine ⟨(by show 3 ≤ sizeLine; decide), fun j hj => ?_⟩
        have s14 := same_new (o := HO.lst [V.str o.word, V.str r0.text, V.str r1.text]) hj
        have lt0 := R.text_len ok0
        have lt1 := R.text_len ok1
        walk_at "go"
        refine ⟨_, j, [o.word, r0.text, r1.text], rfl, rfl, .inl (SqL.of upd_same), ?_, ?_⟩
        · have wl : (tl o.word).length ≤ 6 := (wd_ok o.kind o.kind_lt).2.1
          simp only [List.map_cons, List.map_nil, List.sum_cons, List.sum_nil, List.length_cons, List.length_nil, len_tl]
          rw [tl_SP]
          simp only [List.length_cons, List.length_nil]
          omega
        walk_at "go"
        rw [text_two how]
        refine r_iteN (fun z => absurd rfl z) (fun _ => ?_)
        walk_at "go"
        have sx := sx.trans (s13.trans s14)
        refine r_ixL (SqL.of (sx _ _ eL10)) at0 ?_
        walk_at "go"
        refine ⟨v0, r0, rfl, dp_keep (Same.keeps sx) _ _ d0', ok0, p0, fun Hy sy => ?_⟩
        have sxy := sx.trans sy
        walk_at "go"
        refine r_ixL (SqL.of (sxy _ _ eL10)) at0 ?_
        walk_at "go"
        refine r_ixL (SqL.of (sxy _ _ eL10)) (at_n 1 rfl) ?_
        walk_at "go"
        refine ⟨_, _, dp_keep (Same.keeps sxy) _ _ d0', dp_keep (Same.keeps sxy) _ _ d1', R.shaped true ok0 (by omega), R.shaped true ok1 (by omega), ?_⟩
        walk_at "go"
        rw [same_text ok0 ok1]
        exact k _
      · refine r_no h40 ?_
        walk_at "go"
        have sx := Same.refl H10
        refine r_ixL (SqL.of (sx _ _ eL10)) at0 ?_
        walk_at "go"
        refine ⟨v0, r0, rfl, dp_keep (Same.keeps sx) _ _ d0', ok0, p0, fun Hy sy => ?_⟩
        have sxy := sx.trans sy
        walk_at "go"
        refine r_ixL (SqL.of (sxy _ _ eL10)) at0 ?_
        walk_at "go"
        refine r_ixL (SqL.of (sxy _ _ eL10)) (at_n 1 rfl) ?_
        walk_at "go"
        refine ⟨_, _, dp_keep (Same.keeps sxy) _ _ d0', dp_keep (Same.keeps sxy) _ _ d1', R.shaped true ok0 (by omega), R.shaped true ok1 (by omega), ?_⟩
        walk_at "go"
        rw [same_text ok0 ok1]
        exact k _
end
end K4

/-! K4Y -/

namespace K4
open PySem L2 K1
def Fn (K : PySem.W.Frag) (x : Str) (st : Stmt) : Prop := ∃ (f : Addr) (fd : FuncData), PySem.W.nsIn K mainGlobals x = some (some (.ref f)) ∧ Fun K x x st f fd
theorem fn_mk {K : PySem.W.Frag} {x : Str} {st : Stmt} {f : Addr} {oc : Value} {od an : Option Addr} {osl : Array (Option Value)} {kV doc pm cdv ct : Value} (a : PySem.W.nsIn K mainGlobals x = some (some (.ref f)))
    (l : K.lookup f = some ⟨oc, od, .func (PySem.W.fnOf x x (defArgs st) (defBody st) (defScope st) .none kV doc pm an cdv ct), osl⟩) (c : PySem.W.codeIn K cdv x = true) (k : PySem.W.keepIn K (.ref f) = true) : Fn K x st := ⟨f, _, a, fun_mk l c k⟩
def FnQ (K : PySem.W.Frag) (x q : Str) (st : Stmt) (f : Addr) : Prop := ∃ fd : FuncData, Fun K x q st f fd
theorem fnq_mk {K : PySem.W.Frag} {x q : Str} {st : Stmt} {f : Addr} {oc : Value} {od an : Option Addr} {osl : Array (Option Value)} {kV doc pm cdv ct : Value}
    (l : K.lookup f = some ⟨oc, od, .func (PySem.W.fnOf x q (defArgs st) (defBody st) (defScope st) .none kV doc pm an cdv ct), osl⟩) (c : PySem.W.codeIn K cdv q = true) (k : PySem.W.keepIn K (.ref f) = true) : FnQ K x q st f := ⟨_, fun_mk l c k⟩
theorem own_of {P : Program} {w : World} {K : PySem.W.Frag} {mg : Str → Option Value} {h base : Heap} {x : Str} {st : Stmt} {n : Nat} {ps : List Str} {sp : Sp} (X : K.In h) (G : h.Ns mainGlobals mg) (N : Fn K x st) (ok : ∀ f fd, Fun K x x st f fd → FnOk P w K mg base CX0 n f fd ps sp)
    (bd : ∀ (kV doc pm : Value) (an : Option Addr) (cdv ct : Value) (us : List Value), us.length = ps.length → bindArgs (PySem.W.fnOf x x (defArgs st) (defBody st) (defScope st) .none kV doc pm an cdv ct) ⟨us, []⟩ = Pure.pure (ps.zip us)) : Own P w K mg base x n ps sp := by
  obtain ⟨f, fd, a, F⟩ := N
  exact ⟨f, fd, ok f fd F, PySem.W.mg_of X G a, F.kp, F.binds bd⟩
/-- what the top has left -/
theorem all_mk {l : PySem.W.OpenLaw} {w : World} {K : PySem.W.Frag} {h : Heap} {mg : Str → Option Value} {fa : Addr} {C : Addr} {fInit : Addr} {fH : Addr} {fT : Addr} {fI : Addr} {fM : Addr} {fF : Addr} {t_LEAST_KINDS : Tok} {t_MOST_KINDS : Tok} {t_LEAST_MODULUS : Tok} {t_MOST_MODULUS : Tok} {t_MOST_WEIGHTS : Tok} {t_MOST_ROWS : Tok} {t_MOST_FACES : Tok} {t_MOST_CUT : Tok} {t_MOST_PARTS : Tok} {t_MOST_DIGITS : Tok} {t_MOST_NUMBER : Tok} {t_DIGITS : Tok} {t_ALL_SIGNS : Tok} {dO : Addr} {esO : Array DictEntry} {mO : Nat} {tO_any : Tok} {tO_back : Tok} {tO_not : Tok} {tO_both : Tok} {tO_either : Tok} {tO_sum : Tok} {tO_square : Tok} {tO_faces : Tok} {tO_cut : Tok} {dI : Addr} {esI : Array DictEntry} {mI : Nat} {tI_any : Tok} {tI_back : Tok} {tI_not : Tok} {tI_both : Tok} {tI_either : Tok} {tI_sum : Tok} {tI_square : Tok} {tI_faces : Tok} {tI_cut : Tok} (X : K.In h) (G : h.Ns mainGlobals mg) (hfa : mg "law" = some (.ref fa))
    (n_is_whole : Fn K "is_whole" sIsWhole) (n_is_within : Fn K "is_within" sIsWithin) (n_is_text : Fn K "is_text" sIsText) (n_own_values : Fn K "own_values" sOwnValues) (n_inner_rules : Fn K "inner_rules" sInnerRules) (n_integer_in : Fn K "integer_in" sIntegerIn) (n_integers_in : Fn K "integers_in" sIntegersIn) (n_characters_in : Fn K "characters_in" sCharactersIn) (n_texts_in : Fn K "texts_in" sTextsIn) (n_integers_word : Fn K "integers_word" sIntegersWord) (n_write_rule : Fn K "write_rule" sWriteRule) (n_rule_words : Fn K "rule_words" sRuleWords) (n_own_words : Fn K "own_words" sOwnWords) (n_read_rule : Fn K "read_rule" sReadRule) (n_take_last_rule : Fn K "take_last_rule" sTakeLast) (n_take_rule : Fn K "take_rule" sTakeRule) (n_rule_word_in : Fn K "rule_word_in" sRuleWordIn) (n_taken_values : Fn K "taken_values" sTakenValues) (n_rows_in : Fn K "rows_in" sRowsIn) (n__law_bag_of : Fn K "_law_bag_of" K1.sBagOf) (n__law_pick : Fn K "_law_pick" K1.sPick) (n__law_one_of : Fn K "_law_one_of" K1.sOneOf) (n__law_mixed : Fn K "_law_mixed" K1.sMixed) (n__law_listed_of : Fn K "_law_listed_of" sLListed) (n__law_no_list : Fn K "_law_no_list" sLNoList) (n__law_same_tuple : Fn K "_law_same_tuple" sLSame) (n__law_many_signs : Fn K "_law_many_signs" K1.sMany) (n__law_commas : Fn K "_law_commas" sLCommas) (n__law_rule_words : Fn K "_law_rule_words" sLRuleWords) (n__law_text_leaf : Fn K "_law_text_leaf" sLLeaf) (n__law_text_rule : Fn K "_law_text_rule" sLTextRule) (n__law_written : Fn K "_law_written" sLWritten) (n__law_ends : Fn K "_law_ends" sLEnds) (n_law : Fn K "law" sLLaw) (aC : PySem.W.nsIn K mainGlobals "Words" = some (some (.ref C))) (a_Init : PySem.W.findIn K (.ref C) "__init__" = some (some (.ref fInit))) (i_Init : PySem.W.isFn K (.ref fInit) = true) (k_Init : PySem.W.keepIn K (.ref fInit) = true) (q_Init : FnQ K "__init__" "Words.__init__" sWInit fInit) (a_H : PySem.W.findIn K (.ref C) "here" = some (some (.ref fH))) (i_H : PySem.W.isFn K (.ref fH) = true) (k_H : PySem.W.keepIn K (.ref fH) = true) (q_H : FnQ K "here" "Words.here" sWHere fH) (a_T : PySem.W.findIn K (.ref C) "taken" = some (some (.ref fT))) (i_T : PySem.W.isFn K (.ref fT) = true) (k_T : PySem.W.keepIn K (.ref fT) = true) (q_T : FnQ K "taken" "Words.taken" sWTaken fT) (a_I : PySem.W.findIn K (.ref C) "take_integer" = some (some (.ref fI))) (i_I : PySem.W.isFn K (.ref fI) = true) (k_I : PySem.W.keepIn K (.ref fI) = true) (q_I : FnQ K "take_integer" "Words.take_integer" sWTakeInt fI) (a_M : PySem.W.findIn K (.ref C) "more" = some (some (.ref fM))) (i_M : PySem.W.isFn K (.ref fM) = true) (k_M : PySem.W.keepIn K (.ref fM) = true) (q_M : FnQ K "more" "Words.more" sWMore fM) (a_F : PySem.W.findIn K (.ref C) "finish" = some (some (.ref fF))) (i_F : PySem.W.isFn K (.ref fF) = true) (k_F : PySem.W.keepIn K (.ref fF) = true) (q_F : FnQ K "finish" "Words.finish" sWFinish fF) (pg : PySem.W.plainGet K C Str.empty = true) (hdI : PySem.W.hasDictIn K C = true) (po : PySem.W.plainOver K C = true) (sa : PySem.W.findIn K (.ref C) "__setattr__" = some (some (.builtin "object.__setattr__"))) (mkC : PySem.W.makesIn K C = true) (kcC : PySem.W.keepIn K (.ref C) = true) (nL : PySem.W.findIn K (.ref C) "line" = some none) (nW : PySem.W.findIn K (.ref C) "words" = some none) (nA : PySem.W.findIn K (.ref C) "at" = some none) (g_LEAST_KINDS : PySem.W.nsIn K mainGlobals "LEAST_KINDS" = some (some (.int 2 t_LEAST_KINDS))) (g_MOST_KINDS : PySem.W.nsIn K mainGlobals "MOST_KINDS" = some (some (.int 12 t_MOST_KINDS))) (g_LEAST_MODULUS : PySem.W.nsIn K mainGlobals "LEAST_MODULUS" = some (some (.int 2 t_LEAST_MODULUS))) (g_MOST_MODULUS : PySem.W.nsIn K mainGlobals "MOST_MODULUS" = some (some (.int 60 t_MOST_MODULUS))) (g_MOST_WEIGHTS : PySem.W.nsIn K mainGlobals "MOST_WEIGHTS" = some (some (.int 8 t_MOST_WEIGHTS))) (g_MOST_ROWS : PySem.W.nsIn K mainGlobals "MOST_ROWS" = some (some (.int 60 t_MOST_ROWS))) (g_MOST_FACES : PySem.W.nsIn K mainGlobals "MOST_FACES" = some (some (.int 4 t_MOST_FACES))) (g_MOST_CUT : PySem.W.nsIn K mainGlobals "MOST_CUT" = some (some (.int 3 t_MOST_CUT))) (g_MOST_PARTS : PySem.W.nsIn K mainGlobals "MOST_PARTS" = some (some (.int 40 t_MOST_PARTS))) (g_MOST_DIGITS : PySem.W.nsIn K mainGlobals "MOST_DIGITS" = some (some (.int 9 t_MOST_DIGITS))) (g_MOST_NUMBER : PySem.W.nsIn K mainGlobals "MOST_NUMBER" = some (some (.int 59 t_MOST_NUMBER))) (g_DIGITS : PySem.W.nsIn K mainGlobals "DIGITS" = some (some (.str DIG t_DIGITS))) (g_ALL_SIGNS : PySem.W.nsIn K mainGlobals "ALL_SIGNS" = some (some (.str K4.ALL t_ALL_SIGNS))) (d_O : PySem.W.nsIn K mainGlobals "OWN_VALUES" = some (some (.ref dO))) (l_O : K.lookup dO = some ⟨.type "dict", none, .dict esO mO, #[]⟩) (y_O : PySem.W.KeysLit w.params esO.toList) (o_O : (dO == sysModules) = false) (eO_any : PySem.W.nsIn K dO "any" = some (some (.int 0 tO_any))) (eO_back : PySem.W.nsIn K dO "back" = some (some (.int 0 tO_back))) (eO_not : PySem.W.nsIn K dO "not" = some (some (.int 0 tO_not))) (eO_both : PySem.W.nsIn K dO "both" = some (some (.int 0 tO_both))) (eO_either : PySem.W.nsIn K dO "either" = some (some (.int 0 tO_either))) (eO_sum : PySem.W.nsIn K dO "sum" = some (some (.int 3 tO_sum))) (eO_square : PySem.W.nsIn K dO "square" = some (some (.int 2 tO_square))) (eO_faces : PySem.W.nsIn K dO "faces" = some (some (.int 1 tO_faces))) (eO_cut : PySem.W.nsIn K dO "cut" = some (some (.int 2 tO_cut))) (d_I : PySem.W.nsIn K mainGlobals "INNER_RULES" = some (some (.ref dI))) (l_I : K.lookup dI = some ⟨.type "dict", none, .dict esI mI, #[]⟩) (y_I : PySem.W.KeysLit w.params esI.toList) (o_I : (dI == sysModules) = false) (eI_any : PySem.W.nsIn K dI "any" = some (some (.int 0 tI_any))) (eI_back : PySem.W.nsIn K dI "back" = some (some (.int 1 tI_back))) (eI_not : PySem.W.nsIn K dI "not" = some (some (.int 1 tI_not))) (eI_both : PySem.W.nsIn K dI "both" = some (some (.int 2 tI_both))) (eI_either : PySem.W.nsIn K dI "either" = some (some (.int 2 tI_either))) (eI_sum : PySem.W.nsIn K dI "sum" = some (some (.int 0 tI_sum))) (eI_square : PySem.W.nsIn K dI "square" = some (some (.int 0 tI_square))) (eI_faces : PySem.W.nsIn K dI "faces" = some (some (.int 1 tI_faces))) (eI_cut : PySem.W.nsIn K dI "cut" = some (some (.int 1 tI_cut))) (b_len : PySem.W.nsIn K mainGlobals "len" = some none) (b_sum : PySem.W.nsIn K mainGlobals "sum" = some none) (b_abs : PySem.W.nsIn K mainGlobals "abs" = some none) (b_int : PySem.W.nsIn K mainGlobals "int" = some none) (b_range : PySem.W.nsIn K mainGlobals "range" = some none) (b_list : PySem.W.nsIn K mainGlobals "list" = some none) (b_tuple : PySem.W.nsIn K mainGlobals "tuple" = some none) (b_str : PySem.W.nsIn K mainGlobals "str" = some none) (b_bool : PySem.W.nsIn K mainGlobals "bool" = some none) (b_sorted : PySem.W.nsIn K mainGlobals "sorted" = some none) (b_all : PySem.W.nsIn K mainGlobals "all" = some none) (b_min : PySem.W.nsIn K mainGlobals "min" = some none) (b_isinstance : PySem.W.nsIn K mainGlobals "isinstance" = some none) (b_max : PySem.W.nsIn K mainGlobals "max" = some none) :
    ∃ fd : FuncData, (∀ (s : Shared) (u : Value), BindsTo s fd ⟨[u], []⟩ [("_law_script", u)]) ∧ ∀ base : Heap, K.In base → base.Ns mainGlobals mg → FnOk l.prog w K mg base CX0 50 fa fd ["_law_script"] (spLaw K) := by
  have B : Bl mg := ⟨PySem.W.mg_none_of X G b_len, PySem.W.mg_none_of X G b_sum, PySem.W.mg_none_of X G b_abs, PySem.W.mg_none_of X G b_int, PySem.W.mg_none_of X G b_range, PySem.W.mg_none_of X G b_list, PySem.W.mg_none_of X G b_tuple, PySem.W.mg_none_of X G b_str, PySem.W.mg_none_of X G b_bool, PySem.W.mg_none_of X G b_sorted, PySem.W.mg_none_of X G b_all, PySem.W.mg_none_of X G b_min, PySem.W.mg_none_of X G b_isinstance, PySem.W.mg_none_of X G b_max⟩
  have T : TW K mg C := ⟨⟨pg, hdI, po, sa⟩, nL, nW, nA, PySem.W.mg_of X G aC⟩
  have Gk : Gc K w mg dO dI := ⟨⟨_, PySem.W.mg_of X G g_LEAST_KINDS⟩, ⟨_, PySem.W.mg_of X G g_MOST_KINDS⟩, ⟨_, PySem.W.mg_of X G g_LEAST_MODULUS⟩, ⟨_, PySem.W.mg_of X G g_MOST_MODULUS⟩, ⟨_, PySem.W.mg_of X G g_MOST_WEIGHTS⟩, ⟨_, PySem.W.mg_of X G g_MOST_ROWS⟩, ⟨_, PySem.W.mg_of X G g_MOST_FACES⟩, ⟨_, PySem.W.mg_of X G g_MOST_CUT⟩, ⟨_, PySem.W.mg_of X G g_MOST_PARTS⟩, ⟨_, PySem.W.mg_of X G g_MOST_DIGITS⟩, ⟨_, PySem.W.mg_of X G g_MOST_NUMBER⟩, ⟨_, PySem.W.mg_of X G g_DIGITS⟩, ⟨_, PySem.W.mg_of X G g_ALL_SIGNS⟩, PySem.W.mg_of X G d_O, PySem.W.mg_of X G d_I,
    fun k hk => by
      match k, hk with
      | 0, _ => exact ⟨_, _, _, l_O, y_O, eO_any, ⟨_, rfl⟩⟩
      | 1, _ => exact ⟨_, _, _, l_O, y_O, eO_back, ⟨_, rfl⟩⟩
      | 2, _ => exact ⟨_, _, _, l_O, y_O, eO_not, ⟨_, rfl⟩⟩
      | 3, _ => exact ⟨_, _, _, l_O, y_O, eO_both, ⟨_, rfl⟩⟩
      | 4, _ => exact ⟨_, _, _, l_O, y_O, eO_either, ⟨_, rfl⟩⟩
      | 5, _ => exact ⟨_, _, _, l_O, y_O, eO_sum, ⟨_, rfl⟩⟩
      | 6, _ => exact ⟨_, _, _, l_O, y_O, eO_square, ⟨_, rfl⟩⟩
      | 7, _ => exact ⟨_, _, _, l_O, y_O, eO_faces, ⟨_, rfl⟩⟩
      | 8, _ => exact ⟨_, _, _, l_O, y_O, eO_cut, ⟨_, rfl⟩⟩
      | k + 9, hk => omega,
    fun k hk => by
      match k, hk with
      | 0, _ => exact ⟨_, _, _, l_I, y_I, eI_any, ⟨_, rfl⟩⟩
      | 1, _ => exact ⟨_, _, _, l_I, y_I, eI_back, ⟨_, rfl⟩⟩
      | 2, _ => exact ⟨_, _, _, l_I, y_I, eI_not, ⟨_, rfl⟩⟩
      | 3, _ => exact ⟨_, _, _, l_I, y_I, eI_both, ⟨_, rfl⟩⟩
      | 4, _ => exact ⟨_, _, _, l_I, y_I, eI_either, ⟨_, rfl⟩⟩
      | 5, _ => exact ⟨_, _, _, l_I, y_I, eI_sum, ⟨_, rfl⟩⟩
      | 6, _ => exact ⟨_, _, _, l_I, y_I, eI_square, ⟨_, rfl⟩⟩
      | 7, _ => exact ⟨_, _, _, l_I, y_I, eI_faces, ⟨_, rfl⟩⟩
      | 8, _ => exact ⟨_, _, _, l_I, y_I, eI_cut, ⟨_, rfl⟩⟩
      | k + 9, hk => omega,
    ⟨_, _, ⟨l_I, y_I, o_I⟩⟩, fun k hk => by
      match k, hk with
      | 0, _ => exact ⟨_, eI_any⟩
      | 1, _ => exact ⟨_, eI_back⟩
      | 2, _ => exact ⟨_, eI_not⟩
      | 3, _ => exact ⟨_, eI_both⟩
      | 4, _ => exact ⟨_, eI_either⟩
      | 5, _ => exact ⟨_, eI_sum⟩
      | 6, _ => exact ⟨_, eI_square⟩
      | 7, _ => exact ⟨_, eI_faces⟩
      | 8, _ => exact ⟨_, eI_cut⟩
      | k + 9, hk => omega⟩
  obtain ⟨flw, fdlw, alw, Flw⟩ := id n_law
  have e := hfa.symm.trans (PySem.W.mg_of X G alw)
  cases e
  refine ⟨fdlw, fun s u => ?_, fun base _ _ => ?_⟩
  · obtain ⟨oc, od, kV, doc, pm, an, cdv, ct, osl, rfl, _⟩ := Flw.ex
    exact .of_eq rfl
  · 
    have Owh := own_of (P := l.prog) (w := w) (base := base) X G n_is_whole (fun f fd F => ok_isWhole F B) (fun _ _ _ _ _ _ us hl => match us, hl with | [_], _ => rfl)
    have Owi := own_of (P := l.prog) (w := w) (base := base) X G n_is_within (fun f fd F => ok_isWithin F B Owh) (fun _ _ _ _ _ _ us hl => match us, hl with | [_, _, _], _ => rfl)
    have Ot := own_of (P := l.prog) (w := w) (base := base) X G n_is_text (fun f fd F => ok_isText F B) (fun _ _ _ _ _ _ us hl => match us, hl with | [_, _, _, _], _ => rfl)
    have Oov := own_of (P := l.prog) (w := w) (base := base) X G n_own_values (fun f fd F => ok_ownValues F B Gk) (fun _ _ _ _ _ _ us hl => match us, hl with | [_], _ => rfl)
    have Oir := own_of (P := l.prog) (w := w) (base := base) X G n_inner_rules (fun f fd F => ok_innerRules F B Gk) (fun _ _ _ _ _ _ us hl => match us, hl with | [_], _ => rfl)
    have Oi := own_of (P := l.prog) (w := w) (base := base) X G n_integer_in (fun f fd F => ok_integerIn F B Gk Ot Owi) (fun _ _ _ _ _ _ us hl => match us, hl with | [_, _, _], _ => rfl)
    have Ois := own_of (P := l.prog) (w := w) (base := base) X G n_integers_in (fun f fd F => ok_integersIn F B Oi) (fun _ _ _ _ _ _ us hl => match us, hl with | [_, _, _, _], _ => rfl)
    have Oc := own_of (P := l.prog) (w := w) (base := base) X G n_characters_in (fun f fd F => ok_charactersIn F B Gk Ot) (fun _ _ _ _ _ _ us hl => match us, hl with | [_, _, _], _ => rfl)
    have Otxs := own_of (P := l.prog) (w := w) (base := base) X G n_texts_in (fun f fd F => ok_textsIn F B Oc) (fun _ _ _ _ _ _ us hl => match us, hl with | [_, _, _, _, _], _ => rfl)
    have Oiw := own_of (P := l.prog) (w := w) (base := base) X G n_integers_word (fun f fd F => ok_integersWord F B) (fun _ _ _ _ _ _ us hl => match us, hl with | [_], _ => rfl)
    have Oows := own_of (P := l.prog) (w := w) (base := base) X G n_own_words (fun f fd F => ok_ownWords F B Oiw) (fun _ _ _ _ _ _ us hl => match us, hl with | [_, _], _ => rfl)
    have Orw : ORW 42 l.prog w K mg base := by
      obtain ⟨f, fd, a, F⟩ := id n_rule_words
      exact rw_all F B Oows Oov Oir (PySem.W.mg_of X G a) (F.binds (fun _ _ _ _ _ _ us hl => match us, hl with | [_], _ => rfl)) 42
    have Owr := own_of (P := l.prog) (w := w) (base := base) X G n_write_rule (fun f fd F => ok_writeRule F B Orw) (fun _ _ _ _ _ _ us hl => match us, hl with | [_], _ => rfl)
    have Orows := own_of (P := l.prog) (w := w) (base := base) X G n_rows_in (fun f fd F => ok_rowsIn F B Gk Ois) (fun _ _ _ _ _ _ us hl => match us, hl with | [_], _ => rfl)
    obtain ⟨fdInit, FInit⟩ := id q_Init
    have bInit := FInit.binds (ps := ["self", "line", "text"]) (fun _ _ _ _ _ _ us hl => match us, hl with | [_, _, _], _ => rfl)
    have GInit := ok_wInit (P := l.prog) (w := w) (base := base) FInit B T
    obtain ⟨fdH, FH⟩ := id q_H
    have bH := FH.binds (ps := ["self"]) (fun _ _ _ _ _ _ us hl => match us, hl with | [_], _ => rfl)
    have GH := ok_wHere (P := l.prog) (w := w) (base := base) FH B T
    obtain ⟨fdT, FT⟩ := id q_T
    have bT := FT.binds (ps := ["self", "worth"]) (fun _ _ _ _ _ _ us hl => match us, hl with | [_, _], _ => rfl)
    have GT := ok_wTaken (P := l.prog) (w := w) (base := base) FT B T
    have mH : Meth K C _ fH := ⟨a_H, i_H, k_H⟩
    have mT : Meth K C _ fT := ⟨a_T, i_T, k_T⟩
    obtain ⟨fdI, FI⟩ := id q_I
    have bI := FI.binds (ps := ["self", "least", "most"]) (fun _ _ _ _ _ _ us hl => match us, hl with | [_, _, _], _ => rfl)
    have GI := ok_wTakeInt (P := l.prog) (w := w) (base := base) FI B T Oi GT mT bT GH mH bH
    have mI : Meth K C _ fI := ⟨a_I, i_I, k_I⟩
    obtain ⟨fdM, FM⟩ := id q_M
    have bM := FM.binds (ps := ["self"]) (fun _ _ _ _ _ _ us hl => match us, hl with | [_], _ => rfl)
    have GM := ok_wMore (P := l.prog) (w := w) (base := base) FM B T
    have mM : Meth K C _ fM := ⟨a_M, i_M, k_M⟩
    obtain ⟨fdF, FF⟩ := id q_F
    have bF := FF.binds (ps := ["self"]) (fun _ _ _ _ _ _ us hl => match us, hl with | [_], _ => rfl)
    have GF := ok_wFinish (P := l.prog) (w := w) (base := base) FF B T GM mM bM
    have mF : Meth K C _ fF := ⟨a_F, i_F, k_F⟩
    have Ori := own_of (P := l.prog) (w := w) (base := base) X G n_rule_word_in (fun f fd F => ok_ruleWordIn F B Gk) (fun _ _ _ _ _ _ us hl => match us, hl with | [_, _], _ => rfl)
    have Otv := own_of (P := l.prog) (w := w) (base := base) X G n_taken_values (fun f fd F => ok_takenValues F B Gk T GT mT bT GH mH bH GI mI bI Ois Orows Otxs) (fun _ _ _ _ _ _ us hl => match us, hl with | [_, _], _ => rfl)
    have Otr : OTakeRule 40 C l.prog w K mg base := by
      obtain ⟨f, fd, a, F⟩ := id n_take_rule
      exact tr_all F B Gk T GT mT bT GH mH bH Ori Otv (PySem.W.mg_of X G a) (F.binds (fun _ _ _ _ _ _ us hl => match us, hl with | [_, _], _ => rfl)) 40
    have Otl := own_of (P := l.prog) (w := w) (base := base) X G n_take_last_rule (fun f fd F => ok_takeLast F B Otr T GF mF bF) (fun _ _ _ _ _ _ us hl => match us, hl with | [_], _ => rfl)
    have Ord := own_of (P := l.prog) (w := w) (base := base) X G n_read_rule (fun f fd F => ok_readRule F B T Otl ⟨mkC, a_Init, i_Init, kcC⟩ GInit bInit) (fun _ _ _ _ _ _ us hl => match us, hl with | [_], _ => rfl)
    have Op := own_of (P := l.prog) (w := w) (base := base) X G n__law_pick (fun f fd F => ok_pick F B) (fun _ _ _ _ _ _ us hl => match us, hl with | [_, _], _ => rfl)
    have Ob := own_of (P := l.prog) (w := w) (base := base) X G n__law_bag_of (fun f fd F => ok_bagOf F B) (fun _ _ _ _ _ _ us hl => match us, hl with | [_, _], _ => rfl)
    have Oo := own_of (P := l.prog) (w := w) (base := base) X G n__law_one_of (fun f fd F => ok_oneOf F B Op) (fun _ _ _ _ _ _ us hl => match us, hl with | [_, _], _ => rfl)
    have Omx := own_of (P := l.prog) (w := w) (base := base) X G n__law_mixed (fun f fd F => ok_mixed F B Op) (fun _ _ _ _ _ _ us hl => match us, hl with | [_, _], _ => rfl)
    have Om := own_of (P := l.prog) (w := w) (base := base) X G n__law_many_signs (fun f fd F => ok_many F B Op Omx) (fun _ _ _ _ _ _ us hl => match us, hl with | [_], _ => rfl)
    have Olc := own_of (P := l.prog) (w := w) (base := base) X G n__law_commas (fun f fd F => ok_lCommas F B) (fun _ _ _ _ _ _ us hl => match us, hl with | [_], _ => rfl)
    have Olr : OLR 42 l.prog w K mg base := by
      obtain ⟨f, fd, a, F⟩ := id n__law_rule_words
      exact lr_all F B Olc (PySem.W.mg_of X G a) (F.binds (fun _ _ _ _ _ _ us hl => match us, hl with | [_], _ => rfl)) 42
    have Oll : OLL 45 l.prog w K mg base := by
      obtain ⟨f, fd, a, F⟩ := id n__law_listed_of
      exact ll_all F B (PySem.W.mg_of X G a) (F.binds (fun _ _ _ _ _ _ us hl => match us, hl with | [_], _ => rfl)) 45
    have Onl : ONL 45 l.prog w K mg base := by
      obtain ⟨f, fd, a, F⟩ := id n__law_no_list
      exact nl_all F B (PySem.W.mg_of X G a) (F.binds (fun _ _ _ _ _ _ us hl => match us, hl with | [_], _ => rfl)) 45
    have Osm := own_of (P := l.prog) (w := w) (base := base) X G n__law_same_tuple (fun f fd F => ok_same F B Onl) (fun _ _ _ _ _ _ us hl => match us, hl with | [_, _], _ => rfl)
    have Olf := own_of (P := l.prog) (w := w) (base := base) X G n__law_text_leaf (fun f fd F => ok_leaf F B Op) (fun _ _ _ _ _ _ us hl => match us, hl with | [_, _, _], _ => rfl)
    have Otx : OTextRule 41 l.prog w K mg base := by
      obtain ⟨f, fd, a, F⟩ := id n__law_text_rule
      exact tx_all F B Op Oo Olf (PySem.W.mg_of X G a) (F.binds (fun _ _ _ _ _ _ us hl => match us, hl with | [_, _, _, _], _ => rfl)) 41
    have Owt := own_of (P := l.prog) (w := w) (base := base) X G n__law_written (fun f fd F => ok_written F B Olr Oll Owr Osm Ord) (fun _ _ _ _ _ _ us hl => match us, hl with | [_], _ => rfl)
    have Oen := own_of (P := l.prog) (w := w) (base := base) X G n__law_ends (fun f fd F => ok_ends F B Olr Owr) (fun _ _ _ _ _ _ us hl => match us, hl with | [_], _ => rfl)
    exact ok_law Flw B Ob Om Op Otx Owt Oen Owr Oll

theorem walk {l : PySem.W.OpenLaw} {q : Program} {loose : List Str} {XP : (Str → Option Value) → Heap → Prop} {YP : World → Heap → Prop} {d : DefRec} {K : Params → PySem.W.Frag} (hn : l.most = some 63) (hdf : d.params.defaults = [])
    (hY : ∀ (w : World) (h : Heap), YP w h → (K w.params).In h)
    (F : ∀ (w : World) (mg : Str → Option Value) (fa : Addr) (h : Heap), (K w.params).In h → h.Ns mainGlobals mg → mg d.name = some (.ref fa) →
      ∃ fd : FuncData, (∀ (s : Shared) (u : Value), BindsTo s fd ⟨[u], []⟩ [("_law_script", u)]) ∧ ∀ base : Heap, (K w.params).In base → base.Ns mainGlobals mg → FnOk l.prog w (K w.params) mg base CX0 50 fa fd ["_law_script"] (spLaw (K w.params))) :
    PySem.W.WalkO q loose XP YP l.row.toRowW d [] (fun f vs => PySem.call f vs) :=
  L2.walk_of (n := 63) (k := 50) (x := "_law_script") (CX := fun _ => CX0) (sp := fun w => spLaw (K w.params)) hn (by decide) hdf ⟨rfl, by decide, by decide⟩ hY F (fun _ _ a ns hl _ hS => ⟨a, ns, rfl, hS, hl, fun _ => rfl⟩) fun _ _ _ _ _ z => z
end K4

/-! K4Z -/

open PySem PySem.W PyProof.Rows
set_option maxRecDepth 100000 in
set_option maxHeartbeats 0 in
theorem PySem.Challenge.cw_handcarried_k04_rule_words_holds : PySem.Challenge.rw_handcarried_k04_rule_words.Holds := by
  w_on; o_law; k_head; (case hw => w_witness2)
  k_fill
  refine K4.walk (l := PySem.Challenge.rw_handcarried_k04_rule_words) rfl rfl (fun w h Y => PySem.W.kIn_of Y) ?F
  case F =>
    intro w mg fa h KX G hmg
    refine' K4.all_mk KX G hmg (K4.fn_mk ?a_is_whole ?l_is_whole ?c_is_whole ?k_is_whole) (K4.fn_mk ?a_is_within ?l_is_within ?c_is_within ?k_is_within) (K4.fn_mk ?a_is_text ?l_is_text ?c_is_text ?k_is_text) (K4.fn_mk ?a_own_values ?l_own_values ?c_own_values ?k_own_values) (K4.fn_mk ?a_inner_rules ?l_inner_rules ?c_inner_rules ?k_inner_rules) (K4.fn_mk ?a_integer_in ?l_integer_in ?c_integer_in ?k_integer_in) (K4.fn_mk ?a_integers_in ?l_integers_in ?c_integers_in ?k_integers_in) (K4.fn_mk ?a_characters_in ?l_characters_in ?c_characters_in ?k_characters_in) (K4.fn_mk ?a_texts_in ?l_texts_in ?c_texts_in ?k_texts_in) (K4.fn_mk ?a_integers_word ?l_integers_word ?c_integers_word ?k_integers_word) (K4.fn_mk ?a_write_rule ?l_write_rule ?c_write_rule ?k_write_rule) (K4.fn_mk ?a_rule_words ?l_rule_words ?c_rule_words ?k_rule_words) (K4.fn_mk ?a_own_words ?l_own_words ?c_own_words ?k_own_words) (K4.fn_mk ?a_read_rule ?l_read_rule ?c_read_rule ?k_read_rule) (K4.fn_mk ?a_take_last_rule ?l_take_last_rule ?c_take_last_rule ?k_take_last_rule) (K4.fn_mk ?a_take_rule ?l_take_rule ?c_take_rule ?k_take_rule) (K4.fn_mk ?a_rule_word_in ?l_rule_word_in ?c_rule_word_in ?k_rule_word_in) (K4.fn_mk ?a_taken_values ?l_taken_values ?c_taken_values ?k_taken_values) (K4.fn_mk ?a_rows_in ?l_rows_in ?c_rows_in ?k_rows_in) (K4.fn_mk ?a__law_bag_of ?l__law_bag_of ?c__law_bag_of ?k__law_bag_of) (K4.fn_mk ?a__law_pick ?l__law_pick ?c__law_pick ?k__law_pick) (K4.fn_mk ?a__law_one_of ?l__law_one_of ?c__law_one_of ?k__law_one_of) (K4.fn_mk ?a__law_mixed ?l__law_mixed ?c__law_mixed ?k__law_mixed) (K4.fn_mk ?a__law_listed_of ?l__law_listed_of ?c__law_listed_of ?k__law_listed_of) (K4.fn_mk ?a__law_no_list ?l__law_no_list ?c__law_no_list ?k__law_no_list) (K4.fn_mk ?a__law_same_tuple ?l__law_same_tuple ?c__law_same_tuple ?k__law_same_tuple) (K4.fn_mk ?a__law_many_signs ?l__law_many_signs ?c__law_many_signs ?k__law_many_signs) (K4.fn_mk ?a__law_commas ?l__law_commas ?c__law_commas ?k__law_commas) (K4.fn_mk ?a__law_rule_words ?l__law_rule_words ?c__law_rule_words ?k__law_rule_words) (K4.fn_mk ?a__law_text_leaf ?l__law_text_leaf ?c__law_text_leaf ?k__law_text_leaf) (K4.fn_mk ?a__law_text_rule ?l__law_text_rule ?c__law_text_rule ?k__law_text_rule) (K4.fn_mk ?a__law_written ?l__law_written ?c__law_written ?k__law_written) (K4.fn_mk ?a__law_ends ?l__law_ends ?c__law_ends ?k__law_ends) (K4.fn_mk ?a_law ?l_law ?c_law ?k_law) ?aC ?ma_Init ?mi_Init ?mk_Init (K4.fnq_mk ?ml_Init ?mc_Init ?mk2_Init) ?ma_H ?mi_H ?mk_H (K4.fnq_mk ?ml_H ?mc_H ?mk2_H) ?ma_T ?mi_T ?mk_T (K4.fnq_mk ?ml_T ?mc_T ?mk2_T) ?ma_I ?mi_I ?mk_I (K4.fnq_mk ?ml_I ?mc_I ?mk2_I) ?ma_M ?mi_M ?mk_M (K4.fnq_mk ?ml_M ?mc_M ?mk2_M) ?ma_F ?mi_F ?mk_F (K4.fnq_mk ?ml_F ?mc_F ?mk2_F) ?c_pg ?c_hdI ?c_po ?c_sa ?c_mkC ?c_kcC ?c_nL ?c_nW ?c_nA ?g_LEAST_KINDS ?g_MOST_KINDS ?g_LEAST_MODULUS ?g_MOST_MODULUS ?g_MOST_WEIGHTS ?g_MOST_ROWS ?g_MOST_FACES ?g_MOST_CUT ?g_MOST_PARTS ?g_MOST_DIGITS ?g_MOST_NUMBER ?g_DIGITS ?g_ALL_SIGNS ?d_O ?dl_O ?dy_O ?do_O ?eO_any ?eO_back ?eO_not ?eO_both ?eO_either ?eO_sum ?eO_square ?eO_faces ?eO_cut ?d_I ?dl_I ?dy_I ?do_I ?eI_any ?eI_back ?eI_not ?eI_both ?eI_either ?eI_sum ?eI_square ?eI_faces ?eI_cut ?b_len ?b_sum ?b_abs ?b_int ?b_range ?b_list ?b_tuple ?b_str ?b_bool ?b_sorted ?b_all ?b_min ?b_isinstance ?b_max
    (case a_is_whole => first | k_is)
    (case l_is_whole => first | k_is)
    (case c_is_whole => first | k_is)
    (case k_is_whole => first | k_is)
    (case a_is_within => first | k_is)
    (case l_is_within => first | k_is)
    (case c_is_within => first | k_is)
    (case k_is_within => first | k_is)
    (case a_is_text => first | k_is)
    (case l_is_text => first | k_is)
    (case c_is_text => first | k_is)
    (case k_is_text => first | k_is)
    (case a_own_values => first | k_is)
    (case l_own_values => first | k_is)
    (case c_own_values => first | k_is)
    (case k_own_values => first | k_is)
    (case a_inner_rules => first | k_is)
    (case l_inner_rules => first | k_is)
    (case c_inner_rules => first | k_is)
    (case k_inner_rules => first | k_is)
    (case a_integer_in => first | k_is)
    (case l_integer_in => first | k_is)
    (case c_integer_in => first | k_is)
    (case k_integer_in => first | k_is)
    (case a_integers_in => first | k_is)
    (case l_integers_in => first | k_is)
    (case c_integers_in => first | k_is)
    (case k_integers_in => first | k_is)
    (case a_characters_in => first | k_is)
    (case l_characters_in => first | k_is)
    (case c_characters_in => first | k_is)
    (case k_characters_in => first | k_is)
    (case a_texts_in => first | k_is)
    (case l_texts_in => first | k_is)
    (case c_texts_in => first | k_is)
    (case k_texts_in => first | k_is)
    (case a_integers_word => first | k_is)
    (case l_integers_word => first | k_is)
    (case c_integers_word => first | k_is)
    (case k_integers_word => first | k_is)
    (case a_write_rule => first | k_is)
    (case l_write_rule => first | k_is)
    (case c_write_rule => first | k_is)
    (case k_write_rule => first | k_is)
    (case a_rule_words => first | k_is)
    (case l_rule_words => first | k_is)
    (case c_rule_words => first | k_is)
    (case k_rule_words => first | k_is)
    (case a_own_words => first | k_is)
    (case l_own_words => first | k_is)
    (case c_own_words => first | k_is)
    (case k_own_words => first | k_is)
    (case a_read_rule => first | k_is)
    (case l_read_rule => first | k_is)
    (case c_read_rule => first | k_is)
    (case k_read_rule => first | k_is)
    (case a_take_last_rule => first | k_is)
    (case l_take_last_rule => first | k_is)
    (case c_take_last_rule => first | k_is)
    (case k_take_last_rule => first | k_is)
    (case a_take_rule => first | k_is)
    (case l_take_rule => first | k_is)
    (case c_take_rule => first | k_is)
    (case k_take_rule => first | k_is)
    (case a_rule_word_in => first | k_is)
    (case l_rule_word_in => first | k_is)
    (case c_rule_word_in => first | k_is)
    (case k_rule_word_in => first | k_is)
    (case a_taken_values => first | k_is)
    (case l_taken_values => first | k_is)
    (case c_taken_values => first | k_is)
    (case k_taken_values => first | k_is)
    (case a_rows_in => first | k_is)
    (case l_rows_in => first | k_is)
    (case c_rows_in => first | k_is)
    (case k_rows_in => first | k_is)
    (case a__law_bag_of => first | k_is)
    (case l__law_bag_of => first | k_is)
    (case c__law_bag_of => first | k_is)
    (case k__law_bag_of => first | k_is)
    (case a__law_pick => first | k_is)
    (case l__law_pick => first | k_is)
    (case c__law_pick => first | k_is)
    (case k__law_pick => first | k_is)
    (case a__law_one_of => first | k_is)
    (case l__law_one_of => first | k_is)
    (case c__law_one_of => first | k_is)
    (case k__law_one_of => first | k_is)
    (case a__law_mixed => first | k_is)
    (case l__law_mixed => first | k_is)
    (case c__law_mixed => first | k_is)
    (case k__law_mixed => first | k_is)
    (case a__law_listed_of => first | k_is)
    (case l__law_listed_of => first | k_is)
    (case c__law_listed_of => first | k_is)
    (case k__law_listed_of => first | k_is)
    (case a__law_no_list => first | k_is)
    (case l__law_no_list => first | k_is)
    (case c__law_no_list => first | k_is)
    (case k__law_no_list => first | k_is)
    (case a__law_same_tuple => first | k_is)
    (case l__law_same_tuple => first | k_is)
    (case c__law_same_tuple => first | k_is)
    (case k__law_same_tuple => first | k_is)
    (case a__law_many_signs => first | k_is)
    (case l__law_many_signs => first | k_is)
    (case c__law_many_signs => first | k_is)
    (case k__law_many_signs => first | k_is)
    (case a__law_commas => first | k_is)
    (case l__law_commas => first | k_is)
    (case c__law_commas => first | k_is)
    (case k__law_commas => first | k_is)
    (case a__law_rule_words => first | k_is)
    (case l__law_rule_words => first | k_is)
    (case c__law_rule_words => first | k_is)
    (case k__law_rule_words => first | k_is)
    (case a__law_text_leaf => first | k_is)
    (case l__law_text_leaf => first | k_is)
    (case c__law_text_leaf => first | k_is)
    (case k__law_text_leaf => first | k_is)
    (case a__law_text_rule => first | k_is)
    (case l__law_text_rule => first | k_is)
    (case c__law_text_rule => first | k_is)
    (case k__law_text_rule => first | k_is)
    (case a__law_written => first | k_is)
    (case l__law_written => first | k_is)
    (case c__law_written => first | k_is)
    (case k__law_written => first | k_is)
    (case a__law_ends => first | k_is)
    (case l__law_ends => first | k_is)
    (case c__law_ends => first | k_is)
    (case k__law_ends => first | k_is)
    (case a_law => first | k_is)
    (case l_law => first | k_is)
    (case c_law => first | k_is)
    (case k_law => first | k_is)
    (case aC => first | k_is)
    (case ma_Init => first | k_is)
    (case mi_Init => first | k_is)
    (case mk_Init => first | k_is)
    (case ml_Init => first | k_is)
    (case mc_Init => first | k_is)
    (case mk2_Init => first | k_is)
    (case ma_H => first | k_is)
    (case mi_H => first | k_is)
    (case mk_H => first | k_is)
    (case ml_H => first | k_is)
    (case mc_H => first | k_is)
    (case mk2_H => first | k_is)
    (case ma_T => first | k_is)
    (case mi_T => first | k_is)
    (case mk_T => first | k_is)
    (case ml_T => first | k_is)
    (case mc_T => first | k_is)
    (case mk2_T => first | k_is)
    (case ma_I => first | k_is)
    (case mi_I => first | k_is)
    (case mk_I => first | k_is)
    (case ml_I => first | k_is)
    (case mc_I => first | k_is)
    (case mk2_I => first | k_is)
    (case ma_M => first | k_is)
    (case mi_M => first | k_is)
    (case mk_M => first | k_is)
    (case ml_M => first | k_is)
    (case mc_M => first | k_is)
    (case mk2_M => first | k_is)
    (case ma_F => first | k_is)
    (case mi_F => first | k_is)
    (case mk_F => first | k_is)
    (case ml_F => first | k_is)
    (case mc_F => first | k_is)
    (case mk2_F => first | k_is)
    (case c_pg => first | k_is)
    (case c_hdI => first | k_is)
    (case c_po => first | k_is)
    (case c_sa => first | k_is)
    (case c_mkC => first | k_is)
    (case c_kcC => first | k_is)
    (case c_nL => first | k_is)
    (case c_nW => first | k_is)
    (case c_nA => first | k_is)
    (case g_LEAST_KINDS => first | k_is)
    (case g_MOST_KINDS => first | k_is)
    (case g_LEAST_MODULUS => first | k_is)
    (case g_MOST_MODULUS => first | k_is)
    (case g_MOST_WEIGHTS => first | k_is)
    (case g_MOST_ROWS => first | k_is)
    (case g_MOST_FACES => first | k_is)
    (case g_MOST_CUT => first | k_is)
    (case g_MOST_PARTS => first | k_is)
    (case g_MOST_DIGITS => first | k_is)
    (case g_MOST_NUMBER => first | k_is)
    (case g_DIGITS => first | k_is)
    (case g_ALL_SIGNS => first | k_is)
    (case d_O => first | k_is)
    (case dl_O => first | k_is)
    (case dy_O => first | k_keys | k_is | rfl | decide +kernel)
    (case do_O => first | rfl | k_is | rfl | decide +kernel)
    (case eO_any => first | k_is)
    (case eO_back => first | k_is)
    (case eO_not => first | k_is)
    (case eO_both => first | k_is)
    (case eO_either => first | k_is)
    (case eO_sum => first | k_is)
    (case eO_square => first | k_is)
    (case eO_faces => first | k_is)
    (case eO_cut => first | k_is)
    (case d_I => first | k_is)
    (case dl_I => first | k_is)
    (case dy_I => first | k_keys | k_is | rfl | decide +kernel)
    (case do_I => first | rfl | k_is | rfl | decide +kernel)
    (case eI_any => first | k_is)
    (case eI_back => first | k_is)
    (case eI_not => first | k_is)
    (case eI_both => first | k_is)
    (case eI_either => first | k_is)
    (case eI_sum => first | k_is)
    (case eI_square => first | k_is)
    (case eI_faces => first | k_is)
    (case eI_cut => first | k_is)
    (case b_len => first | k_is)
    (case b_sum => first | k_is)
    (case b_abs => first | k_is)
    (case b_int => first | k_is)
    (case b_range => first | k_is)
    (case b_list => first | k_is)
    (case b_tuple => first | k_is)
    (case b_str => first | k_is)
    (case b_bool => first | k_is)
    (case b_sorted => first | k_is)
    (case b_all => first | k_is)
    (case b_min => first | k_is)
    (case b_isinstance => first | k_is)
    (case b_max => first | k_is)
