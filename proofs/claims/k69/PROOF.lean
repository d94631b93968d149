import PyProof.Rows.All
import Wide.All
import OpenK.AllK
import Wide.FinOn
import HandS.Base
import HandS.Call
import HandS.List
import HandS.Text
import PyProof.ListStr
import PyProof.StrOps2
import PyProof.SliceStr2
import KE.KRevSl
import HandS.ForMost
import HandS.Star
import HandS.TupAny
import HandS.IsInst
import HandS.NoneIn
import HandS.More
import HandS.Walk
import KE.DataEq
import HandS.ExcIs
import HandS.ExcField
import HandS.ExcInit
import HandS.ExcSuper
import KE.KExcSuper
import KE.KSuper
import HandS.Head0
import HandS.Head1
import HandS.Head2
import HandS.HeadEnd
import HandS.HeadHook1
import HandS.HeadHook2
import HandS.HeadHook3
import HandS.HeadNt
import HandS.Deep
import KE.KDictCopyH
import PyProof.P3Eq
import HandS.Exc
import HandS.ExcOwn
import HandS.ExcCtx
import HandS.WordsExc
import KE.GoesEnum
import HandS.Replace
import HandS.Comp
import HandS.Conv
import HandS.Zip
import HandS.Style
import HandS.TupMul
import HandS.CallSlots
import HandS.HotCalls
import KE.KExcIs
import PySem.Challenge.RW_handcarried_k69_fitting
set_option Elab.async false
set_option linter.all false
set_option maxRecDepth 100000
set_option maxHeartbeats 0
/-! Br1 -/
/-! Rules of my own over the layer: list(text), text * n, text[::-1]. -/
namespace K1
open PySem PySem.Spec PyProof.Rows L2

theorem vals_pt : ∀ {xs : List V} {us : List Value}, xs.length = us.length → (∀ (j : Nat) (x : V) (u : Value), xs[j]? = some x → us[j]? = some u → RelV x u) → Vals xs us
  | [], [], _, _ => .nil
  | [], _ :: _, h, _ => by simp at h
  | _ :: _, [], h, _ => by simp at h
  | x :: xs, u :: us, h, k => .cons (k 0 x u rfl rfl) (vals_pt (by simpa using h) fun j y w a b => k (j + 1) y w (by simpa using a) (by simpa using b))

/-- the signs of a text, each a text -/
def sgn (z : Str) : List Str := z.cps.toList.map fun c => ⟨#[c]⟩

theorem call_listS {X : Cx} (hh : X.A.handled = none) : CallR X (.type "list") (fun xs H Q => ∃ z : Str, xs = [.str z] ∧ z.length ≤ sizeLine ∧ ∀ l, H l = none → Q (.ref l) (upd H l (.lst ((sgn z).map V.str)))) := by
  intro pins s σ H xs us Q I r h
  obtain ⟨z, rfl, hz, q⟩ := h
  obtain ⟨u, rfl, rx⟩ := vals1 r
  obtain ⟨t, rfl⟩ := rx
  refine call_list_str hh z t (hn := hz) fun h' tk acc c kp hS hacc => ?_
  refine ⟨.ref s.heap.objs.size, _, I.laid (t' := tk) (o := .lst ((sgn z).map V.str)) kp (Nat.le_refl _) ?_, rfl, q _ (I.hok.fresh (Nat.le_refl _))⟩
  refine ⟨?_, acc.toList, c, ?_, ?_⟩
  · have e : ((sgn z).map V.str).length = z.length := by simp [sgn, Str.length]
    rw [e]; exact hz
  · refine vals_pt ?_ ?_
    · simp [sgn, hacc.1]
    · intro j x u hx hu
      obtain ⟨c, w, hc, rfl⟩ := hacc.2 j u (by simpa using hu)
      have : x = V.str ⟨#[c]⟩ := by
        simp [sgn, hc] at hx
        exact hx.symm
      subst this
      exact ⟨w, rfl⟩
  · simpa using hS

/-- a text n times -/
def repS (z : Str) (n : Nat) : Str := ⟨(List.replicate n z.cps).foldl (· ++ ·) #[]⟩
theorem op_mul_str {X : Cx} : OpR X (binaryOp .Mult) (fun x y H Q => ∃ (z : Str) (k : Int), x = .str z ∧ y = .int k ∧ 1 ≤ k ∧ k ≤ 1000000 ∧ 1 ≤ z.length ∧ z.length * k.toNat ≤ sizeLine ∧ Q (.str (repS z k.toNat)) H) := by
  intro pins s σ H x y v u Q I rx ry h
  obtain ⟨z, k, rfl, rfl, h1, h2, h3, h4, q⟩ := h
  obtain ⟨t, rfl⟩ := rx
  obtain ⟨w, rfl⟩ := ry
  have hsl := sizeLine_eq
  refine P.mul_str ?_ ?_ ?_ ?_
  · have a1 : ¬ k < -(2 ^ 63 : Int) := by omega
    have a2 : ¬ k ≥ 2 ^ 63 := by omega
    rw [decide_eq_false a1, decide_eq_false a2]; rfl
  · intro _ _ hgt
    have hlen : (z.length : Int) ≤ 16777216 := by
      have : z.length * 1 ≤ z.length * k.toNat := Nat.mul_le_mul_left _ (by omega)
      omega
    have hq : (16777216 : Int) ≤ (2 ^ 63 - 1) / k := by
      rw [Int.le_ediv_iff_mul_le (by omega)]
      omega
    omega
  · intro _ _
    unfold Builtin.Str.tooLong
    exact decide_eq_false (by omega)
  · rw [if_neg (by omega)]
    by_cases c : (k == 1 || z.length == 0) = true
    · rw [if_pos c]
      have hk : k = 1 := by
        have h0 : (z.length == 0) = false := by simp; omega
        rw [h0, Bool.or_false] at c
        exact eq_of_beq c
      subst hk
      have e : repS z (1 : Int).toNat = z := by
        show (⟨(List.replicate 1 z.cps).foldl (· ++ ·) #[]⟩ : Str) = z
        simp [List.replicate]
      rw [e] at q
      exact ⟨.str z, H, I, ⟨t, rfl⟩, q⟩
    · rw [if_neg c]
      refine ⟨?_, .str _, H, I.tok _, ⟨_, rfl⟩, q⟩
      have e : ∀ (n : Nat) (a : Array Nat), ((List.replicate n z.cps).foldl (· ++ ·) a).size = a.size + n * z.cps.size := by
        intro n
        induction n with
        | zero => intro a; simp
        | succ n ih => intro a; rw [List.replicate_succ, List.foldl_cons, ih, Array.size_append, Nat.add_mul]; omega
      show ((List.replicate k.toNat z.cps).foldl (· ++ ·) #[]).size ≤ sizeLine
      rw [e]
      have : k.toNat * z.cps.size = z.length * k.toNat := Nat.mul_comm _ _
      simp only [Array.size_empty, Nat.zero_add]
      omega

/-- a text read from its end -/
def revS (z : Str) : Str := ⟨z.cps.toList.reverse.toArray⟩
def tRevS (te : TE) : TE := fun σ H Q => te σ H fun x H1 => ∃ z : Str, x = .str z ∧ z.length ≤ sizeLine ∧ Q (.str (revS z)) H1
theorem picked_rev (z : Str) (u : Tok) : ((slicePicked z none none (some (-1, u))).filterMap (z.cps[·]?)).toArray = z.cps.toList.reverse.toArray := by
  have e : slicePicked z none none (some (-1, u)) = sliceRange ((z.cps.size : Int) - 1) (-1) (-1) := by
    first
      | rfl
      | simp [slicePicked, Builtin.Str.strSliceIndices, Str.length]
  rw [e, PySem.W.krv_sliceRange, PySem.W.krv_range, List.filterMap_reverse, PySem.W.krv_all]
section
variable {X : Cx}
theorem pe_revS {e : Expr} {te : TE} {k : Nat} {p1 p2 p3 pos : Pos} (he : PE X e te) : PE X (.Subscript e (.Slice none none (some (.UnaryOp .USub (.Constant (.int 1) k p1) p2)) p3) pos) (tRevS te) := by
  refine ⟨fun pins s σ H Q I h => ?_⟩
  refine Subscript_ (thn (he.run pins s σ H _ I h) fun v s1 ⟨x, H1, I1, r1, z, ez, hz, q⟩ => ?_)
  subst ez
  obtain ⟨t, rfl⟩ := r1
  have hst : PO X (some (.UnaryOp .USub (.Constant (.int 1) k p1) p2)) (tPart (tUn (rU fun i => .int (-i)) (tC (.int 1)))) := po_some (pe_un un_neg pe_int)
  refine wpAny_Slice (thn (po_none.run pins s1 σ H1 (fun o G => o = none ∧ G = H1) I1 ⟨rfl, rfl⟩) fun vl s2 ⟨l, G2, I2, pl, el, g2⟩ => ?_)
  subst el g2
  refine thn (po_none.run pins s2 σ G2 (fun o G => o = none ∧ G = G2) I2 ⟨rfl, rfl⟩) fun vu s3 ⟨u, G3, I3, pu, eu, g3⟩ => ?_
  subst eu g3
  refine thn (hst.run pins s3 σ G3 (fun o G => o = some (-1) ∧ G = G3) I3 ⟨1, rfl, -1, rfl, rfl, rfl⟩) fun vs s4 ⟨o, G4, I4, ps, eo, g4⟩ => ?_
  subst eo g4
  obtain ⟨l', el, fl⟩ := IsPart.raw pl
  obtain ⟨u', eu, fu⟩ := IsPart.raw pu
  obtain ⟨w', ew, fw⟩ := IsPart.raw ps
  have l0 : l' = none := by cases l' <;> simp_all
  have u0 : u' = none := by cases u' <;> simp_all
  obtain ⟨tw, w0⟩ : ∃ tw, w' = some (-1, tw) := by
    cases w' with
    | none => simp at fw
    | some p => obtain ⟨a, b⟩ := p; simp at fw; exact ⟨b, by rw [← fw]⟩
  subst l0 u0 w0
  have I5 : Inv X pins σ G4 { s4 with heap := s4.heap.push { cls := .type "slice", data := .fields #[vl, vu, vs] } } := I4.kept (t' := s4.toks) fun b ob q => Heap.get?_push_of_some _ q
  show wpAny (model X.prog X.w) X.A (subscriptTail e (.Slice none none (some (.UnaryOp .USub (.Constant (.int 1) k p1) p2)) p3) (.str z t) (.ref s4.heap.objs.size)) (EP X pins σ Q) X.xe { s4 with heap := s4.heap.push { cls := .type "slice", data := .fields #[vl, vu, vs] } }
  refine tail_any (ops := [.str z t, .ref s4.heap.objs.size]) (typeIs_str _ _ _) (PySem.F.slot_str_getitem.lookup) ?_ (by with_unfolding_all rfl)
  have hsl : Heap.IsSlice (s4.heap.push { cls := .type "slice", data := .fields #[vl, vu, vs] }) s4.heap.objs.size none none (some (-1, tw)) := by
    rw [el, eu, ew]
    exact ⟨_, Heap.get?_push_size _ rfl, rfl, rfl⟩
  refine wpAny_getItem_str_slice (l := none) (u := none) (st := some (-1, tw)) hsl rfl ?_
  have em : sliceMade z t none none (some (-1, tw)) = Made.str (revS z) := by
    unfold sliceMade
    rw [if_neg (by simp), picked_rev]
    rfl
  rw [em]
  refine ⟨?_, .str _, G4, I5.tok _, ⟨_, rfl⟩, q⟩
  simpa [revS, Str.length] using hz
end
end K1

/-! Br2 -/
/-! Readings, backwards: one lemma for each word of a reading, so that straight code runs by itself. -/
namespace K1
open PySem L2
section
variable {σ : L2.St} {H : Hp} {Q : VK} {v : V} {i : Nat} {ta tb te : TE} {t : TA} {nx : L2.St → Hp → Prop} {rt : VK} {bk ct : L2.St → Hp → Prop}
theorem r_var (h : σ[i]? = some (some v)) (q : Q v H) : tVar i σ H Q := ⟨v, h, q⟩
theorem r_c (q : Q v H) : tC v σ H Q := q
theorem r_op {r : R2} (q : ta σ H fun x H1 => tb σ H1 fun y H2 => r x y H2 Q) : tOp r ta tb σ H Q := q
theorem r_un {r : V → Hp → VK → Prop} (q : ta σ H fun x H1 => r x H1 Q) : tUn r ta σ H Q := q
theorem r_I0 {g : Int → Int → V} {a b : Int} (q : Q (g a b) H) : rI0 g (.int a) (.int b) H Q := ⟨a, b, rfl, rfl, q⟩
theorem r_I {C : Int → Int → Prop} {g : Int → Int → V} {a b : Int} (c : C a b) (q : Q (g a b) H) : rI C g (.int a) (.int b) H Q := ⟨a, b, rfl, rfl, c, q⟩
theorem r_test {R : Bool → Hp → Prop} (q : te σ H fun x H' => ∃ k, x = .bl k ∧ R k H') : tTest te σ H R := q
theorem r_bl {b : Bool} {R : Bool → Hp → Prop} (q : R b H) : ∃ k, V.bl b = .bl k ∧ R k H := ⟨b, rfl, q⟩
theorem r_if {c : TT} (q : c σ H fun b H1 => if b = true then ta σ H1 Q else tb σ H1 Q) : tIf c ta tb σ H Q := q
theorem r_ifs {c : TT} {u w : TS} {D : Ends} (q : c σ H fun b H1 => if b = true then u D σ H1 else w D σ H1) : tIfS c u w D σ H := q
theorem r_ite {p : Prop} {dp : Decidable p} {A B : Prop} (h1 : p → A) (h2 : ¬ p → B) : if decide p = true then A else B := by
  by_cases h : p
  · rw [decide_eq_true h, if_pos rfl]; exact h1 h
  · rw [decide_eq_false h, if_neg Bool.false_ne_true]; exact h2 h
theorem r_iteN {p : Prop} {dp : Decidable p} {A B : Prop} (h1 : ¬ p → A) (h2 : p → B) : if (!decide p) = true then A else B := by
  by_cases h : p
  · rw [decide_eq_true h]; exact h2 h
  · rw [decide_eq_false h]; exact h1 h
theorem r_iteT {A B : Prop} (h1 : A) : if true = true then A else B := h1
theorem r_iteF {A B : Prop} (h1 : B) : if false = true then A else B := h1
theorem r_iteB {b : Bool} {A B : Prop} (h1 : b = true → A) (h2 : b = false → B) : if b = true then A else B := by
  cases b
  · exact h2 rfl
  · exact h1 rfl
theorem r_and {c d : TT} {R : Bool → Hp → Prop} (q : c σ H fun b H1 => if b = true then d σ H1 R else R false H1) : tAnd c d σ H R := q
theorem r_or {c d : TT} {R : Bool → Hp → Prop} (q : c σ H fun b H1 => if b = true then R true H1 else d σ H1 R) : tOr c d σ H R := q
theorem r_not {c : TT} {R : Bool → Hp → Prop} (q : c σ H fun b H1 => R (!b) H1) : tNot c σ H R := q
theorem r_tB {R : Bool → Hp → Prop} (q : te σ H fun x H' => ∃ k, x = .bl k ∧ R k H') : tB te σ H R := q
theorem r_andV (q : ta σ H fun x H1 => ∃ c, x = .bl c ∧ if c = true then tb σ H1 Q else Q (.bl false) H1) : tAndV ta tb σ H Q := q
theorem r_orV (q : ta σ H fun x H1 => ∃ c, x = .bl c ∧ if c = true then Q (.bl true) H1 else tb σ H1 Q) : tOrV ta tb σ H Q := q
theorem r_notV (q : ta σ H fun x H1 => ∃ c, x = .bl c ∧ Q (.bl (!c)) H1) : tNotV ta σ H Q := q
theorem r_cb {r : List V → Hp → VK → Prop} (q : t σ H fun vs H1 => r vs H1 Q) : tCB r t σ H Q := q
theorem r_cons {tr : TA} {R : List V → Hp → Prop} (q : ta σ H fun x H1 => tr σ H1 fun xs H2 => R (x :: xs) H2) : tCons ta tr σ H R := q
theorem r_nil {R : List V → Hp → Prop} (q : R [] H) : tNil σ H R := q
theorem r_seq {u w : TS} (q : u ⟨w ⟨nx, rt, bk, ct⟩, rt, bk, ct⟩ σ H) : tSeq u w ⟨nx, rt, bk, ct⟩ σ H := q
theorem r_asg {g : TG} (q : te σ H fun x H1 => g x σ H1 nx) : tAsg te g ⟨nx, rt, bk, ct⟩ σ H := q
theorem r_name {R : L2.St → Hp → Prop} (q : R (σ.set i (some v)) H) : gName i v σ H R := q
theorem r_ret (q : te σ H rt) : tRet te ⟨nx, rt, bk, ct⟩ σ H := q
theorem r_next (q : nx σ H) : tNext ⟨nx, rt, bk, ct⟩ σ H := q
theorem r_drop (q : te σ H fun _ H1 => nx σ H1) : tDrop te ⟨nx, rt, bk, ct⟩ σ H := q
theorem r_lst (q : t σ H fun xs H1 => xs.length ≤ sizeLine ∧ ∀ p, H1 p = none → Q (.ref p) (upd H1 p (.lst xs))) : tLst t σ H Q := q
theorem r_tup (q : t σ H fun xs H1 => xs.length ≤ sizeLine ∧ ∀ p, H1 p = none → Q (.ref p) (upd H1 p (.tup xs))) : tTup t σ H Q := q
theorem r_call {sp : Sp} {dvs : List V} {E : XK} (q : t σ H fun vs H1 => sp (vs ++ dvs) H1 Q E) : tCall sp dvs E t σ H Q := q
theorem r_gsub {to ti : TE} {s : TSet} {R : L2.St → Hp → Prop} (q : to σ H fun o H1 => ti σ H1 fun i H2 => s o i v H2 fun H3 => R σ H3) : gSub to ti s v σ H R := q
theorem r_for {wi : TI} {g : TG} {u : TS} {D : Ends} (q : wi σ H fun J H1 => ∃ W : Nat → Nat → L2.St → Hp → Prop, (∃ m, W 0 m σ H1) ∧ ∀ i m σ H, W i m σ H →
    ((J.stop i H ∧ D.nx σ H) ∨ (J.go i H ∧ ∃ N : L2.St → Hp → Prop, (∀ σ' H', N σ' H' → ∃ m', m' < m ∧ W (i + 1) m' σ' H') ∧ ∀ x H', J.yld i H x H' → g x σ H' fun σ2 H2 => u { D with nx := N, ct := N, bk := D.nx } σ2 H2))) : tFor wi g u D σ H := q
end
section
variable {K : PySem.W.Frag} {σ : L2.St} {H : Hp} {Q : VK} {v : V} {a : Addr} {xs : List V}
theorem lenL (h : SqL K H a xs) : LenV K (.ref a) H xs.length := .inl ⟨_, h, rfl⟩
theorem lenT (h : SqT K H a xs) : LenV K (.ref a) H xs.length := .inr ⟨_, h, rfl⟩
theorem lenS {x : Str} (h : x.length ≤ sizeLine) : LenV K (.str x) H x.length := ⟨h, rfl⟩
theorem r_len {y : V} {n : Nat} {R : VK} (h : LenV K y H n) (q : R (.int n) H) : ∃ x n, [y] = [x] ∧ LenV K x H n ∧ R (V.int n) H := ⟨y, n, rfl, h, q⟩
theorem r_ixL {i : Int} (h : SqL K H a xs) (e : atI xs i = some v) (q : Q v H) : rIxL K (.ref a) (.int i) H Q := ⟨a, xs, i, v, rfl, rfl, h, e, q⟩
theorem r_ixT {i : Int} (h : SqT K H a xs) (e : atI xs i = some v) (q : Q v H) : rIxT K (.ref a) (.int i) H Q := ⟨a, xs, i, v, rfl, rfl, h, e, q⟩
theorem r_ixS {x : Str} {i : Int} {c : Nat} (h : x.length ≤ sizeLine) (e : atI x.cps.toList i = some c) (q : Q (.str ⟨#[c]⟩) H) : rIxS (.str x) (.int i) H Q := ⟨x, i, c, rfl, rfl, h, e, q⟩
theorem r_sum {ns : List Int} (h : SqL K H a (ns.map V.int)) (q : Q (.int ns.sum) H) : rSum K [.ref a] H Q := ⟨a, ns, rfl, h, q⟩
theorem at_int {ns : List Int} {i : Int} (h0 : 0 ≤ i) (h1 : i < ns.length) : ∃ z, atI (ns.map V.int) i = some (.int z) ∧ z ∈ ns := by
  obtain ⟨j, rfl⟩ : ∃ j : Nat, i = j := ⟨i.toNat, by omega⟩
  have hj : j < ns.length := by omega
  exact ⟨ns[j], atI_nat (by simp [hj]), List.getElem_mem _⟩
theorem r_setL {i : Int} {j : Nat} {R : Hp → Prop} (h : H a = some (.lst xs)) (e : ixN xs.length i = some j) (q : R (upd H a (.lst (xs.set j v)))) : rSetL (.ref a) (.int i) v H R := ⟨a, xs, i, j, rfl, rfl, h, e, q⟩
end
section
variable {K : PySem.W.Frag} {σ : L2.St} {H : Hp} {a D : Addr} {xs : List V} {vs : List Nat} {te : TE} {Qd : Hp → Prop}
theorem same_new {o : HO} (h : H D = none) : Same H (upd H D o) := fun b u e => by
  rw [upd_ne (ne_of_none e h)]
  exact e
theorem sqL_new {o : HO} (h : H D = none) (q : SqL K H a xs) : SqL K (upd H D o) a xs := (same_new h).seq q
/-- [f x for x in xs], the element's value told, the heap left as it was -/
theorem lc_map {i : Nat} (f : V → V) (hS : SqL K H a xs) (hD : H D = none) (hz : xs.length ≤ sizeLine) (hw : ∀ x, wipe ((wipe σ vs).set i (some x)) vs = wipe σ vs)
    (he : ∀ x ∈ xs, ∀ (H' : Hp) (R : VK), Same H H' → R (f x) H' → te ((wipe σ vs).set i (some x)) H' R) (hd : Qd (upd H D (.lst (xs.map f)))) :
    ∃ W : Nat → Nat → Hp → Prop, (∃ m, W 0 m (upd H D (.lst []))) ∧ ∀ i₁ m H, W i₁ m H →
      ((Itl K a).stop i₁ H ∧ Qd H) ∨ ((Itl K a).go i₁ H ∧ ∃ Nx : Hp → Prop, (∀ H', Nx H' → ∃ m', m' < m ∧ W (i₁ + 1) m' H') ∧ ∀ x H', (Itl K a).yld i₁ H x H' → gName i x (wipe σ vs) H' fun σ2 H2 => wipe σ2 vs = wipe σ vs ∧ tYes σ2 H2 fun b H3 =>
        if b = true then te σ2 H3 fun y H4 => ∃ acc, H4 D = some (.lst acc) ∧ acc.length < sizeLine ∧ Nx (upd H4 D (.lst (acc ++ [y]))) else Nx H3) := by
  refine lc_list (K := K) (a := a) (xs := xs) (fun j H' => H' = upd H D (.lst ((xs.take j).map f))) (by simp) (fun j H' _ e => by rw [e]; exact sqL_new hD hS) ?_ (fun H' e => by rw [e, List.take_length]; exact hd)
  rintro j x H' hx rfl
  have hj : j < xs.length := (List.getElem?_eq_some_iff.mp hx).1
  have hm : x ∈ xs := List.mem_of_getElem? hx
  refine ⟨hw x, ?_⟩
  show te _ _ _
  refine he x hm _ _ (same_new hD) ⟨_, upd_same, ?_, ?_⟩
  · simp only [List.length_map, List.length_take]
    omega
  · rw [upd_upd, List.take_succ, hx]
    simp
end
/-! ### own defs -/
def Own (P : Program) (w : World) (K : PySem.W.Frag) (mg : Str → Option Value) (base : Heap) (x : Str) (k : Nat) (ps : List Str) (sp : Sp) : Prop :=
  ∃ (f : Addr) (fd : FuncData), FnOk P w K mg base CX0 k f fd ps sp ∧ mg x = some (.ref f) ∧ PySem.W.keepIn K (.ref f) = true ∧ Binds K fd ps []
theorem pe_own {X : Cx} {x : Str} {k : Nat} {ps : List Str} {sp : Sp} {e : Expr} {es : List Expr} {t : TA} {p pos : Pos} (O : Own X.prog X.w X.K X.mg X.base x k ps sp) (hr : Room k X.A) (ha : PA X (e :: es) t) (hg : Gl X x := by rfl)
    (hdb : (x == ("__debug__" : Str)) = false := by decide) (he : starEach (e :: es) X.env = (false, eval e X.env) :: starEach es X.env := by rfl) (hpl : (backTo pos (starEach es X.env)).any (·.1) = false := by rfl) :
    PE X (.Call (.Name x p) (e :: es) [] pos) (tCall sp [] E0 t) := by
  obtain ⟨f, fd, G, m, kp, b⟩ := O
  exact pe_call G hr hg m kp b .nil pass0 ha hdb he hpl
theorem Own.imp {P : Program} {w : World} {K : PySem.W.Frag} {mg : Str → Option Value} {base : Heap} {x : Str} {k : Nat} {ps : List Str} {sp sp' : Sp} (O : Own P w K mg base x k ps sp) (h : ∀ vs H Q E, sp' vs H Q E → sp vs H Q E) : Own P w K mg base x k ps sp' := by
  obtain ⟨f, fd, G, r⟩ := O
  exact ⟨f, fd, G.imp h, r⟩
/-- everywhere but at b the heap is the same -/
def Off (b : Addr) (H H' : Hp) : Prop := ∀ c, c ≠ b → H' c = H c
theorem Off.refl (b : Addr) (H : Hp) : Off b H H := fun _ _ => rfl
theorem Off.trans {b : Addr} {H H1 H2 : Hp} (x : Off b H H1) (y : Off b H1 H2) : Off b H H2 := fun c h => (y c h).trans (x c h)
theorem Off.upd {b : Addr} {H : Hp} {o : HO} : Off b H (upd H b o) := fun _ h => upd_ne h
theorem Off.at {b c : Addr} {H H' : Hp} {o : HO} (x : Off b H H') (h : c ≠ b) (e : H c = some o) : H' c = some o := (x c h).trans e
theorem Off.none {b c : Addr} {H H' : Hp} {u : HO} (x : Off b H H') (hb : H b = some u) (hb' : ∃ u, H' b = some u) (e : H c = none) : H' c = none := by
  by_cases h : c = b
  · subst h; rw [hb] at e; cases e
  · exact (x c h).trans e
theorem Off.free {b c : Addr} {H H' : Hp} (x : Off b H H') (hb' : ∃ u, H' b = some u) (e : H' c = Option.none) : c ≠ b ∧ H c = Option.none := by
  have h : c ≠ b := fun h => by obtain ⟨u, q⟩ := hb'; rw [h, q] at e; cases e
  exact ⟨h, (x c h).symm.trans e⟩
section
variable {K : PySem.W.Frag} {σ : L2.St} {H : Hp} {Q : VK} {v : V} {a : Addr} {xs : List V} {te to : TE} {t : TA} {lo hi : Option Int}
theorem r_bm {T : String} {r : V → List V → Hp → VK → Prop} (q : to σ H fun x H1 => tyV K T x H1 ∧ t σ H1 fun ys H2 => r x ys H2 Q) : tBM K T r to t σ H Q := q
theorem r_bm0 {T : String} {r : V → List V → Hp → VK → Prop} (q : to σ H fun x H1 => tyV K T x H1 ∧ r x [] H1 Q) : tBM0 K T r to σ H Q := q
theorem r_sl {r : V → Option Int → Option Int → Hp → VK → Prop} {tl th : TO} (q : te σ H fun x H1 => tl σ H1 fun l H2 => th σ H2 fun u H3 => r x l u H3 Q) : tSl r te tl th σ H Q := q
theorem r_noPart {R : Option Int → Hp → Prop} (q : R none H) : tNoPart σ H R := q
theorem r_part {R : Option Int → Hp → Prop} (q : te σ H fun x H1 => ∃ i, x = .int i ∧ R (some i) H1) : tPart te σ H R := q
theorem r_slS {z : Str} (h : z.length ≤ sizeLine) (q : Q (.str (cutS z lo hi)) H) : rSlS (.str z) lo hi H Q := ⟨z, rfl, h, q⟩
theorem r_slL (h : SqL K H a xs) (q : ∀ p, H p = none → Q (.ref p) (upd H p (.lst (cutV xs lo hi)))) : rSlL K (.ref a) lo hi H Q := ⟨a, xs, rfl, h, q⟩
theorem r_iStr {R : It → Hp → Prop} (q : te σ H fun w H1 => ∃ x, w = .str x ∧ R (Its x) H1) : iStr te σ H R := q
theorem r_iRng1 {R : It → Hp → Prop} (q : t σ H fun vs H1 => ∃ j : Int, vs = [.int j] ∧ -(2 ^ 62) ≤ j ∧ j < 2 ^ 62 ∧ R (Itr 0 j.toNat) H1) : iRng1 t σ H R := q
theorem r_m1 {r : V → List V → Hp → VK → Prop} (q : to σ H fun x H1 => (∃ z, x = .str z) ∧ te σ H1 fun y H2 => r x [y] H2 Q) : tM1 r to te σ H Q := q
theorem tyL {H : Hp} (h : SqL K H a xs) : tyV K "list" (.ref a) H := .inl ⟨rfl, _, h⟩
theorem SqL.off {b : Addr} {H' : Hp} (h : SqL K H a xs) (n : a ≠ b) (o : Off b H H') : SqL K H' a xs := by
  rcases h with (h | ⟨u, h⟩) | h
  · exact .inl (.inl (o.at n h))
  · exact .inl (.inr ⟨u, o.at n h⟩)
  · exact .inr h
/-- what was tracked stands, but at b -/
def Kp (b : Addr) (H H' : Hp) : Prop := ∀ c o, c ≠ b → H c = some o → H' c = some o
theorem Kp.refl (b : Addr) (H : Hp) : Kp b H H := fun _ _ _ e => e
theorem Kp.trans {b : Addr} {H H1 H2 : Hp} (x : Kp b H H1) (y : Kp b H1 H2) : Kp b H H2 := fun c o n e => y c o n (x c o n e)
theorem Off.kp {b : Addr} {H H' : Hp} (x : Off b H H') : Kp b H H' := fun c o n e => x.at n e
theorem Same.kp {b : Addr} {H H' : Hp} (x : Same H H') : Kp b H H' := fun c o _ e => x c o e
theorem Kp.seq {b : Addr} {H' : Hp} (o : Kp b H H') (n : a ≠ b) (h : SqL K H a xs) : SqL K H' a xs := by
  rcases h with (h | ⟨u, h⟩) | h
  · exact .inl (.inl (o _ _ n h))
  · exact .inl (.inr ⟨u, o _ _ n h⟩)
  · exact .inr h
theorem Kp.free {b c : Addr} {H' : Hp} {u : HO} (o : Kp b H H') (hb : H' b = some u) (e : H' c = none) : H c = none := by
  cases q : H c with
  | none => rfl
  | some w =>
    have n : c ≠ b := fun z => by rw [z, hb] at e; cases e
    rw [o c w n q] at e
    cases e
theorem Kp.off {b c : Addr} {H' H2 : Hp} {u : HO} (o : Kp b H H') (x : Off c H' H2) (hc : H c = none) (hb : H b = some u) : Kp b H H2 := fun d w n e => by
  have z : d ≠ c := fun z => by rw [z, hc] at e; cases e
  exact x.at z (o d w n e)
theorem Kp.same {b : Addr} {H' : Hp} (o : Kp b H H') (hb : H b = none) : Same H H' := fun c w e => o c w (fun z => by rw [z, hb] at e; cases e) e
/-- a row: a text's signs, or a list's items -/
def RowAt (K : PySem.W.Frag) (H : Hp) (b : Addr) (r : V) (items : List V) : Prop :=
  (∃ z : Str, r = .str z ∧ items = (sgn z).map V.str ∧ z.length ≤ 1000) ∨ ∃ l, r = .ref l ∧ SqL K H l items ∧ l ≠ b ∧ items.length ≤ 1000
theorem sgn_len (z : Str) : (sgn z).length = z.length := by simp [sgn, Str.length]
theorem small_line {n : Nat} (h : n ≤ 1000) : n ≤ sizeLine := Nat.le_of_lt (small1000 h)
theorem RowAt.len {K : PySem.W.Frag} {H : Hp} {b : Addr} {r : V} {items : List V} (h : RowAt K H b r items) : LenV K r H items.length ∧ items.length ≤ 1000 := by
  rcases h with ⟨z, rfl, rfl, hz⟩ | ⟨l, rfl, h, _, hz⟩
  · rw [List.length_map, sgn_len]
    exact ⟨lenS (small_line hz), hz⟩
  · exact ⟨lenL h, hz⟩
theorem r_rowix {b : Addr} {r : V} {items : List V} {i : Int} {x : V} (h : RowAt K H b r items) (e : atI items i = some x) (q : Q x H) : rIx K r (.int i) H Q := by
  rcases h with ⟨z, rfl, rfl, hz⟩ | ⟨l, rfl, h, _, hz⟩
  · refine .inr (.inr ?_)
    have e' : atI z.cps.toList i = (atI z.cps.toList i) := rfl
    unfold atI at e
    have el : ((sgn z).map V.str).length = z.cps.toList.length := by simp [sgn]
    rw [el] at e
    cases hj : ixN z.cps.toList.length i with
    | none => rw [hj] at e; cases e
    | some j =>
      rw [hj] at e
      have e2 : ((sgn z).map V.str)[j]? = some x := e
      cases hc : z.cps.toList[j]? with
      | none =>
        rw [sgn, List.map_map, List.getElem?_map, hc] at e2
        cases e2
      | some c =>
        rw [sgn, List.map_map, List.getElem?_map, hc] at e2
        have e3 : x = V.str ⟨#[c]⟩ := (Option.some.inj e2).symm
        subst e3
        exact r_ixS (small_line hz) (by unfold atI; rw [hj]; exact hc) q
  · exact .inl (r_ixL h e q)
theorem RowAt.off {b : Addr} {r : V} {items : List V} {H' : Hp} (h : RowAt K H b r items) (o : Off b H H') : RowAt K H' b r items := by
  rcases h with ⟨z, e⟩ | ⟨l, rfl, h, n, hz⟩
  · exact .inl ⟨z, e⟩
  · exact .inr ⟨l, rfl, SqL.off h n o, n, hz⟩
theorem at_nat' {α : Type} {xs : List α} {i : Int} (h0 : 0 ≤ i) (h1 : i < xs.length) : ∃ x, atI xs i = some x ∧ x ∈ xs ∧ xs[i.toNat]? = some x := by
  obtain ⟨j, rfl⟩ : ∃ j : Nat, i = j := ⟨i.toNat, by omega⟩
  have hj : j < xs.length := by omega
  exact ⟨xs[j], atI_nat (by simp [hj]), List.getElem_mem _, by simp [hj]⟩
end
section
variable {K : PySem.W.Frag} {a : Addr} {xs : List V} {lo : Int} {n : Nat} {g : TG} {tb : TS} {nx : L2.St → Hp → Prop} {rt : VK} {σ : L2.St} {H : Hp}
/-- a for over a range, the ends written out -/
theorem fr_range (Pv : Nat → L2.St → Hp → Prop) (h0 : Pv 0 σ H)
    (hs : ∀ i σ H, i < n → Pv i σ H → g (.int (lo + i)) σ H fun σ2 H2 => tb ⟨Pv (i + 1), rt, nx, Pv (i + 1)⟩ σ2 H2) (hd : ∀ σ H, Pv n σ H → nx σ H) :
    ∃ W : Nat → Nat → L2.St → Hp → Prop, (∃ m, W 0 m σ H) ∧ ∀ i m σ H, W i m σ H →
      ((Itr lo n).stop i H ∧ nx σ H) ∨ ((Itr lo n).go i H ∧ ∃ N : L2.St → Hp → Prop, (∀ σ' H', N σ' H' → ∃ m', m' < m ∧ W (i + 1) m' σ' H') ∧ ∀ x H', (Itr lo n).yld i H x H' → g x σ H' fun σ2 H2 => tb ⟨N, rt, nx, N⟩ σ2 H2) :=
  for_range (D := ⟨nx, rt, nx, nx⟩) Pv h0 hs hd
/-- a for over a list -/
theorem fr_list (Pv : Nat → L2.St → Hp → Prop) (h0 : Pv 0 σ H) (hl : ∀ i σ H, i ≤ xs.length → Pv i σ H → SqL K H a xs)
    (hs : ∀ i x σ H, xs[i]? = some x → Pv i σ H → g x σ H fun σ2 H2 => tb ⟨Pv (i + 1), rt, nx, Pv (i + 1)⟩ σ2 H2) (hd : ∀ σ H, Pv xs.length σ H → nx σ H) :
    ∃ W : Nat → Nat → L2.St → Hp → Prop, (∃ m, W 0 m σ H) ∧ ∀ i m σ H, W i m σ H →
      ((Itl K a).stop i H ∧ nx σ H) ∨ ((Itl K a).go i H ∧ ∃ N : L2.St → Hp → Prop, (∀ σ' H', N σ' H' → ∃ m', m' < m ∧ W (i + 1) m' σ' H') ∧ ∀ x H', (Itl K a).yld i H x H' → g x σ H' fun σ2 H2 => tb ⟨N, rt, nx, N⟩ σ2 H2) :=
  for_list (D := ⟨nx, rt, nx, nx⟩) Pv h0 hl hs hd
theorem fr_tup (Pv : Nat → L2.St → Hp → Prop) (h0 : Pv 0 σ H) (hl : ∀ i σ H, i ≤ xs.length → Pv i σ H → SqT K H a xs)
    (hs : ∀ i x σ H, xs[i]? = some x → Pv i σ H → g x σ H fun σ2 H2 => tb ⟨Pv (i + 1), rt, nx, Pv (i + 1)⟩ σ2 H2) (hd : ∀ σ H, Pv xs.length σ H → nx σ H) :
    ∃ W : Nat → Nat → L2.St → Hp → Prop, (∃ m, W 0 m σ H) ∧ ∀ i m σ H, W i m σ H →
      ((Itt K a).stop i H ∧ nx σ H) ∨ ((Itt K a).go i H ∧ ∃ N : L2.St → Hp → Prop, (∀ σ' H', N σ' H' → ∃ m', m' < m ∧ W (i + 1) m' σ' H') ∧ ∀ x H', (Itt K a).yld i H x H' → g x σ H' fun σ2 H2 => tb ⟨N, rt, nx, N⟩ σ2 H2) :=
  for_tup (D := ⟨nx, rt, nx, nx⟩) Pv h0 hl hs hd
end
end K1

/-! B4 -/
namespace K1
open PySem L2 PyProof.Rows
abbrev tl (z : Str) : List Nat := z.cps.toList
section
variable {K : PySem.W.Frag} {σ : L2.St} {H : Hp} {Q : VK} {x y v : V} {vs : List V}
theorem r_eq (h : scal x y = true) (q : Q (.bl (decide (x = y))) H) : rEq x y H Q := ⟨h, q⟩
theorem r_ne (h : scal x y = true) (q : Q (.bl (!decide (x = y))) H) : rNe x y H Q := ⟨h, q⟩
theorem r_gnil {R : L2.St → Hp → Prop} (q : R σ H) : gNil [] σ H R := ⟨rfl, q⟩
theorem r_gcons {t : TG} {u : TGs} {R : L2.St → Hp → Prop} (q : t v σ H fun σ' H' => u vs σ' H' R) : gCons t u (v :: vs) σ H R := ⟨v, vs, rfl, q⟩
theorem r_isi {c : V} {t u : Value} {b : Bool} (hc : ClsV c u) (ht : TyX K H x t) (hk : PySem.W.kitOne K t u = some b) (q : Q (.bl b) H) : rIsi K [x, c] H Q := ⟨x, c, t, u, b, rfl, hc, ht, hk, q⟩
theorem r_all {a : Addr} {bs : List Bool} (h : SqL K H a (bs.map V.bl)) (q : Q (.bl (bs.all id)) H) : rAll K [.ref a] H Q := ⟨a, bs, rfl, h, q⟩
theorem r_yes {p : Prop} {dp : Decidable p} {A B : Prop} (h : p) (q : A) : if decide p = true then A else B := by
  rw [decide_eq_true h, if_pos rfl]; exact q
theorem r_no {p : Prop} {dp : Decidable p} {A B : Prop} (h : ¬ p) (q : B) : if decide p = true then A else B := by
  rw [decide_eq_false h, if_neg Bool.false_ne_true]; exact q
theorem tyL' {T : String} (e : T = "list") {a : Addr} {xs : List V} (h : SqL K H a xs) : tyV K T (.ref a) H := by rw [e]; exact tyL h
end
section
variable {K : PySem.W.Frag} {σ : L2.St} {H : Hp} {Q : VK} {D : Addr} {vs : List Nat} {te : TE} {Qd : Hp → Prop} {ta tb tc : TE}
theorem r_chain {r r' : R2} (q : ta σ H fun x H1 => tb σ H1 fun y H2 => r x y H2 fun z H3 => ∃ k, z = .bl k ∧ (if k = true then tc σ H3 fun w' H4 => r' y w' H4 Q else Q (.bl false) H3)) : tChain r r' ta tb tc σ H Q := q
/-- [f c for c in text] -/
theorem lc_smap {i : Nat} {z : Str} (f : Nat → V) (hD : H D = none) (hz : z.length ≤ sizeLine) (hw : ∀ x, wipe ((wipe σ vs).set i (some x)) vs = wipe σ vs)
    (he : ∀ c ∈ tl z, ∀ (H' : Hp) (R : VK), Same H H' → R (f c) H' → te ((wipe σ vs).set i (some (.str ⟨#[c]⟩))) H' R) (hd : Qd (upd H D (.lst ((tl z).map f)))) :
    ∃ W : Nat → Nat → Hp → Prop, (∃ m, W 0 m (upd H D (.lst []))) ∧ ∀ i₁ m H, W i₁ m H →
      ((Its z).stop i₁ H ∧ Qd H) ∨ ((Its z).go i₁ H ∧ ∃ Nx : Hp → Prop, (∀ H', Nx H' → ∃ m', m' < m ∧ W (i₁ + 1) m' H') ∧ ∀ x H', (Its z).yld i₁ H x H' → gName i x (wipe σ vs) H' fun σ2 H2 => wipe σ2 vs = wipe σ vs ∧ tYes σ2 H2 fun b H3 =>
        if b = true then te σ2 H3 fun y H4 => ∃ acc, H4 D = some (.lst acc) ∧ acc.length < sizeLine ∧ Nx (upd H4 D (.lst (acc ++ [y]))) else Nx H3) := by
  have hl : z.length = (tl z).length := by simp [Str.length]
  have hsz : z.cps.size = (tl z).length := by simp
  refine ⟨fun j m H' => m = (tl z).length - j ∧ j ≤ (tl z).length ∧ H' = upd H D (.lst (((tl z).take j).map f)), ⟨_, rfl, Nat.zero_le _, rfl⟩, ?_⟩
  rintro j m H' ⟨rfl, hj, rfl⟩
  by_cases hlt : j < (tl z).length
  · refine .inr ⟨by show j < z.cps.size; omega, fun H' => j + 1 ≤ (tl z).length ∧ H' = upd H D (.lst (((tl z).take (j + 1)).map f)), fun H' ⟨a, b⟩ => ⟨(tl z).length - (j + 1), by omega, rfl, a, b⟩, ?_⟩
    rintro x H' ⟨rfl, c, hc, rfl⟩
    have hc' : (tl z)[j]? = some c := by simpa using hc
    refine ⟨hw _, ?_⟩
    show te _ _ _
    refine he c (List.mem_of_getElem? hc') _ _ (same_new hD) ⟨_, upd_same, ?_, by omega, ?_⟩
    · simp only [List.length_map, List.length_take]; omega
    · rw [upd_upd, List.take_succ, hc']; simp
  · have e : j = (tl z).length := by omega
    refine .inl ⟨by show z.cps.size ≤ j; omega, ?_⟩
    rw [e, List.take_length]; exact hd
end
/-! ### a list or a tuple -/
def SqIt (K : PySem.W.Frag) (x : V) (R : It → Hp → Prop) (H1 : Hp) : Prop := ∃ a, x = .ref a ∧ (((∃ xs, SqL K H1 a xs) ∧ R (Itl K a) H1) ∨ ((∃ xs, SqT K H1 a xs) ∧ R (Itt K a) H1))
def iSq (K : PySem.W.Frag) (tl : TE) : TI := fun σ H R => tl σ H fun x H1 => SqIt K x R H1
theorem r_iSq {K : PySem.W.Frag} {te : TE} {σ : L2.St} {H : Hp} {R : It → Hp → Prop} (q : te σ H fun x H1 => SqIt K x R H1) : iSq K te σ H R := q
/-- an iterator that has just been made stands for its walk -/
theorem sq_born {X : Cx} {pins : List (Addr × Obj)} {σ : L2.St} {tg : Expr} {H : Hp} {s : Shared} {J : It} {tn : Nat → Heap → Prop} {R : It → Hp → Prop} {cls : String} {held : Array Value} (known : Inv X pins σ H s)
    (turns : Turn X.prog X.w X.K tg J [s.heap.objs.size] s.heap.objs.size tn) (z : tn 0 (s.heap.push { cls := .type cls, data := .fields held })) (r : R J H) :
    PIE X pins σ tg R (.ref s.heap.objs.size) { s with heap := s.heap.push { cls := .type cls, data := .fields held } } := by
  have still : Inv X pins σ H { s with heap := s.heap.push { cls := .type cls, data := .fields held } } := known.kept (t' := s.toks) fun _ _ => Heap.get?_push_of_some _
  have young : ∀ b ∈ [s.heap.objs.size], FpOk X pins H b := by
    intro b mem
    rw [List.mem_singleton.mp mem]
    exact known.fpOk Nat.le.refl (known.hok.fresh Nat.le.refl)
  exact ⟨_, _, tn, J, H, rfl, still, turns, z, young, r⟩
theorem pi_sq {X : Cx} {tg walked : Expr} {te : TE} (he : PE X walked te) : PI X tg walked (iSq X.K te) where
  run := fun pins s σ H R known reads => by
    refine thn (he.run pins s σ H _ known reads) ?_
    rintro v s1 ⟨x, H1, known1, rel, a, rfl, ⟨⟨xs, isList⟩, r⟩ | ⟨⟨xs, isTup⟩, r⟩⟩
    · obtain ⟨_, _, there, _⟩ := known1.list isList
      cases rel
      exact wpAny_pyIter_list there.isList (sq_born known1 (turn_list a _) ⟨_, Heap.get?_push_size _ rfl, rfl, rfl⟩ r)
    · obtain ⟨cells, _, there, _⟩ := known1.tuple isTup
      cases rel
      exact wpAny_pyIter_tuple (items := cells.toArray) there (sq_born known1 (turn_tuple a _) ⟨_, Heap.get?_push_size _ rfl, rfl, rfl⟩ r)
theorem sl_sq {X : Cx} : SlR X (fun x lo hi H Q => rSlL X.K x lo hi H Q ∨ rSlA X.K x lo hi H Q) := SlR.or sl_list sl_tupA
def Sq (K : PySem.W.Frag) (H : Hp) (v : V) (xs : List V) : Prop := ∃ a, v = .ref a ∧ (SqL K H a xs ∨ SqT K H a xs)
section
variable {K : PySem.W.Frag} {H H' : Hp} {a : Addr} {xs : List V} {v : V}
theorem Same.sqT (e : Same H H') (h : SqT K H a xs) : SqT K H' a xs := by
  rcases h with (h | ⟨o, h⟩) | h
  · exact .inl (.inl (e _ _ h))
  · exact .inl (.inr ⟨o, e _ _ h⟩)
  · exact .inr h
/-- lists and tuples stand -/
def Keeps (K : PySem.W.Frag) (H H' : Hp) : Prop := (∀ a xs, SqL K H a xs → SqL K H' a xs) ∧ ∀ a xs, SqT K H a xs → SqT K H' a xs
theorem Keeps.refl : Keeps K H H := ⟨fun _ _ h => h, fun _ _ h => h⟩
theorem Keeps.trans {H2 : Hp} (x : Keeps K H H') (y : Keeps K H' H2) : Keeps K H H2 := ⟨fun a xs h => y.1 a xs (x.1 a xs h), fun a xs h => y.2 a xs (x.2 a xs h)⟩
theorem Same.keeps (e : Same H H') : Keeps K H H' := ⟨fun _ _ h => e.seq h, fun _ _ h => Same.sqT e h⟩
theorem Kp.keeps {b : Addr} {C dx : Addr} {fs : List (Str × V)} (e : Kp b H H') (hb : H b = some (.ins C dx fs)) : Keeps K H H' := by
  have n1 : ∀ {c : Addr} {o : HO}, H c = some o → (∀ C dx fs, o ≠ .ins C dx fs) → H' c = some o := fun {c o} h k => e c o (fun z => by rw [z, hb] at h; exact k _ _ _ (Option.some.inj h).symm) h
  refine ⟨fun a xs h => ?_, fun a xs h => ?_⟩
  · rcases h with (h | ⟨o, h⟩) | h
    · exact .inl (.inl (n1 h (fun _ _ _ z => by cases z)))
    · exact .inl (.inr ⟨o, n1 h (fun _ _ _ z => by cases z)⟩)
    · exact .inr h
  · rcases h with (h | ⟨o, h⟩) | h
    · exact .inl (.inl (n1 h (fun _ _ _ z => by cases z)))
    · exact .inl (.inr ⟨o, n1 h (fun _ _ _ z => by cases z)⟩)
    · exact .inr h
theorem Kp.sqT {b : Addr} {ys : List V} (e : Kp b H H') (hb : H b = some (.lst ys)) (h : SqT K H a xs) : SqT K H' a xs := by
  have n1 : ∀ {c : Addr} {o : HO}, H c = some o → (∀ ys, o ≠ .lst ys) → H' c = some o := fun {c o} h k => e c o (fun z => by rw [z, hb] at h; exact k _ (Option.some.inj h).symm) h
  rcases h with (h | ⟨o, h⟩) | h
  · exact .inl (.inl (n1 h (fun _ z => by cases z)))
  · exact .inl (.inr ⟨o, n1 h (fun _ z => by cases z)⟩)
  · exact .inr h
theorem Sq.keep (e : Keeps K H H') (h : Sq K H v xs) : Sq K H' v xs := by
  obtain ⟨a, rfl, h | h⟩ := h
  · exact ⟨a, rfl, .inl (e.1 _ _ h)⟩
  · exact ⟨a, rfl, .inr (e.2 _ _ h)⟩
theorem Sq.same (e : Same H H') (h : Sq K H v xs) : Sq K H' v xs := h.keep (Same.keeps e)
theorem Sq.len (h : Sq K H v xs) : LenV K v H xs.length := by
  obtain ⟨a, rfl, h | h⟩ := h
  · exact lenL h
  · exact lenT h
variable {Q : VK} {σ : L2.St}
theorem r_ixSq {i : Int} {y : V} (h : Sq K H v xs) (e : atI xs i = some y) (q : Q y H) : rIx K v (.int i) H Q := by
  obtain ⟨a, rfl, h | h⟩ := h
  · exact .inl (r_ixL h e q)
  · exact .inr (.inl (r_ixT h e q))
theorem r_slSq {lo hi : Option Int} (h : Sq K H v xs) (q : ∀ v' H', Same H H' → Sq K H' v' (cutV xs lo hi) → Q v' H') : rSlL K v lo hi H Q ∨ rSlA K v lo hi H Q := by
  obtain ⟨a, rfl, h | h⟩ := h
  · exact .inl ⟨a, xs, rfl, h, fun p np => q _ _ (same_new np) ⟨p, rfl, .inl (SqL.of upd_same)⟩⟩
  · refine .inr ⟨a, xs, rfl, h, fun w => ?_, fun _ p np => q _ _ (same_new np) ⟨p, rfl, .inr (SqT.of upd_same)⟩⟩
    have e : cutV xs lo hi = xs := by
      unfold cutV
      rw [w.1, w.2, List.drop_zero, Nat.sub_zero, List.take_length]
    exact q _ _ (Same.refl _) (by rw [e]; exact ⟨a, rfl, .inr h⟩)
theorem r_star {te : TE} {t : TA} {R : List V → Hp → Prop} (q : te σ H fun x H1 => ∃ p xs, x = V.ref p ∧ (SqT K H1 p xs ∨ SqL K H1 p xs) ∧ t σ H1 fun ys H2 => R (xs ++ ys) H2) : StX.tStar K te t σ H R := q
theorem r_starSq {R : List V → Prop} (h : Sq K H v xs) (q : R xs) : ∃ p zs, v = V.ref p ∧ (SqT K H p zs ∨ SqL K H p zs) ∧ R zs := by
  obtain ⟨a, rfl, h | h⟩ := h
  · exact ⟨a, xs, rfl, .inr h, q⟩
  · exact ⟨a, xs, rfl, .inl h, q⟩
end
section
variable {K : PySem.W.Frag} {v : V} {xs : List V} {g : TG} {tb : TS} {nx : L2.St → Hp → Prop} {rt : VK} {σ : L2.St} {H : Hp}
/-- what stands at v stands on -/
def KeepAt (K : PySem.W.Frag) (v : V) (H H' : Hp) : Prop := ∀ a xs, v = .ref a → (SqL K H a xs → SqL K H' a xs) ∧ (SqT K H a xs → SqT K H' a xs)
theorem Keeps.at {v : V} {H' : Hp} (k : Keeps K H H') : KeepAt K v H H' := fun a xs _ => ⟨k.1 a xs, k.2 a xs⟩
theorem Kp.at {v : V} {H' : Hp} {L : Addr} (k : Kp L H H') (n : v ≠ .ref L) : KeepAt K v H H' := fun a xs e => by
  have na : a ≠ L := fun q => n (by rw [e, q])
  refine ⟨k.seq na, fun h => ?_⟩
  rcases h with (h | ⟨u, h⟩) | h
  · exact .inl (.inl (k _ _ na h))
  · exact .inl (.inr ⟨u, k _ _ na h⟩)
  · exact .inr h
theorem KeepAt.sq {v : V} {H' : Hp} (k : KeepAt K v H H') (h : Sq K H v xs) : Sq K H' v xs := by
  obtain ⟨a, e, h | h⟩ := h
  · exact ⟨a, e, .inl ((k a xs e).1 h)⟩
  · exact ⟨a, e, .inr ((k a xs e).2 h)⟩
/-- a for over a list or a tuple -/
theorem fr_sq {R : It → Hp → Prop} (h : Sq K H v xs) (Pv : Nat → L2.St → Hp → Prop) (h0 : Pv 0 σ H) (hl : ∀ i σ H', i ≤ xs.length → Pv i σ H' → KeepAt K v H H')
    (hs : ∀ i x σ H, xs[i]? = some x → Pv i σ H → g x σ H fun σ2 H2 => tb ⟨Pv (i + 1), rt, nx, Pv (i + 1)⟩ σ2 H2) (hd : ∀ σ H, Pv xs.length σ H → nx σ H)
    (hR : ∀ J, (∃ W : Nat → Nat → L2.St → Hp → Prop, (∃ m, W 0 m σ H) ∧ ∀ i m σ H, W i m σ H →
      ((It.stop J i H ∧ nx σ H) ∨ (It.go J i H ∧ ∃ N : L2.St → Hp → Prop, (∀ σ' H', N σ' H' → ∃ m', m' < m ∧ W (i + 1) m' σ' H') ∧ ∀ x H', It.yld J i H x H' → g x σ H' fun σ2 H2 => tb ⟨N, rt, nx, N⟩ σ2 H2))) → R J H) :
    SqIt K v R H := by
  obtain ⟨a, rfl, h | h⟩ := h
  · exact ⟨a, rfl, .inl ⟨⟨xs, h⟩, hR _ (fr_list Pv h0 (fun i σ H' hi p => (hl i σ H' hi p a xs rfl).1 h) hs hd)⟩⟩
  · exact ⟨a, rfl, .inr ⟨⟨xs, h⟩, hR _ (fr_tup Pv h0 (fun i σ H' hi p => (hl i σ H' hi p a xs rfl).2 h) hs hd)⟩⟩
/-- a slice that is not the whole: a new thing -/
theorem r_slNew {lo hi : Option Int} {Q : VK} (h : Sq K H v xs) (nw : ¬ (HT.sIx xs.length 0 lo = 0 ∧ HT.sIx xs.length xs.length hi = xs.length)) (q : ∀ p H', H p = none → Same H H' → Sq K H' (.ref p) (cutV xs lo hi) → Q (.ref p) H') : rSlL K v lo hi H Q ∨ rSlA K v lo hi H Q := by
  obtain ⟨a, rfl, h | h⟩ := h
  · exact .inl ⟨a, xs, rfl, h, fun p np => q p _ np (same_new np) ⟨p, rfl, .inl (SqL.of upd_same)⟩⟩
  · exact .inr ⟨a, xs, rfl, h, fun w => absurd w nw, fun _ p np => q p _ np (same_new np) ⟨p, rfl, .inr (SqT.of upd_same)⟩⟩
end
theorem walk_rng {lo : Int} {n : Nat} : Walk (Itr lo n) ((List.range n).map fun i : Nat => V.int (lo + i)).length (fun _ => True) (YAt ((List.range n).map fun i : Nat => V.int (lo + i))) := by
  rw [List.length_map, List.length_range]
  exact walk_range.mono (fun _ h => h) fun i H x H' hi _ y => ⟨y.1, by rw [y.2]; simp [hi]⟩
theorem walk_sgn {z : Str} : Walk (Its z) ((sgn z).map V.str).length (fun _ => True) (YAt ((sgn z).map V.str)) := by
  have e : ((sgn z).map V.str).length = z.cps.size := by simp [sgn]
  rw [e]
  refine walk_str.mono (fun _ h => h) fun i H x H' hi _ y => ⟨y.1, ?_⟩
  obtain ⟨c, hc, rfl⟩ := y.2
  have hc' : z.cps.toList[i]? = some c := by simpa using hc
  simp [sgn, hc']

/-- the list at D holds i things, of which P holds -/
def PP (D : Addr) (P : List V → Hp → Prop) (i : Nat) (H : Hp) : Prop := ∃ acc, acc.length = i ∧ H D = some (.lst acc) ∧ P acc H
theorem pp_next {D : Addr} {P : List V → Hp → Prop} {i : Nat} {H : Hp} {y : V} {acc : List V} (e : H D = some (.lst acc)) (l : acc.length = i) (hi : i < sizeLine) (p : P (acc ++ [y]) (upd H D (.lst (acc ++ [y])))) :
    ∃ acc, H D = some (.lst acc) ∧ acc.length < sizeLine ∧ PP D P (i + 1) (upd H D (.lst (acc ++ [y]))) :=
  ⟨acc, e, by omega, acc ++ [y], by rw [List.length_append, l]; rfl, upd_same, p⟩
section
variable {σ : L2.St} {H : Hp} {D : Addr} {vs : List Nat} {te : TE} {Qd : Hp → Prop} {J : It} {xs : List V} {G : Hp → Prop} {slot : Nat}
/-- [e for x in xs]: P of what is made so far and the heap -/
theorem lc_gen (w : Walk J xs.length G (YAt xs)) (hw : ∀ x, wipe ((wipe σ vs).set slot (some x)) vs = wipe σ vs) (P : List V → Hp → Prop) (h0 : P [] (upd H D (.lst [])))
    (hG : ∀ acc H', H' D = some (.lst acc) → P acc H' → G H')
    (hs : ∀ i x acc H', xs[i]? = some x → acc.length = i → H' D = some (.lst acc) → P acc H' → te ((wipe σ vs).set slot (some x)) H' fun y H4 => ∃ acc, H4 D = some (.lst acc) ∧ acc.length < sizeLine ∧ PP D P (i + 1) (upd H4 D (.lst (acc ++ [y]))))
    (hd : ∀ acc H', acc.length = xs.length → H' D = some (.lst acc) → P acc H' → Qd H') :
    ∃ W : Nat → Nat → Hp → Prop, (∃ m, W 0 m (upd H D (.lst []))) ∧ ∀ i m H, W i m H →
      (J.stop i H ∧ Qd H) ∨ (J.go i H ∧ ∃ Nx : Hp → Prop, (∀ H', Nx H' → ∃ m', m' < m ∧ W (i + 1) m' H') ∧ ∀ x H', J.yld i H x H' → gName slot x (wipe σ vs) H' fun σ2 H2 => wipe σ2 vs = wipe σ vs ∧ tYes σ2 H2 fun b H3 =>
        if b = true then te σ2 H3 fun y H4 => ∃ acc, H4 D = some (.lst acc) ∧ acc.length < sizeLine ∧ Nx (upd H4 D (.lst (acc ++ [y]))) else Nx H3) := by
  refine lc_it w (PP D P) ⟨[], rfl, upd_same, h0⟩ (fun i H' _ ⟨acc, _, e, p⟩ => hG acc H' e p) ?_ (fun H' ⟨acc, l, e, p⟩ => hd acc H' l e p)
  rintro i x H1 H2 hi ⟨acc, l, e, p⟩ ⟨rfl, hx⟩
  refine ⟨hw x, ?_⟩
  show te _ _ _
  exact hs i x acc _ hx l e p
/-- the same over a list or a tuple -/
theorem lc_sq {K : PySem.W.Frag} {v : V} {R : It → Hp → Prop} (h : Sq K H v xs) (hw : ∀ x, wipe ((wipe σ vs).set slot (some x)) vs = wipe σ vs) (P : List V → Hp → Prop) (h0 : ∀ D, H D = none → P [] (upd H D (.lst [])))
    (hG : ∀ D acc H', H D = none → H' D = some (.lst acc) → P acc H' → Keeps K H H')
    (hs : ∀ D i x acc H', H D = none → xs[i]? = some x → acc.length = i → H' D = some (.lst acc) → P acc H' → te ((wipe σ vs).set slot (some x)) H' fun y H4 => ∃ acc, H4 D = some (.lst acc) ∧ acc.length < sizeLine ∧ PP D P (i + 1) (upd H4 D (.lst (acc ++ [y]))))
    (Qe : Addr → Hp → Prop) (hd : ∀ D acc H', H D = none → acc.length = xs.length → H' D = some (.lst acc) → P acc H' → Qe D H')
    (hR : ∀ J, (∀ D, H D = none → ∃ W : Nat → Nat → Hp → Prop, (∃ m, W 0 m (upd H D (.lst []))) ∧ ∀ i m H, W i m H →
      (It.stop J i H ∧ Qe D H) ∨ (It.go J i H ∧ ∃ Nx : Hp → Prop, (∀ H', Nx H' → ∃ m', m' < m ∧ W (i + 1) m' H') ∧ ∀ x H', It.yld J i H x H' → gName slot x (wipe σ vs) H' fun σ2 H2 => wipe σ2 vs = wipe σ vs ∧ tYes σ2 H2 fun b H3 =>
        if b = true then te σ2 H3 fun y H4 => ∃ acc, H4 D = some (.lst acc) ∧ acc.length < sizeLine ∧ Nx (upd H4 D (.lst (acc ++ [y]))) else Nx H3)) → R J H) :
    SqIt K v R H := by
  obtain ⟨a, rfl, h | h⟩ := h
  · exact ⟨a, rfl, .inl ⟨⟨xs, h⟩, hR _ fun D hD => lc_gen walk_list hw P (h0 D hD) (fun acc H' e p => (hG D acc H' hD e p).1 _ _ h) (fun i x acc H' hx l e p => hs D i x acc H' hD hx l e p) (fun acc H' l e p => hd D acc H' hD l e p)⟩⟩
  · exact ⟨a, rfl, .inr ⟨⟨xs, h⟩, hR _ fun D hD => lc_gen walk_tup hw P (h0 D hD) (fun acc H' e p => (hG D acc H' hD e p).2 _ _ h) (fun i x acc H' hx l e p => hs D i x acc H' hD hx l e p) (fun acc H' l e p => hd D acc H' hD l e p)⟩⟩
end
section
variable {K : PySem.W.Frag} {C : Addr}
theorem r_tfld {σ : L2.St} {H : Hp} {Q : VK} {ta : TE} {f : Str} (q : ta σ H fun x H1 => ∃ a C dx fs v, x = .ref a ∧ H1 a = some (.ins C dx fs) ∧ Cls K C ∧ NoAttr K C f ∧ fs.lookup f = some v ∧ Q v H1) : tFld K ta f σ H Q := q
theorem r_sfld {σ : L2.St} {H : Hp} {D : Ends} {ta tv : TE} {f : Str} (q : tv σ H fun y H1 => ta σ H1 fun x H2 => ∃ a C dx fs, x = .ref a ∧ H2 a = some (.ins C dx fs) ∧ Cls K C ∧ NoAttr K C f ∧ fs.length < 1000 ∧
  D.nx σ (upd H2 a (.ins C dx (putF f y fs)))) : sFld K ta tv f D σ H := q
theorem r_meth {σ : L2.St} {H : Hp} {Q : VK} {m : Str} {sp : Sp} {dvs : List V} {E : XK} {ta : TE} {t : TA} (q : ta σ H fun x H1 => ∃ a dx fs, x = .ref a ∧ H1 a = some (.ins C dx fs) ∧ fs.lookup m = none ∧
  t σ H1 fun vs H2 => sp (x :: (vs ++ dvs)) H2 Q E) : tMeth C m sp dvs E ta t σ H Q := q
end
def rTupOf (K : PySem.W.Frag) : List V → Hp → VK → Prop := fun xs H Q => ∃ p ys, xs = [.ref p] ∧ ((SqL K H p ys ∧ ∀ l, H l = none → Q (.ref l) (upd H l (.tup ys))) ∨ (SqT K H p ys ∧ Q (.ref p) H))
theorem call_tupOf {X : Cx} : CallR X (.type "tuple") (rTupOf X.K) := call_tuple_of
end K1

/-! A5 -/
/-! The law's draws: a bag off a cell, a number off a bag. -/

local macro_rules | `(tactic| walk_at "go") => `(tactic| repeat (first
  | with_reducible apply K1.r_seq
  | with_reducible apply K1.r_asg
  | ((with_reducible apply K1.r_name); (try dsimp only [List.set]))
  | ((with_reducible apply K1.r_var); (focus rfl))
  | with_reducible apply K1.r_c
  | with_reducible apply K1.r_op
  | with_reducible apply K1.r_un
  | with_reducible apply K1.r_I0
  | with_reducible apply K1.r_test
  | with_reducible apply K1.r_if
  | with_reducible apply K1.r_ifs
  | with_reducible apply K1.r_iteT
  | with_reducible apply K1.r_iteF
  | with_reducible apply K1.r_and
  | with_reducible apply K1.r_or
  | with_reducible apply K1.r_not
  | with_reducible apply K1.r_tB
  | with_reducible apply K1.r_andV
  | with_reducible apply K1.r_orV
  | with_reducible apply K1.r_notV
  | with_reducible apply K1.r_cb
  | with_reducible apply K1.r_cons
  | with_reducible apply K1.r_nil
  | with_reducible apply K1.r_ret
  | with_reducible apply K1.r_next
  | with_reducible apply K1.r_drop
  | with_reducible apply K1.r_lst
  | with_reducible apply K1.r_tup
  | with_reducible apply K1.r_call
  | with_reducible apply K1.r_gsub
  | with_reducible apply K1.r_for
  | refine ⟨_, rfl, ?_⟩
  | refine Or.inl ⟨_, rfl, ?_⟩
  | dsimp only))

namespace K1
open PySem L2

def top (i : Nat) : Stmt := PySem.Challenge.pw_handcarried_k69_fitting.main.body.getD i (.Pass ⟨0, 0, 0, 0⟩)

/-- the built-ins that the module's names leave alone -/
structure Bl (mg : Str → Option Value) : Prop where
  len : mg "len" = none
  sum : mg "sum" = none
  abs : mg "abs" = none
  int : mg "int" = none
  range : mg "range" = none
  list : mg "list" = none
  tuple : mg "tuple" = none
  str : mg "str" = none
  bool : mg "bool" = none
  sorted : mg "sorted" = none
  all : mg "all" = none
  min : mg "min" = none
  isin : mg "isinstance" = none
  max : mg "max" = none
  any : mg "any" = none
  repr : mg "repr" = none

/-- a bag: digits that are left, salt, count of mixed draws (at most n) -/
def IsBag (H : Hp) (b : Addr) (n : Nat) : Prop := ∃ d s c : Int, H b = some (.lst [.int d, .int s, .int c]) ∧ 0 ≤ d ∧ 0 ≤ s ∧ s < 2 ^ 40 ∧ 0 ≤ c ∧ c ≤ n

abbrev sBagOf : Stmt := top 59
abbrev sPick : Stmt := top 60
abbrev nBagOf : List Str := ["_law_script", "_law_at", "_law_cell", "_law_size", "_law_digits", "_law_one"]
theorem scBagOf : FnScope nBagOf ["_law_script", "_law_at"] (defScope sBagOf) := ⟨rfl, rfl, rfl, by decide +kernel, rfl, by decide +kernel, by decide +kernel⟩
abbrev nPick : List Str := ["_law_bag", "_law_many", "_law_digit", "_law_one", "_law_two"]
theorem scPick : FnScope nPick ["_law_bag", "_law_many"] (defScope sPick) := ⟨rfl, rfl, rfl, by decide +kernel, rfl, by decide +kernel, by decide +kernel⟩

def spBagOf (K : PySem.W.Frag) : Sp := fun vs H Q _ => ∃ (a : Addr) (ns : List Int) (at_ : Int), vs = [.ref a, .int at_] ∧ SqL K H a (ns.map V.int) ∧ ns.length ≤ 63 ∧ 0 ≤ at_ ∧ at_ ≤ 1000 ∧
  ∀ H' p, Same H H' → H p = none → IsBag H' p 0 → Q (.ref p) H'

section
variable {P : Program} {w : World} {K : PySem.W.Frag} {mg : Str → Option Value} {base : Heap}

theorem ok_bagOf {f : Addr} {fd : FuncData} (F : Fun K "_law_bag_of" "_law_bag_of" sBagOf f fd) (B : Bl mg) : FnOk P w K mg base CX0 1 f fd ["_law_script", "_law_at"] (spBagOf K) := by
  refine F.ok scBagOf (fun vs H Q E h => ?_) (fun cdv A outer s H vs Q E hr h => ?_)
  · obtain ⟨a, ns, at_, rfl, _⟩ := h
    rfl
  · obtain ⟨a, ns, at_, rfl, hS, hlen, h0, h1, k⟩ := h
    refine ⟨_, pss_cons (ps_set (i := 2) scBagOf.nd rfl (Or.inl rfl)
        (pe_ifExp (pt_cmpR op_lt (pv 1) (pe_callB call_len (by rfl) B.len PySem.boot_len (pa_cons (pv 0) pa_nil)) (nomark _))
          (pe_ix ix_list (pv 0) (pv 1) (fun _ _ => rfl))
          (pe_op op_add (pe_callB (cr_sum rfl) (by rfl) B.sum (by decide +kernel) (pa_cons
              (pe_lc (own := [("_law_one", 5)]) (g := gName 5) (tt := tYes) rfl scBagOf.nd (pi_list (pv 0)) (blkOk_by (N := nBagOf) (sc := defScope sBagOf) (by decide +kernel)) (fun _ _ _ _ _ => pg_name (i := 5) scBagOf.nd rfl (Or.inl rfl)) (fun _ _ _ _ _ => pts_nil)
                (fun _ _ _ _ _ => pe_op op_add (pe_op op_fdiv (pe_callB call_abs (by rfl) B.abs (by decide +kernel) (pa_cons (pv 5) pa_nil)) pe_int) pe_int)) pa_nil))
            (pe_op op_mul pe_int (pe_op op_add (pv 1) pe_int)))))
      (pss_cons (ps_set (i := 3) scBagOf.nd rfl (Or.inl rfl) (pe_callB call_abs (by rfl) B.abs (by decide +kernel) (pa_cons (pv 2) pa_nil)))
      (pss_cons (ps_set (i := 4) scBagOf.nd rfl (Or.inl rfl) (pe_ifExp (pt_cmpR op_ge (pv 3) pe_int (nomark _)) (pv 3) pe_int))
      (pss_one (ps_ret (pe_lst (pa_cons (pv 4) (pa_cons (pe_op op_add (pe_op op_add (pe_op op_mod (pe_callTy call_int1 (by rfl) B.int (by decide +kernel) (pa_cons (pv 3) pa_nil)) pe_int) (pe_op op_mul pe_int (pv 1)))
        (pe_ifExp (pt_cmpR op_lt (pv 2) pe_int (nomark _)) pe_int pe_int)) (pa_cons pe_int pa_nil)))))))), ?_⟩
    dsimp only [cxOf, Cx.nox, Cx.wish]
    walk_at "go"
    refine ⟨_, _, rfl, lenL hS, ?_⟩
    walk_at "go"
    refine r_ite (fun h => ?_) (fun h => ?_)
    rotate_left
    walk_at "go"
    refine ⟨⟨_, hS⟩, fun D hD => lc_map (fun x => match x with | .int z => .int ((if z < 0 then -z else z) / 3 + 5) | y => y) hS hD (by rw [List.length_map, sizeLine_eq]; omega) (fun _ => rfl) (fun x hx H' R sm r => ?_) ?_⟩
    · obtain ⟨z, _, rfl⟩ := List.mem_map.mp hx
      walk_at "go"
      refine r_I ⟨by decide, by decide⟩ ?_
      walk_at "go"
      exact r
    walk_at "go"
    have hD' : (upd H D (.lst ((ns.map V.int).map fun x => match x with | .int z => .int ((if z < 0 then -z else z) / 3 + 5) | y => y))) D = some (.lst ((ns.map fun z => (if z < 0 then -z else z) / 3 + 5).map V.int)) := by
      rw [upd_same, List.map_map, List.map_map]
      rfl
    refine r_sum (SqL.of hD') ?_
    walk_at "go"
    refine r_I (.inl ⟨by decide, by decide⟩) ?_
    walk_at "go"
    have sm := same_new (o := HO.lst ((ns.map V.int).map fun x => match x with | .int z => .int ((if z < 0 then -z else z) / 3 + 5) | y => y)) hD
    revert sm
    generalize (ns.map fun z => (if z < 0 then -z else z) / 3 + 5).sum + 7919 * (at_ + 1) = zz
    rotate_left
    obtain ⟨z, hz, _⟩ := at_int (ns := ns) h0 (by simpa using h)
    walk_at "go"
    refine r_ixL hS hz ?_
    walk_at "go"
    have sm : Same H H := Same.refl H
    revert sm
    all_goals
      intro sm
      refine r_ite (fun hh => ?_) (fun hh => ?_)
    all_goals
      walk_at "go"
      refine r_I (by decide) ?_
      walk_at "go"
      refine r_I (.inl ⟨by decide, by decide⟩) ?_
      walk_at "go"
      refine r_ite (fun hn => ?_) (fun hn => ?_)
    all_goals
      walk_at "go"
      refine ⟨(by show 3 ≤ sizeLine; decide), fun p hp => ?_⟩
      refine k _ p (sm.trans (same_new hp)) (sm.free hp) ⟨_, _, _, upd_same, ?_, ?_, ?_, ?_, ?_⟩
    all_goals (first | omega | (split <;> omega))

def spPick : Sp := fun vs H Q _ => ∃ (b : Addr) (m : Int) (n : Nat), vs = [.ref b, .int m] ∧ IsBag H b n ∧ n ≤ 2 ^ 40 ∧ m < 1073741824 ∧
  ∀ r H', 0 ≤ r → (r < m ∨ (m < 2 ∧ r = 0)) → IsBag H' b (n + 1) → Off b H H' → Q (.int r) H'

theorem ok_pick {f : Addr} {fd : FuncData} (F : Fun K "_law_pick" "_law_pick" sPick f fd) (B : Bl mg) : FnOk P w K mg base CX0 1 f fd ["_law_bag", "_law_many"] spPick := by
  refine F.ok scPick (fun vs H Q E h => ?_) (fun cdv A outer s H vs Q E hr h => ?_)
  · obtain ⟨a, m, n, rfl, _⟩ := h
    rfl
  · obtain ⟨b, m, n, rfl, ⟨d, sl, c, hb, d0, s0, s1, c0, c1⟩, hn, hm, k⟩ := h
    refine ⟨_, pss_cons (ps_if (pt_cmpR op_lt (pv 1) pe_int (nomark _)) (pss_one (ps_ret pe_int)) pss_nil)
      (pss_cons (ps_if (pt_cmpR op_gt (pe_ix ix_list (pv 0) pe_int (fun _ _ => rfl)) pe_int (nomark _))
        (pss_cons (ps_set (i := 2) scPick.nd rfl (Or.inl rfl) (pe_op op_modN (pe_callTy call_int1 (by rfl) B.int (by decide +kernel) (pa_cons (pe_ix ix_list (pv 0) pe_int (fun _ _ => rfl)) pa_nil)) (pv 1)))
        (pss_cons (ps_asg (pe_op op_fdivN (pe_ix ix_list (pv 0) pe_int (fun _ _ => rfl)) (pv 1)) (pg_sub (pv 0) pe_int set_list))
        (pss_one (ps_ret (pv 2))))) pss_nil)
      (pss_cons (ps_asg (pe_op op_add (pe_ix ix_list (pv 0) pe_int (fun _ _ => rfl)) pe_int) (pg_sub (pv 0) pe_int set_list))
      (pss_cons (ps_set (i := 3) scPick.nd rfl (Or.inl rfl) (pe_op op_mod (pe_callTy call_int1 (by rfl) B.int (by decide +kernel) (pa_cons
          (pe_op op_add (pe_op op_mul (pe_ix ix_list (pv 0) pe_int (fun _ _ => rfl)) pe_int) (pe_op op_mul (pe_ix ix_list (pv 0) pe_int (fun _ _ => rfl)) pe_int)) pa_nil)) pe_int))
      (pss_cons (ps_set (i := 4) scPick.nd rfl (Or.inl rfl) (pe_op op_mod (pe_callTy call_int1 (by rfl) B.int (by decide +kernel) (pa_cons
          (pe_op op_add (pe_op op_add (pe_op op_mul (pv 3) (pv 3)) (pe_ix ix_list (pv 0) pe_int (fun _ _ => rfl))) (pe_op op_mul (pe_ix ix_list (pv 0) pe_int (fun _ _ => rfl)) pe_int)) pa_nil)) pe_int))
      (pss_one (ps_ret (pe_op op_modN (pe_callTy call_int1 (by rfl) B.int (by decide +kernel) (pa_cons (pe_op op_fdiv (pv 4) pe_int) pa_nil)) (pv 1)))))))), ?_⟩
    dsimp only [cxOf, Cx.nox, Cx.wish]
    walk_at "go"
    refine r_ite (fun h => ?_) (fun h => ?_)
    · walk_at "go"
      exact k 0 H (Int.le_refl 0) (.inr ⟨h, rfl⟩) ⟨d, sl, c, hb, d0, s0, s1, c0, by omega⟩ (Off.refl _ _)
    walk_at "go"
    refine r_ixL (SqL.of hb) rfl ?_
    walk_at "go"
    refine r_ite (fun h2 => ?_) (fun h2 => ?_)
    · walk_at "go"
      refine r_ixL (SqL.of hb) rfl ?_
      walk_at "go"
      refine r_I (by omega) ?_
      walk_at "go"
      refine r_ixL (SqL.of hb) rfl ?_
      walk_at "go"
      refine r_I ⟨by omega, by omega⟩ ?_
      walk_at "go"
      refine r_setL hb rfl ?_
      walk_at "go"
      refine k _ _ ?_ (.inl ?_) ⟨_, _, _, upd_same, ?_, s0, s1, c0, by omega⟩ Off.upd
      · exact Int.fmod_nonneg (by omega) (by omega)
      · exact Int.fmod_lt_of_pos _ (by omega)
      · exact Int.fdiv_nonneg (by omega) (by omega)
    walk_at "go"
    refine r_ixL (SqL.of hb) rfl ?_
    walk_at "go"
    refine r_setL hb rfl ?_
    have hb2 := upd_same (H := H) (a := b) (o := HO.lst (List.set [V.int d, V.int sl, V.int c] 2 (V.int (c + 1))))
    walk_at "go"
    refine r_ixL (SqL.of hb2) rfl ?_
    walk_at "go"
    refine r_I (.inr ⟨by decide, by decide⟩) ?_
    walk_at "go"
    refine r_ixL (SqL.of hb2) rfl ?_
    walk_at "go"
    refine r_I (.inr ⟨by decide, by decide⟩) ?_
    walk_at "go"
    refine r_I (by decide) ?_
    have o0 := Int.emod_nonneg (sl * 48271 + (c + 1) * 69621) (show (2147483647 : Int) ≠ 0 by decide)
    have o1 := Int.emod_lt_of_pos (sl * 48271 + (c + 1) * 69621) (show (0 : Int) < 2147483647 by decide)
    revert o0 o1
    generalize (sl * 48271 + (c + 1) * 69621) % 2147483647 = one
    intro o0 o1
    walk_at "go"
    refine r_I (.inl ⟨by omega, by omega⟩) ?_
    walk_at "go"
    refine r_ixL (SqL.of hb2) rfl ?_
    walk_at "go"
    refine r_ixL (SqL.of hb2) rfl ?_
    walk_at "go"
    refine r_I (.inr ⟨by decide, by decide⟩) ?_
    walk_at "go"
    refine r_I (by decide) ?_
    walk_at "go"
    refine r_I ⟨by decide, by decide⟩ ?_
    walk_at "go"
    refine r_I (by omega) ?_
    walk_at "go"
    refine k _ _ ?_ (.inl ?_) ⟨_, _, _, upd_same, d0, s0, s1, by omega, by omega⟩ Off.upd
    · exact Int.fmod_nonneg (by omega) (by omega)
    · exact Int.fmod_lt_of_pos _ (by omega)
end
end K1

/-! M4 -/
/-! Rules, their words, their data. -/
namespace K4
open PySem L2 PyProof.Rows
abbrev tl (z : Str) : List Nat := z.cps.toList
abbrev ALL : Str := "0123456789ABCDEFGHIJKLMNOPQRSTUVWXYZ"
theorem str_ext {x y : Str} (h : tl x = tl y) : x = y := by
  cases x with | mk a => cases y with | mk b => exact congrArg Str.mk (Array.toList_inj.mp h)
theorem len_tl (x : Str) : x.length = (tl x).length := by simp [Str.length]
/-- a number's word -/
def num (n : Nat) : Str := Str.ofString (toString ((n : Nat) : Int))
theorem tl_numL (n : Nat) : tl (num n) = TL.numL n := TL.tl_num n
def numOk (n : Nat) : Bool := (TL.numL n).all (fun c => 48 ≤ c && c ≤ 57) && 1 ≤ (TL.numL n).length && (TL.numL n).length ≤ 2 && ((TL.numL n).head? != some 48 || TL.numL n == [48])
theorem num_all : (List.range 61).all numOk = true := by decide +kernel
theorem num_ok {n : Nat} (h : n ≤ 60) : (∀ c ∈ tl (num n), 48 ≤ c ∧ c ≤ 57) ∧ 1 ≤ (tl (num n)).length ∧ (tl (num n)).length ≤ 2 ∧ ((tl (num n)).head? ≠ some 48 ∨ tl (num n) = [48]) := by
  have a := List.all_eq_true.mp num_all n (List.mem_range.mpr (by omega))
  rw [tl_numL]
  simpa [numOk, and_assoc] using a
theorem num_int {n : Nat} (h : n ≤ 60) : intText? (num n) = some (n : Int) := TL.int_num (by have := (num_ok h).2.2.1; rw [tl_numL] at this; omega)
theorem num_inj {n m : Nat} (hn : n ≤ 60) (hm : m ≤ 60) (e : num n = num m) : n = m := by
  have a := num_int hn
  rw [e, num_int hm] at a
  have b := Option.some.inj a
  omega
theorem num_no {n c : Nat} (h : n ≤ 60) (hc : c < 48) : c ∉ tl (num n) := fun q => by have := ((num_ok h).1 c q).1; omega
abbrev CM : Str := ","
abbrev SL : Str := "/"
abbrev SP : Str := " "
theorem tl_CM : tl CM = [44] := by decide +kernel
theorem tl_SL : tl SL = [47] := by decide +kernel
theorem tl_SP : tl SP = [32] := by decide +kernel
/-! ### joined -/
theorem spl_CM {ys : List Str} (h : ys ≠ []) (k : ∀ y ∈ ys, 44 ∉ tl y) : Txt.split (Txt.join CM ys) CM = ys := TL.split_join tl_CM (by decide +kernel) h k
theorem spl_SL {ys : List Str} (h : ys ≠ []) (k : ∀ y ∈ ys, 47 ∉ tl y) : Txt.split (Txt.join SL ys) SL = ys := TL.split_join tl_SL (by decide +kernel) h k
theorem spl_SP {ys : List Str} (h : ys ≠ []) (k : ∀ y ∈ ys, 32 ∉ tl y) : Txt.split (Txt.join SP ys) SP = ys := TL.split_join tl_SP (by decide +kernel) h k
theorem tl_joinL (y : Str) (ys : List Str) : tl (Txt.join y ys) = TL.joinL (tl y) (ys.map tl) := by
  show TL.tl _ = _
  rw [TL.join_eq, TL.tl_join]
theorem mem_joinL {S : List Nat} {c : Nat} : ∀ {ps : List (List Nat)}, c ∈ TL.joinL S ps → c ∈ S ∨ ∃ p ∈ ps, c ∈ p
  | [], h => by simp [TL.joinL] at h
  | [p], h => .inr ⟨p, List.mem_singleton.mpr rfl, h⟩
  | p :: q :: r, h => by
    have h' : c ∈ p ++ (S ++ TL.joinL S (q :: r)) := h
    rcases List.mem_append.mp h' with h' | h'
    · exact .inr ⟨p, List.mem_cons_self .., h'⟩
    rcases List.mem_append.mp h' with h' | h'
    · exact .inl h'
    rcases mem_joinL h' with h' | ⟨z, hz, hc⟩
    · exact .inl h'
    · exact .inr ⟨z, List.mem_cons_of_mem _ hz, hc⟩
theorem mem_join {y : Str} {c : Nat} {ys : List Str} (h : c ∈ tl (Txt.join y ys)) : c ∈ tl y ∨ ∃ p ∈ ys, c ∈ tl p := by
  rw [tl_joinL] at h
  rcases mem_joinL h with h | ⟨p, hp, hc⟩
  · exact .inl h
  · obtain ⟨z, hz, rfl⟩ := List.mem_map.mp hp
    exact .inr ⟨z, hz, hc⟩
theorem len_joinL {S : List Nat} {b : Nat} : ∀ {ps : List (List Nat)}, (∀ p ∈ ps, p.length ≤ b) → (TL.joinL S ps).length ≤ ps.length * (b + S.length)
  | [], _ => by simp [TL.joinL]
  | [p], h => by
    have := h p (List.mem_singleton.mpr rfl)
    show p.length ≤ _
    simp only [List.length_cons, List.length_nil]; omega
  | p :: q :: r, h => by
    have a := h p (List.mem_cons_self ..)
    have b' := len_joinL (S := S) (ps := q :: r) fun z hz => h z (List.mem_cons_of_mem _ hz)
    show (p ++ (S ++ TL.joinL S (q :: r))).length ≤ (((q :: r).length) + 1) * (b + S.length)
    rw [List.length_append, List.length_append, Nat.add_mul]
    omega
theorem len_join {y : Str} {b : Nat} {ys : List Str} (h : ∀ p ∈ ys, (tl p).length ≤ b) : (tl (Txt.join y ys)).length ≤ ys.length * (b + (tl y).length) := by
  rw [tl_joinL]
  have := len_joinL (S := tl y) (b := b) (ps := ys.map tl) (fun p hp => by obtain ⟨z, hz, rfl⟩ := List.mem_map.mp hp; exact h z hz)
  rw [List.length_map] at this
  exact this
theorem sum_le {ys : List Str} {b : Nat} (h : ∀ p ∈ ys, (tl p).length ≤ b) : (ys.map (·.length)).sum ≤ ys.length * b := by
  induction ys with
  | nil => simp
  | cons y ys ih =>
    have a := h y (List.mem_cons_self ..)
    have := ih fun p hp => h p (List.mem_cons_of_mem _ hp)
    rw [List.map_cons, List.sum_cons, List.length_cons, Nat.add_mul, len_tl]
    omega
/-- numbers joined by commas -/
def commas (ns : List Nat) : Str := Txt.join CM (ns.map num)
def Nums (b : Nat) (ns : List Nat) : Prop := ns ≠ [] ∧ ns.length ≤ 60 ∧ ∀ n ∈ ns, n ≤ b
theorem Nums.mono {a b : Nat} {ns : List Nat} (h : Nums a ns) (l : a ≤ b) : Nums b ns := ⟨h.1, h.2.1, fun n q => Nat.le_trans (h.2.2 n q) l⟩
theorem split_commas {ns : List Nat} (h : Nums 60 ns) : Txt.split (commas ns) CM = ns.map num :=
  spl_CM (fun e => h.1 (List.map_eq_nil_iff.mp e)) fun y hy => by
    obtain ⟨n, hn, rfl⟩ := List.mem_map.mp hy
    exact num_no (h.2.2 n hn) (by decide)
theorem map_num_inj : ∀ {xs ys : List Nat}, (∀ n ∈ xs, n ≤ 60) → (∀ n ∈ ys, n ≤ 60) → xs.map num = ys.map num → xs = ys
  | [], [], _, _, _ => rfl
  | [], _ :: _, _, _, h => by simp at h
  | _ :: _, [], _, _, h => by simp at h
  | x :: xs, y :: ys, a, b, h => by
    rw [List.map_cons, List.map_cons] at h
    have h1 := (List.cons.inj h)
    rw [num_inj (a x (List.mem_cons_self ..)) (b y (List.mem_cons_self ..)) h1.1, map_num_inj (fun n q => a n (List.mem_cons_of_mem _ q)) (fun n q => b n (List.mem_cons_of_mem _ q)) h1.2]
theorem commas_inj {xs ys : List Nat} (hx : Nums 60 xs) (hy : Nums 60 ys) (e : commas xs = commas ys) : xs = ys :=
  map_num_inj hx.2.2 hy.2.2 (by rw [← split_commas hx, ← split_commas hy, e])
theorem commas_no {ns : List Nat} {c : Nat} (h : Nums 60 ns) (hc : c < 48) (h44 : c ≠ 44) : c ∉ tl (commas ns) := fun q => by
  rcases mem_join q with q | ⟨p, hp, q⟩
  · rw [tl_CM] at q; simp at q; exact h44 q
  · obtain ⟨n, hn, rfl⟩ := List.mem_map.mp hp
    exact num_no (h.2.2 n hn) hc q
theorem commas_no47 {ns : List Nat} (h : Nums 60 ns) : 47 ∉ tl (commas ns) := commas_no h (by decide) (by decide)
theorem commas_len {ns : List Nat} (h : Nums 60 ns) : (tl (commas ns)).length ≤ ns.length * 3 := by
  have := len_join (y := CM) (b := 2) (ys := ns.map num) (fun p hp => by obtain ⟨n, hn, rfl⟩ := List.mem_map.mp hp; exact (num_ok (h.2.2 n hn)).2.2.1)
  rw [List.length_map, tl_CM] at this
  exact this
/-! ### parts -/
inductive Ow
  | any | back | not | both | either
  | sum (m : Nat) (ws : List Nat) (g : Nat)
  | square (rows : List (List Nat)) (gs : List Nat)
  | faces (fs : List Str)
  | cut (a b : Nat)
def Ow.kind : Ow → Nat
  | .any => 0 | .back => 1 | .not => 2 | .both => 3 | .either => 4 | .sum .. => 5 | .square .. => 6 | .faces .. => 7 | .cut .. => 8
def wd : Nat → Str
  | 0 => "any" | 1 => "back" | 2 => "not" | 3 => "both" | 4 => "either" | 5 => "sum" | 6 => "square" | 7 => "faces" | _ => "cut"
def ar : Nat → Nat
  | 0 => 0 | 1 => 1 | 2 => 1 | 3 => 2 | 4 => 2 | 5 => 0 | 6 => 0 | 7 => 1 | _ => 1
def mn : Nat → Nat
  | 5 => 3 | 6 => 2 | 7 => 1 | 8 => 2 | _ => 0
abbrev Ow.word (o : Ow) : Str := wd o.kind
theorem Ow.kind_lt (o : Ow) : o.kind < 9 := by cases o <;> (show (_ : Nat) < 9; simp only [Ow.kind]; decide)
theorem wd_inj : ∀ i < 9, ∀ j < 9, wd i = wd j → i = j := by decide +kernel
theorem wd_ok : ∀ i < 9, 32 ∉ tl (wd i) ∧ (tl (wd i)).length ≤ 6 ∧ 1 ≤ (tl (wd i)).length := by decide +kernel
def Ow.words : Ow → List Str
  | .sum m ws g => [num m, commas ws, num g]
  | .square rows gs => [Txt.join SL (rows.map commas), commas gs]
  | .faces fs => [Txt.join CM fs]
  | .cut a b => [num a, num b]
  | _ => []
def sq (t : Bool) (ds : List PyData) : PyData := if t = true then .tuple ds else .list ds
def pn (n : Nat) : PyData := .int n
def Ow.data (t : Bool) : Ow → List PyData
  | .sum m ws g => [pn m, sq t (ws.map pn), pn g]
  | .square rows gs => [sq t (rows.map fun row => sq t (row.map pn)), sq t (gs.map pn)]
  | .faces fs => [sq t (fs.map .str)]
  | .cut a b => [pn a, pn b]
  | _ => []
def Face (f : Str) : Prop := 2 ≤ (tl f).length ∧ (tl f).length ≤ 12 ∧ ∀ c ∈ tl f, c ∈ tl ALL
def Row (r : List Nat) : Prop := 2 ≤ r.length ∧ r.length ≤ 12 ∧ ∀ x ∈ r, x ≤ 59
def Ow.ok : Ow → Prop
  | .sum m ws g => 2 ≤ m ∧ m ≤ 60 ∧ Nums 59 ws ∧ ws.length ≤ 8 ∧ g ≤ 59
  | .square rows gs => rows ≠ [] ∧ rows.length ≤ 60 ∧ (∀ r ∈ rows, Row r) ∧ Nums 59 gs
  | .faces fs => fs ≠ [] ∧ fs.length ≤ 4 ∧ ∀ f ∈ fs, Face f
  | .cut a b => a ≤ 3 ∧ b ≤ 3
  | _ => True
theorem Row.nums {r : List Nat} (h : Row r) : Nums 60 r := ⟨fun e => by rw [e] at h; exact absurd h.1 (by decide), by have := h.2.1; omega, fun n q => Nat.le_trans (h.2.2 n q) (by decide)⟩
theorem all_ge : ∀ c ∈ tl ALL, 48 ≤ c := by decide +kernel
theorem Face.no {f : Str} {c : Nat} (h : Face f) (hc : c < 48) : c ∉ tl f := fun q => by have := all_ge c (h.2.2 c q); omega
theorem Ow.words_len (o : Ow) : o.words.length = mn o.kind := by cases o <;> rfl
theorem Ow.data_len (t : Bool) (o : Ow) : (o.data t).length = mn o.kind := by cases o <;> rfl

theorem Ow.words_ok {o : Ow} (h : o.ok) : ∀ w ∈ o.words, 32 ∉ tl w ∧ (tl w).length ≤ 2500 := by
  cases o with
  | sum m ws g =>
    obtain ⟨h1, h2, h3, h4, h5⟩ := h
    have c := commas_len (h3.mono (by decide : 59 ≤ 60))
    intro w hw
    simp only [Ow.words, List.mem_cons, List.not_mem_nil, or_false] at hw
    rcases hw with rfl | rfl | rfl
    · exact ⟨num_no h2 (by decide), by have := (num_ok h2).2.2.1; omega⟩
    · exact ⟨commas_no (h3.mono (by decide)) (by decide) (by decide), by omega⟩
    · exact ⟨num_no (by omega) (by decide), by have := (num_ok (show g ≤ 60 by omega)).2.2.1; omega⟩
  | square rows gs =>
    obtain ⟨h1, h2, h3, h4⟩ := h
    intro w hw
    simp only [Ow.words, List.mem_cons, List.not_mem_nil, or_false] at hw
    rcases hw with rfl | rfl
    · refine ⟨fun q => ?_, ?_⟩
      · rcases mem_join q with q | ⟨p, hp, q⟩
        · rw [tl_SL] at q; simp at q
        · obtain ⟨r, hr, rfl⟩ := List.mem_map.mp hp
          exact commas_no (h3 r hr).nums (by decide) (by decide) q
      · have := len_join (y := SL) (b := 36) (ys := rows.map commas) (fun p hp => by
          obtain ⟨r, hr, rfl⟩ := List.mem_map.mp hp
          have a := commas_len (h3 r hr).nums
          have b := (h3 r hr).2.1
          omega)
        rw [List.length_map, tl_SL] at this
        simp only [List.length_cons, List.length_nil] at this
        omega
    · have c := commas_len (h4.mono (by decide : 59 ≤ 60))
      have := h4.2.1
      exact ⟨commas_no (h4.mono (by decide)) (by decide) (by decide), by omega⟩
  | faces fs =>
    obtain ⟨h1, h2, h3⟩ := h
    intro w hw
    simp only [Ow.words, List.mem_cons, List.not_mem_nil, or_false] at hw
    subst hw
    refine ⟨fun q => ?_, ?_⟩
    · rcases mem_join q with q | ⟨p, hp, q⟩
      · rw [tl_CM] at q; simp at q
      · exact (h3 p hp).no (by decide) q
    · have := len_join (y := CM) (b := 12) (ys := fs) (fun p hp => (h3 p hp).2.1)
      rw [tl_CM] at this
      simp only [List.length_cons, List.length_nil] at this
      omega
  | cut a b =>
    obtain ⟨h1, h2⟩ := h
    intro w hw
    simp only [Ow.words, List.mem_cons, List.not_mem_nil, or_false] at hw
    rcases hw with rfl | rfl
    · exact ⟨num_no (by omega) (by decide), by have := (num_ok (show a ≤ 60 by omega)).2.2.1; omega⟩
    · exact ⟨num_no (by omega) (by decide), by have := (num_ok (show b ≤ 60 by omega)).2.2.1; omega⟩
  | _ => intro w hw; simp [Ow.words] at hw
theorem rows_split {rows : List (List Nat)} (h1 : rows ≠ []) (h3 : ∀ r ∈ rows, Row r) : Txt.split (Txt.join SL (rows.map commas)) SL = rows.map commas :=
  spl_SL (fun e => h1 (List.map_eq_nil_iff.mp e)) fun y hy => by
    obtain ⟨r, hr, rfl⟩ := List.mem_map.mp hy
    exact commas_no47 (h3 r hr).nums
theorem faces_split {fs : List Str} (h1 : fs ≠ []) (h3 : ∀ f ∈ fs, Face f) : Txt.split (Txt.join CM fs) CM = fs := spl_CM h1 fun y hy => (h3 y hy).no (by decide)
theorem map_commas_inj : ∀ {xs ys : List (List Nat)}, (∀ r ∈ xs, Row r) → (∀ r ∈ ys, Row r) → xs.map commas = ys.map commas → xs = ys
  | [], [], _, _, _ => rfl
  | [], _ :: _, _, _, h => by simp at h
  | _ :: _, [], _, _, h => by simp at h
  | x :: xs, y :: ys, a, b, h => by
    rw [List.map_cons, List.map_cons] at h
    have h1 := (List.cons.inj h)
    rw [commas_inj (a x (List.mem_cons_self ..)).nums (b y (List.mem_cons_self ..)).nums h1.1, map_commas_inj (fun n q => a n (List.mem_cons_of_mem _ q)) (fun n q => b n (List.mem_cons_of_mem _ q)) h1.2]
theorem Ow.words_inj {o p : Ow} (ho : o.ok) (hp : p.ok) (k : o.kind = p.kind) (e : o.words = p.words) : o = p := by
  cases o <;> cases p <;> first
    | rfl
    | (exact absurd k (by simp only [Ow.kind]; decide))
    | skip
  · rename_i m ws g m' ws' g'
    simp only [Ow.words, List.cons.injEq, and_true] at e
    obtain ⟨h1, h2, h3, h4, h5⟩ := ho
    obtain ⟨k1, k2, k3, k4, k5⟩ := hp
    rw [num_inj h2 k2 e.1, commas_inj (h3.mono (by decide)) (k3.mono (by decide)) e.2.1, num_inj (by omega) (by omega) e.2.2]
  · rename_i rows gs rows' gs'
    simp only [Ow.words, List.cons.injEq, and_true] at e
    obtain ⟨h1, h2, h3, h4⟩ := ho
    obtain ⟨k1, k2, k3, k4⟩ := hp
    have a : rows.map commas = rows'.map commas := by rw [← rows_split h1 h3, ← rows_split k1 k3, e.1]
    rw [map_commas_inj h3 k3 a, commas_inj (h4.mono (by decide)) (k4.mono (by decide)) e.2]
  · rename_i fs fs'
    simp only [Ow.words, List.cons.injEq, and_true] at e
    have a : fs = fs' := by rw [← faces_split ho.1 ho.2.2, ← faces_split hp.1 hp.2.2, e]
    rw [a]
  · rename_i a b a' b'
    simp only [Ow.words, List.cons.injEq, and_true] at e
    have h1 := ho.1
    have h2 := ho.2
    have k1 := hp.1
    have k2 := hp.2
    rw [num_inj (by omega) (by omega) e.1, num_inj (by omega) (by omega) e.2]
/-! ### rules -/
inductive R
  | n0 (o : Ow) | n1 (o : Ow) (a : R) | n2 (o : Ow) (a b : R)
def R.ow : R → Ow
  | .n0 o => o | .n1 o _ => o | .n2 o _ _ => o
def R.inner : R → List R
  | .n0 _ => [] | .n1 _ a => [a] | .n2 _ a b => [a, b]
def R.ok : R → Prop
  | .n0 o => o.ok ∧ ar o.kind = 0 | .n1 o a => o.ok ∧ ar o.kind = 1 ∧ a.ok | .n2 o a b => o.ok ∧ ar o.kind = 2 ∧ a.ok ∧ b.ok
def R.words : R → List Str
  | .n0 o => o.word :: o.words
  | .n1 o a => o.word :: (o.words ++ a.words)
  | .n2 o a b => o.word :: (o.words ++ (a.words ++ b.words))
def R.data (t : Bool) : R → PyData
  | .n0 o => sq t (.str o.word :: o.data t)
  | .n1 o a => sq t (.str o.word :: (o.data t ++ [a.data t]))
  | .n2 o a b => sq t (.str o.word :: (o.data t ++ [a.data t, b.data t]))
def R.parts : R → Nat
  | .n0 _ => 1 | .n1 _ a => a.parts + 1 | .n2 _ a b => a.parts + b.parts + 1
def R.depth : R → Nat
  | .n0 _ => 1 | .n1 _ a => a.depth + 1 | .n2 _ a b => max a.depth b.depth + 1
theorem R.depth_le : ∀ r : R, r.depth ≤ r.parts
  | .n0 _ => Nat.le_refl _
  | .n1 _ a => Nat.succ_le_succ a.depth_le
  | .n2 _ a b => by have h1 := a.depth_le; have h2 := b.depth_le; show max a.depth b.depth + 1 ≤ a.parts + b.parts + 1; omega
theorem R.parts_pos : ∀ r : R, 1 ≤ r.parts
  | .n0 _ => Nat.le_refl _
  | .n1 _ a => Nat.succ_le_succ (Nat.zero_le _)
  | .n2 _ a b => Nat.succ_le_succ (Nat.zero_le _)
theorem R.ok_ow : ∀ {r : R}, r.ok → r.ow.ok
  | .n0 _, h => h.1
  | .n1 _ _, h => h.1
  | .n2 _ _ _, h => h.1
theorem R.ok_ar : ∀ {r : R}, r.ok → r.inner.length = ar r.ow.kind
  | .n0 _, h => h.2.symm
  | .n1 _ _, h => h.2.1.symm
  | .n2 _ _ _, h => h.2.1.symm
theorem R.ok_in : ∀ {r : R}, r.ok → ∀ i ∈ r.inner, i.ok
  | .n0 _, _, i, q => by simp [R.inner] at q
  | .n1 _ _, h, i, q => by simp only [R.inner, List.mem_cons, List.not_mem_nil, or_false] at q; rw [q]; exact h.2.2
  | .n2 _ _ _, h, i, q => by
    simp only [R.inner, List.mem_cons, List.not_mem_nil, or_false] at q
    rcases q with rfl | rfl
    · exact h.2.2.1
    · exact h.2.2.2
theorem R.in_depth : ∀ {r : R}, ∀ i ∈ r.inner, i.depth + 1 ≤ r.depth
  | .n0 _, i, q => by simp [R.inner] at q
  | .n1 _ a, i, q => by simp only [R.inner, List.mem_cons, List.not_mem_nil, or_false] at q; rw [q]; exact Nat.le_refl _
  | .n2 _ a b, i, q => by
    simp only [R.inner, List.mem_cons, List.not_mem_nil, or_false] at q
    show i.depth + 1 ≤ max a.depth b.depth + 1
    rcases q with rfl | rfl <;> omega
theorem R.words_eq : ∀ r : R, r.words = r.ow.word :: (r.ow.words ++ (r.inner.map R.words).flatten)
  | .n0 o => by simp [R.words, R.ow, R.inner]
  | .n1 o a => by simp [R.words, R.ow, R.inner]
  | .n2 o a b => by simp [R.words, R.ow, R.inner]
theorem R.data_eq (t : Bool) : ∀ r : R, r.data t = sq t (.str r.ow.word :: (r.ow.data t ++ r.inner.map (R.data t)))
  | .n0 o => by simp [R.data, R.ow, R.inner]
  | .n1 o a => by simp [R.data, R.ow, R.inner]
  | .n2 o a b => by simp [R.data, R.ow, R.inner]
theorem R.parts_eq : ∀ r : R, r.parts = (r.inner.map R.parts).sum + 1
  | .n0 o => rfl
  | .n1 o a => by simp [R.parts, R.inner]
  | .n2 o a b => by simp [R.parts, R.inner]
theorem mn_le (k : Nat) : mn k ≤ 3 := by
  unfold mn
  split <;> decide
theorem R.words_len : ∀ r : R, r.words.length ≤ 4 * r.parts
  | .n0 o => by have := mn_le o.kind; simp only [R.words, R.parts, List.length_cons, Ow.words_len]; omega
  | .n1 o a => by have := mn_le o.kind; have := a.words_len; simp only [R.words, R.parts, List.length_cons, List.length_append, Ow.words_len]; omega
  | .n2 o a b => by have := mn_le o.kind; have := a.words_len; have := b.words_len; simp only [R.words, R.parts, List.length_cons, List.length_append, Ow.words_len]; omega
theorem R.words_ok : ∀ {r : R}, r.ok → ∀ w ∈ r.words, 32 ∉ tl w ∧ (tl w).length ≤ 2500
  | .n0 o, h, w, q => by
    have hw := wd_ok o.kind o.kind_lt
    simp only [R.words, List.mem_cons] at q
    rcases q with rfl | q
    · exact ⟨hw.1, Nat.le_trans hw.2.1 (by decide)⟩
    · exact Ow.words_ok h.1 w q
  | .n1 o a, h, w, q => by
    have hw := wd_ok o.kind o.kind_lt
    simp only [R.words, List.mem_cons, List.mem_append] at q
    rcases q with rfl | q | q
    · exact ⟨hw.1, Nat.le_trans hw.2.1 (by decide)⟩
    · exact Ow.words_ok h.1 w q
    · exact R.words_ok h.2.2 w q
  | .n2 o a b, h, w, q => by
    have hw := wd_ok o.kind o.kind_lt
    simp only [R.words, List.mem_cons, List.mem_append] at q
    rcases q with rfl | q | q | q
    · exact ⟨hw.1, Nat.le_trans hw.2.1 (by decide)⟩
    · exact Ow.words_ok h.1 w q
    · exact R.words_ok h.2.2.1 w q
    · exact R.words_ok h.2.2.2 w q
theorem R.words_ne (r : R) : r.words ≠ [] := by rw [r.words_eq]; simp
def R.text (r : R) : Str := Txt.join SP r.words
theorem R.split {r : R} (h : r.ok) : Txt.split r.text SP = r.words := spl_SP r.words_ne fun w q => (R.words_ok h w q).1
theorem R.text_len {r : R} (h : r.ok) : (tl r.text).length ≤ 10004 * r.parts := by
  have a := len_join (y := SP) (b := 2500) (ys := r.words) fun w q => (R.words_ok h w q).2
  rw [tl_SP] at a
  have b := r.words_len
  have c : (tl r.text).length ≤ r.words.length * (2500 + 1) := a
  omega
/-- the words tell the rule -/
theorem R.words_pre : ∀ {r s : R} {x y : List Str}, r.ok → s.ok → r.words ++ x = s.words ++ y → r = s ∧ x = y := by
  have kd : ∀ {o p : Ow} {x y : List Str}, o.ok → p.ok → o.word :: (o.words ++ x) = p.word :: (p.words ++ y) → o = p ∧ x = y := by
    intro o p x y ho hp e
    have e1 := List.cons.inj e
    have k := wd_inj _ o.kind_lt _ p.kind_lt e1.1
    have l : o.words.length = p.words.length := by rw [o.words_len, p.words_len, k]
    have e2 := List.append_inj e1.2 l
    exact ⟨Ow.words_inj ho hp k e2.1, e2.2⟩
  have sh : ∀ r : R, ∀ z : List Str, r.words ++ z = r.ow.word :: (r.ow.words ++ ((r.inner.map R.words).flatten ++ z)) := fun r z => by rw [r.words_eq]; simp
  intro r
  induction r with
  | n0 o =>
    intro s x y hr hs e
    rw [sh, sh] at e
    have k := kd hr.1 (R.ok_ow hs) e
    have a := R.ok_ar hs
    rw [← k.1, hr.2] at a
    cases s with
    | n0 p => exact ⟨by rw [show o = p from k.1], k.2⟩
    | n1 p c => simp [R.inner] at a
    | n2 p c d => simp [R.inner] at a
  | n1 o c ih =>
    intro s x y hr hs e
    rw [sh, sh] at e
    have k := kd hr.1 (R.ok_ow hs) e
    have a := R.ok_ar hs
    rw [← k.1, hr.2.1] at a
    cases s with
    | n0 p => simp [R.inner] at a
    | n1 p d =>
      have k2 : c.words ++ x = d.words ++ y := by simpa [R.inner] using k.2
      have q := ih hr.2.2 hs.2.2 k2
      exact ⟨by rw [show o = p from k.1, q.1], q.2⟩
    | n2 p c d => simp [R.inner] at a
  | n2 o c d ihc ihd =>
    intro s x y hr hs e
    rw [sh, sh] at e
    have k := kd hr.1 (R.ok_ow hs) e
    have a := R.ok_ar hs
    rw [← k.1, hr.2.1] at a
    cases s with
    | n0 p => simp [R.inner] at a
    | n1 p d => simp [R.inner] at a
    | n2 p c' d' =>
      have k2 : c.words ++ (d.words ++ x) = c'.words ++ (d'.words ++ y) := by simpa [R.inner] using k.2
      have q := ihc hr.2.2.1 hs.2.2.1 k2
      have q2 := ihd hr.2.2.2 hs.2.2.2 q.2
      exact ⟨by rw [show o = p from k.1, q.1, q2.1], q2.2⟩
theorem R.text_inj {r s : R} (hr : r.ok) (hs : s.ok) (e : r.text = s.text) : r = s :=
  (R.words_pre (x := []) (y := []) hr hs (by rw [List.append_nil, List.append_nil, ← R.split hr, ← R.split hs, e])).1
/-! ### data that are equal are the same -/
mutual
def pure : PyData → Bool
  | .none => true
  | .int _ => true
  | .str _ => true
  | .tuple ds => pureA ds
  | _ => false
def pureA : List PyData → Bool
  | [] => true
  | d :: ds => pure d && pureA ds
end
mutual
theorem eqv_pure : ∀ (d e : PyData), pure d = true → PyData.eqv d e = true → pure e = true → d = e
  | .int i, e, _, h, q => by cases e <;> simp_all [PyData.eqv, pure]
  | .str i, e, _, h, q => by cases e <;> simp_all [PyData.eqv, pure]
  | .tuple ds, e, p, h, q => by
    cases e with
    | tuple es => rw [eqvA_pure ds es (by simpa [pure] using p) (by simpa [PyData.eqv] using h) (by simpa [pure] using q)]
    | _ => simp_all [PyData.eqv, pure]
  | .none, e, _, h, q => by cases e <;> simp_all [PyData.eqv, pure]
  | .bool _, _, p, _, _ => by simp [pure] at p
  | .list _, _, p, _, _ => by simp [pure] at p
  | .dict _, _, p, _, _ => by simp [pure] at p
theorem eqvA_pure : ∀ (ds es : List PyData), pureA ds = true → PyData.eqvAll ds es = true → pureA es = true → ds = es
  | [], [], _, _, _ => rfl
  | [], _ :: _, _, h, _ => by simp [PyData.eqvAll] at h
  | _ :: _, [], _, h, _ => by simp [PyData.eqvAll] at h
  | d :: ds, e :: es, p, h, q => by
    simp only [pureA, Bool.and_eq_true] at p q
    simp only [PyData.eqvAll, Bool.and_eq_true] at h
    rw [eqv_pure d e p.1 h.1 q.1, eqvA_pure ds es p.2 h.2 q.2]
end
theorem pureA_iff : ∀ {ds : List PyData}, pureA ds = true ↔ ∀ d ∈ ds, pure d = true
  | [] => by simp [pureA]
  | d :: ds => by simp [pureA, pureA_iff]
theorem pure_nums (ns : List Nat) : pureA (ns.map pn) = true := pureA_iff.mpr fun d hd => by obtain ⟨n, _, rfl⟩ := List.mem_map.mp hd; rfl
theorem Ow.pure (o : Ow) : pureA (o.data true) = true := by
  cases o <;> simp only [Ow.data, pureA, sq, if_true, pn, K4.pure, pure_nums, Bool.and_true, Bool.true_and]
  · exact pureA_iff.mpr fun d hd => by obtain ⟨r, _, rfl⟩ := List.mem_map.mp hd; exact pure_nums r
  · exact pureA_iff.mpr fun d hd => by obtain ⟨r, _, rfl⟩ := List.mem_map.mp hd; rfl
theorem pureA_app {xs ys : List PyData} (h : pureA xs = true) (k : pureA ys = true) : pureA (xs ++ ys) = true :=
  pureA_iff.mpr fun d hd => by rcases List.mem_append.mp hd with q | q; exact pureA_iff.mp h d q; exact pureA_iff.mp k d q
theorem R.pure : ∀ r : R, K4.pure (r.data true) = true
  | .n0 o => by simpa [R.data, sq, K4.pure, pureA] using o.pure
  | .n1 o a => by simpa [R.data, sq, K4.pure, pureA] using pureA_app o.pure (by simpa [pureA] using a.pure)
  | .n2 o a b => by simpa [R.data, sq, K4.pure, pureA] using pureA_app o.pure (by simpa [pureA] using ⟨a.pure, b.pure⟩)

theorem pn_inj : ∀ {a b : Nat}, pn a = pn b → a = b := fun h => by
  have := PyData.int.inj h
  omega
theorem mapinj {α β : Type} {f : α → β} (hf : ∀ {a b}, f a = f b → a = b) : ∀ {xs ys : List α}, xs.map f = ys.map f → xs = ys
  | [], [], _ => rfl
  | [], _ :: _, h => by simp at h
  | _ :: _, [], h => by simp at h
  | x :: xs, y :: ys, h => by
    rw [List.map_cons, List.map_cons] at h
    have h1 := (List.cons.inj h)
    rw [hf h1.1, mapinj hf h1.2]
theorem Ow.data_inj {o p : Ow} (k : o.kind = p.kind) (e : o.data true = p.data true) : o = p := by
  cases o <;> cases p <;> first
    | rfl
    | (exact absurd k (by simp only [Ow.kind]; decide))
    | skip
  · simp only [Ow.data, sq, if_true, List.cons.injEq, and_true, PyData.tuple.injEq] at e
    rw [pn_inj e.1, mapinj pn_inj e.2.1, pn_inj e.2.2]
  · simp only [Ow.data, sq, if_true, List.cons.injEq, and_true, PyData.tuple.injEq] at e
    rw [mapinj (fun h => mapinj pn_inj (PyData.tuple.inj h)) e.1, mapinj pn_inj e.2]
  · simp only [Ow.data, sq, if_true, List.cons.injEq, and_true, PyData.tuple.injEq] at e
    rw [mapinj (fun h => PyData.str.inj h) e]
  · simp only [Ow.data, List.cons.injEq, and_true] at e
    rw [pn_inj e.1, pn_inj e.2]
theorem R.data_inj : ∀ {r s : R}, r.ok → s.ok → r.data true = s.data true → r = s := by
  have kd : ∀ {o p : Ow} {x y : List PyData}, PyData.tuple (.str o.word :: (o.data true ++ x)) = .tuple (.str p.word :: (p.data true ++ y)) → o = p ∧ x = y := by
    intro o p x y e
    have e1 := List.cons.inj (PyData.tuple.inj e)
    have k := wd_inj _ o.kind_lt _ p.kind_lt (PyData.str.inj e1.1)
    have l : (o.data true).length = (p.data true).length := by rw [o.data_len, p.data_len, k]
    have e2 := List.append_inj e1.2 l
    exact ⟨Ow.data_inj k e2.1, e2.2⟩
  have sh : ∀ r : R, r.data true = .tuple (.str r.ow.word :: (r.ow.data true ++ r.inner.map (R.data true))) := fun r => by rw [r.data_eq]; rfl
  intro r
  induction r with
  | n0 o =>
    intro s hr hs e
    rw [sh, sh] at e
    have k := kd e
    have a := R.ok_ar hs
    rw [← k.1] at a
    cases s with
    | n0 p => exact by rw [show o = p from k.1]
    | n1 p c => exact absurd k.2 (by simp [R.inner])
    | n2 p c d => exact absurd k.2 (by simp [R.inner])
  | n1 o c ih =>
    intro s hr hs e
    rw [sh, sh] at e
    have k := kd e
    cases s with
    | n0 p => exact absurd k.2 (by simp [R.inner])
    | n1 p d =>
      have k2 : c.data true = d.data true := by simpa [R.inner] using k.2
      rw [show o = p from k.1, ih hr.2.2 hs.2.2 k2]
    | n2 p c d => exact absurd k.2 (by simp [R.inner])
  | n2 o c d ihc ihd =>
    intro s hr hs e
    rw [sh, sh] at e
    have k := kd e
    cases s with
    | n0 p => exact absurd k.2 (by simp [R.inner])
    | n1 p d => exact absurd k.2 (by simp [R.inner])
    | n2 p c' d' =>
      have k2 : c.data true = c'.data true ∧ d.data true = d'.data true := by simpa [R.inner] using k.2
      rw [show o = p from k.1, ihc hr.2.2.1 hs.2.2.1 k2.1, ihd hr.2.2.2 hs.2.2.2 k2.2]
mutual
def flatN : PyData → Bool
  | .none => true
  | .int _ => true
  | .str z => PyData.strOk z
  | .tuple ds => flatA ds
  | .list ds => flatA ds
  | _ => false
def flatA : List PyData → Bool
  | [] => true
  | d :: ds => flatN d && flatA ds
end
mutual
theorem canLay_flat : ∀ d : PyData, flatN d = true → PyData.canLay0 d = true
  | .int _, _ => by simp [PyData.canLay0]
  | .str _, h => by simpa [PyData.canLay0, flatN] using h
  | .tuple ds, h => by rw [PyData.canLay0]; exact canLayA_flat ds (by simpa [flatN] using h)
  | .list ds, h => by rw [PyData.canLay0]; exact canLayA_flat ds (by simpa [flatN] using h)
  | .none, _ => by simp [PyData.canLay0]
  | .bool _, h => by simp [flatN] at h
  | .dict _, h => by simp [flatN] at h
theorem canLayA_flat : ∀ ds : List PyData, flatA ds = true → PyData.canLayAll0 ds = true
  | [], _ => by simp [PyData.canLayAll0]
  | d :: ds, h => by
    simp only [flatA, Bool.and_eq_true] at h
    rw [PyData.canLayAll0, canLay_flat d h.1, canLayA_flat ds h.2]
    rfl
end

theorem flatA_iff : ∀ {ds : List PyData}, flatA ds = true ↔ ∀ d ∈ ds, flatN d = true
  | [] => by simp [flatA]
  | d :: ds => by simp [flatA, flatA_iff]
theorem depthA_le {n : Nat} : ∀ {ds : List PyData}, (∀ d ∈ ds, d.depth ≤ n) → PyData.depthAll ds ≤ n
  | [], _ => Nat.zero_le _
  | d :: ds, h => by
    rw [PyData.depthAll]
    have := h d (List.mem_cons_self ..)
    have := depthA_le fun e q => h e (List.mem_cons_of_mem _ q)
    omega
theorem flat_sq {t : Bool} {ds : List PyData} (h : ∀ d ∈ ds, flatN d = true) : flatN (sq t ds) = true := by
  cases t <;> exact flatA_iff.mpr h
theorem depth_sq {t : Bool} {ds : List PyData} {n : Nat} (h : ∀ d ∈ ds, d.depth ≤ n) : (sq t ds).depth ≤ n + 1 := by
  cases t <;> exact Nat.succ_le_succ (depthA_le h)
theorem mem_map_pn {ns : List Nat} {d : PyData} (h : d ∈ ns.map pn) : flatN d = true ∧ d.depth ≤ 0 := by
  obtain ⟨n, _, rfl⟩ := List.mem_map.mp h
  exact ⟨rfl, Nat.le_refl _⟩
end K4

/-! HdG -/
/-! What the top left, read by one kernel run: tables, tuples, errors with an own __init__. -/
namespace Hd
open PySem PySem.Spec PyProof.Rows L2 He
/-! ### a def that names __class__ -/
abbrev FnL : Type := Option (Str × Str × Arguments × FuncBody × Scope × Addr × List Str × Value × Addr)
def fnL (K : PySem.W.Frag) (p : Str × Option Str) : FnL := match K.lookup (fAd K p) with
  | some ⟨_, _, .func fd, _⟩ => some (fd.name, fd.qualname, fd.params, fd.body, fd.scope, fd.globals, fd.closure.map (·.1), fd.defaults, fd.builtins)
  | _ => none
structure DefC where
  at_ : Str × Option Str
  qual : Str
  params : Arguments
  body : List Stmt
  scope : Scope
def DefC.val (d : DefC) : FnL := some ("__init__", d.qual, d.params, .stmts d.body, d.scope, mainGlobals, ["__class__"], .none, builtinsNs)
/-- its code's file is the program's, its cell holds the class -/
def initB (P : Program) (K : PySem.W.Frag) (p : Str × Option Str) (q : Str) (C : Addr) : Bool := match K.lookup (fAd K p) with
  | some ⟨_, _, .func fd, _⟩ => (match fd.code, fd.closure with
    | .ref cda, [(_, cc)] => PySem.W.codeIn K (.ref cda) q && ((match K.lookup cda with
      | some ⟨_, _, .fields vs, _⟩ => (match (vs[2]? : Option Value) with
        | some (.str f _) => P.main.file == f
        | _ => false)
      | _ => false) && (match K.lookup cc with
      | some ⟨_, _, .cell (some (.ref C')), _⟩ => decide (C' = C)
      | _ => false))
    | _, _ => false)
  | _ => false
theorem init_ok {P : Program} {K : PySem.W.Frag} {d : DefC} {C : Addr} (e : fnL K d.at_ = d.val) (c : initB P K d.at_ d.qual C = true) :
    ∃ (oc : Value) (od : Option Addr) (kV doc pm : Value) (an : Option Addr) (ct : Value) (osl : Array (Option Value)) (cda cc : Addr) (ccl : Value) (cdd : Option Addr) (vs : Array Value) (ccs : Array (Option Value)) (file : Str) (tf : Tok) (cl : Value) (cld : Option Addr) (csl : Array (Option Value)),
      K.lookup (fAd K d.at_) = some ⟨oc, od, .func (PySem.W.ksFn "__init__" d.qual d.params d.body d.scope .none kV doc pm an (.ref cda) ct cc), osl⟩ ∧ PySem.W.codeIn K (.ref cda) d.qual = true ∧
      K.lookup cda = some ⟨ccl, cdd, .fields vs, ccs⟩ ∧ vs[2]? = some (.str file tf) ∧ (P.main.file == file) = true ∧ K.lookup cc = some ⟨cl, cld, .cell (some (.ref C)), csl⟩ := by
  unfold fnL at e
  unfold initB at c
  cases q : K.lookup (fAd K d.at_) with
  | none => rw [q] at c; cases c
  | some o =>
    obtain ⟨oc, od, dt, osl⟩ := o
    rw [q] at c e
    cases dt with
    | func fd =>
      obtain ⟨n1, n2, n3, n4, n5, n6, n7, n8, n9, n10, n11, n12, n13, n14, n15⟩ := fd
      have e2 : (some (n1, n2, n3, n4, n5, n6, n7.map (·.1), n8, n15) : FnL) = DefC.val d := e
      unfold DefC.val at e2
      simp only [Option.some.injEq, Prod.mk.injEq] at e2
      obtain ⟨h1, h2, h3, h4, h5, h6, h7, h8, h9⟩ := e2
      subst h1 h2 h3 h4 h5 h6 h8 h9
      cases n13 with
      | ref cda =>
        match n7, h7 with
        | [(k, cc)], h7 =>
          have hk : k = "__class__" := by simpa using h7
          subst hk
          obtain ⟨c1, c⟩ := ba (show (PySem.W.codeIn K (.ref cda) d.qual && ((match K.lookup cda with
            | some ⟨_, _, .fields vs, _⟩ => (match (vs[2]? : Option Value) with
              | some (.str f _) => P.main.file == f
              | _ => false)
            | _ => false) && (match K.lookup cc with
            | some ⟨_, _, .cell (some (.ref C')), _⟩ => decide (C' = C)
            | _ => false))) = true from c)
          obtain ⟨c2, c3⟩ := ba c
          cases q2 : K.lookup cda with
          | none => rw [q2] at c2; cases c2
          | some o2 =>
            obtain ⟨ccl, cdd, dt2, ccs⟩ := o2
            rw [q2] at c2
            cases dt2 with
            | fields vs =>
              have c2' : (match (vs[2]? : Option Value) with
                | some (.str f _) => P.main.file == f
                | _ => false) = true := c2
              cases q4 : vs[2]? with
              | none => rw [q4] at c2'; cases c2'
              | some u =>
                rw [q4] at c2'
                cases u with
                | str file tf =>
                  cases q3 : K.lookup cc with
                  | none => rw [q3] at c3; cases c3
                  | some o3 =>
                    obtain ⟨cl, cld, dt3, csl⟩ := o3
                    rw [q3] at c3
                    cases dt3 with
                    | cell v =>
                      cases v with
                      | none => cases c3
                      | some v =>
                        cases v with
                        | ref C' =>
                          have e3 : C' = C := of_decide_eq_true c3
                          subst e3
                          exact ⟨oc, od, n9, n10, n11, n12, n14, osl, cda, cc, ccl, cdd, vs, ccs, file, tf, cl, cld, csl, rfl, c1, q2, q4, c2', q3⟩
                        | _ => cases c3
                    | _ => cases c3
                | _ => cases c2'
            | _ => cases c2
        | [], h7 => simp at h7
        | _ :: _ :: _, h7 => simp at h7
      | _ => cases c
    | _ => cases c
/-- a class over ValueError, with an own __init__ -/
def oexB (K : PySem.W.Frag) (C : Addr) : Bool := (match K.lookup C with
  | some ⟨.type "type", _, .cls cd, sl⟩ => (match cd.mro, sl.toList with
    | .ref C' :: bm, [_, _, _, _, some (.builtin n), _] => C' == C && (n == "ValueError.__new__" && (!cd.hasDel && (PySem.HandSPX.refsVE bm && cd.hasDict)))
    | _, _ => false)
  | _ => false) && (eqO (PySem.W.findIn K (.ref C) "__setattr__") (some (some (.builtin "object.__setattr__"))) && (decide (PySem.W.subIn K (.ref C) (.type "BaseException") = some true) && (decide (PySem.W.typeIn K (.ref C) = some (.type "type")) && PySem.W.keepIn K (.ref C))))
theorem oexB_ok {K : PySem.W.Frag} {C : Addr} (h : oexB K C = true) : OexC K C := by
  obtain ⟨h0, h⟩ := ba h
  obtain ⟨h1, h⟩ := ba h
  obtain ⟨h2, h⟩ := ba h
  obtain ⟨h3, h4⟩ := ba h
  refine ⟨?_, eqO_ok h1, of_decide_eq_true h2, of_decide_eq_true h3, h4⟩
  split at h0
  · rename_i dd cd sl ho
    split at h0
    · rename_i C' bm k0 k1 k2 k3 n k5 hm hs
      simp only [Bool.and_eq_true, beq_iff_eq, Bool.not_eq_true'] at h0
      obtain ⟨rfl, rfl, hdel, hr, hd⟩ := h0
      obtain ⟨nm, bs, mro, ns, qn, hdc, sn, sub, ab, col, del⟩ := cd
      dsimp only at hm hdel hd
      subst hm hdel hd
      have hsl : sl = #[k0, k1, k2, k3, some (.builtin "ValueError.__new__"), k5] := by
        obtain ⟨l⟩ := sl
        simp only at hs
        rw [hs]
      subst hsl
      exact ⟨nm, qn, ns, bs, bm, sn, sub, ab, col, dd, k0, k1, k2, k3, k5, ho, hr⟩
    · cases h0
  · cases h0
def excB (K : PySem.W.Frag) (D : Addr) : Bool := decide (PySem.W.findIn K (.ref D) "__getattribute__" = some (some (.builtin "BaseException.__getattribute__"))) && (decide (PySem.W.findIn K (.ref D) "__getattr__" = some none) && (decide (PySem.W.subIn K (.ref D) (.type "BaseException") = some true) && (PySem.W.hasDictIn K D &&
  (decide (PySem.W.findIn K (.ref D) "__class__" = some (some (.builtin "object.__class__"))) && (decide (PySem.W.specialIn K (.builtin "object.__class__") "__get__" = some (some (.builtin "getset_descriptor.__get__"))) && (decide (PySem.W.takesIn K (.builtin "object.__class__") = some true) && decide (PySem.W.mroIn K D (.type "object") = some true)))))))
theorem excB_ok {K : PySem.W.Frag} {D : Addr} (h : excB K D = true) : ExcC K D := by
  obtain ⟨h1, h⟩ := ba h
  obtain ⟨h2, h⟩ := ba h
  obtain ⟨h3, h⟩ := ba h
  obtain ⟨h4, h⟩ := ba h
  obtain ⟨h5, h⟩ := ba h
  obtain ⟨h6, h⟩ := ba h
  obtain ⟨h7, h8⟩ := ba h
  exact ⟨of_decide_eq_true h1, of_decide_eq_true h2, of_decide_eq_true h3, h4, of_decide_eq_true h5, of_decide_eq_true h6, of_decide_eq_true h7, of_decide_eq_true h8⟩
/-- what super().__init__ asks of the class -/
def supB (K : PySem.W.Frag) (C : Addr) : Bool := decide (PySem.W.ks_superIn K C C "__init__" = some (some (.builtin "ValueError.__init__"))) && (decide (PySem.W.mroIn K C (.ref C) = some true) && decide (PySem.W.subIn K (.ref C) (.type "ValueError") = some true))
theorem supB_ok {K : PySem.W.Frag} {C : Addr} (h : supB K C = true) : PySem.W.ks_superIn K C C "__init__" = some (some (.builtin "ValueError.__init__")) ∧ PySem.W.mroIn K C (.ref C) = some true ∧ PySem.W.subIn K (.ref C) (.type "ValueError") = some true := by
  obtain ⟨h1, h⟩ := ba h
  obtain ⟨h2, h3⟩ := ba h
  exact ⟨of_decide_eq_true h1, of_decide_eq_true h2, of_decide_eq_true h3⟩
def kitB1 (K : PySem.W.Frag) (C a : Addr) (b : Bool) : Bool := decide (PySem.W.kitOne K (.ref C) (.ref a) = some b)
/-! ### tuples, tables -/
def tupAtB (K : PySem.W.Frag) (a : Addr) (vs : List Str) : Bool := match K.lookup a with
  | some ⟨.type c, _, .seq its _, _⟩ => decide (c = "tuple") && (decide (its.size ≤ sizeLine) && relAll (vs.map V.str) its.toList)
  | _ => false
theorem tupAtB_ok {K : PySem.W.Frag} {a : Addr} {vs : List Str} (h : tupAtB K a vs = true) (H : Hp) : SqT K H a (vs.map V.str) := by
  unfold tupAtB at h
  cases q : K.lookup a with
  | none => rw [q] at h; cases h
  | some o =>
    obtain ⟨oc, od, dt, osl⟩ := o
    rw [q] at h
    cases oc with
    | type c =>
      cases dt with
      | seq its n =>
        obtain ⟨h1, h2⟩ := ba (show (decide (c = "tuple") && (decide (its.size ≤ sizeLine) && relAll (vs.map V.str) its.toList)) = true from h)
        obtain ⟨h3, h4⟩ := ba h2
        exact .inr ⟨_, its, n, q, congrArg Value.type (of_decide_eq_true h1), rfl, of_decide_eq_true h3, relAll_ok h4⟩
      | _ => cases h
    | _ => cases dt <;> cases h
def dAt (K : PySem.W.Frag) (d : Addr) (x : Str) : Addr := match PySem.W.nsIn K d x with
  | some (some (.ref a)) => a
  | _ => 0
theorem keys_vals {P : Params} : ∀ {l : List DictEntry} {ks : List Str}, l.map keyOf = keysIn P ks → Vals (ks.map V.str) (l.map (·.key))
  | [], [], _ => .nil
  | [], _ :: _, h => by cases h
  | e :: r, [], h => by cases h
  | e :: r, k :: ks, h => by
    have h1 : keyOf e :: r.map keyOf = some (k, PyData.keyHash P k) :: keysIn P ks := h
    injection h1 with h2 h3
    refine .cons ?_ (keys_vals h3)
    unfold keyOf at h2
    split at h2
    · rename_i x t q
      have h4 := Option.some.inj h2
      obtain ⟨h5, h6⟩ := Prod.mk.inj h4
      exact ⟨t, by show e.key = _; rw [q, h5]⟩
    · cases h2
theorem dicW_keys {K : PySem.W.Frag} {w : World} {a : Addr} {ks : List Str} (h : dicW K a = some (keysIn w.params ks)) {es : Array DictEntry} {n : Nat} (q : K.lookup a = some ⟨.type "dict", none, .dict es n, #[]⟩) : Vals (ks.map V.str) (es.toList.map (·.key)) := by
  unfold dicW at h
  rw [q] at h
  have h1 : (match decide ("dict" = "dict") && ((#[] : Array (Option Value)).isEmpty && !(a == sysModules)) with
    | true => some (es.toList.map keyOf)
    | false => none) = some (keysIn w.params ks) := h
  cases z : decide ("dict" = "dict") && ((#[] : Array (Option Value)).isEmpty && !(a == sysModules)) with
  | false => rw [z] at h1; cases h1
  | true =>
    rw [z] at h1
    exact keys_vals (Option.some.inj h1)
def allB (K : PySem.W.Frag) (a : Addr) (f : DictEntry → Bool) : Bool := match K.lookup a with
  | some ⟨_, _, .dict es _, _⟩ => es.toList.all f
  | _ => false
theorem allB_ok {K : PySem.W.Frag} {a : Addr} {f : DictEntry → Bool} (h : allB K a f = true) {es : Array DictEntry} {n : Nat} (q : K.lookup a = some ⟨.type "dict", none, .dict es n, #[]⟩) : es.toList.all f = true := by
  unfold allB at h
  rw [q] at h
  exact h
/-! ### the Hook -/
/-- what an object names: no more than the facts ask for -/
def ref1 (o : Obj) : List Addr := match o.data with
  | .dict es _ => es.toList.flatMap fun e => refV e.val
  | .func fd => refV fd.code ++ fd.closure.map (·.2)
  | .cls cd => [cd.ns]
  | _ => []
def lv (g : Addr → Option Obj) (as : List Addr) : List Addr := as.flatMap fun a => match g a with
  | some o => ref1 o
  | none => []
/-- the list, worked out ahead of what follows -/
def frL {α : Type} : List Addr → (List Addr → α) → α
  | [], k => k []
  | a :: r, k => HandSHeadRun.frNat a fun a => frL r fun r => k (a :: r)
theorem frL_eq {α : Type} : ∀ (l : List Addr) (k : List Addr → α), frL l k = k l
  | [], _ => rfl
  | a :: r, k => by
    show HandSHeadRun.frNat a (fun a => frL r fun r => k (a :: r)) = _
    rw [HandSHeadRun.frNat_eq, frL_eq r]
/-- the objects at these places, worked out ahead of what follows -/
def mkK {α : Type} (g : Addr → Option Obj) : List Addr → (PySem.W.Frag → α) → α
  | [], k => k []
  | a :: r, k => match g a with
    | some o => mkK g r fun K => k ((a, o) :: K)
    | none => mkK g r k
theorem mkK_eq {α : Type} (g : Addr → Option Obj) : ∀ (l : List Addr) (k : PySem.W.Frag → α), mkK g l k = k (frG g l)
  | [], _ => rfl
  | a :: r, k => by
    unfold mkK frG
    rw [List.filterMap_cons]
    cases e : g a with
    | none => exact mkK_eq g r k
    | some o => exact mkK_eq g r fun K => k ((a, o) :: K)
abbrev AlY : Type := AlT × Bool × List FnL
def obsYK (fa : List Fa) (fn : List DefD) (ts : List Tab) (ex : PySem.W.Frag → Bool) (fc : List DefC) (K : PySem.W.Frag) : AlY := (obsT fa fn ts K, ex K, fc.map fun d => fnL K d.at_)
def valY (fn : List DefD) (ts : List Tab) (fc : List DefC) (w : World) : AlY := (valT fn ts w, true, fc.map DefC.val)
def obsY (fa : List Fa) (fn : List DefD) (ts : List Tab) (ex : PySem.W.Frag → Bool) (fc : List DefC) (g : Addr → Option Obj) : AlY :=
  frL (lv g [mainGlobals]) fun l1 => frL (lv g l1) fun l2 => frL (lv g l2) fun l3 => frL (lv g l3) fun l4 => mkK g (mainGlobals :: cStatics :: (l1 ++ (l2 ++ (l3 ++ l4)))) fun K => obsYK fa fn ts ex fc K
theorem obsY_at (fa : List Fa) (fn : List DefD) (ts : List Tab) (ex : PySem.W.Frag → Bool) (fc : List DefC) (g : Addr → Option Obj) : ∃ as, obsY fa fn ts ex fc g = obsYK fa fn ts ex fc (frG g as) := by
  unfold obsY
  rw [frL_eq, frL_eq, frL_eq, frL_eq, mkK_eq]
  exact ⟨_, rfl⟩
def SaysY (fa : List Fa) (fn : List DefD) (ts : List Tab) (ex : PySem.W.Frag → Bool) (fc : List DefC) (w : World) (K : PySem.W.Frag) : Prop := obsYK fa fn ts ex fc K = valY fn ts fc w
def hookY (fa : List Fa) (fn : List DefD) (ts : List Tab) (ex : PySem.W.Frag → Bool) (fc : List DefC) : PySem.W.Hook where
  α := AlY
  obs := fun s => obsY fa fn ts ex fc s.heap.get?
  val := fun w => valY fn ts fc w
  says := fun w h => ∃ K : PySem.W.Frag, K.In h ∧ SaysY fa fn ts ex fc w K
  of := fun _ s e => by
    obtain ⟨as, q⟩ := obsY_at fa fn ts ex fc s.heap.get?
    exact ⟨_, frG_in, q.symm.trans e⟩
  keeps := fun _ _ _ ⟨K, hK, c⟩ k => ⟨K, PySem.W.Frag.In.keeps hK k, c⟩
theorem obsY_eq {fa : List Fa} {fn : List DefD} {ts : List Tab} {ex : PySem.W.Frag → Bool} {fc : List DefC} {g : Addr → Option Obj} {s : Shared} (h : ∀ a, g a = s.heap.get? a) : obsY fa fn ts ex fc g = (hookY fa fn ts ex fc).obs s := by
  have e : g = s.heap.get? := funext h
  rw [e] <;> rfl
section
variable {fa : List Fa} {fn : List DefD} {ts : List Tab} {ex : PySem.W.Frag → Bool} {fc : List DefC} {w : World} {K : PySem.W.Frag}
theorem SaysY.t (c : SaysY fa fn ts ex fc w K) : SaysT fa fn ts w K := congrArg (fun z : AlY => z.1) c
theorem SaysY.x (c : SaysY fa fn ts ex fc w K) : ex K = true := congrArg (fun z : AlY => z.2.1) c
theorem SaysY.tabW (c : SaysY fa fn ts ex fc w K) (i : Nat) {t : Tab} (h : ts[i]? = some t := by rfl) : dicW K (t.1 K) = some (keysIn w.params t.2) := by
  have e : ts.map (fun t => dicW K (t.1 K)) = ts.map fun t => some (keysIn w.params t.2) := congrArg (fun z : AlT => z.2) c.t
  have e2 : (ts.map fun t => dicW K (t.1 K))[i]? = (ts.map fun t => some (keysIn w.params t.2))[i]? := by rw [e]
  rw [List.getElem?_map, List.getElem?_map, h] at e2
  exact Option.some.inj e2
theorem SaysY.init (c : SaysY fa fn ts ex fc w K) (i : Nat) {d : DefC} (h : fc[i]? = some d := by rfl) : fnL K d.at_ = d.val := by
  have e : fc.map (fun d => fnL K d.at_) = fc.map DefC.val := congrArg (fun z : AlY => z.2.2) c
  have e2 : (fc.map fun d => fnL K d.at_)[i]? = (fc.map DefC.val)[i]? := by rw [e]
  rw [List.getElem?_map, List.getElem?_map, h] at e2
  exact Option.some.inj e2
theorem kdct_of {a : Addr} {es : Array DictEntry} {n : Nat} (D : KDict K w a es n) {kvs : List (Str × He.Dv)} (h : valsB K a kvs = true) {x : Str} {v : Dv} (hq : (x, v) ∈ kvs) : KDct K w a x (v.v K) := by
  obtain ⟨u, e, r⟩ := valsB_ok h hq
  exact ⟨es, n, u, D.at_, D.lit, e, r⟩
end
end Hd

/-! K69Q -/
namespace K4
open PySem L2 K1
/-- the key of an entry is a word of rules -/
def wdKey (e : DictEntry) : Bool := match e.key with
  | .str y _ => (List.range 9).any fun k => decide (y = wd k)
  | _ => false

end K4
namespace HdK69
open PySem PySem.Spec PyProof.Rows L2 K1 K4 He
abbrev PROG : Program := (PySem.Challenge.rw_handcarried_k69_fitting).prog
def fa0 : List Fa := [.glo "is_whole", .glo "is_within", .glo "is_tuple", .glo "is_tuple_of", .glo "is_text", .glo "is_ascending", .glo "as_tuples", .glo "are_signs", .glo "require_signs", .glo "is_paper", .glo "require_paper", .glo "are_rows", .glo "is_row", .glo "are_goals", .glo "standing_in", .glo "own_values", .glo "inner_rules", .glo "is_sum", .glo "is_square", .glo "are_faces", .glo "has_form", .glo "checked_rule", .glo "checked_part", .glo "count_parts", .glo "check_rule", .glo "finds_right", .glo "has_sum", .glo "ends_in_goal", .glo "faced", .glo "signature_of"]
def fa1 : List Fa := [.glo "fitting", .glo "_law_bag_of", .glo "_law_pick", .glo "_law_one_of", .glo "_law_mixed", .glo "_law_signs_of", .glo "_law_paper_of", .glo "_law_sum", .glo "_law_rows", .glo "_law_goals", .glo "_law_faces", .glo "_law_rule_of", .glo "_law_judged", .glo "_law_listed", .glo "_law_no_list", .glo "_law_same_tuple", .glo "_law_large_rule", .glo "_law_rules_of", .glo "_law_longer_paper", .glo "_law_flags_of", .glo "_law_fit", .glo "_law_told_well", .glo "_law_deep_of", .glo "_law_bad_part", .glo "_law_wrong_rule", .glo "_law_raised", .glo "_law_errors_hold", .glo "law", .glo "CarryError", .glo "Malformed"]
def fa2 : List Fa := [.glo "Refused", .glo "BadSigns", .glo "BadRule", .glo "TooMany", .glo "BadPaper", .glo "OWN_VALUES", .glo "INNER_RULES", .free "len", .free "sum", .free "abs", .free "int", .free "range", .free "list", .free "tuple", .free "str", .free "bool", .free "sorted", .free "all", .free "min", .free "isinstance", .free "max", .free "any", .free "repr", .free "enumerate", .free "super", .int "LEAST_KINDS" 2, .int "MOST_KINDS" 12, .int "MOST_SIGNS" 60, .int "LEAST_MODULUS" 2, .int "MOST_MODULUS" 60]
def fa3 : List Fa := [.int "MOST_WEIGHTS" 8, .int "MOST_ROWS" 60, .int "MOST_FACES" 4, .int "MOST_CUT" 3, .int "MOST_PARTS" 40, .str "ALL_SIGNS" K4.ALL, .exm "BadSigns" "BadSigns" true, .exm "BadRule" "BadSigns" false, .exm "BadRule" "BadRule" true, .exm "TooMany" "BadSigns" false, .exm "TooMany" "BadRule" false, .exm "TooMany" "TooMany" true, .exm "BadPaper" "BadSigns" false, .exm "BadPaper" "BadRule" false, .exm "BadPaper" "TooMany" false, .exm "BadPaper" "BadPaper" true]
def fa : List Fa := fa0 ++ fa1 ++ fa2 ++ fa3

def fn0 : List DefD := [⟨("is_whole", none), "is_whole", "is_whole", defArgs (top 9), defBody (top 9), defScope (top 9), [], []⟩, ⟨("is_within", none), "is_within", "is_within", defArgs (top 10), defBody (top 10), defScope (top 10), [], []⟩, ⟨("is_tuple", none), "is_tuple", "is_tuple", defArgs (top 11), defBody (top 11), defScope (top 11), [], []⟩, ⟨("is_tuple_of", none), "is_tuple_of", "is_tuple_of", defArgs (top 12), defBody (top 12), defScope (top 12), [], []⟩, ⟨("is_text", none), "is_text", "is_text", defArgs (top 13), defBody (top 13), defScope (top 13), [], []⟩, ⟨("is_ascending", none), "is_ascending", "is_ascending", defArgs (top 14), defBody (top 14), defScope (top 14), [], []⟩, ⟨("as_tuples", none), "as_tuples", "as_tuples", defArgs (top 15), defBody (top 15), defScope (top 15), [], []⟩, ⟨("are_signs", none), "are_signs", "are_signs", defArgs (top 21), defBody (top 21), defScope (top 21), [], []⟩, ⟨("require_signs", none), "require_signs", "require_signs", defArgs (top 22), defBody (top 22), defScope (top 22), [], []⟩, ⟨("is_paper", none), "is_paper", "is_paper", defArgs (top 23), defBody (top 23), defScope (top 23), [], []⟩, ⟨("require_paper", none), "require_paper", "require_paper", defArgs (top 24), defBody (top 24), defScope (top 24), [], []⟩, ⟨("are_rows", none), "are_rows", "are_rows", defArgs (top 26), defBody (top 26), defScope (top 26), [], []⟩, ⟨("is_row", none), "is_row", "is_row", defArgs (top 27), defBody (top 27), defScope (top 27), [], []⟩, ⟨("are_goals", none), "are_goals", "are_goals", defArgs (top 28), defBody (top 28), defScope (top 28), [], []⟩, ⟨("standing_in", none), "standing_in", "standing_in", defArgs (top 29), defBody (top 29), defScope (top 29), [], []⟩, ⟨("own_values", none), "own_values", "own_values", defArgs (top 40), defBody (top 40), defScope (top 40), [], []⟩, ⟨("inner_rules", none), "inner_rules", "inner_rules", defArgs (top 41), defBody (top 41), defScope (top 41), [], []⟩, ⟨("is_sum", none), "is_sum", "is_sum", defArgs (top 42), defBody (top 42), defScope (top 42), [], []⟩, ⟨("is_square", none), "is_square", "is_square", defArgs (top 43), defBody (top 43), defScope (top 43), [], []⟩, ⟨("are_faces", none), "are_faces", "are_faces", defArgs (top 44), defBody (top 44), defScope (top 44), [], []⟩, ⟨("has_form", none), "has_form", "has_form", defArgs (top 45), defBody (top 45), defScope (top 45), [], []⟩, ⟨("checked_rule", none), "checked_rule", "checked_rule", defArgs (top 46), defBody (top 46), defScope (top 46), [], []⟩, ⟨("checked_part", none), "checked_part", "checked_part", defArgs (top 47), defBody (top 47), defScope (top 47), [], []⟩, ⟨("count_parts", none), "count_parts", "count_parts", defArgs (top 48), defBody (top 48), defScope (top 48), [], []⟩, ⟨("check_rule", none), "check_rule", "check_rule", defArgs (top 50), defBody (top 50), defScope (top 50), [], []⟩, ⟨("finds_right", none), "finds_right", "finds_right", defArgs (top 51), defBody (top 51), defScope (top 51), [], []⟩, ⟨("has_sum", none), "has_sum", "has_sum", defArgs (top 52), defBody (top 52), defScope (top 52), [], []⟩, ⟨("ends_in_goal", none), "ends_in_goal", "ends_in_goal", defArgs (top 53), defBody (top 53), defScope (top 53), [], []⟩, ⟨("faced", none), "faced", "faced", defArgs (top 54), defBody (top 54), defScope (top 54), [], []⟩, ⟨("signature_of", none), "signature_of", "signature_of", defArgs (top 56), defBody (top 56), defScope (top 56), [], []⟩]
def fn1 : List DefD := [⟨("fitting", none), "fitting", "fitting", defArgs (top 57), defBody (top 57), defScope (top 57), [], []⟩, ⟨("_law_bag_of", none), "_law_bag_of", "_law_bag_of", defArgs (top 59), defBody (top 59), defScope (top 59), [], []⟩, ⟨("_law_pick", none), "_law_pick", "_law_pick", defArgs (top 60), defBody (top 60), defScope (top 60), [], []⟩, ⟨("_law_one_of", none), "_law_one_of", "_law_one_of", defArgs (top 61), defBody (top 61), defScope (top 61), [], []⟩, ⟨("_law_mixed", none), "_law_mixed", "_law_mixed", defArgs (top 62), defBody (top 62), defScope (top 62), [], []⟩, ⟨("_law_signs_of", none), "_law_signs_of", "_law_signs_of", defArgs (top 63), defBody (top 63), defScope (top 63), [], []⟩, ⟨("_law_paper_of", none), "_law_paper_of", "_law_paper_of", defArgs (top 64), defBody (top 64), defScope (top 64), [], []⟩, ⟨("_law_sum", none), "_law_sum", "_law_sum", defArgs (top 65), defBody (top 65), defScope (top 65), [], []⟩, ⟨("_law_rows", none), "_law_rows", "_law_rows", defArgs (top 66), defBody (top 66), defScope (top 66), [], []⟩, ⟨("_law_goals", none), "_law_goals", "_law_goals", defArgs (top 67), defBody (top 67), defScope (top 67), [], []⟩, ⟨("_law_faces", none), "_law_faces", "_law_faces", defArgs (top 68), defBody (top 68), defScope (top 68), [], []⟩, ⟨("_law_rule_of", none), "_law_rule_of", "_law_rule_of", defArgs (top 69), defBody (top 69), defScope (top 69), [], []⟩, ⟨("_law_judged", none), "_law_judged", "_law_judged", defArgs (top 70), defBody (top 70), defScope (top 70), [], []⟩, ⟨("_law_listed", none), "_law_listed", "_law_listed", defArgs (top 71), defBody (top 71), defScope (top 71), [], []⟩, ⟨("_law_no_list", none), "_law_no_list", "_law_no_list", defArgs (top 72), defBody (top 72), defScope (top 72), [], []⟩, ⟨("_law_same_tuple", none), "_law_same_tuple", "_law_same_tuple", defArgs (top 73), defBody (top 73), defScope (top 73), [], []⟩, ⟨("_law_large_rule", none), "_law_large_rule", "_law_large_rule", defArgs (top 74), defBody (top 74), defScope (top 74), [], []⟩, ⟨("_law_rules_of", none), "_law_rules_of", "_law_rules_of", defArgs (top 75), defBody (top 75), defScope (top 75), [], []⟩, ⟨("_law_longer_paper", none), "_law_longer_paper", "_law_longer_paper", defArgs (top 76), defBody (top 76), defScope (top 76), [], []⟩, ⟨("_law_flags_of", none), "_law_flags_of", "_law_flags_of", defArgs (top 77), defBody (top 77), defScope (top 77), [], []⟩, ⟨("_law_fit", none), "_law_fit", "_law_fit", defArgs (top 78), defBody (top 78), defScope (top 78), [], []⟩, ⟨("_law_told_well", none), "_law_told_well", "_law_told_well", defArgs (top 79), defBody (top 79), defScope (top 79), [], []⟩, ⟨("_law_deep_of", none), "_law_deep_of", "_law_deep_of", defArgs (top 80), defBody (top 80), defScope (top 80), [], []⟩, ⟨("_law_bad_part", none), "_law_bad_part", "_law_bad_part", defArgs (top 81), defBody (top 81), defScope (top 81), [], []⟩, ⟨("_law_wrong_rule", none), "_law_wrong_rule", "_law_wrong_rule", defArgs (top 82), defBody (top 82), defScope (top 82), [], []⟩, ⟨("_law_raised", none), "_law_raised", "_law_raised", defArgs (top 83), defBody (top 83), defScope (top 83), [], []⟩, ⟨("_law_errors_hold", none), "_law_errors_hold", "_law_errors_hold", defArgs (top 84), defBody (top 84), defScope (top 84), [], []⟩, ⟨("law", none), "law", "law", defArgs (top 85), defBody (top 85), defScope (top 85), [], []⟩]
def fn : List DefD := fn0 ++ fn1

def vINNER_RULES : List (Str × He.Dv) := [("any", .int 0), ("back", .int 1), ("not", .int 1), ("both", .int 2), ("either", .int 2), ("sum", .int 0), ("square", .int 0), ("faces", .int 1), ("cut", .int 1)]
def vOWN_VALUES : List (Str × He.Dv) := [("any", .int 0), ("back", .int 0), ("not", .int 0), ("both", .int 0), ("either", .int 0), ("sum", .int 3), ("square", .int 2), ("faces", .int 1), ("cut", .int 2)]
def ts : List Tab := [(fun K => ga K "INNER_RULES", ["sum", "square", "faces", "back", "cut", "both", "either", "not", "any"]), (fun K => ga K "OWN_VALUES", ["sum", "square", "faces", "back", "cut", "both", "either", "not", "any"])]
def exs0 : List (PySem.W.Frag → Bool) := [fun K => valsB K (ga K "INNER_RULES") vINNER_RULES, fun K => valsB K (ga K "OWN_VALUES") vOWN_VALUES, fun K => Hd.allB K (ga K "OWN_VALUES") wdKey, fun K => eqO (PySem.W.nsIn K cStatics "thirdparty.any") (some none), fun K => Hd.oexB K (ga K "BadSigns"), fun K => Hd.excB K (ga K "BadSigns"), fun K => Hd.supB K (ga K "BadSigns"), fun K => xfB K (ga K "BadSigns"), fun K => (PySem.W.clsIn K (ga K "BadSigns")).isSome, fun K => Hd.initB PROG K ("BadSigns", some "__init__") "BadSigns.__init__" (ga K "BadSigns"), fun K => eqO (PySem.W.findIn K (.ref (ga K "BadSigns")) "signs") (some none), fun K => eqO (PySem.W.findIn K (.ref (ga K "BadSigns")) "__init__") (some (some (.ref (ma K (ga K "BadSigns") "__init__")))), fun K => decide (PySem.W.typeIn K (.ref (ma K (ga K "BadSigns") "__init__")) = some (.type "function")), fun K => Hd.kitB1 K (ga K "BadSigns") (ga K "Malformed") true, fun K => decide (PySem.W.kitAny K (.ref (ga K "BadSigns")) [.ref (ga K "BadRule"), .ref (ga K "BadPaper"), .ref (ga K "Refused")] = some false), fun K => Hd.oexB K (ga K "BadRule"), fun K => Hd.excB K (ga K "BadRule"), fun K => Hd.supB K (ga K "BadRule"), fun K => xfB K (ga K "BadRule"), fun K => (PySem.W.clsIn K (ga K "BadRule")).isSome, fun K => Hd.initB PROG K ("BadRule", some "__init__") "BadRule.__init__" (ga K "BadRule"), fun K => eqO (PySem.W.findIn K (.ref (ga K "BadRule")) "rule") (some none), fun K => eqO (PySem.W.findIn K (.ref (ga K "BadRule")) "__init__") (some (some (.ref (ma K (ga K "BadRule") "__init__")))), fun K => decide (PySem.W.typeIn K (.ref (ma K (ga K "BadRule") "__init__")) = some (.type "function")), fun K => Hd.kitB1 K (ga K "BadRule") (ga K "Malformed") true, fun K => decide (PySem.W.kitAny K (.ref (ga K "BadRule")) [.ref (ga K "BadPaper"), .ref (ga K "Refused")] = some false), fun K => Hd.oexB K (ga K "BadPaper"), fun K => Hd.excB K (ga K "BadPaper"), fun K => Hd.supB K (ga K "BadPaper"), fun K => xfB K (ga K "BadPaper")]
def exs1 : List (PySem.W.Frag → Bool) := [fun K => (PySem.W.clsIn K (ga K "BadPaper")).isSome, fun K => Hd.initB PROG K ("BadPaper", some "__init__") "BadPaper.__init__" (ga K "BadPaper"), fun K => eqO (PySem.W.findIn K (.ref (ga K "BadPaper")) "paper") (some none), fun K => eqO (PySem.W.findIn K (.ref (ga K "BadPaper")) "__init__") (some (some (.ref (ma K (ga K "BadPaper") "__init__")))), fun K => decide (PySem.W.typeIn K (.ref (ma K (ga K "BadPaper") "__init__")) = some (.type "function")), fun K => Hd.kitB1 K (ga K "BadPaper") (ga K "Malformed") true, fun K => decide (PySem.W.kitAny K (.ref (ga K "BadPaper")) [] = some false), fun K => Hd.oexB K (ga K "TooMany"), fun K => Hd.excB K (ga K "TooMany"), fun K => Hd.supB K (ga K "TooMany"), fun K => xfB K (ga K "TooMany"), fun K => (PySem.W.clsIn K (ga K "TooMany")).isSome, fun K => Hd.initB PROG K ("TooMany", some "__init__") "TooMany.__init__" (ga K "TooMany"), fun K => eqO (PySem.W.findIn K (.ref (ga K "TooMany")) "what") (some none), fun K => eqO (PySem.W.findIn K (.ref (ga K "TooMany")) "__init__") (some (some (.ref (ma K (ga K "TooMany") "__init__")))), fun K => decide (PySem.W.typeIn K (.ref (ma K (ga K "TooMany") "__init__")) = some (.type "function")), fun K => Hd.kitB1 K (ga K "TooMany") (ga K "CarryError") true, fun K => decide (PySem.W.kitAny K (.ref (ga K "TooMany")) [.ref (ga K "Malformed"), .ref (ga K "Refused")] = some false), fun K => Hd.kitB1 K (ga K "BadPaper") (ga K "Refused") false]
def exs : List (PySem.W.Frag → Bool) := exs0 ++ exs1

def ex (K : PySem.W.Frag) : Bool := exs.all fun e => e K
def fc : List Hd.DefC := [⟨("BadSigns", some "__init__"), "BadSigns.__init__", defArgs (inClass (top 4) 0), defBody (inClass (top 4) 0), defScope (inClass (top 4) 0)⟩, ⟨("BadRule", some "__init__"), "BadRule.__init__", defArgs (inClass (top 6) 0), defBody (inClass (top 6) 0), defScope (inClass (top 6) 0)⟩, ⟨("BadPaper", some "__init__"), "BadPaper.__init__", defArgs (inClass (top 5) 0), defBody (inClass (top 5) 0), defScope (inClass (top 5) 0)⟩, ⟨("TooMany", some "__init__"), "TooMany.__init__", defArgs (inClass (top 7) 0), defBody (inClass (top 7) 0), defScope (inClass (top 7) 0)⟩]
end HdK69
namespace HdK69
open PySem PySem.W PySem.Calls PyProof.Rows
def names0 : List PySem.Str := ["CarryError", "Malformed", "Refused", "BadSigns", "BadPaper", "BadRule", "TooMany", "is_whole", "is_within", "is_tuple", "is_tuple_of", "is_text", "is_ascending", "as_tuples", "ALL_SIGNS", "LEAST_KINDS", "MOST_KINDS", "MOST_SIGNS", "are_signs", "require_signs", "is_paper", "require_paper", "are_rows", "is_row", "are_goals", "standing_in", "LEAST_MODULUS", "MOST_MODULUS", "MOST_WEIGHTS", "MOST_ROWS"]
def names1 : List PySem.Str := ["MOST_FACES", "MOST_CUT", "MOST_PARTS", "OWN_VALUES", "INNER_RULES", "own_values", "inner_rules", "is_sum", "is_square", "are_faces", "has_form", "checked_rule", "checked_part", "count_parts", "check_rule", "finds_right", "has_sum", "ends_in_goal", "faced", "signature_of", "fitting", "_law_bag_of", "_law_pick", "_law_one_of", "_law_mixed", "_law_signs_of", "_law_paper_of", "_law_sum", "_law_rows", "_law_goals"]
def names2 : List PySem.Str := ["_law_faces", "_law_rule_of", "_law_judged", "_law_listed", "_law_no_list", "_law_same_tuple", "_law_large_rule", "_law_rules_of", "_law_longer_paper", "_law_flags_of", "_law_fit", "_law_told_well", "_law_deep_of", "_law_bad_part", "_law_wrong_rule", "_law_raised", "_law_errors_hold"]
def names : List PySem.Str := names0 ++ names1 ++ names2

abbrev R : OpenRow := OpenLaw.row PySem.Challenge.rw_handcarried_k69_fitting
abbrev qv : Program := view R.prog [85]
abbrev hk : Hook := Hd.hookY fa fn ts ex fc
def ob (s : SharedT) : Hd.AlY := Hd.obsY fa fn ts ex fc (HandSHeadRun.getT s)
theorem ob_eq (s : SharedT) : ob s = hk.obs s.abs := Hd.obsY_eq (HandSHeadRun.getT_eq s)
theorem runF (w : World) : HandSHeadRun.RunEq R qv hk ob 9000 names (w.withFollow "special-get-raises" false) := by
  intro os
  kernel_rfl
theorem runT (w : World) : HandSHeadRun.RunEq R qv hk ob 9000 names (w.withFollow "special-get-raises" true) := by
  intro os
  kernel_rfl
theorem run (w : World) : HandSHeadRun.RunEq R qv hk ob 9000 names w := byRow2 "special-get-raises" (P := fun w => HandSHeadRun.RunEq R qv hk ob 9000 names w) runF runT w
end HdK69

/-! H4 -/
/-! Rules in a heap. -/
namespace K4
open PySem L2 K1 PyProof.Rows
abbrev vi (n : Nat) : V := .int n
section
variable {K : PySem.W.Frag} {H H' : Hp}
mutual
theorem dp_keep (k : Keeps K H H') : ∀ (d : PyData) (v : V), Dp K H v d → Dp K H' v d
  | .none, _, h => by cases h; exact .non
  | .bool b, _, h => by cases h; exact .bl b
  | .int i, _, h => by cases h; exact .int i
  | .str x, _, h => by cases h; exact .str x
  | .list ds, _, h => by
    cases h with
    | lst hs ha => exact .lst (k.1 _ _ hs) (dpA_keep k ds _ ha)
  | .tuple ds, _, h => by
    cases h with
    | tup hs ha => exact .tup (k.2 _ _ hs) (dpA_keep k ds _ ha)
  | .dict _, _, h => by cases h
theorem dpA_keep (k : Keeps K H H') : ∀ (ds : List PyData) (vs : List V), DpAll K H vs ds → DpAll K H' vs ds
  | [], _, h => by cases h; exact .nil
  | d :: ds, _, h => by
    cases h with
    | cons a b => exact .cons (dp_keep k d _ a) (dpA_keep k ds _ b)
end
abbrev KT (K : PySem.W.Frag) (H H' : Hp) : Prop := ∀ a xs, SqT K H a xs → SqT K H' a xs
mutual
theorem dp_pure (k : KT K H H') : ∀ (d : PyData) (v : V), pure d = true → Dp K H v d → Dp K H' v d
  | .none, _, _, h => by cases h; exact .non
  | .bool b, _, p, _ => by simp [pure] at p
  | .int i, _, _, h => by cases h; exact .int i
  | .str x, _, _, h => by cases h; exact .str x
  | .list ds, _, p, _ => by simp [pure] at p
  | .tuple ds, _, p, h => by
    cases h with
    | tup hs ha => exact .tup (k _ _ hs) (dpA_pure k ds _ (by simpa [pure] using p) ha)
  | .dict _, _, _, h => by cases h
theorem dpA_pure (k : KT K H H') : ∀ (ds : List PyData) (vs : List V), pureA ds = true → DpAll K H vs ds → DpAll K H' vs ds
  | [], _, _, h => by cases h; exact .nil
  | d :: ds, _, p, h => by
    simp only [pureA, Bool.and_eq_true] at p
    cases h with
    | cons a b => exact .cons (dp_pure k d _ p.1 a) (dpA_pure k ds _ p.2 b)
end
theorem kt_lst {D : Addr} {xs ys : List V} (e : H D = some (.lst xs)) : KT K H (upd H D (.lst ys)) := fun a zs h =>
  Kp.sqT (b := D) (fun c o n q => by rw [upd_ne n]; exact q) e h
theorem kt_ins {D : Addr} {C dx : Addr} {fs gs : List (Str × V)} (e : H D = some (.ins C dx fs)) : KT K H (upd H D (.ins C dx gs)) := fun a zs h =>
  (Kp.keeps (b := D) (fun c o n q => by rw [upd_ne n]; exact q) e).2 _ _ h
theorem KT.trans {H2 : Hp} (x : KT K H H') (y : KT K H' H2) : KT K H H2 := fun a xs h => y a xs (x a xs h)
theorem Same.kt (e : Same H H') : KT K H H' := (Same.keeps e).2
theorem dpA_app : ∀ {vs : List V} {ds : List PyData} {ws : List V} {es : List PyData}, DpAll K H vs ds → DpAll K H ws es → DpAll K H (vs ++ ws) (ds ++ es)
  | _, _, _, _, .nil, h => h
  | _, _, _, _, .cons a b, h => .cons a (dpA_app b h)
theorem dpA_split : ∀ {ds es : List PyData} {vs : List V}, DpAll K H vs (ds ++ es) → ∃ xs ys, vs = xs ++ ys ∧ DpAll K H xs ds ∧ DpAll K H ys es
  | [], es, vs, h => ⟨[], vs, rfl, .nil, h⟩
  | d :: ds, es, _, h => by
    cases h with
    | cons a b =>
      obtain ⟨xs, ys, rfl, p, q⟩ := dpA_split b
      exact ⟨_ :: xs, ys, rfl, .cons a p, q⟩
theorem dpA_len : ∀ {vs : List V} {ds : List PyData}, DpAll K H vs ds → vs.length = ds.length
  | _, _, .nil => rfl
  | _, _, .cons _ b => congrArg (· + 1) (dpA_len b)
theorem dpA_get : ∀ {vs : List V} {ds : List PyData}, DpAll K H vs ds → ∀ {i : Nat} {v : V}, vs[i]? = some v → ∃ d, ds[i]? = some d ∧ Dp K H v d
  | _, _, .nil, i, v, h => by simp at h
  | _, _, .cons a b, 0, v, h => ⟨_, rfl, by simp at h; rw [← h]; exact a⟩
  | _, _, .cons a b, i + 1, v, h => dpA_get b (by simpa using h)
theorem dpA_nums : ∀ {ns : List Nat} {vs : List V}, DpAll K H vs (ns.map pn) ↔ vs = ns.map vi
  | [], vs => ⟨fun h => by cases h; rfl, fun h => by subst h; exact .nil⟩
  | n :: ns, vs => ⟨fun h => by
      cases h with
      | cons a b => cases a; rw [dpA_nums.mp b]; rfl, fun h => by subst h; exact .cons (.int _) (dpA_nums.mpr rfl)⟩
theorem dpA_strs : ∀ {ns : List Str} {vs : List V}, DpAll K H vs (ns.map .str) ↔ vs = ns.map V.str
  | [], vs => ⟨fun h => by cases h; rfl, fun h => by subst h; exact .nil⟩
  | n :: ns, vs => ⟨fun h => by
      cases h with
      | cons a b => cases a; rw [dpA_strs.mp b]; rfl, fun h => by subst h; exact .cons (.str _) (dpA_strs.mpr rfl)⟩
theorem dp_sq {t : Bool} {v : V} {ds : List PyData} (h : Dp K H v (sq t ds)) : ∃ xs, Sq K H v xs ∧ DpAll K H xs ds := by
  cases t
  · cases h with
    | lst a b => exact ⟨_, ⟨_, rfl, .inl a⟩, b⟩
  · cases h with
    | tup a b => exact ⟨_, ⟨_, rfl, .inr a⟩, b⟩
/-- numbers -/
def NumsAt (K : PySem.W.Frag) (H : Hp) (v : V) (ns : List Nat) : Prop := Sq K H v (ns.map vi)
def RowsAt (K : PySem.W.Frag) (H : Hp) : List V → List (List Nat) → Prop
  | [], [] => True
  | v :: vs, r :: rs => NumsAt K H v r ∧ RowsAt K H vs rs
  | _, _ => False
def OwAt (K : PySem.W.Frag) (H : Hp) (xs : List V) : Ow → Prop
  | .sum m ws g => ∃ w, xs = [vi m, w, vi g] ∧ NumsAt K H w ws
  | .square rows gs => ∃ a g rvs, xs = [a, g] ∧ Sq K H a rvs ∧ RowsAt K H rvs rows ∧ NumsAt K H g gs
  | .faces fs => ∃ f, xs = [f] ∧ Sq K H f (fs.map V.str)
  | .cut a b => xs = [vi a, vi b]
  | _ => xs = []
theorem RowsAt.keep (k : Keeps K H H') : ∀ {vs : List V} {rs : List (List Nat)}, RowsAt K H vs rs → RowsAt K H' vs rs
  | [], [], _ => trivial
  | v :: vs, r :: rs, h => ⟨h.1.keep k, RowsAt.keep k h.2⟩
  | [], _ :: _, h => h.elim
  | _ :: _, [], h => h.elim
theorem RowsAt.len : ∀ {vs : List V} {rs : List (List Nat)}, RowsAt K H vs rs → vs.length = rs.length
  | [], [], _ => rfl
  | v :: vs, r :: rs, h => congrArg (· + 1) (RowsAt.len h.2)
  | [], _ :: _, h => h.elim
  | _ :: _, [], h => h.elim
theorem RowsAt.get : ∀ {vs : List V} {rs : List (List Nat)}, RowsAt K H vs rs → ∀ {i : Nat} {v : V}, vs[i]? = some v → ∃ r, rs[i]? = some r ∧ NumsAt K H v r
  | [], [], _, i, v, e => by simp at e
  | v :: vs, r :: rs, h, 0, w, e => ⟨r, rfl, by simp at e; rw [← e]; exact h.1⟩
  | v :: vs, r :: rs, h, i + 1, w, e => RowsAt.get h.2 (by simpa using e)
  | [], _ :: _, h, _, _, _ => h.elim
  | _ :: _, [], h, _, _, _ => h.elim
theorem OwAt.keep (k : Keeps K H H') : ∀ {o : Ow} {xs : List V}, OwAt K H xs o → OwAt K H' xs o
  | .sum .., _, ⟨w, e, h⟩ => ⟨w, e, h.keep k⟩
  | .square .., _, ⟨a, g, rvs, e, h1, h2, h3⟩ => ⟨a, g, rvs, e, h1.keep k, h2.keep k, h3.keep k⟩
  | .faces .., _, ⟨f, e, h⟩ => ⟨f, e, h.keep k⟩
  | .cut .., _, h => h
  | .any, _, h => h
  | .back, _, h => h
  | .not, _, h => h
  | .both, _, h => h
  | .either, _, h => h
theorem OwAt.len : ∀ {o : Ow} {xs : List V}, OwAt K H xs o → xs.length = mn o.kind
  | .sum .., _, ⟨w, e, h⟩ => by rw [e]; rfl
  | .square .., _, ⟨a, g, rvs, e, h1, h2, h3⟩ => by rw [e]; rfl
  | .faces .., _, ⟨f, e, h⟩ => by rw [e]; rfl
  | .cut .., _, h => by rw [show _ = _ from h]; rfl
  | .any, _, h => by rw [show _ = _ from h]; rfl
  | .back, _, h => by rw [show _ = _ from h]; rfl
  | .not, _, h => by rw [show _ = _ from h]; rfl
  | .both, _, h => by rw [show _ = _ from h]; rfl
  | .either, _, h => by rw [show _ = _ from h]; rfl
theorem rows_of {t : Bool} : ∀ {rs : List (List Nat)} {vs : List V}, DpAll K H vs (rs.map fun row => sq t (row.map pn)) → RowsAt K H vs rs
  | [], _, .nil => trivial
  | r :: rs, _, .cons a b => by
    obtain ⟨xs, hx, hd⟩ := dp_sq a
    rw [dpA_nums.mp hd] at hx
    exact ⟨hx, rows_of b⟩
theorem nums_of {t : Bool} {v : V} {ns : List Nat} (h : Dp K H v (sq t (ns.map pn))) : NumsAt K H v ns := by
  obtain ⟨xs, hx, hd⟩ := dp_sq h
  rw [dpA_nums.mp hd] at hx
  exact hx
theorem ow_of {t : Bool} : ∀ {o : Ow} {xs : List V}, DpAll K H xs (o.data t) → OwAt K H xs o
  | .sum m ws g, _, .cons (.int _) (.cons b (.cons (.int _) .nil)) => ⟨_, rfl, nums_of b⟩
  | .square rows gs, _, .cons a (.cons b .nil) => by
    obtain ⟨rvs, h1, h2⟩ := dp_sq a
    exact ⟨_, _, rvs, rfl, h1, rows_of h2, nums_of b⟩
  | .faces fs, _, .cons a .nil => by
    obtain ⟨xs, h1, h2⟩ := dp_sq a
    rw [dpA_strs.mp h2] at h1
    exact ⟨_, rfl, h1⟩
  | .cut a b, _, .cons (.int _) (.cons (.int _) .nil) => rfl
  | .any, _, .nil => rfl
  | .back, _, .nil => rfl
  | .not, _, .nil => rfl
  | .both, _, .nil => rfl
  | .either, _, .nil => rfl
/-- a rule, of lists and tuples -/
def RAt (K : PySem.W.Frag) (H : Hp) : V → R → Prop
  | v, .n0 o => ∃ xs, Sq K H v (.str o.word :: (xs ++ [])) ∧ OwAt K H xs o
  | v, .n1 o a => ∃ xs i, Sq K H v (.str o.word :: (xs ++ [i])) ∧ OwAt K H xs o ∧ RAt K H i a
  | v, .n2 o a b => ∃ xs i j, Sq K H v (.str o.word :: (xs ++ [i, j])) ∧ OwAt K H xs o ∧ RAt K H i a ∧ RAt K H j b
def RAll (K : PySem.W.Frag) (H : Hp) : List V → List R → Prop
  | [], [] => True
  | v :: vs, r :: rs => RAt K H v r ∧ RAll K H vs rs
  | _, _ => False
theorem RAt.keep (k : Keeps K H H') : ∀ {r : R} {v : V}, RAt K H v r → RAt K H' v r
  | .n0 _, _, ⟨xs, h, o⟩ => ⟨xs, h.keep k, o.keep k⟩
  | .n1 _ _, _, ⟨xs, i, h, o, a⟩ => ⟨xs, i, h.keep k, o.keep k, RAt.keep k a⟩
  | .n2 _ _ _, _, ⟨xs, i, j, h, o, a, b⟩ => ⟨xs, i, j, h.keep k, o.keep k, RAt.keep k a, RAt.keep k b⟩
theorem RAll.keep (k : Keeps K H H') : ∀ {vs : List V} {rs : List R}, RAll K H vs rs → RAll K H' vs rs
  | [], [], _ => trivial
  | v :: vs, r :: rs, h => ⟨h.1.keep k, RAll.keep k h.2⟩
  | [], _ :: _, h => h.elim
  | _ :: _, [], h => h.elim
theorem RAll.get : ∀ {vs : List V} {rs : List R}, RAll K H vs rs → ∀ {i : Nat} {v : V}, vs[i]? = some v → ∃ r, rs[i]? = some r ∧ RAt K H v r
  | [], [], _, i, v, e => by simp at e
  | v :: vs, r :: rs, h, 0, w, e => ⟨r, rfl, by simp at e; rw [← e]; exact h.1⟩
  | v :: vs, r :: rs, h, i + 1, w, e => RAll.get h.2 (by simpa using e)
  | [], _ :: _, h, _, _, _ => h.elim
  | _ :: _, [], h, _, _, _ => h.elim
theorem RAll.len : ∀ {vs : List V} {rs : List R}, RAll K H vs rs → vs.length = rs.length
  | [], [], _ => rfl
  | v :: vs, r :: rs, h => congrArg (· + 1) (RAll.len h.2)
  | [], _ :: _, h => h.elim
  | _ :: _, [], h => h.elim
theorem RAt.open : ∀ {r : R} {v : V}, RAt K H v r → ∃ xs is, Sq K H v (.str r.ow.word :: (xs ++ is)) ∧ OwAt K H xs r.ow ∧ RAll K H is r.inner
  | .n0 _, _, ⟨xs, h, o⟩ => ⟨xs, [], h, o, trivial⟩
  | .n1 _ _, _, ⟨xs, i, h, o, a⟩ => ⟨xs, [i], h, o, a, trivial⟩
  | .n2 _ _ _, _, ⟨xs, i, j, h, o, a, b⟩ => ⟨xs, [i, j], h, o, a, b, trivial⟩
theorem RAt.of {t : Bool} : ∀ {r : R} {v : V}, Dp K H v (r.data t) → RAt K H v r
  | .n0 o, v, h => by
    obtain ⟨xs, h1, h2⟩ := dp_sq (show Dp K H v (sq t _) from h)
    cases h2 with
    | cons a b =>
      cases a
      exact ⟨_, by rw [List.append_nil]; exact h1, ow_of b⟩
  | .n1 o a, v, h => by
    obtain ⟨xs, h1, h2⟩ := dp_sq (show Dp K H v (sq t _) from h)
    cases h2 with
    | cons a b =>
      cases a
      obtain ⟨ys, zs, rfl, p, q⟩ := dpA_split b
      cases q with
      | cons q1 q2 =>
        cases q2
        exact ⟨ys, _, h1, ow_of p, RAt.of q1⟩
  | .n2 o a b, v, h => by
    obtain ⟨xs, h1, h2⟩ := dp_sq (show Dp K H v (sq t _) from h)
    cases h2 with
    | cons a b =>
      cases a
      obtain ⟨ys, zs, rfl, p, q⟩ := dpA_split b
      cases q with
      | cons q1 q2 =>
        cases q2 with
        | cons q2 q3 =>
          cases q3
          exact ⟨ys, _, _, h1, ow_of p, RAt.of q1, RAt.of q2⟩
end
end K4

/-! C5 -/
local macro_rules | `(tactic| walk_at "go") => `(tactic| repeat (first
  | with_reducible apply K1.r_seq
  | with_reducible apply K1.r_asg
  | ((with_reducible apply K1.r_name); (try dsimp only [List.set]))
  | ((with_reducible apply K1.r_var); (focus rfl))
  | with_reducible apply K1.r_c
  | with_reducible apply K1.r_op
  | with_reducible apply K1.r_un
  | with_reducible apply K1.r_I0
  | with_reducible apply K1.r_test
  | with_reducible apply K1.r_if
  | with_reducible apply K1.r_ifs
  | with_reducible apply K1.r_iteT
  | with_reducible apply K1.r_iteF
  | with_reducible apply K1.r_and
  | with_reducible apply K1.r_or
  | with_reducible apply K1.r_not
  | with_reducible apply K1.r_tB
  | with_reducible apply K1.r_andV
  | with_reducible apply K1.r_orV
  | with_reducible apply K1.r_notV
  | with_reducible apply K1.r_cb
  | with_reducible apply K1.r_cons
  | with_reducible apply K1.r_nil
  | with_reducible apply K1.r_ret
  | with_reducible apply K1.r_next
  | with_reducible apply K1.r_drop
  | with_reducible apply K1.r_lst
  | with_reducible apply K1.r_tup
  | with_reducible apply K1.r_call
  | with_reducible apply K1.r_gsub
  | with_reducible apply K1.r_for
  | with_reducible apply K1.r_bm
  | with_reducible apply K1.r_bm0
  | with_reducible apply K1.r_sl
  | with_reducible apply K1.r_noPart
  | with_reducible apply K1.r_part
  | with_reducible apply K1.r_iStr
  | with_reducible apply K1.r_iRng1
  | with_reducible apply K1.r_m1
  | refine ⟨_, rfl, ?_⟩
  | refine Or.inl ⟨_, rfl, ?_⟩
  | dsimp only))
namespace K1
open PySem L2
abbrev sOneOf : Stmt := top 61
abbrev sMixed : Stmt := top 62
theorem scOneOf : FnScope ["_law_bag", "_law_row"] ["_law_bag", "_law_row"] (defScope sOneOf) := ⟨rfl, rfl, rfl, by decide +kernel, rfl, by decide +kernel, by decide +kernel⟩
abbrev nMixed : List Str := ["_law_bag", "_law_row", "_law_left", "_law_told", "_law_k"]
theorem scMixed : FnScope nMixed ["_law_bag", "_law_row"] (defScope sMixed) := ⟨rfl, rfl, rfl, by decide +kernel, rfl, by decide +kernel, by decide +kernel⟩

abbrev OPick (P : Program) (w : World) (K : PySem.W.Frag) (mg : Str → Option Value) (base : Heap) : Prop := Own P w K mg base "_law_pick" 1 ["_law_bag", "_law_many"] spPick
def spOneOf (K : PySem.W.Frag) : Sp := fun vs H Q _ => ∃ (b : Addr) (r : V) (items : List V) (n : Nat), vs = [.ref b, r] ∧ IsBag H b n ∧ n ≤ 2 ^ 40 ∧ RowAt K H b r items ∧ items ≠ [] ∧
  ∀ x H', x ∈ items → IsBag H' b (n + 1) → Off b H H' → Q x H'
abbrev OOneOf (P : Program) (w : World) (K : PySem.W.Frag) (mg : Str → Option Value) (base : Heap) : Prop := Own P w K mg base "_law_one_of" 2 ["_law_bag", "_law_row"] (spOneOf K)
def spMixed : Sp := fun vs H Q _ => ∃ (b : Addr) (z : Str) (n : Nat), vs = [.ref b, .str z] ∧ IsBag H b n ∧ n + z.length ≤ 2 ^ 40 ∧ z.length ≤ 1000 ∧
  ∀ (ys : List Str) H' p, ys.Perm (sgn z) → IsBag H' b (n + z.length) → Kp b H H' → H p = none → H' p = some (.lst (ys.map V.str)) → p ≠ b → Q (.ref p) H'
theorem IsBag.mono {H : Hp} {b : Addr} {n m : Nat} (h : IsBag H b n) (l : n ≤ m) : IsBag H b m := by
  obtain ⟨d, s, c, e, a1, a2, a3, a4, a5⟩ := h
  exact ⟨d, s, c, e, a1, a2, a3, a4, by omega⟩

section
variable {P : Program} {w : World} {K : PySem.W.Frag} {mg : Str → Option Value} {base : Heap}
theorem ok_oneOf {f : Addr} {fd : FuncData} (F : Fun K "_law_one_of" "_law_one_of" sOneOf f fd) (B : Bl mg) (Op : OPick P w K mg base) : FnOk P w K mg base CX0 2 f fd ["_law_bag", "_law_row"] (spOneOf K) := by
  refine F.ok scOneOf (fun vs H Q E h => ?_) (fun cdv A outer s H vs Q E hr h => ?_)
  · obtain ⟨b, r, items, n, rfl, _⟩ := h
    rfl
  · obtain ⟨b, r, items, n, rfl, hb, hn, hrow, hne, k⟩ := h
    refine ⟨_, pss_one (ps_ret (pe_ix ix_seq (pv 1) (pe_own Op hr (pa_cons (pv 0) (pa_cons (pe_callB call_len (by rfl) B.len PySem.boot_len (pa_cons (pv 1) pa_nil)) pa_nil))) (fun _ _ => rfl))), ?_⟩
    try dsimp only [cxOf, Cx.nox, Cx.wish]
    walk_at "go"
    refine ⟨_, _, rfl, hrow.len.1, ?_⟩
    walk_at "go"
    have hl := hrow.len.2
    have hpos : 0 < items.length := List.length_pos_iff.mpr hne
    refine ⟨_, _, n, rfl, hb, hn, by omega, fun r' H' r0 r1 hb' off => ?_⟩
    obtain ⟨x, ex, hx, _⟩ := at_nat' (xs := items) r0 (by omega)
    exact r_rowix (hrow.off off) ex (k x H' hx hb' off)

theorem seqIx {n : Nat} {i : Int} (h0 : 0 ≤ i) (h1 : i < n) : seqIndex? i n = some i.toNat := by
  have e : ixN n i = some i.toNat := by
    unfold ixN
    rw [if_pos h0, if_pos h1]
  exact (ixN_seq e).1
theorem erase_map {α β : Type} (f : α → β) : ∀ (l : List α) (i : Nat), (l.map f).eraseIdx i = (l.eraseIdx i).map f
  | [], _ => rfl
  | _ :: _, 0 => rfl
  | x :: l, i + 1 => by
    show f x :: (l.map f).eraseIdx i = f x :: (l.eraseIdx i).map f
    rw [erase_map f l i]
theorem erase_perm {α : Type} : ∀ {l : List α} {i : Nat} (h : i < l.length), (l[i] :: l.eraseIdx i).Perm l
  | [], _, h => absurd h (by simp)
  | _ :: _, 0, _ => List.Perm.refl _
  | x :: l, i + 1, h => by
    have h' : i < l.length := by simpa using h
    show (l[i] :: x :: l.eraseIdx i).Perm (x :: l)
    exact (List.Perm.swap x l[i] _).trans (List.Perm.cons x (erase_perm h'))
theorem ok_mixed {f : Addr} {fd : FuncData} (F : Fun K "_law_mixed" "_law_mixed" sMixed f fd) (B : Bl mg) (Op : OPick P w K mg base) : FnOk P w K mg base CX0 2 f fd ["_law_bag", "_law_row"] spMixed := by
  refine F.ok scMixed (fun vs H Q E h => ?_) (fun cdv A outer s H vs Q E hr h => ?_)
  · obtain ⟨b, z, n, rfl, _⟩ := h
    rfl
  · obtain ⟨b, z, n, rfl, hb, hn, hz, k⟩ := h
    have hd := hr.hd
    refine ⟨_, pss_cons (ps_set (i := 2) scMixed.nd rfl (Or.inl rfl) (pe_callTy (call_listS hd) (by rfl) B.list (by decide +kernel) (pa_cons (pv 1) pa_nil)))
      (pss_cons (ps_set (i := 3) scMixed.nd rfl (Or.inl rfl) (pe_lst pa_nil))
      (pss_cons (ps_for PassesOwn.never rfl (pi_range1 rfl B.range (pa_cons (pe_callB call_len (by rfl) B.len PySem.boot_len (pa_cons (pv 1) pa_nil)) pa_nil)) (pg_name (i := 4) scMixed.nd rfl (Or.inl rfl))
        (pss_one (ps_expr (pe_bm PySem.F.plainAttrs_list PySem.F.slot_list_append PySem.F.type_list_append mt_append (pv 3) (pa_cons
          (pe_bm PySem.F.plainAttrs_list PySem.F.slot_list_pop PySem.F.type_list_pop mt_popAt (pv 2) (pa_cons
            (pe_own Op hr (pa_cons (pv 0) (pa_cons (pe_callB call_len (by rfl) B.len PySem.boot_len (pa_cons (pv 2) pa_nil)) pa_nil))) pa_nil)) pa_nil)))))
      (pss_one (ps_ret (pv 3))))), ?_⟩
    try dsimp only [cxOf, Cx.nox, Cx.wish]
    have hsl := small_line hz
    walk_at "go"
    refine ⟨hsl, fun L hL => ?_⟩
    walk_at "go"
    refine ⟨Nat.zero_le _, fun T hT => ?_⟩
    have nLb : L ≠ b := fun q => by obtain ⟨_, _, _, e, _⟩ := hb; rw [q, e] at hL; cases hL
    have nTL : T ≠ L := fun q => by rw [q, upd_same] at hT; cases hT
    rw [upd_ne nTL] at hT
    have nTb : T ≠ b := fun q => by obtain ⟨_, _, _, e, _⟩ := hb; rw [q, e] at hT; cases hT
    walk_at "go"
    refine ⟨_, _, rfl, lenS hsl, ?_⟩
    walk_at "go"
    refine ⟨by omega, by omega, fr_range (lo := 0) (n := z.length) (fun i σ H' => ∃ (kk : Option V) (xs ys : List Str), σ = [some (.ref b), some (.str z), some (.ref L), some (.ref T), kk] ∧ H' L = some (.lst (xs.map V.str)) ∧ H' T = some (.lst (ys.map V.str)) ∧
        (ys ++ xs).Perm (sgn z) ∧ ys.length = i ∧ IsBag H' b (n + i) ∧ Kp b H H') ?_ ?_ ?_⟩
    · refine ⟨none, sgn z, [], rfl, ?_, upd_same, List.Perm.refl _, rfl, ?_, ?_⟩
      · rw [upd_ne nTL.symm, upd_same]
      · obtain ⟨d, s, c, e, r⟩ := hb
        exact ⟨d, s, c, by rw [upd_ne nTb.symm, upd_ne nLb.symm]; exact e, r⟩
      · exact Same.kp (Same.trans (same_new (o := HO.lst ((sgn z).map V.str)) hL) (same_new (by rw [upd_ne nTL]; exact hT)))
    · rintro i σ H' hi ⟨kk, xs, ys, rfl, eL, eT, pm, ly, hb', kp⟩
      have lxs : xs.length = z.length - i := by
        have := pm.length_eq
        rw [List.length_append, sgn_len] at this
        omega
      walk_at "go"
      refine ⟨tyL (SqL.of eT), ?_⟩
      walk_at "go"
      refine ⟨tyL (SqL.of eL), ?_⟩
      walk_at "go"
      refine ⟨_, _, rfl, lenL (SqL.of eL), ?_⟩
      walk_at "go"
      refine ⟨_, _, _, rfl, hb', by omega, by rw [List.length_map]; omega, fun r H2 r0 r1 hb2 off => ?_⟩
      rw [List.length_map] at r1
      have hr1 : r < xs.length := by omega
      have hj : r.toNat < xs.length := by omega
      walk_at "go"
      have eL2 := off.at nLb eL
      have eT2 := off.at nTb eT
      refine ⟨L, xs.map V.str, r, r.toNat, .str xs[r.toNat], rfl, rfl, eL2, by omega, by omega, by rw [List.length_map]; exact seqIx r0 hr1, by simp [hj], ?_⟩
      walk_at "go"
      refine ⟨T, ys.map V.str, _, rfl, rfl, by rw [upd_ne nTL]; exact eT2, by rw [List.length_map]; exact small1000 (by omega), ?_⟩
      walk_at "go"
      refine ⟨some (.int (0 + i)), xs.eraseIdx r.toNat, ys ++ [xs[r.toNat]], rfl, ?_, ?_, ?_, by simp [ly], ?_, ?_⟩
      · rw [upd_ne nTL.symm, upd_same, erase_map]
      · rw [upd_same]; simp
      · refine List.Perm.trans ?_ pm
        rw [List.append_assoc]
        exact (List.Perm.append_left ys (erase_perm hj))
      · obtain ⟨d, s, c, e, q⟩ := hb2
        exact ⟨d, s, c, by rw [upd_ne nTb.symm, upd_ne nLb.symm]; exact e, q⟩
      · intro c o hc e
        have n1 : c ≠ L := fun q => by rw [q, hL] at e; cases e
        have n2 : c ≠ T := fun q => by rw [q, hT] at e; cases e
        rw [upd_ne n2, upd_ne n1]
        exact off.at hc (kp c o hc e)
    · rintro σ H' ⟨kk, xs, ys, rfl, eL, eT, pm, ly, hb', kp⟩
      walk_at "go"
      have lx : xs = [] := by
        have := pm.length_eq
        rw [List.length_append, sgn_len] at this
        exact List.eq_nil_of_length_eq_zero (by omega)
      subst lx
      rw [List.append_nil] at pm
      exact k ys H' T pm hb' kp hT eT nTb

theorem app_cps (x y : Str) : (x ++ y).cps.toList = x.cps.toList ++ y.cps.toList := by
  show (x.cps ++ y.cps).toList = _
  exact Array.toList_append
theorem len_cps (x : Str) : x.length = x.cps.toList.length := by simp [Str.length]
theorem mem_sgn {z : Str} {x : V} (h : x ∈ (sgn z).map V.str) : ∃ c, c ∈ z.cps.toList ∧ x = .str ⟨#[c]⟩ := by
  obtain ⟨y, hy, rfl⟩ := List.mem_map.mp h
  obtain ⟨c, hc, rfl⟩ := List.mem_map.mp hy
  exact ⟨c, hc, rfl⟩
end
end K1

/-! S5 -/
/-! Texts as lists of signs; the good signs. -/
namespace K1
open PySem L2 PyProof.Rows
def one (c : Nat) : Str := ⟨#[c]⟩
theorem str_ext {x y : Str} (h : tl x = tl y) : x = y := by
  cases x with | mk a => cases y with | mk b => exact congrArg Str.mk (Array.toList_inj.mp h)
theorem tl_inj {x y : Str} : tl x = tl y ↔ x = y := ⟨str_ext, fun h => by rw [h]⟩
theorem one_inj {a b : Nat} (h : one a = one b) : a = b := by
  have := congrArg tl h
  simpa [one] using this
abbrev ALL : Str := "0123456789ABCDEFGHIJKLMNOPQRSTUVWXYZ"
/-- signs of a house -/
structure Good (z : Str) : Prop where
  lo : 2 ≤ (tl z).length
  hi : (tl z).length ≤ 12
  up : (tl z).Pairwise (· < ·)
  all : ∀ c ∈ tl z, c ∈ tl ALL
theorem sgn_one (z : Str) : sgn z = (tl z).map one := rfl
theorem ones : ∀ {zs : List Str}, (∀ y ∈ zs, ∃ c, y = one c) → ∃ l : List Nat, zs = l.map one
  | [], _ => ⟨[], rfl⟩
  | y :: zs, h => by
    obtain ⟨c, rfl⟩ := h y (by simp)
    obtain ⟨l, rfl⟩ := ones (zs := zs) fun z hz => h z (List.mem_cons_of_mem _ hz)
    exact ⟨c :: l, rfl⟩
theorem lt_one (a b : Nat) : Spec.ltCps (tl (one a)) (tl (one b)) = decide (a < b) := by
  show (decide (a < b) || (a == b && false)) = decide (a < b)
  rw [Bool.and_false, Bool.or_false]
theorem rising_le : ∀ (l : List Nat) (p : Nat), risingS (one p) (l.map one) = true → (p :: l).Pairwise (· ≤ ·)
  | [], p, _ => by simp
  | c :: l, p, h => by
    have h1 : p ≤ c ∧ risingS (one c) (l.map one) = true := by
      have e : risingS (one p) ((c :: l).map one) = (!Spec.ltCps (tl (one c)) (tl (one p)) && risingS (one c) (l.map one)) := rfl
      rw [e, lt_one] at h
      simpa using h
    have h2 := rising_le l c h1.2
    rw [List.pairwise_cons] at h2 ⊢
    refine ⟨fun d hd => ?_, by rw [List.pairwise_cons]; exact h2⟩
    rcases List.mem_cons.mp hd with rfl | hd
    · exact h1.1
    · exact Nat.le_trans h1.1 (h2.1 d hd)
theorem sorted_le (l : List Nat) (h : sortedS (l.map one) = true) : l.Pairwise (· ≤ ·) := by
  cases l with
  | nil => exact List.Pairwise.nil
  | cons c l => exact rising_le l c h
theorem join_ones : ∀ l : List Nat, tl (Str.join "" (l.map one)) = l
  | [] => rfl
  | [c] => rfl
  | c :: d :: l => by
    have ih := join_ones (d :: l)
    show tl (one c ++ "" ++ Str.join "" ((d :: l).map one)) = _
    rw [tl, app_cps, app_cps]
    rw [tl] at ih
    rw [ih]
    rfl
theorem nodup_all : (sgn ALL).Nodup := by decide +kernel
/-- what sorted of the first m of a mixed row of all signs, put together, is -/
theorem good_of {ys zs : List Str} {m : Nat} (hy : ys.Perm (sgn ALL)) (h2 : 2 ≤ m) (h12 : m ≤ 12) (hz : zs.Perm (ys.take m)) (hs : sortedS zs = true) :
    Good (Str.join "" zs) ∧ (tl (Str.join "" zs)).length = m ∧ (∀ y ∈ zs, y.length = 1) ∧ zs.length = m := by
  have hlen : ys.length = 36 := by rw [hy.length_eq]; decide +kernel
  have ht : (ys.take m).length = m := by rw [List.length_take]; omega
  have hzl : zs.length = m := by rw [hz.length_eq, ht]
  have hmem : ∀ y ∈ zs, ∃ c, y = one c ∧ c ∈ tl ALL := fun y q => by
    have a := hz.mem_iff.mp q
    have b := hy.mem_iff.mp (List.mem_of_mem_take a)
    obtain ⟨c, hc, rfl⟩ := List.mem_map.mp b
    exact ⟨c, rfl, hc⟩
  obtain ⟨l, rfl⟩ := ones (zs := zs) fun y q => by obtain ⟨c, e, _⟩ := hmem y q; exact ⟨c, e⟩
  have hnd : (l.map one).Nodup := hz.nodup_iff.mpr ((hy.nodup_iff.mpr nodup_all).sublist (List.take_sublist _ _))
  have hne : l.Pairwise (· ≠ ·) := (List.pairwise_map.mp hnd).imp fun h e => h (by rw [e])
  have hlt : l.Pairwise (· < ·) := ((sorted_le l hs).and hne).imp fun ⟨a, b⟩ => by omega
  have hl : l.length = m := by rw [← hzl, List.length_map]
  refine ⟨⟨?_, ?_, ?_, ?_⟩, ?_, ?_, hzl⟩
  · rw [join_ones, hl]; exact h2
  · rw [join_ones, hl]; exact h12
  · rw [join_ones]; exact hlt
  · rw [join_ones]
    intro c hc
    obtain ⟨d, e, hd⟩ := hmem (one c) (List.mem_map_of_mem hc)
    rw [one_inj e]; exact hd
  · rw [join_ones, hl]
  · intro y q
    obtain ⟨c, rfl, _⟩ := hmem y q
    rfl
end K1

/-! B11 -/

/-! Rules for names of the module, unpacking of a list or tuple; new lists. -/
namespace K4
open PySem L2 K1 PyProof.Rows
def GI (mg : Str → Option Value) (x : Str) (i : Int) : Prop := ∃ t, mg x = some (.int i t)
def GS (mg : Str → Option Value) (x : Str) (z : Str) : Prop := ∃ t, mg x = some (.str z t)
section
variable {X : Cx} {x : Str} {i : Int} {z : Str} {a : Addr} {pos : Pos}
theorem pe_gI (h : GI X.mg x i) (hg : Gl X x := by rfl) (hd : (x == ("__debug__" : Str)) = false := by decide) : PE X (.Name x pos) (tC (.int i)) := by
  obtain ⟨t, h⟩ := h
  exact pe_glob hg h ⟨t, rfl⟩ hd
theorem pe_gS (h : GS X.mg x z) (hg : Gl X x := by rfl) (hd : (x == ("__debug__" : Str)) = false := by decide) : PE X (.Name x pos) (tC (.str z)) := by
  obtain ⟨t, h⟩ := h
  exact pe_glob hg h ⟨t, rfl⟩ hd
theorem pe_gR (h : X.mg x = some (.ref a)) (hg : Gl X x := by rfl) (hd : (x == ("__debug__" : Str)) = false := by decide) : PE X (.Name x pos) (tC (.ref a)) := pe_glob hg h rfl hd
def gSq (K : PySem.W.Frag) (n : Nat) (t : TGs) : TG := fun v σ H Q => gTup K n t v σ H Q ∨ gUnl K n t v σ H Q
theorem pg_sq {es : List Expr} {k : Nat} {t : TGs} {n : Nat} (hc : X.calm = true) (h : PGs X es t)
    (hn : (assignEach es X.env).length = n := by rfl) (hst : (assignEach es X.env).findIdx? (·.1) = none := by rfl) : PG X (.Tuple es k pos) (gSq X.K n t) := by
  refine ⟨fun pins s σ H v u Q I r hw => ?_⟩
  rcases hw with hw | hw
  · exact (pg_tup (pos := pos) (k := k) hc h hn hst).run pins s σ H v u Q I r hw
  · exact (pg_unl (pos := pos) (k := k) hc h hn hst).run pins s σ H v u Q I r hw
end
theorem r_gSq {K : PySem.W.Frag} {n : Nat} {t : TGs} {v : V} {xs : List V} {σ : L2.St} {H : Hp} {Q : L2.St → Hp → Prop} (h : Sq K H v xs) (hn : xs.length = n) (q : t xs σ H Q) : gSq K n t v σ H Q := by
  obtain ⟨a, rfl, h | h⟩ := h
  · exact .inr ⟨a, xs, rfl, h, hn, q⟩
  · exact .inl ⟨a, xs, rfl, h, hn, q⟩
theorem r_kd {K : PySem.W.Frag} {w : World} {a : Addr} {z : Str} {v : V} {H : Hp} {Q : VK} (h : KDct K w a z v) (q : Q v H) : rIxD K w (.ref a) (.str z) H Q := ⟨a, z, v, rfl, rfl, h, q⟩
/-! ### texts that begin with a text -/
theorem pref_take : ∀ (y x : List Nat), y.isPrefixOf x = (decide (y.length ≤ x.length) && (x.take y.length == y))
  | [], x => by simp
  | b :: y, [] => by simp
  | b :: y, a :: x => by
    rw [List.isPrefixOf, pref_take y x]
    simp only [List.length_cons, List.take_succ_cons, Nat.add_le_add_iff_right]
    by_cases e : b = a
    · subst e; simp
    · have e' : ¬ a = b := fun q => e q.symm
      have b1 : (b == a) = false := by simpa using e
      have b3 : (a :: x.take y.length == b :: y) = false := by simp [e']
      rw [b1, Bool.false_and]
      simp [e']
theorem starts_iff (x y : Str) : Txt.startswith x y = (tl y).isPrefixOf (tl x) := by
  unfold Txt.startswith
  rw [PySem.StrLaws.subAt_eq, pref_take, List.drop_zero, Nat.zero_add, len_tl x, len_tl y]
theorem starts_app (x y : Str) : Txt.startswith x y = true ↔ ∃ r, tl x = tl y ++ r := by
  rw [starts_iff, List.isPrefixOf_iff_prefix]
  exact ⟨fun ⟨r, h⟩ => ⟨r, h.symm⟩, fun ⟨r, h⟩ => ⟨r, h.symm⟩⟩
theorem cutV_mid {xs : List V} (i j : Nat) : cutV xs (some (i : Int)) (some (j : Int)) = (xs.drop i).take (j - i) := by
  unfold cutV
  rw [HT.sIx_nat, HT.sIx_nat]
  by_cases h : i ≤ xs.length
  · rw [Nat.min_eq_left h]
    by_cases h2 : j ≤ xs.length
    · rw [Nat.min_eq_left h2]
    · rw [Nat.min_eq_right (by omega), List.take_of_length_le (by rw [List.length_drop]; omega), List.take_of_length_le (by rw [List.length_drop]; omega)]
  · have hi : min i xs.length = xs.length := Nat.min_eq_right (by omega)
    rw [hi]
    have e1 : xs.drop i = [] := List.drop_eq_nil_of_le (by omega)
    have e2 : xs.drop xs.length = [] := List.drop_eq_nil_of_le (by omega)
    rw [e1, e2]; simp
theorem cutV_from {xs : List V} (i : Nat) : cutV xs (some (i : Int)) none = xs.drop i := by
  unfold cutV
  rw [HT.sIx_nat, HT.sIx_none]
  by_cases h : i ≤ xs.length
  · rw [Nat.min_eq_left h, List.take_of_length_le (by rw [List.length_drop]; omega)]
  · have hi : min i xs.length = xs.length := Nat.min_eq_right (by omega)
    rw [hi]
    have e1 : xs.drop i = [] := List.drop_eq_nil_of_le (by omega)
    have e2 : xs.drop xs.length = [] := List.drop_eq_nil_of_le (by omega)
    rw [e1, e2]; simp
theorem r_iteN' {p : Prop} {dp : Decidable p} {A B : Prop} (y : p → A) (n : ¬ p → B) : if decide p = true then A else B := by
  by_cases h : p
  · rw [decide_eq_true h]; exact y h
  · rw [decide_eq_false h]; exact n h
theorem at_0 {x : V} {xs : List V} : atI (x :: xs) 0 = some x := atI_nat (xs := x :: xs) (j := 0) rfl
theorem at_1 {x y : V} {xs : List V} : atI (x :: y :: xs) 1 = some y := atI_nat (xs := x :: y :: xs) (j := 1) rfl
theorem at_2 {x y z : V} {xs : List V} : atI (x :: y :: z :: xs) 2 = some z := atI_nat (xs := x :: y :: z :: xs) (j := 2) rfl
theorem tru_l {K : PySem.W.Frag} {H : Hp} {a : Addr} {xs : List V} {k : Bool} (h : SqL K H a xs) (e : k = !xs.isEmpty) : TruV K (.ref a) H k := .inl ⟨xs, h, e⟩
theorem hu65_of {k : Nat} {A : Around} (r : Room k A) : A.units + 65 < cLine := by have := r.un; omega
theorem shaped_of {d : PyData} (h : flatN d = true) (k : d.depth ≤ 64) : SeqAt.shaped d = true := by
  unfold SeqAt.shaped
  rw [canLay_flat d h, decide_eq_true k]
  rfl
theorem same_upd {H H' : Hp} {D : Addr} {o : HO} (s : Same H H') (h : H D = none) : Same H (upd H' D o) := fun c u e => by
  rw [upd_ne (ne_of_none e h)]
  exact s c u e
theorem all_bl (l : List Nat) (f : Nat → Bool) : l.map (fun c => V.bl (f c)) = (l.map f).map V.bl := by rw [List.map_map]; rfl
theorem get_map {α : Type} {f : α → V} {l : List α} {i : Nat} {x : V} (h : (l.map f)[i]? = some x) : ∃ a, l[i]? = some a ∧ x = f a := by
  rw [List.getElem?_map] at h
  cases e : l[i]? with
  | none => rw [e] at h; cases h
  | some a => rw [e] at h; exact ⟨a, rfl, (Option.some.inj h).symm⟩
theorem take_next {α β : Type} {f : α → β} {l : List α} {i : Nat} {a : α} (h : l[i]? = some a) : (l.take i).map f ++ [f a] = (l.take (i + 1)).map f := by
  rw [List.take_succ, h]; simp
theorem acc_next {α : Type} {f : α → V} {l : List α} {acc : List V} {i : Nat} {a : α} (ha : acc = (l.take acc.length).map f) (hl : acc.length = i) (h : l[i]? = some a) : acc ++ [f a] = (l.take (acc ++ [f a]).length).map f := by
  subst hl
  rw [List.length_append]
  show _ = (l.take (acc.length + 1)).map f
  rw [← take_next h, ← ha]
theorem tru_lst {K : PySem.W.Frag} {H : Hp} {a : Addr} {xs : List V} {k : Bool} (h : SqL K H a xs) (e : k = !xs.isEmpty) : TruV K (.ref a) H k := .inl ⟨xs, h, e⟩
theorem new_end {H H1 : Hp} {p : Addr} {o : HO} (hp : H p = none) (e : upd H p o = H1) : Same H H1 ∧ H1 p = some o := by
  subst e
  exact ⟨same_new hp, upd_same⟩
theorem line_small {n : Nat} (h : n ≤ 1000) : n < sizeLine := small1000 h
theorem hu1 {k : Nat} {A : Around} (r : Room k A) : A.units + 1 < cLine := by have := r.un; omega
theorem cat_new {H : Hp} {Q : VK} {p0 : Addr} {xs ys : List V} (e : H p0 = some (.lst xs)) (l : xs.length + ys.length ≤ 1000) (q : ∀ H' p, Same H H' → H' p = some (.lst (xs ++ ys)) → Q (.ref p) H') :
    ys.length ≤ sizeLine ∧ ∀ p, H p = none → rCat (.ref p0) (.ref p) (upd H p (.lst ys)) Q :=
  ⟨Nat.le_of_lt (line_small (by omega)), fun p hp => ⟨p0, p, xs, ys, rfl, rfl, same_new hp _ _ e, upd_same, Nat.le_of_lt (line_small l), fun r hr => q _ r (Same.trans (same_new hp) (same_new hr)) upd_same⟩⟩
theorem cat_two {H : Hp} {Q : VK} {p0 p1 : Addr} {xs ys : List V} (e : H p0 = some (.lst xs)) (e1 : H p1 = some (.lst ys)) (l : xs.length + ys.length ≤ 1000) (q : ∀ H' p, Same H H' → H' p = some (.lst (xs ++ ys)) → Q (.ref p) H') : rCat (.ref p0) (.ref p1) H Q :=
  ⟨p0, p1, xs, ys, rfl, rfl, e, e1, Nat.le_of_lt (line_small l), fun r hr => q _ r (same_new hr) upd_same⟩
theorem sl_new {K : PySem.W.Frag} {H : Hp} {Q : VK} {p0 : Addr} {xs : List V} {lo hi : Option Int} (e : H p0 = some (.lst xs)) (q : ∀ H' p, Same H H' → H' p = some (.lst (cutV xs lo hi)) → Q (.ref p) H') : rSlL K (.ref p0) lo hi H Q :=
  r_slL (SqL.of e) fun p hp => q _ p (same_new hp) upd_same
theorem _root_.K1.IsBag.same {H H' : Hp} {b : Addr} {n : Nat} (h : IsBag H b n) (s : Same H H') : IsBag H' b n := by
  obtain ⟨d, x, c, e, r⟩ := h
  exact ⟨d, x, c, s _ _ e, r⟩
theorem cat_twoF {H : Hp} {Q : VK} {p0 p1 : Addr} {xs ys : List V} (e : H p0 = some (.lst xs)) (e1 : H p1 = some (.lst ys)) (l : xs.length + ys.length ≤ 1000) (q : ∀ H' p, H p = none → Same H H' → H' p = some (.lst (xs ++ ys)) → Q (.ref p) H') : rCat (.ref p0) (.ref p1) H Q :=
  ⟨p0, p1, xs, ys, rfl, rfl, e, e1, Nat.le_of_lt (line_small l), fun r hr => q _ r hr (same_new hr) upd_same⟩
theorem sl_newF {K : PySem.W.Frag} {H : Hp} {Q : VK} {p0 : Addr} {xs : List V} {lo hi : Option Int} (e : H p0 = some (.lst xs)) (q : ∀ H' p, H p = none → Same H H' → H' p = some (.lst (cutV xs lo hi)) → Q (.ref p) H') : rSlL K (.ref p0) lo hi H Q :=
  r_slL (SqL.of e) fun p hp => q _ p hp (same_new hp) upd_same
theorem none_ok {P : Program} {w : World} {K : PySem.W.Frag} {mg : Str → Option Value} {base : Heap} {f : Addr} {fd : FuncData} {k : Nat} {ps : List Str} {sp : Sp} (no : ∀ vs H Q E, ¬ sp vs H Q E) : FnOk P w K mg base CX0 k f fd ps sp :=
  ⟨fun vs H Q E h => absurd h (no vs H Q E), fun A outer s H args us vs Q E _ _ _ _ h => absurd h (no vs H Q E)⟩
section
variable {X : Cx} {T : String} {name : Str} {id : String} {r : V → List V → Hp → VK → Prop} {o : Expr} {to : TE} {e : Expr} {es : List Expr} {t : TA} {apos cpos : Pos}
theorem pe_bmK {K : PySem.W.Frag} (hK : X.K = K) (pa : PlainAttrs T) (slot : Slot T name id) (hty : typeOf (.builtin id) = Pure.pure (.type "method_descriptor")) (hm : MtR X id r) (ho : PE X o to) (ha : PA X (e :: es) t)
    (hbase : attributeBase o name X.env (eval o X.env) = eval o X.env := by rfl)
    (hfew : ((backTo cpos (starEach (e :: es) X.env)).all (fun x => !x.1) && (backToKw cpos (keywordEach [] X.env)).all (fun x => x.1.isSome)
      && decide ((e :: es).length + ([] : List Keyword).length + (if ([] : List Keyword).isEmpty then 0 else 1) < 30)) = true := by rfl)
    (hline : (apos.endLine == cpos.line) = true := by rfl) (hs : starEach (e :: es) X.env = (false, eval e X.env) :: starEach es X.env := by rfl) (hplain : (backTo cpos (starEach es X.env)).any (·.1) = false := by rfl) :
    PE X (.Call (.Attribute o name apos) (e :: es) [] cpos) (tBM K T r to t) := by
  subst hK
  exact pe_bm pa slot hty hm ho ha hbase hfew hline hs hplain
end
end K4

/-! D11 -/
/-! The data of rules: their shapes; lists in place of tuples; what a new thing holds; ends of texts. -/
namespace K4
open PySem L2 K1
theorem line60 {n : Nat} (h : n ≤ 1000) : n < sizeLine := small1000 h
def spIntsWord (K : PySem.W.Frag) : Sp := fun vs H Q _ => ∃ (v : V) (ns : List Nat), vs = [v] ∧ NumsAt K H v ns ∧ ns.length ≤ 60 ∧ (∀ n ∈ ns, n ≤ 60) ∧ ∀ H', Same H H' → Q (.str (commas ns)) H'
def spRW (K : PySem.W.Frag) (n : Nat) : Sp := fun vs H Q _ => ∃ (v : V) (r : R), vs = [v] ∧ RAt K H v r ∧ r.ok ∧ r.parts ≤ 100 ∧ r.depth ≤ n ∧ ∀ H' p, Same H H' → H p = none → H' p = some (.lst (r.words.map V.str)) → Q (.ref p) H'
theorem kind_of {o : Ow} {k : Nat} (hk : k < 9) (h : V.str o.word = V.str (wd k)) : o.kind = k := wd_inj _ o.kind_lt _ hk (V.str.inj h)
theorem at0 {x : V} {xs : List V} : atI (x :: xs) 0 = some x := at_0
theorem strOk_of {z : Str} (h : ∀ c ∈ tl z, c < 1114112) : PyData.strOk z = true := by
  unfold PyData.strOk
  rw [← Array.all_toList]
  exact List.all_eq_true.mpr fun c hc => decide_eq_true (h c hc)
theorem all_lt : ∀ c ∈ tl K4.ALL, c < 1114112 := by decide +kernel
theorem wd_str : ∀ i < 9, PyData.strOk (wd i) = true := by decide +kernel
theorem Face.str {f : Str} (h : Face f) : PyData.strOk f = true := strOk_of fun c hc => all_lt c (h.2.2 c hc)
theorem Ow.flat {o : Ow} (h : o.ok) (t : Bool) : ∀ d ∈ o.data t, flatN d = true ∧ d.depth ≤ 2 := by
  have nums : ∀ ns : List Nat, flatN (sq t (ns.map pn)) = true ∧ (sq t (ns.map pn)).depth ≤ 1 := fun ns =>
    ⟨flat_sq fun d hd => (mem_map_pn hd).1, depth_sq (n := 0) fun d hd => (mem_map_pn hd).2⟩
  cases o with
  | sum m ws g =>
    intro d hd
    simp only [Ow.data, List.mem_cons, List.not_mem_nil, or_false] at hd
    rcases hd with rfl | rfl | rfl
    · exact ⟨rfl, Nat.zero_le _⟩
    · exact ⟨(nums ws).1, Nat.le_trans (nums ws).2 (by decide)⟩
    · exact ⟨rfl, Nat.zero_le _⟩
  | square rows gs =>
    intro d hd
    simp only [Ow.data, List.mem_cons, List.not_mem_nil, or_false] at hd
    rcases hd with rfl | rfl
    · exact ⟨flat_sq fun d hd => by obtain ⟨r, _, rfl⟩ := List.mem_map.mp hd; exact (nums r).1, depth_sq (n := 1) fun d hd => by obtain ⟨r, _, rfl⟩ := List.mem_map.mp hd; exact (nums r).2⟩
    · exact ⟨(nums gs).1, Nat.le_trans (nums gs).2 (by decide)⟩
  | faces fs =>
    intro d hd
    simp only [Ow.data, List.mem_cons, List.not_mem_nil, or_false] at hd
    subst hd
    refine ⟨flat_sq fun d hd => by obtain ⟨r, hr, rfl⟩ := List.mem_map.mp hd; exact (h.2.2 r hr).str, Nat.le_trans (depth_sq (n := 0) fun d hd => ?_) (by decide)⟩
    obtain ⟨r, hr, rfl⟩ := List.mem_map.mp hd
    exact Nat.le_refl _
  | cut a b =>
    intro d hd
    simp only [Ow.data, List.mem_cons, List.not_mem_nil, or_false] at hd
    rcases hd with rfl | rfl <;> exact ⟨rfl, Nat.zero_le _⟩
  | _ => intro d hd; simp [Ow.data] at hd
theorem R.flat (t : Bool) : ∀ {r : R}, r.ok → flatN (r.data t) = true ∧ (r.data t).depth ≤ r.depth + 2
  | .n0 o, h => by
    have a := Ow.flat h.1 t
    refine ⟨flat_sq fun d hd => ?_, depth_sq (n := 2) fun d hd => ?_⟩
    all_goals
      simp only [List.mem_cons] at hd
      rcases hd with rfl | hd
    · exact wd_str _ o.kind_lt
    · exact (a d hd).1
    · exact Nat.zero_le _
    · exact (a d hd).2
  | .n1 o r, h => by
    have a := Ow.flat h.1 t
    have b := R.flat t h.2.2
    refine ⟨flat_sq fun d hd => ?_, depth_sq (n := r.depth + 2) fun d hd => ?_⟩
    all_goals
      simp only [List.mem_cons, List.mem_append, List.not_mem_nil, or_false] at hd
      rcases hd with rfl | hd | rfl
    · exact wd_str _ o.kind_lt
    · exact (a d hd).1
    · exact b.1
    · exact Nat.zero_le _
    · exact Nat.le_trans (a d hd).2 (by omega)
    · exact b.2
  | .n2 o r s, h => by
    have a := Ow.flat h.1 t
    have b := R.flat t h.2.2.1
    have c := R.flat t h.2.2.2
    refine ⟨flat_sq fun d hd => ?_, depth_sq (n := max r.depth s.depth + 2) fun d hd => ?_⟩
    all_goals
      simp only [List.mem_cons, List.mem_append, List.not_mem_nil, or_false] at hd
      rcases hd with rfl | hd | rfl | rfl
    · exact wd_str _ o.kind_lt
    · exact (a d hd).1
    · exact b.1
    · exact c.1
    · exact Nat.zero_le _
    · exact Nat.le_trans (a d hd).2 (by omega)
    · exact Nat.le_trans b.2 (by omega)
    · exact Nat.le_trans c.2 (by omega)
theorem R.shaped (t : Bool) {r : R} (h : r.ok) (k : r.depth ≤ 62) : SeqAt.shaped (r.data t) = true := shaped_of (R.flat t h).1 (Nat.le_trans (R.flat t h).2 (by omega))
theorem R.refl (t : Bool) {r : R} (h : r.ok) : PyData.eqv (r.data t) (r.data t) = true := SeqAt.eqv_refl _ (canLay_flat _ (R.flat t h).1)
mutual
def lstd : PyData → PyData
  | .tuple ds => .list (lstA ds)
  | d => d
def lstA : List PyData → List PyData
  | [] => []
  | d :: ds => lstd d :: lstA ds
end
theorem lstA_map : ∀ ds : List PyData, lstA ds = ds.map lstd
  | [] => rfl
  | d :: ds => by rw [lstA, lstA_map ds]; rfl
theorem lstd_nums (ns : List Nat) : (ns.map pn).map lstd = ns.map pn := by
  rw [List.map_map]
  exact List.map_congr_left fun n _ => by simp [pn, lstd]
theorem lstd_tup (ds : List PyData) : lstd (.tuple ds) = .list (ds.map lstd) := by rw [lstd, lstA_map]
theorem Ow.lst (o : Ow) : (o.data true).map lstd = o.data false := by
  cases o with
  | sum m ws g => simp only [Ow.data, List.map_cons, List.map_nil, sq, if_true, lstd_tup, lstd_nums]; simp [pn, lstd]
  | square rows gs =>
    simp only [Ow.data, List.map_cons, List.map_nil, sq, if_true, lstd_tup, lstd_nums, List.map_map]
    simp only [Bool.false_eq_true, if_false]
    refine congrArg (fun x => [PyData.list x, PyData.list (gs.map pn)]) ?_
    exact List.map_congr_left fun r _ => by show lstd (.tuple (r.map pn)) = _; rw [lstd_tup, lstd_nums]
  | faces fs =>
    simp only [Ow.data, List.map_cons, List.map_nil, sq, if_true, lstd_tup, List.map_map]
    simp only [Bool.false_eq_true, if_false]
    refine congrArg (fun x => [PyData.list x]) ?_
    exact List.map_congr_left fun r _ => by simp [lstd]
  | cut a b => simp [Ow.data, pn, lstd]
  | _ => simp [Ow.data]
theorem R.lst : ∀ r : R, lstd (r.data true) = r.data false
  | .n0 o => by
    show lstd (.tuple _) = .list _
    rw [lstd_tup, List.map_cons, o.lst]
    simp [lstd]
  | .n1 o a => by
    show lstd (.tuple _) = .list _
    rw [lstd_tup, List.map_cons, List.map_append, o.lst, List.map_cons, a.lst]
    simp [lstd]
  | .n2 o a b => by
    show lstd (.tuple _) = .list _
    rw [lstd_tup, List.map_cons, List.map_append, o.lst, List.map_cons, List.map_cons, a.lst, b.lst]
    simp [lstd]
mutual
def wide : PyData → Bool
  | .tuple ds => decide (ds.length ≤ 1000) && wideA ds
  | _ => true
def wideA : List PyData → Bool
  | [] => true
  | d :: ds => wide d && wideA ds
end
theorem wideA_iff : ∀ {ds : List PyData}, wideA ds = true ↔ ∀ d ∈ ds, wide d = true
  | [] => by simp [wideA]
  | d :: ds => by simp [wideA, wideA_iff]
theorem wide_tup {ds : List PyData} (h : ds.length ≤ 1000) (k : ∀ d ∈ ds, wide d = true) : wide (.tuple ds) = true := by
  rw [wide, decide_eq_true h, wideA_iff.mpr k]
  rfl
theorem wide_nums {ns : List Nat} (h : ns.length ≤ 1000) : wide (.tuple (ns.map pn)) = true := wide_tup (by rw [List.length_map]; exact h) fun d hd => by obtain ⟨n, _, rfl⟩ := List.mem_map.mp hd; rfl
theorem Ow.wide {o : Ow} (h : o.ok) : ∀ d ∈ o.data true, K4.wide d = true := by
  cases o with
  | sum m ws g =>
    intro d hd
    simp only [Ow.data, List.mem_cons, List.not_mem_nil, or_false] at hd
    rcases hd with rfl | rfl | rfl
    · rfl
    · exact wide_nums (by have := h.2.2.1.2.1; omega)
    · rfl
  | square rows gs =>
    intro d hd
    simp only [Ow.data, List.mem_cons, List.not_mem_nil, or_false] at hd
    rcases hd with rfl | rfl
    · exact wide_tup (by rw [List.length_map]; have := h.2.1; omega) fun d hd => by obtain ⟨r, hr, rfl⟩ := List.mem_map.mp hd; exact wide_nums (by have := (h.2.2.1 r hr).2.1; omega)
    · exact wide_nums (by have := h.2.2.2.2.1; omega)
  | faces fs =>
    intro d hd
    simp only [Ow.data, List.mem_cons, List.not_mem_nil, or_false] at hd
    subst hd
    exact wide_tup (by rw [List.length_map]; have := h.2.1; omega) fun d hd => by obtain ⟨r, hr, rfl⟩ := List.mem_map.mp hd; rfl
  | cut a b =>
    intro d hd
    simp only [Ow.data, List.mem_cons, List.not_mem_nil, or_false] at hd
    rcases hd with rfl | rfl <;> rfl
  | _ => intro d hd; simp [Ow.data] at hd
theorem R.wide : ∀ {r : R}, r.ok → K4.wide (r.data true) = true
  | .n0 o, h => wide_tup (by have := mn_le o.kind; rw [List.length_cons, Ow.data_len]; omega) fun d hd => by
      simp only [List.mem_cons] at hd
      rcases hd with rfl | hd
      · rfl
      · exact Ow.wide h.1 d hd
  | .n1 o a, h => wide_tup (by have := mn_le o.kind; rw [List.length_cons, List.length_append, Ow.data_len]; simp only [List.length_cons, List.length_nil]; omega) fun d hd => by
      simp only [List.mem_cons, List.mem_append, List.not_mem_nil, or_false] at hd
      rcases hd with rfl | hd | rfl
      · rfl
      · exact Ow.wide h.1 d hd
      · exact R.wide h.2.2
  | .n2 o a b, h => wide_tup (by have := mn_le o.kind; rw [List.length_cons, List.length_append, Ow.data_len]; simp only [List.length_cons, List.length_nil]; omega) fun d hd => by
      simp only [List.mem_cons, List.mem_append, List.not_mem_nil, or_false] at hd
      rcases hd with rfl | hd | rfl | rfl
      · rfl
      · exact Ow.wide h.1 d hd
      · exact R.wide h.2.2.1
      · exact R.wide h.2.2.2
/-! ### what is new in a heap -/
def New (H H' : Hp) : Hp := fun c => match H c with | none => H' c | some _ => none
theorem New.same {H H' : Hp} : Same (New H H') H' := fun c u e => by
  unfold New at e
  cases h : H c with
  | none => rw [h] at e; exact e
  | some o => rw [h] at e; cases e
theorem New.at {H H' : Hp} {c : Addr} (h : H c = none) : New H H' c = H' c := by unfold New; rw [h]
theorem New.le {H0 H1 H H' : Hp} (a : ∀ c, H1 c = none → H0 c = none) (s : ∀ c u, H1 c = none → H c = some u → H' c = some u) : Same (New H1 H) (New H0 H') := fun c u e => by
  unfold New at e
  cases h : H1 c with
  | none => rw [h] at e; rw [New.at (a c h)]; exact s c u h e
  | some o => rw [h] at e; cases e
section
variable {K : PySem.W.Frag} {H : Hp} {a : Addr} {xs : List V}
theorem tyxT (h : SqT K H a xs) : TyX K H (.ref a) (.type "tuple") := by
  rcases h with (h | ⟨u, h⟩) | ⟨o, its, n, e, c, _⟩
  · exact .base (.tup h)
  · exact .fTuple h
  · exact .kTuple e c
theorem tyxL (h : SqL K H a xs) : TyX K H (.ref a) (.type "list") := by
  rcases h with (h | ⟨u, h⟩) | ⟨o, its, n, e, c, _⟩
  · exact .base (.lst h)
  · exact .base (.frz h)
  · exact .kList e c
end
/-! ### ends of texts -/
theorem ends_app (x y r : Str) (h : tl x = tl r ++ tl y) : Txt.endswith x y = true := by
  have lx : x.length = r.length + y.length := by rw [len_tl x, len_tl r, len_tl y, h, List.length_append]
  unfold Txt.endswith
  rw [PySem.StrLaws.subAt_eq]
  have e : x.length - y.length = (tl r).length := by rw [lx, ← len_tl r]; omega
  have e2 : y.length = (tl y).length := len_tl y
  show (decide (0 + y.length ≤ x.length) && (((tl x).drop (x.length - y.length)).take y.length == tl y)) = true
  rw [e, h, List.drop_left, e2, List.take_length, decide_eq_true (by omega)]
  simp
theorem joinL_app {S : List Nat} : ∀ {xs ys : List (List Nat)}, xs ≠ [] → ys ≠ [] → TL.joinL S (xs ++ ys) = TL.joinL S xs ++ (S ++ TL.joinL S ys)
  | [], _, h, _ => absurd rfl h
  | [x], [], _, h => absurd rfl h
  | [x], y :: ys, _, _ => rfl
  | x :: z :: xs, ys, _, h => by
    show x ++ (S ++ TL.joinL S (z :: xs ++ ys)) = x ++ (S ++ TL.joinL S (z :: xs)) ++ _
    rw [joinL_app (by simp) h]
    simp
theorem join_app {s : Str} {xs ys : List Str} (h : xs ≠ []) (k : ys ≠ []) : tl (Txt.join s (xs ++ ys)) = tl (Txt.join s xs) ++ (tl s ++ tl (Txt.join s ys)) := by
  rw [tl_joinL, tl_joinL, tl_joinL, List.map_append, joinL_app (by simpa using h) (by simpa using k)]
end K4

/-! Q11 -/

/-! Rules that fit signs, and what they say of a paper: pure. -/
namespace K4
open PySem L2
def Ow.fit (z : List Nat) : Ow → Prop
  | .sum m ws g => 2 ≤ m ∧ m ≤ 60 ∧ ws ≠ [] ∧ ws.length ≤ 8 ∧ (∀ w ∈ ws, w < m) ∧ g < m
  | .square rows gs => rows ≠ [] ∧ rows.length ≤ 60 ∧ (∀ r ∈ rows, r.length = z.length ∧ ∀ x ∈ r, x < rows.length) ∧ gs ≠ [] ∧ gs.Pairwise (· < ·) ∧ ∀ g ∈ gs, g < rows.length
  | .faces fs => fs ≠ [] ∧ fs.length ≤ 4 ∧ ∀ f ∈ fs, (tl f).length = z.length ∧ ∀ c ∈ tl f, c ∈ z
  | .cut a b => a ≤ 3 ∧ b ≤ 3
  | _ => True
def R.fit (z : List Nat) : R → Prop
  | .n0 o => o.fit z ∧ ar o.kind = 0 | .n1 o a => o.fit z ∧ ar o.kind = 1 ∧ a.fit z | .n2 o a b => o.fit z ∧ ar o.kind = 2 ∧ a.fit z ∧ b.fit z
theorem R.fit_ow {z : List Nat} : ∀ {r : R}, r.fit z → r.ow.fit z ∧ r.inner.length = ar r.ow.kind
  | .n0 _, h => ⟨h.1, h.2.symm⟩
  | .n1 _ _, h => ⟨h.1, h.2.1.symm⟩
  | .n2 _ _ _, h => ⟨h.1, h.2.1.symm⟩
theorem R.fit_in {z : List Nat} : ∀ {r : R}, r.fit z → ∀ i ∈ r.inner, i.fit z
  | .n0 _, _, i, q => by simp [R.inner] at q
  | .n1 _ _, h, i, q => by simp only [R.inner, List.mem_cons, List.not_mem_nil, or_false] at q; rw [q]; exact h.2.2
  | .n2 _ _ _, h, i, q => by
    simp only [R.inner, List.mem_cons, List.not_mem_nil, or_false] at q
    rcases q with rfl | rfl
    · exact h.2.2.1
    · exact h.2.2.2
/-- ascending numbers below n are at most n many -/
theorem asc_len : ∀ {gs : List Nat} {n : Nat} (k : Nat), gs.Pairwise (· < ·) → (∀ g ∈ gs, k ≤ g ∧ g < n) → gs.length + k ≤ max n k
  | [], n, k, _, _ => by simp; omega
  | g :: gs, n, k, h, b => by
    rw [List.pairwise_cons] at h
    have b0 := b g (List.mem_cons_self ..)
    have ih := asc_len (gs := gs) (n := n) (g + 1) h.2 fun y hy => ⟨h.1 y hy, (b y (List.mem_cons_of_mem _ hy)).2⟩
    rw [List.length_cons]
    omega
theorem Ow.fit_ok {z : List Nat} (z2 : 2 ≤ z.length) (z12 : z.length ≤ 12) (zA : ∀ c ∈ z, c ∈ tl ALL) : ∀ {o : Ow}, o.fit z → o.ok
  | .sum m ws g, ⟨h1, h2, h3, h4, h5, h6⟩ => ⟨h1, h2, ⟨h3, by omega, fun n q => by have := h5 n q; omega⟩, h4, by omega⟩
  | .square rows gs, ⟨h1, h2, h3, h4, h5, h6⟩ => ⟨h1, h2, fun r q => ⟨by have := (h3 r q).1; omega, by have := (h3 r q).1; omega, fun x hx => by have := (h3 r q).2 x hx; omega⟩,
      h4, by have := asc_len (n := rows.length) 0 h5 fun g q => ⟨Nat.zero_le _, h6 g q⟩; omega, fun n q => by have := h6 n q; omega⟩
  | .faces fs, ⟨h1, h2, h3⟩ => ⟨h1, h2, fun f q => ⟨by have := (h3 f q).1; omega, by have := (h3 f q).1; omega, fun c hc => zA c ((h3 f q).2 c hc)⟩⟩
  | .cut a b, h => h
  | .any, _ => trivial
  | .back, _ => trivial
  | .not, _ => trivial
  | .both, _ => trivial
  | .either, _ => trivial
theorem R.fit_ok {z : List Nat} (z2 : 2 ≤ z.length) (z12 : z.length ≤ 12) (zA : ∀ c ∈ z, c ∈ tl ALL) : ∀ {r : R}, r.fit z → r.ok
  | .n0 _, h => ⟨Ow.fit_ok z2 z12 zA h.1, h.2⟩
  | .n1 _ _, h => ⟨Ow.fit_ok z2 z12 zA h.1, h.2.1, R.fit_ok z2 z12 zA h.2.2⟩
  | .n2 _ _ _, h => ⟨Ow.fit_ok z2 z12 zA h.1, h.2.1, R.fit_ok z2 z12 zA h.2.2.1, R.fit_ok z2 z12 zA h.2.2.2⟩
def wat (ws : List Nat) (k : Nat) : Nat := ws.getD (k % ws.length) 0
def term (z ws p : List Nat) (k : Nat) : Nat := wat ws k * z.idxOf (p.getD k 0)
def tot (z ws p : List Nat) (n : Nat) : Nat := ((List.range n).map (term z ws p)).sum
def fch (z : List Nat) (fs : List Str) (p : List Nat) (k : Nat) : Nat := (tl (fs.getD (k % fs.length) "")).getD (z.idxOf (p.getD k 0)) 0
def faced (z : List Nat) (fs : List Str) (p : List Nat) : List Nat := (List.range p.length).map (fch z fs p)
def stp (z : List Nat) (rows : List (List Nat)) (at_ c : Nat) : Nat := (rows.getD at_ []).getD (z.idxOf c) 0
def runs (z : List Nat) (rows : List (List Nat)) (at_ : Nat) (p : List Nat) : Nat := p.foldl (stp z rows) at_
def ev (z : List Nat) : R → List Nat → Bool
  | .n0 (.sum m ws g), p => decide (tot z ws p p.length % m = g)
  | .n0 (.square rows gs), p => decide (runs z rows 0 p ∈ gs)
  | .n0 _, _ => true
  | .n1 (.faces fs) a, p => ev z a (faced z fs p)
  | .n1 .back a, p => ev z a p.reverse
  | .n1 (.cut x y) a, p => decide (x + y ≤ p.length) && ev z a ((p.drop x).take (p.length - y - x))
  | .n1 _ a, p => !ev z a p
  | .n2 .both a b, p => ev z a p && ev z b p
  | .n2 _ a b, p => ev z a p || ev z b p
theorem tot_succ (z ws p : List Nat) (n : Nat) : tot z ws p (n + 1) = tot z ws p n + term z ws p n := by
  unfold tot
  rw [List.range_succ, List.map_append, List.sum_append]
  simp
/-- a paper over signs -/
structure Pp (z : List Nat) (p : List Nat) : Prop where
  le : p.length ≤ 60
  all : ∀ c ∈ p, c ∈ z
theorem mod_lt {α : Type} {xs : List α} (h : xs ≠ []) (k : Nat) : k % xs.length < xs.length := Nat.mod_lt _ (List.length_pos_iff.mpr h)
theorem getD_mem {α : Type} {xs : List α} {i : Nat} {d : α} (h : i < xs.length) : xs.getD i d ∈ xs := by
  rw [List.getD_eq_getElem?_getD, List.getElem?_eq_getElem h]
  exact List.getElem_mem h
theorem getD_at {α : Type} {xs : List α} {i : Nat} {d : α} (h : i < xs.length) : xs[i]? = some (xs.getD i d) := by
  rw [List.getD_eq_getElem?_getD, List.getElem?_eq_getElem h]; rfl
theorem idx_lt {z : List Nat} {c : Nat} (h : c ∈ z) : z.idxOf c < z.length := List.idxOf_lt_length_iff.mpr h
theorem idx_at {z : List Nat} {c : Nat} (h : c ∈ z) : z[z.idxOf c]? = some c := by
  rw [List.getElem?_eq_getElem (idx_lt h)]
  exact congrArg some (List.getElem_idxOf (idx_lt h))
theorem faced_len (z : List Nat) (fs : List Str) (p : List Nat) : (faced z fs p).length = p.length := by rw [faced, List.length_map, List.length_range]
theorem fch_mem {z : List Nat} {fs : List Str} {p : List Nat} (h : Ow.fit z (.faces fs)) (hp : Pp z p) {k : Nat} (hk : k < p.length) : fch z fs p k ∈ z := by
  have hf := h.2.2 (fs.getD (k % fs.length) "") (getD_mem (mod_lt h.1 k))
  refine hf.2 _ (getD_mem ?_)
  rw [hf.1]
  exact idx_lt (hp.all _ (getD_mem hk))
theorem Pp.faced {z : List Nat} {fs : List Str} {p : List Nat} (h : Ow.fit z (.faces fs)) (hp : Pp z p) : Pp z (faced z fs p) := by
  refine ⟨by rw [faced_len]; exact hp.le, fun c hc => ?_⟩
  obtain ⟨k, hk, rfl⟩ := List.mem_map.mp hc
  exact fch_mem h hp (List.mem_range.mp hk)
theorem Pp.rev {z p : List Nat} (hp : Pp z p) : Pp z p.reverse := ⟨by rw [List.length_reverse]; exact hp.le, fun c hc => hp.all c (List.mem_reverse.mp hc)⟩
theorem Pp.cut {z p : List Nat} (hp : Pp z p) (i j : Nat) : Pp z ((p.drop i).take j) := ⟨by rw [List.length_take, List.length_drop]; have := hp.le; omega, fun c hc => hp.all c (List.mem_of_mem_drop (List.mem_of_mem_take hc))⟩
theorem stp_lt {z : List Nat} {rows : List (List Nat)} {gs : List Nat} (h : Ow.fit z (.square rows gs)) {a c : Nat} (ha : a < rows.length) (hc : c ∈ z) : stp z rows a c < rows.length := by
  have hr := h.2.2.1 _ (getD_mem (d := ([] : List Nat)) ha)
  exact hr.2 _ (getD_mem (by rw [hr.1]; exact idx_lt hc))
theorem runs_lt {z : List Nat} {rows : List (List Nat)} (h : ∀ a c, a < rows.length → c ∈ z → stp z rows a c < rows.length) : ∀ {p : List Nat} {a : Nat}, a < rows.length → (∀ c ∈ p, c ∈ z) → runs z rows a p < rows.length
  | [], _, ha, _ => ha
  | c :: p, a, ha, hp => by
    show runs z rows (stp z rows a c) p < _
    exact runs_lt h (h a c ha (hp c (List.mem_cons_self ..))) fun x hx => hp x (List.mem_cons_of_mem _ hx)
theorem runs_snoc (z : List Nat) (rows : List (List Nat)) (a : Nat) (p : List Nat) (c : Nat) : runs z rows a (p ++ [c]) = stp z rows (runs z rows a p) c := by
  unfold runs
  rw [List.foldl_append]
  rfl
end K4

/-! P11a -/

local macro_rules | `(tactic| walk_at "go") => `(tactic| repeat (first
  | with_reducible apply K1.r_seq
  | with_reducible apply K1.r_asg
  | ((with_reducible apply K1.r_name); (try dsimp only [List.set]))
  | ((with_reducible apply K1.r_var); (focus rfl))
  | with_reducible apply K1.r_c
  | with_reducible apply K1.r_op
  | with_reducible apply K1.r_un
  | with_reducible apply K1.r_I0
  | with_reducible apply K1.r_test
  | with_reducible apply K1.r_if
  | with_reducible apply K1.r_ifs
  | with_reducible apply K1.r_iteT
  | with_reducible apply K1.r_iteF
  | with_reducible apply K1.r_and
  | with_reducible apply K1.r_or
  | with_reducible apply K1.r_not
  | with_reducible apply K1.r_tB
  | with_reducible apply K1.r_andV
  | with_reducible apply K1.r_orV
  | with_reducible apply K1.r_notV
  | with_reducible apply K1.r_cb
  | with_reducible apply K1.r_cons
  | with_reducible apply K1.r_star
  | with_reducible apply K1.r_nil
  | with_reducible apply K1.r_ret
  | with_reducible apply K1.r_next
  | with_reducible apply K1.r_drop
  | with_reducible apply K1.r_lst
  | with_reducible apply K1.r_tup
  | with_reducible apply K1.r_call
  | with_reducible apply K1.r_gsub
  | with_reducible apply K1.r_for
  | with_reducible apply K1.r_bm
  | with_reducible apply K1.r_bm0
  | with_reducible apply K1.r_sl
  | with_reducible apply K1.r_noPart
  | with_reducible apply K1.r_part
  | with_reducible apply K1.r_iStr
  | with_reducible apply K1.r_iSq
  | with_reducible apply K1.r_iRng1
  | with_reducible apply K1.r_m1
  | with_reducible apply K1.r_chain
  | ((with_reducible apply K1.r_eq); (focus rfl))
  | ((with_reducible apply K1.r_ne); (focus rfl))
  | with_reducible apply K1.r_gnil
  | with_reducible apply K1.r_gcons
  | with_reducible apply K1.r_tfld
  | with_reducible apply K1.r_sfld
  | with_reducible apply K1.r_meth
  | refine ⟨_, rfl, ?_⟩
  | refine ⟨⟨_, rfl⟩, ?_⟩
  | refine Or.inl ⟨_, rfl, ?_⟩
  | dsimp only))
namespace K4
open PySem L2 K1
/-- the program's constants -/
structure G11 (K : PySem.W.Frag) (w : World) (mg : Str → Option Value) (dO dI : Addr) : Prop where
  LEAST_KINDS : GI mg "LEAST_KINDS" 2
  MOST_KINDS : GI mg "MOST_KINDS" 12
  MOST_SIGNS : GI mg "MOST_SIGNS" 60
  LEAST_MODULUS : GI mg "LEAST_MODULUS" 2
  MOST_MODULUS : GI mg "MOST_MODULUS" 60
  MOST_WEIGHTS : GI mg "MOST_WEIGHTS" 8
  MOST_ROWS : GI mg "MOST_ROWS" 60
  MOST_FACES : GI mg "MOST_FACES" 4
  MOST_CUT : GI mg "MOST_CUT" 3
  MOST_PARTS : GI mg "MOST_PARTS" 40
  ALL_SIGNS : GS mg "ALL_SIGNS" K4.ALL
  OV : mg "OWN_VALUES" = some (.ref dO)
  ov : ∀ k < 9, KDct K w dO (wd k) (.int (mn k))
  ovD : ∃ es n, KDict K w dO es n
  ovN : ∀ k < 9, ∃ r, PySem.W.nsIn K dO (wd k) = some (some r)
  ovX : ∀ x : Str, (∀ k < 9, x ≠ wd k) → PySem.W.nsIn K dO x = some none
  IR : mg "INNER_RULES" = some (.ref dI)
  ir : ∀ k < 9, KDct K w dI (wd k) (.int (ar k))
end K4
namespace K1
open PySem L2
abbrev sIsText : Stmt := top 13
abbrev nIsText : List Str := ["thing", "least", "most", "characters", "character"]
theorem scIsText : FnScope nIsText ["thing", "least", "most", "characters"] (defScope sIsText) := ⟨rfl, rfl, rfl, by decide +kernel, rfl, by decide +kernel, by decide +kernel⟩
abbrev sIsAsc : Stmt := top 14
abbrev nIsAsc : List Str := ["things", "k"]
theorem scIsAsc : FnScope nIsAsc ["things"] (defScope sIsAsc) := ⟨rfl, rfl, rfl, by decide +kernel, rfl, by decide +kernel, by decide +kernel⟩
abbrev sAreSigns : Stmt := top 21
abbrev nAreSigns : List Str := ["thing"]
theorem scAreSigns : FnScope nAreSigns ["thing"] (defScope sAreSigns) := ⟨rfl, rfl, rfl, by decide +kernel, rfl, by decide +kernel, by decide +kernel⟩
section
variable {K : PySem.W.Frag} {σ : L2.St} {H : Hp} {Q : VK} {D : Addr} {vs : List Nat} {te : TE} {Qd : Hp → Prop} {ta tb tc : TE}
/-- [f i for i in range(n)], the heap left as it was -/
theorem lc_rmap {i n : Nat} (f : Nat → V) (hD : H D = none) (hz : n ≤ sizeLine) (hw : ∀ x, wipe ((wipe σ vs).set i (some x)) vs = wipe σ vs)
    (he : ∀ j, j < n → ∀ (H' : Hp) (R : VK), Same H H' → R (f j) H' → te ((wipe σ vs).set i (some (.int (0 + j)))) H' R) (hd : Qd (upd H D (.lst ((List.range n).map f)))) :
    ∃ W : Nat → Nat → Hp → Prop, (∃ m, W 0 m (upd H D (.lst []))) ∧ ∀ i₁ m H, W i₁ m H →
      ((Itr 0 n).stop i₁ H ∧ Qd H) ∨ ((Itr 0 n).go i₁ H ∧ ∃ Nx : Hp → Prop, (∀ H', Nx H' → ∃ m', m' < m ∧ W (i₁ + 1) m' H') ∧ ∀ x H', (Itr 0 n).yld i₁ H x H' → gName i x (wipe σ vs) H' fun σ2 H2 => wipe σ2 vs = wipe σ vs ∧ tYes σ2 H2 fun b H3 =>
        if b = true then te σ2 H3 fun y H4 => ∃ acc, H4 D = some (.lst acc) ∧ acc.length < sizeLine ∧ Nx (upd H4 D (.lst (acc ++ [y]))) else Nx H3) := by
  refine lc_range (lo := 0) (n := n) (fun j H' => j ≤ n ∧ H' = upd H D (.lst ((List.range j).map f))) ⟨Nat.zero_le _, rfl⟩ ?_ (fun H' ⟨_, e⟩ => by rw [e]; exact hd)
  rintro j H' hj ⟨_, rfl⟩
  refine ⟨hw _, ?_⟩
  show te _ _ _
  refine he j hj _ _ (same_new hD) ⟨_, upd_same, ?_, ?_⟩
  · simp only [List.length_map, List.length_range]; omega
  · refine ⟨by omega, ?_⟩
    rw [upd_upd, List.range_succ, List.map_append]; rfl
end
theorem len_tl' (x : Str) : x.length = (tl x).length := by simp [Str.length]
def ascL (l : List Nat) : Bool := (List.range (l.length - 1)).all fun k => decide (l.getD k 0 < l.getD (k + 1) 0)
def textB (lo hi : Int) (cs y : Str) : Bool := decide (lo ≤ y.length) && (decide ((y.length : Int) ≤ hi) && (tl y).all fun c => decide (c ∈ tl cs))
def signsB (y : Str) : Bool := textB 2 12 ALL y && ascL (tl y)
def NoText (K : PySem.W.Frag) (H : Hp) (x : V) : Prop := ∃ t, TyX K H x (.type t) ∧ PySem.W.kitOne K (.type t) (.type "str") = some false
def spIsText (K : PySem.W.Frag) : Sp := fun vs H Q _ => ∃ (x : V) (lo hi : Int) (cs : Str), vs = [x, .int lo, .int hi, .str cs] ∧ ((∃ y : Str, x = .str y ∧ y.length ≤ 1000 ∧ ∀ H', Same H H' → Q (.bl (textB lo hi cs y)) H') ∨ (NoText K H x ∧ Q (.bl false) H))
def spIsAsc : Sp := fun vs H Q _ => ∃ y : Str, vs = [.str y] ∧ y.length ≤ 1000 ∧ ∀ H', Same H H' → Q (.bl (ascL (tl y))) H'
def spAreSigns (K : PySem.W.Frag) : Sp := fun vs H Q _ => ∃ x : V, vs = [x] ∧ ((∃ y : Str, x = .str y ∧ y.length ≤ 1000 ∧ ∀ H', Same H H' → Q (.bl (signsB y)) H') ∨ (NoText K H x ∧ Q (.bl false) H))
theorem all_bl (l : List Nat) (f : Nat → Bool) : l.map (fun c => V.bl (f c)) = (l.map f).map V.bl := by rw [List.map_map]; rfl
section
variable {P : Program} {w : World} {K : PySem.W.Frag} {mg : Str → Option Value} {base : Heap}
theorem ok_isText {f : Addr} {fd : FuncData} (F : Fun K "is_text" "is_text" sIsText f fd) (B : Bl mg) : FnOk P w K mg base CX0 1 f fd ["thing","least","most","characters"] (spIsText K) := by
  refine F.ok scIsText (fun vs H Q E h => ?_) (fun cdv A outer s H vs Q E hr h => ?_)
  · obtain ⟨x, lo, hi, cs, rfl, _⟩ := h
    rfl
  · obtain ⟨x, lo, hi, cs, rfl, h⟩ := h
    refine ⟨_, (pss_cons (ps_if (PW.pt (pw_or (pt_not (pt_val (pe_callB (id := "isinstance") (r := rIsi K) call_isi (by rfl) B.isin (by decide +kernel) (pa_cons (pv 0) (pa_cons (pe_bltn (v := .ty "str") (by rfl) B.str (by decide +kernel) rfl) pa_nil))))) (pw_or1 (pt_not (pt_chain op_le op_le (pv 1) (pe_callB call_len (by rfl) B.len PySem.boot_len (pa_cons (pv 0) pa_nil)) (pv 2)))))) (pss_one (ps_ret pe_bl)) pss_nil) (pss_one (ps_ret (pe_callB (cr_all rfl) (by rfl) B.all (by decide +kernel) (pa_cons (pe_lc (own := [("character", 4)]) (g := gName 4) (tt := tYes) rfl scIsText.nd (pi_str (pv 0)) (blkOk_by (N := nIsText) (sc := defScope sIsText) (by decide +kernel)) (fun _ _ _ _ _ => (pg_name (i := 4) scIsText.nd rfl (Or.inl rfl))) (fun _ _ _ _ _ => pts_nil) (fun _ _ _ _ _ => (pe_cmpR op_in_sign (pv 4) (pv 3) rfl))) pa_nil))))), ?_⟩
    try dsimp only [cxOf, Cx.nox, Cx.wish]
    rcases h with ⟨y, rfl, hy, k⟩ | ⟨⟨t, ht, hk⟩, k⟩
    · walk_at "go"
      refine r_isi (b := true) (.ty "str") (.base (.str _)) (kit_ty (by decide +kernel)) ?_
      walk_at "go"
      refine ⟨_, _, rfl, lenS (small_line hy), ?_⟩
      walk_at "go"
      unfold textB at k
      refine r_ite (fun h1 => ?_) (fun h1 => ?_)
      · rw [decide_eq_true h1, Bool.true_and] at k
        walk_at "go"
        by_cases h2 : (y.length : Int) ≤ hi
        · rw [decide_eq_true h2] at k ⊢
          rw [Bool.true_and] at k
          walk_at "go"
          intro D hD
          refine lc_smap (fun c => .bl (decide (c ∈ tl cs))) hD (small_line hy) (fun _ => rfl) (fun c hc H' R sm r => ?_) ?_
          · walk_at "go"
            exact ⟨c, cs, rfl, rfl, r⟩
          · walk_at "go"
            rw [all_bl]
            refine r_all (SqL.of upd_same) ?_
            have e : ((tl y).map fun c => decide (c ∈ tl cs)).all id = (tl y).all fun c => decide (c ∈ tl cs) := by rw [List.all_map]; rfl
            rw [e]
            exact k _ (same_new hD)
        · rw [decide_eq_false h2] at k ⊢
          walk_at "go"
          exact k H (Same.refl _)
      · rw [decide_eq_false h1] at k
        walk_at "go"
        exact k H (Same.refl _)
    · walk_at "go"
      refine r_isi (b := false) (.ty "str") ht hk ?_
      walk_at "go"
      exact k
theorem lt_ones (a b : Nat) : decide ((⟨#[a]⟩ : Str).cps.toList < (⟨#[b]⟩ : Str).cps.toList) = decide (a < b) := by
  show decide ([a] < [b]) = decide (a < b)
  have : [a] < [b] ↔ a < b := by
    rw [List.cons_lt_cons_iff]
    simp
  by_cases h : a < b
  · rw [decide_eq_true h, decide_eq_true (this.mpr h)]
  · rw [decide_eq_false h, decide_eq_false (fun q => h (this.mp q))]
theorem ok_isAsc {f : Addr} {fd : FuncData} (F : Fun K "is_ascending" "is_ascending" sIsAsc f fd) (B : Bl mg) : FnOk P w K mg base CX0 1 f fd ["things"] spIsAsc := by
  refine F.ok scIsAsc (fun vs H Q E h => ?_) (fun cdv A outer s H vs Q E hr h => ?_)
  · obtain ⟨y, rfl, _⟩ := h
    rfl
  · obtain ⟨y, rfl, hy, k⟩ := h
    refine ⟨_, (pss_one (ps_ret (pe_callB (cr_all rfl) (by rfl) B.all (by decide +kernel) (pa_cons (pe_lc (own := [("k", 1)]) (g := gName 1) (tt := tYes) rfl scIsAsc.nd (pi_range1 rfl B.range (pa_cons (pe_op op_sub (pe_callB call_len (by rfl) B.len PySem.boot_len (pa_cons (pv 0) pa_nil)) pe_int) pa_nil)) (blkOk_by (N := nIsAsc) (sc := defScope sIsAsc) (by decide +kernel)) (fun _ _ _ _ _ => (pg_name (i := 1) scIsAsc.nd rfl (Or.inl rfl))) (fun _ _ _ _ _ => pts_nil) (fun _ _ _ _ _ => (pe_cmpR op_lt_str (pe_ix ix_str (pv 0) (pv 1) (fun _ _ => rfl)) (pe_ix ix_str (pv 0) (pe_op op_add (pv 1) pe_int) (fun _ _ => rfl)) (nomark _)))) pa_nil)))), ?_⟩
    try dsimp only [cxOf, Cx.nox, Cx.wish]
    have ly := len_tl' y
    walk_at "go"
    refine ⟨_, _, rfl, lenS (small_line hy), ?_⟩
    walk_at "go"
    refine ⟨by omega, by omega, fun D hD => lc_rmap (n := ((y.length : Int) - 1).toNat) (fun j => .bl (decide ((tl y).getD j 0 < (tl y).getD (j + 1) 0))) hD (small_line (by omega)) (fun _ => rfl) (fun j hj H' R sm r => ?_) ?_⟩
    · have e1 : atI y.cps.toList (0 + (j : Int)) = some ((tl y).getD j 0) := by
        rw [Int.zero_add]
        refine atI_nat ?_
        show (tl y)[j]? = _
        rw [List.getD_eq_getElem?_getD, List.getElem?_eq_getElem (by omega)]; rfl
      have e2 : atI y.cps.toList (0 + (j : Int) + 1) = some ((tl y).getD (j + 1) 0) := by
        rw [Int.zero_add, show (j : Int) + 1 = ((j + 1 : Nat) : Int) from rfl]
        refine atI_nat ?_
        show (tl y)[j + 1]? = _
        rw [List.getD_eq_getElem?_getD, List.getElem?_eq_getElem (by omega)]; rfl
      walk_at "go"
      refine r_ixS (small_line hy) e1 ?_
      walk_at "go"
      refine r_ixS (small_line hy) e2 ?_
      walk_at "go"
      refine ⟨_, _, rfl, rfl, ?_⟩
      rw [lt_ones]
      exact r
    · walk_at "go"
      have e0 : ((y.length : Int) - 1).toNat = (tl y).length - 1 := by omega
      rw [e0, all_bl]
      refine r_all (SqL.of upd_same) ?_
      have e : ((List.range ((tl y).length - 1)).map fun j => decide ((tl y).getD j 0 < (tl y).getD (j + 1) 0)).all id = ascL (tl y) := by rw [List.all_map]; rfl
      rw [e]
      exact k _ (same_new hD)
abbrev OIsText (P : Program) (w : World) (K : PySem.W.Frag) (mg : Str → Option Value) (base : Heap) : Prop := Own P w K mg base "is_text" 1 ["thing","least","most","characters"] (spIsText K)
abbrev OIsAsc (P : Program) (w : World) (K : PySem.W.Frag) (mg : Str → Option Value) (base : Heap) : Prop := Own P w K mg base "is_ascending" 1 ["things"] spIsAsc
theorem ok_areSigns {dO dI f : Addr} {fd : FuncData} (F : Fun K "are_signs" "are_signs" sAreSigns f fd) (G : K4.G11 K w mg dO dI) (Oi : OIsText P w K mg base) (Oa : OIsAsc P w K mg base) : FnOk P w K mg base CX0 2 f fd ["thing"] (spAreSigns K) := by
  obtain ⟨t1, g1⟩ := G.LEAST_KINDS
  obtain ⟨t2, g2⟩ := G.MOST_KINDS
  obtain ⟨t3, g3⟩ := G.ALL_SIGNS
  refine F.ok scAreSigns (fun vs H Q E h => ?_) (fun cdv A outer s H vs Q E hr h => ?_)
  · obtain ⟨x, rfl, _⟩ := h
    rfl
  · obtain ⟨x, rfl, h⟩ := h
    refine ⟨_, (pss_one (ps_ret (pe_and (pe_own Oi hr (pa_cons (pv 0) (pa_cons (pe_glob (v := .int 2) rfl g1 ⟨_, rfl⟩) (pa_cons (pe_glob (v := .int 12) rfl g2 ⟨_, rfl⟩) (pa_cons (pe_glob (v := .str ALL) rfl g3 ⟨_, rfl⟩) pa_nil))))) (pe_one (pe_own Oa hr (pa_cons (pv 0) pa_nil)))))), ?_⟩
    try dsimp only [cxOf, Cx.nox, Cx.wish]
    walk_at "go"
    refine ⟨x, 2, 12, ALL, rfl, ?_⟩
    rcases h with ⟨y, rfl, hy, k⟩ | ⟨h, k⟩
    · refine .inl ⟨y, rfl, hy, fun H' sm => ?_⟩
      unfold signsB at k
      cases e : textB 2 12 ALL y with
      | true =>
        rw [e, Bool.true_and] at k
        walk_at "go"
        refine ⟨hy, fun H2 sm2 => ?_⟩
        exact k H2 (Same.trans sm sm2)
      | false =>
        rw [e] at k
        walk_at "go"
        exact k H' sm
    · refine .inr ⟨h, ?_⟩
      walk_at "go"
      exact k
end
end K1

/-! P11b -/


namespace K4
open PySem L2 K1
abbrev sIsWhole : Stmt := top 9
abbrev nIsWhole : List Str := ["thing"]
theorem scIsWhole : FnScope nIsWhole ["thing"] (defScope sIsWhole) := ⟨rfl, rfl, rfl, by decide +kernel, rfl, by decide +kernel, by decide +kernel⟩
abbrev sIsWithin : Stmt := top 10
abbrev nIsWithin : List Str := ["thing", "least", "most"]
theorem scIsWithin : FnScope nIsWithin ["thing", "least", "most"] (defScope sIsWithin) := ⟨rfl, rfl, rfl, by decide +kernel, rfl, by decide +kernel, by decide +kernel⟩
abbrev sIsTuple : Stmt := top 11
abbrev nIsTuple : List Str := ["thing"]
theorem scIsTuple : FnScope nIsTuple ["thing"] (defScope sIsTuple) := ⟨rfl, rfl, rfl, by decide +kernel, rfl, by decide +kernel, by decide +kernel⟩
abbrev sIsTupleOf : Stmt := top 12
abbrev nIsTupleOf : List Str := ["thing", "least", "most"]
theorem scIsTupleOf : FnScope nIsTupleOf ["thing", "least", "most"] (defScope sIsTupleOf) := ⟨rfl, rfl, rfl, by decide +kernel, rfl, by decide +kernel, by decide +kernel⟩
abbrev sIsPaper : Stmt := top 23
abbrev nIsPaper : List Str := ["signs", "thing"]
theorem scIsPaper : FnScope nIsPaper ["signs", "thing"] (defScope sIsPaper) := ⟨rfl, rfl, rfl, by decide +kernel, rfl, by decide +kernel, by decide +kernel⟩
def spIsWhole : Sp := fun vs H Q _ => ∃ i : Int, vs = [.int i] ∧ Q (.bl true) H
def spIsWithin : Sp := fun vs H Q _ => ∃ i lo hi : Int, vs = [.int i, .int lo, .int hi] ∧ Q (.bl (decide (lo ≤ i) && decide (i ≤ hi))) H
/-- neither a list nor a tuple -/
def NoSeq (K : PySem.W.Frag) (H : Hp) (x : V) : Prop := ∃ t, (∀ H', Same H H' → TyX K H' x t) ∧ PySem.W.kitAny K t [.type "tuple", .type "list"] = some false
def SeqB (K : PySem.W.Frag) (H : Hp) (x : V) (b : Bool) : Prop := (b = true ∧ ∃ xs, Sq K H x xs) ∨ (b = false ∧ NoSeq K H x)
def spIsTuple (K : PySem.W.Frag) : Sp := fun vs H Q _ => ∃ (x : V) (b : Bool), vs = [x] ∧ SeqB K H x b ∧ ∀ H', Same H H' → Q (.bl b) H'
def spIsTupleOf (K : PySem.W.Frag) : Sp := fun vs H Q _ => ∃ (x : V) (lo hi : Int), vs = [x, .int lo, .int hi] ∧ ((∃ xs, Sq K H x xs ∧ ∀ H', Same H H' → Q (.bl (decide (lo ≤ (xs.length : Int)) && decide ((xs.length : Int) ≤ hi))) H') ∨ (NoSeq K H x ∧ ∀ H', Same H H' → Q (.bl false) H'))
def spAscN (K : PySem.W.Frag) : Sp := fun vs H Q _ => ∃ (v : V) (ns : List Nat), vs = [v] ∧ NumsAt K H v ns ∧ ns.length ≤ 1000 ∧ ∀ H', Same H H' → Q (.bl (ascL ns)) H'
def spIsPaper (K : PySem.W.Frag) : Sp := fun vs H Q _ => ∃ (z : Str) (x : V), vs = [.str z, x] ∧ ((∃ y : Str, x = .str y ∧ y.length ≤ 1000 ∧ ∀ H', Same H H' → Q (.bl (textB 0 60 z y)) H') ∨ (NoText K H x ∧ Q (.bl false) H))
theorem any_t : ∀ {K : PySem.W.Frag}, PySem.W.kitAny K (.type "tuple") [.type "tuple", .type "list"] = some true := by
  intro K
  exact kitAny_cons (b := true) (kit_ty (by decide +kernel)) (fun q => nomatch q) (fun _ => rfl)
theorem any_l : ∀ {K : PySem.W.Frag}, PySem.W.kitAny K (.type "list") [.type "tuple", .type "list"] = some true := by
  intro K
  exact kitAny_cons (b := false) (kit_ty (by decide +kernel)) (fun _ => kitAny_cons (b := true) (kit_ty (by decide +kernel)) (fun q => nomatch q) (fun _ => rfl)) (fun q => nomatch q)
theorem any_n {K : PySem.W.Frag} {n : String} (h1 : kitB n "tuple" = some false) (h2 : kitB n "list" = some false) : PySem.W.kitAny K (.type n) [.type "tuple", .type "list"] = some false :=
  kitAny_cons (b := false) (kit_ty h1) (fun _ => kitAny_cons (b := false) (kit_ty h2) (fun _ => rfl) (fun q => nomatch q)) (fun q => nomatch q)
theorem noSeq_str {K : PySem.W.Frag} {H : Hp} {x : Str} : NoSeq K H (.str x) := ⟨.type "str", fun _ _ => .base (.str _), any_n (by decide +kernel) (by decide +kernel)⟩
theorem noSeq_int {K : PySem.W.Frag} {H : Hp} {i : Int} : NoSeq K H (.int i) := ⟨.type "int", fun _ _ => .base (.int _), any_n (by decide +kernel) (by decide +kernel)⟩
theorem noSeq_non {K : PySem.W.Frag} {H : Hp} : NoSeq K H .non := ⟨.type "NoneType", fun _ _ => .base .non, any_n (by decide +kernel) (by decide +kernel)⟩
theorem seqB_t {K : PySem.W.Frag} {H : Hp} {x : V} {b : Bool} (h : SeqB K H x b) : ∃ t, (∀ H', Same H H' → TyX K H' x t) ∧ PySem.W.kitAny K t [.type "tuple", .type "list"] = some b := by
  rcases h with ⟨rfl, xs, a, rfl, h | h⟩ | ⟨rfl, h⟩
  · exact ⟨.type "list", fun H' s => tyxL (s.seq h), any_l⟩
  · exact ⟨.type "tuple", fun H' s => tyxT (Same.sqT s h), any_t⟩
  · exact h
section
variable {P : Program} {w : World} {K : PySem.W.Frag} {mg : Str → Option Value} {base : Heap} {dO dI : Addr}
theorem ok_isWhole {f : Addr} {fd : FuncData} (F : Fun K "is_whole" "is_whole" sIsWhole f fd) (B : Bl mg) : FnOk P w K mg base CX0 1 f fd ["thing"] spIsWhole := by
  refine F.ok scIsWhole (fun vs H Q E h => ?_) (fun cdv A outer s H vs Q E hr h => ?_)
  · obtain ⟨i, rfl, _⟩ := h
    rfl
  · obtain ⟨i, rfl, k⟩ := h
    refine ⟨_, (pss_one (ps_ret (pe_and (pe_callB (id := "isinstance") (r := rIsi K) call_isi (by rfl) B.isin (by decide +kernel) (pa_cons (pv 0) (pa_cons (pe_bltn (v := .ty "int") (by rfl) B.int (by decide +kernel) rfl) pa_nil))) (pe_one (pe_not (pe_callB (id := "isinstance") (r := rIsi K) call_isi (by rfl) B.isin (by decide +kernel) (pa_cons (pv 0) (pa_cons (pe_bltn (v := .ty "bool") (by rfl) B.bool (by decide +kernel) rfl) pa_nil)))))))), ?_⟩
    try dsimp only [cxOf, Cx.nox, Cx.wish]
    walk_at "go"
    refine r_isi (b := true) (.ty "int") (.base (.int _)) (kit_ty (by decide +kernel)) ?_
    walk_at "go"
    refine r_isi (b := false) (.ty "bool") (.base (.int _)) (kit_ty (by decide +kernel)) ?_
    walk_at "go"
    exact k
abbrev OWhole (P : Program) (w : World) (K : PySem.W.Frag) (mg : Str → Option Value) (base : Heap) : Prop := Own P w K mg base "is_whole" 1 ["thing"] spIsWhole
theorem ok_isWithin {f : Addr} {fd : FuncData} (F : Fun K "is_within" "is_within" sIsWithin f fd) (B : Bl mg) (Owh : OWhole P w K mg base) : FnOk P w K mg base CX0 2 f fd ["thing", "least", "most"] spIsWithin := by
  refine F.ok scIsWithin (fun vs H Q E h => ?_) (fun cdv A outer s H vs Q E hr h => ?_)
  · obtain ⟨i, lo, hi, rfl, _⟩ := h
    rfl
  · obtain ⟨i, lo, hi, rfl, k⟩ := h
    refine ⟨_, (pss_one (ps_ret (pe_and (pe_own Owh hr (pa_cons (pv 0) pa_nil)) (pe_one (pe_chain op_le op_le (pv 1) (pv 0) (pv 2)))))), ?_⟩
    try dsimp only [cxOf, Cx.nox, Cx.wish]
    walk_at "go"
    by_cases h1 : lo ≤ i
    · rw [decide_eq_true h1] at k ⊢
      rw [Bool.true_and] at k
      walk_at "go"
      exact k
    · rw [decide_eq_false h1] at k ⊢
      rw [Bool.false_and] at k
      walk_at "go"
      exact k
theorem ok_isTuple {f : Addr} {fd : FuncData} (F : Fun K "is_tuple" "is_tuple" sIsTuple f fd) (B : Bl mg) : FnOk P w K mg base CX0 1 f fd ["thing"] (spIsTuple K) := by
  refine F.ok scIsTuple (fun vs H Q E h => ?_) (fun cdv A outer s H vs Q E hr h => ?_)
  · obtain ⟨x, b, rfl, _⟩ := h
    rfl
  · obtain ⟨x, b, rfl, hb, k⟩ := h
    refine ⟨_, (pss_one (ps_ret (pe_callB (id := "isinstance") (r := rIsiT K) call_isiT (by rfl) B.isin (by decide +kernel) (pa_cons (pv 0) (pa_cons (pe_tup (pa_cons (pe_bltn (v := .ty "tuple") (by rfl) B.tuple (by decide +kernel) rfl) (pa_cons (pe_bltn (v := .ty "list") (by rfl) B.list (by decide +kernel) rfl) pa_nil))) pa_nil))))), ?_⟩
    try dsimp only [cxOf, Cx.nox, Cx.wish]
    walk_at "go"
    obtain ⟨t, ht, ka⟩ := seqB_t hb
    refine ⟨(by show 2 ≤ sizeLine; decide), fun p hp => ?_⟩
    walk_at "go"
    have sp := same_new (o := HO.tup [V.ty "tuple", V.ty "list"]) hp
    exact ⟨x, p, _, t, _, b, rfl, upd_same, .cons (.ty _) (.cons (.ty _) .nil), ht _ sp, ka, k _ sp⟩
abbrev OIsTuple (P : Program) (w : World) (K : PySem.W.Frag) (mg : Str → Option Value) (base : Heap) : Prop := Own P w K mg base "is_tuple" 1 ["thing"] (spIsTuple K)
theorem ok_isTupleOf {f : Addr} {fd : FuncData} (F : Fun K "is_tuple_of" "is_tuple_of" sIsTupleOf f fd) (B : Bl mg) (Oit : OIsTuple P w K mg base) : FnOk P w K mg base CX0 2 f fd ["thing", "least", "most"] (spIsTupleOf K) := by
  refine F.ok scIsTupleOf (fun vs H Q E h => ?_) (fun cdv A outer s H vs Q E hr h => ?_)
  · obtain ⟨x, lo, hi, rfl, _⟩ := h
    rfl
  · obtain ⟨x, lo, hi, rfl, h⟩ := h
    refine ⟨_, (pss_one (ps_ret (pe_and (pe_own Oit hr (pa_cons (pv 0) pa_nil)) (pe_one (pe_chain op_le op_le (pv 1) (pe_callB call_len (by rfl) B.len PySem.boot_len (pa_cons (pv 0) pa_nil)) (pv 2)))))), ?_⟩
    try dsimp only [cxOf, Cx.nox, Cx.wish]
    walk_at "go"
    rcases h with ⟨xs, hx, k⟩ | ⟨hn, k⟩
    · refine ⟨x, true, rfl, .inl ⟨rfl, xs, hx⟩, fun H1 s1 => ?_⟩
      walk_at "go"
      refine ⟨_, _, rfl, (hx.same s1).len, ?_⟩
      walk_at "go"
      by_cases h1 : lo ≤ (xs.length : Int)
      · rw [decide_eq_true h1] at k ⊢
        walk_at "go"
        exact k _ s1
      · rw [decide_eq_false h1] at k ⊢
        walk_at "go"
        exact k _ s1
    · refine ⟨x, false, rfl, .inr ⟨rfl, hn⟩, fun H1 s1 => ?_⟩
      walk_at "go"
      exact k _ s1
abbrev OIsTupleOf (P : Program) (w : World) (K : PySem.W.Frag) (mg : Str → Option Value) (base : Heap) : Prop := Own P w K mg base "is_tuple_of" 2 ["thing", "least", "most"] (spIsTupleOf K)
theorem nums_get {H : Hp} {v : V} {ns : List Nat} (h : NumsAt K H v ns) {i : Nat} (hi : i < ns.length) {Q : VK} (q : Q (vi (ns.getD i 0)) H) : rIx K v (.int (i : Int)) H Q := by
  refine r_ixSq h (atI_nat ?_) q
  rw [List.getElem?_map, getD_at hi]
  rfl
abbrev sIsAsc : Stmt := top 14
abbrev nIsAsc : List Str := ["things", "k"]
theorem scIsAsc : FnScope nIsAsc ["things"] (defScope sIsAsc) := ⟨rfl, rfl, rfl, by decide +kernel, rfl, by decide +kernel, by decide +kernel⟩
theorem ok_ascN {f : Addr} {fd : FuncData} (F : Fun K "is_ascending" "is_ascending" sIsAsc f fd) (B : Bl mg) : FnOk P w K mg base CX0 1 f fd ["things"] (spAscN K) := by
  refine F.ok scIsAsc (fun vs H Q E h => ?_) (fun cdv A outer s H vs Q E hr h => ?_)
  · obtain ⟨v, ns, rfl, _⟩ := h
    rfl
  · obtain ⟨v, ns, rfl, hv, hl, k⟩ := h
    refine ⟨_, (pss_one (ps_ret (pe_callB (cr_all rfl) (by rfl) B.all (by decide +kernel) (pa_cons (pe_lc (own := [("k", 1)]) (g := gName 1) (tt := tYes) rfl scIsAsc.nd (pi_range1 rfl B.range (pa_cons (pe_op op_sub (pe_callB call_len (by rfl) B.len PySem.boot_len (pa_cons (pv 0) pa_nil)) pe_int) pa_nil)) (blkOk_by (N := nIsAsc) (sc := defScope sIsAsc) (by decide +kernel)) (fun _ _ _ _ _ => (pg_name (i := 1) scIsAsc.nd rfl (Or.inl rfl))) (fun _ _ _ _ _ => pts_nil) (fun _ _ _ _ _ => (pe_cmpR op_lt (pe_ix (r := rIx K) ix_seq (pv 0) (pv 1) (fun _ _ => rfl)) (pe_ix (r := rIx K) ix_seq (pv 0) (pe_op op_add (pv 1) pe_int) (fun _ _ => rfl)) (nomark _)))) pa_nil)))), ?_⟩
    try dsimp only [cxOf, Cx.nox, Cx.wish]
    walk_at "go"
    have hlen := hv.len
    rw [List.length_map] at hlen
    refine ⟨_, _, rfl, hlen, ?_⟩
    walk_at "go"
    refine ⟨by omega, by omega, fun D hD => lc_rmap (n := ((ns.length : Int) - 1).toNat) (fun j => .bl (decide (ns.getD j 0 < ns.getD (j + 1) 0))) hD (small_line (by omega)) (fun _ => rfl) (fun j hj H' R sm r => ?_) ?_⟩
    · walk_at "go"
      rw [Int.zero_add]
      refine nums_get (Sq.same sm hv) (by omega) ?_
      walk_at "go"
      refine nums_get (i := j + 1) (Sq.same sm hv) (by omega) ?_
      walk_at "go"
      have e : decide ((ns.getD j 0 : Int) < (ns.getD (j + 1) 0 : Int)) = decide (ns.getD j 0 < ns.getD (j + 1) 0) := by
        rw [decide_eq_decide]; omega
      rw [e]
      exact r
    · walk_at "go"
      have e0 : ((ns.length : Int) - 1).toNat = ns.length - 1 := by omega
      rw [e0, all_bl]
      refine r_all (SqL.of upd_same) ?_
      have e : ((List.range (ns.length - 1)).map fun j => decide (ns.getD j 0 < ns.getD (j + 1) 0)).all id = ascL ns := by rw [List.all_map]; rfl
      rw [e]
      exact k _ (same_new hD)
theorem ok_isPaper {f : Addr} {fd : FuncData} (F : Fun K "is_paper" "is_paper" sIsPaper f fd) (G : G11 K w mg dO dI) (Ot : OIsText P w K mg base) : FnOk P w K mg base CX0 2 f fd ["signs", "thing"] (spIsPaper K) := by
  refine F.ok scIsPaper (fun vs H Q E h => ?_) (fun cdv A outer s H vs Q E hr h => ?_)
  · obtain ⟨z, x, rfl, _⟩ := h
    rfl
  · obtain ⟨z, x, rfl, h⟩ := h
    refine ⟨_, (pss_one (ps_ret (pe_own Ot hr (pa_cons (pv 1) (pa_cons pe_int (pa_cons (pe_gI G.MOST_SIGNS) (pa_cons (pv 0) pa_nil))))))), ?_⟩
    try dsimp only [cxOf, Cx.nox, Cx.wish]
    walk_at "go"
    refine ⟨x, 0, 60, z, rfl, ?_⟩
    rcases h with ⟨y, rfl, hy, k⟩ | ⟨h, k⟩
    · exact .inl ⟨y, rfl, hy, k⟩
    · exact .inr ⟨h, k⟩
end
end K4

/-! P11c -/


namespace K4
open PySem L2 K1
abbrev sOwnValues : Stmt := top 40
abbrev nOwnValues : List Str := ["part"]
theorem scOwnValues : FnScope nOwnValues ["part"] (defScope sOwnValues) := ⟨rfl, rfl, rfl, by decide +kernel, rfl, by decide +kernel, by decide +kernel⟩
abbrev sInnerRules : Stmt := top 41
abbrev nInnerRules : List Str := ["part"]
theorem scInnerRules : FnScope nInnerRules ["part"] (defScope sInnerRules) := ⟨rfl, rfl, rfl, by decide +kernel, rfl, by decide +kernel, by decide +kernel⟩
abbrev sIsRow : Stmt := top 27
abbrev nIsRow : List Str := ["thing", "kinds", "many", "to"]
theorem scIsRow : FnScope nIsRow ["thing", "kinds", "many"] (defScope sIsRow) := ⟨rfl, rfl, rfl, by decide +kernel, rfl, by decide +kernel, by decide +kernel⟩
abbrev sAreRows : Stmt := top 26
abbrev nAreRows : List Str := ["signs", "thing", "most", "row"]
theorem scAreRows : FnScope nAreRows ["signs", "thing", "most"] (defScope sAreRows) := ⟨rfl, rfl, rfl, by decide +kernel, rfl, by decide +kernel, by decide +kernel⟩
abbrev sAreGoals : Stmt := top 28
abbrev nAreGoals : List Str := ["thing", "many", "goal"]
theorem scAreGoals : FnScope nAreGoals ["thing", "many"] (defScope sAreGoals) := ⟨rfl, rfl, rfl, by decide +kernel, rfl, by decide +kernel, by decide +kernel⟩
abbrev sIsSum : Stmt := top 42
abbrev nIsSum : List Str := ["values", "modulus", "weights", "goal", "number"]
theorem scIsSum : FnScope nIsSum ["values"] (defScope sIsSum) := ⟨rfl, rfl, rfl, by decide +kernel, rfl, by decide +kernel, by decide +kernel⟩
abbrev sIsSquare : Stmt := top 43
abbrev nIsSquare : List Str := ["signs", "values", "rows", "goals"]
theorem scIsSquare : FnScope nIsSquare ["signs", "values"] (defScope sIsSquare) := ⟨rfl, rfl, rfl, by decide +kernel, rfl, by decide +kernel, by decide +kernel⟩
abbrev sAreFaces : Stmt := top 44
abbrev nAreFaces : List Str := ["signs", "thing", "face"]
theorem scAreFaces : FnScope nAreFaces ["signs", "thing"] (defScope sAreFaces) := ⟨rfl, rfl, rfl, by decide +kernel, rfl, by decide +kernel, by decide +kernel⟩
def spOwn (K : PySem.W.Frag) : Sp := fun vs H Q _ => ∃ (v : V) (k : Nat) (xs is : List V), vs = [v] ∧ k < 9 ∧ Sq K H v (.str (wd k) :: (xs ++ is)) ∧ xs.length = mn k ∧ ∀ v' H', Same H H' → Sq K H' v' xs → Q v' H'
def spInner (K : PySem.W.Frag) : Sp := fun vs H Q _ => ∃ (v : V) (k : Nat) (xs is : List V), vs = [v] ∧ k < 9 ∧ Sq K H v (.str (wd k) :: (xs ++ is)) ∧ xs.length = mn k ∧ ∀ p H', H p = none → Same H H' → Sq K H' (.ref p) is → Q (.ref p) H'
section
variable {K : PySem.W.Frag} {σ : L2.St} {H : Hp} {vs : List Nat} {te : TE} {slot : Nat} {xs : List V} {v : V}
theorem acc_rep {n i : Nat} {acc : List V} (h : acc = List.replicate acc.length (V.bl true)) : acc ++ [V.bl true] = List.replicate (acc ++ [V.bl true]).length (V.bl true) := by
  rw [List.length_append]
  show _ = List.replicate (acc.length + 1) _
  rw [List.replicate_succ', ← h]
/-- [.. for x in xs], each of which is True -/
theorem lc_true {R : It → Hp → Prop} (h : Sq K H v xs) (hl : xs.length ≤ 1000) (hw : ∀ x, wipe ((wipe σ vs).set slot (some x)) vs = wipe σ vs)
    (hs : ∀ (i : Nat) (x : V) (H' : Hp) (R : VK), xs[i]? = some x → Same H H' → (∀ H4, Same H' H4 → R (.bl true) H4) → te ((wipe σ vs).set slot (some x)) H' R)
    (Qe : Addr → Hp → Prop) (hd : ∀ D H', H D = none → Same H H' → H' D = some (.lst (List.replicate xs.length (.bl true))) → Qe D H')
    (hR : ∀ J, (∀ D, H D = none → ∃ W : Nat → Nat → Hp → Prop, (∃ m, W 0 m (upd H D (.lst []))) ∧ ∀ i m H, W i m H →
      (It.stop J i H ∧ Qe D H) ∨ (It.go J i H ∧ ∃ Nx : Hp → Prop, (∀ H', Nx H' → ∃ m', m' < m ∧ W (i + 1) m' H') ∧ ∀ x H', It.yld J i H x H' → gName slot x (wipe σ vs) H' fun σ2 H2 => wipe σ2 vs = wipe σ vs ∧ tYes σ2 H2 fun b H3 =>
        if b = true then te σ2 H3 fun y H4 => ∃ acc, H4 D = some (.lst acc) ∧ acc.length < sizeLine ∧ Nx (upd H4 D (.lst (acc ++ [y]))) else Nx H3)) → R J H) :
    SqIt K v R H := by
  refine lc_sq h hw (fun acc H' => acc = List.replicate acc.length (.bl true) ∧ Same H H') (fun D hD => ⟨rfl, same_new hD⟩) (fun D acc H' _ _ q => Same.keeps q.2) ?_ Qe ?_ hR
  · rintro D i x acc H' hD hx la hacc ⟨ha, sm⟩
    refine hs i x H' _ hx sm fun H4 s4 => ?_
    exact pp_next (s4 _ _ hacc) la (line60 (by have := (List.getElem?_eq_some_iff.mp hx).1; omega)) ⟨acc_rep (n := 0) (i := 0) ha, same_upd (sm.trans s4) hD⟩
  · rintro D acc H' hD la hacc ⟨ha, sm⟩
    refine hd D H' hD sm ?_
    rw [hacc, ha, la]
theorem lc_trueL {a D : Addr} {Qd : Hp → Prop} (h : SqL K H a xs) (hD : H D = none) (hl : xs.length ≤ 1000) (hw : ∀ x, wipe ((wipe σ vs).set slot (some x)) vs = wipe σ vs)
    (hs : ∀ (i : Nat) (x : V) (H' : Hp) (R : VK), xs[i]? = some x → Same H H' → (∀ H4, Same H' H4 → R (.bl true) H4) → te ((wipe σ vs).set slot (some x)) H' R)
    (hd : ∀ H', Same H H' → H' D = some (.lst (List.replicate xs.length (.bl true))) → Qd H') :
    ∃ W : Nat → Nat → Hp → Prop, (∃ m, W 0 m (upd H D (.lst []))) ∧ ∀ i m H, W i m H →
      ((Itl K a).stop i H ∧ Qd H) ∨ ((Itl K a).go i H ∧ ∃ Nx : Hp → Prop, (∀ H', Nx H' → ∃ m', m' < m ∧ W (i + 1) m' H') ∧ ∀ x H', (Itl K a).yld i H x H' → gName slot x (wipe σ vs) H' fun σ2 H2 => wipe σ2 vs = wipe σ vs ∧ tYes σ2 H2 fun b H3 =>
        if b = true then te σ2 H3 fun y H4 => ∃ acc, H4 D = some (.lst acc) ∧ acc.length < sizeLine ∧ Nx (upd H4 D (.lst (acc ++ [y]))) else Nx H3) := by
  refine lc_gen (walk_list (K := K) (a := a) (xs := xs)) hw (fun acc H' => acc = List.replicate acc.length (.bl true) ∧ Same H H') ⟨rfl, same_new hD⟩ (fun acc H' _ q => q.2.seq h) ?_ ?_
  · rintro i x acc H' hx la hacc ⟨ha, sm⟩
    refine hs i x H' _ hx sm fun H4 s4 => ?_
    exact pp_next (s4 _ _ hacc) la (line60 (by have := (List.getElem?_eq_some_iff.mp hx).1; omega)) ⟨acc_rep (n := 0) (i := 0) ha, same_upd (sm.trans s4) hD⟩
  · rintro acc H' la hacc ⟨ha, sm⟩
    refine hd H' sm ?_
    rw [hacc, ha, la]
theorem r_allT {n : Nat} {a : Addr} {Q : VK} (h : H a = some (.lst (List.replicate n (V.bl true)))) (q : Q (.bl true) H) : rAll K [.ref a] H Q := by
  refine r_all (bs := List.replicate n true) (by rw [List.map_replicate]; exact SqL.of h) ?_
  rw [show (List.replicate n true).all id = true by rw [List.all_eq_true]; intro x hx; rw [(List.mem_replicate.mp hx).2]; rfl]
  exact q
end
abbrev rLenK (K : PySem.W.Frag) : List V → Hp → VK → Prop := fun xs H Q => ∃ x n, xs = [x] ∧ LenV K x H n ∧ Q (V.int ↑n) H
def spIsRow (K : PySem.W.Frag) : Sp := fun vs H Q _ => ∃ (v : V) (r : List Nat) (n m : Nat), vs = [v, vi n, vi m] ∧ NumsAt K H v r ∧ r.length = n ∧ n ≤ 1000 ∧ (∀ x ∈ r, x < m) ∧ ∀ H', Same H H' → Q (.bl true) H'
def spAreRows (K : PySem.W.Frag) : Sp := fun vs H Q _ => ∃ (z : Str) (v : V) (rvs : List V) (rows : List (List Nat)) (m : Nat), vs = [.str z, v, vi m] ∧ Sq K H v rvs ∧ RowsAt K H rvs rows ∧ rows ≠ [] ∧ rows.length ≤ m ∧ m ≤ 1000 ∧ z.length ≤ 12 ∧
  (∀ r ∈ rows, r.length = z.length ∧ ∀ x ∈ r, x < rows.length) ∧ ∀ H', Same H H' → Q (.bl true) H'
def spAreGoals (K : PySem.W.Frag) : Sp := fun vs H Q _ => ∃ (v : V) (gs : List Nat) (m : Nat), vs = [v, vi m] ∧ NumsAt K H v gs ∧ gs.length ≤ 1000 ∧ gs.Pairwise (· < ·) ∧ (∀ x ∈ gs, x < m) ∧ ∀ H', Same H H' → Q (.bl true) H'
def spIsSum (K : PySem.W.Frag) : Sp := fun vs H Q _ => ∃ (v : V) (xs : List V) (z : List Nat) (m : Nat) (ws : List Nat) (g : Nat), vs = [v] ∧ Sq K H v xs ∧ OwAt K H xs (.sum m ws g) ∧ Ow.fit z (.sum m ws g) ∧ ∀ H', Same H H' → Q (.bl true) H'
def spIsSquare (K : PySem.W.Frag) : Sp := fun vs H Q _ => ∃ (z : Str) (v : V) (xs : List V) (rows : List (List Nat)) (gs : List Nat), vs = [.str z, v] ∧ z.length ≤ 12 ∧ Sq K H v xs ∧ OwAt K H xs (.square rows gs) ∧ Ow.fit (tl z) (.square rows gs) ∧ ∀ H', Same H H' → Q (.bl true) H'
def spAreFaces (K : PySem.W.Frag) : Sp := fun vs H Q _ => ∃ (z : Str) (v : V) (fs : List Str), vs = [.str z, v] ∧ z.length ≤ 12 ∧ Sq K H v (fs.map V.str) ∧ Ow.fit (tl z) (.faces fs) ∧ ∀ H', Same H H' → Q (.bl true) H'
theorem asc_true : ∀ {ns : List Nat}, ns.Pairwise (· < ·) → ascL ns = true := by
  intro ns h
  refine List.all_eq_true.mpr fun k hk => decide_eq_true ?_
  have hk' := List.mem_range.mp hk
  have pw := List.pairwise_iff_getElem.mp h
  have h1 : k < ns.length := by omega
  have h2 : k + 1 < ns.length := by omega
  rw [List.getD_eq_getElem?_getD, List.getD_eq_getElem?_getD, List.getElem?_eq_getElem h1, List.getElem?_eq_getElem h2]
  exact pw k (k + 1) h1 h2 (Nat.lt_succ_self k)
section
variable {P : Program} {w : World} {K : PySem.W.Frag} {mg : Str → Option Value} {base : Heap} {dO dI : Addr}
theorem ok_ownValues {f : Addr} {fd : FuncData} (F : Fun K "own_values" "own_values" sOwnValues f fd) (B : Bl mg) (G : G11 K w mg dO dI) : FnOk P w K mg base CX0 1 f fd ["part"] (spOwn K) := by
  refine F.ok scOwnValues (fun vs H Q E h => ?_) (fun cdv A outer s H vs Q E hr h => ?_)
  · obtain ⟨v, k, xs, is, rfl, _⟩ := h
    rfl
  · obtain ⟨v, c, xs, is, rfl, hc, hS, hl, k⟩ := h
    refine ⟨_, (pss_one (ps_ret (pe_slice sl_sq (pv 0) (po_some pe_int) (po_some (pe_op op_add pe_int (pe_ix ix_kdict (pe_gR G.OV) (pe_ix ix_seq (pv 0) pe_int (fun _ _ => rfl)) (fun _ _ => rfl))))))), ?_⟩
    try dsimp only [cxOf, Cx.nox, Cx.wish]
    walk_at "go"
    refine r_ixSq hS at0 ?_
    walk_at "go"
    refine r_kd (G.ov c hc) ?_
    walk_at "go"
    refine r_slSq hS fun v' H' sm h' => k v' H' sm ?_
    have e : cutV (.str (wd c) :: (xs ++ is)) (some 1) (some (1 + (mn c : Int))) = xs := by
      have := cutV_mid (xs := .str (wd c) :: (xs ++ is)) 1 (1 + mn c)
      rw [show ((1 + mn c : Nat) : Int) = 1 + (mn c : Int) by omega] at this
      rw [show ((1 : Nat) : Int) = 1 from rfl] at this
      rw [this, ← hl, List.drop_succ_cons, List.drop_zero, Nat.add_sub_cancel_left]
      simp
    rw [e] at h'
    exact h'
theorem ok_innerRules {f : Addr} {fd : FuncData} (F : Fun K "inner_rules" "inner_rules" sInnerRules f fd) (B : Bl mg) (G : G11 K w mg dO dI) : FnOk P w K mg base CX0 1 f fd ["part"] (spInner K) := by
  refine F.ok scInnerRules (fun vs H Q E h => ?_) (fun cdv A outer s H vs Q E hr h => ?_)
  · obtain ⟨v, k, xs, is, rfl, _⟩ := h
    rfl
  · obtain ⟨v, c, xs, is, rfl, hc, hS, hl, k⟩ := h
    refine ⟨_, (pss_one (ps_ret (pe_slice sl_sq (pv 0) (po_some (pe_op op_add pe_int (pe_ix ix_kdict (pe_gR G.OV) (pe_ix ix_seq (pv 0) pe_int (fun _ _ => rfl)) (fun _ _ => rfl)))) po_none))), ?_⟩
    try dsimp only [cxOf, Cx.nox, Cx.wish]
    walk_at "go"
    refine r_ixSq hS at0 ?_
    walk_at "go"
    refine r_kd (G.ov c hc) ?_
    walk_at "go"
    refine r_slNew hS (fun z => ?_) fun p H' hp sm h' => k p H' hp sm ?_
    · have := HT.sIx_nat ((V.str (wd c) :: (xs ++ is)).length) 0 (1 + mn c)
      rw [show ((1 + mn c : Nat) : Int) = 1 + (mn c : Int) by omega] at this
      rw [this, List.length_cons] at z
      omega
    have e : cutV (.str (wd c) :: (xs ++ is)) (some (1 + (mn c : Int))) none = is := by
      have := cutV_from (xs := .str (wd c) :: (xs ++ is)) (1 + mn c)
      rw [show ((1 + mn c : Nat) : Int) = 1 + (mn c : Int) by omega] at this
      rw [this, ← hl, Nat.add_comm, List.drop_succ_cons]
      simp
    rw [e] at h'
    exact h'
abbrev OWithin (P : Program) (w : World) (K : PySem.W.Frag) (mg : Str → Option Value) (base : Heap) : Prop := Own P w K mg base "is_within" 2 ["thing","least","most"] spIsWithin
abbrev OAscN (P : Program) (w : World) (K : PySem.W.Frag) (mg : Str → Option Value) (base : Heap) : Prop := Own P w K mg base "is_ascending" 1 ["things"] (spAscN K)
theorem ok_isRow {f : Addr} {fd : FuncData} (F : Fun K "is_row" "is_row" sIsRow f fd) (B : Bl mg) (Ito : OIsTupleOf P w K mg base) (Owi : OWithin P w K mg base) : FnOk P w K mg base CX0 3 f fd ["thing", "kinds", "many"] (spIsRow K) := by
  refine F.ok scIsRow (fun vs H Q E h => ?_) (fun cdv A outer s H vs Q E hr h => ?_)
  · obtain ⟨v, r, n, m, rfl, _⟩ := h
    rfl
  · obtain ⟨v, r, n, m, rfl, hv, hn, h1000, hm, k⟩ := h
    refine ⟨_, (pss_one (ps_ret (pe_and (pe_own Ito (hr.mono (by omega)) (pa_cons (pv 0) (pa_cons (pv 1) (pa_cons (pv 1) pa_nil)))) (pe_one (pe_callB (cr_all rfl) (by rfl) B.all (by decide +kernel) (pa_cons (pe_lc (own := [("to", 3)]) (g := gName 3) (tt := tYes) rfl scIsRow.nd (pi_sq (pv 0)) (blkOk_by (N := nIsRow) (sc := defScope sIsRow) (by decide +kernel)) (fun _ _ _ _ _ => (pg_name (i := 3) scIsRow.nd rfl (Or.inl rfl))) (fun _ _ _ _ _ => pts_nil) (fun _ _ _ _ _ => (pe_own Owi hr (pa_cons (pv 3) (pa_cons pe_int (pa_cons (pe_op op_sub (pv 2) pe_int) pa_nil)))))) pa_nil)))))), ?_⟩
    try dsimp only [cxOf, Cx.nox, Cx.wish]
    walk_at "go"
    refine ⟨v, n, n, rfl, .inl ⟨_, hv, fun H1 s1 => ?_⟩⟩
    rw [List.length_map, hn, decide_eq_true (Int.le_refl _)]
    walk_at "go"
    refine lc_true (hv.same s1) (by rw [List.length_map]; omega) (fun _ => rfl) ?_ _ ?_ (fun J h => h)
    · intro i x H' R hx sm q
      obtain ⟨y, hy, rfl⟩ := get_map hx
      walk_at "go"
      refine ⟨(y : Int), 0, (m : Int) - 1, rfl, ?_⟩
      have := hm y (List.mem_of_getElem? hy)
      rw [decide_eq_true (by omega), decide_eq_true (by omega)]
      exact q _ (Same.refl _)
    · intro D H' hD sm e
      walk_at "go"
      exact r_allT e (k _ (s1.trans sm))
abbrev OIsRow (P : Program) (w : World) (K : PySem.W.Frag) (mg : Str → Option Value) (base : Heap) : Prop := Own P w K mg base "is_row" 3 ["thing", "kinds", "many"] (spIsRow K)
theorem ok_areRows {f : Addr} {fd : FuncData} (F : Fun K "are_rows" "are_rows" sAreRows f fd) (B : Bl mg) (Ito : OIsTupleOf P w K mg base) (Oir : OIsRow P w K mg base) : FnOk P w K mg base CX0 4 f fd ["signs", "thing", "most"] (spAreRows K) := by
  refine F.ok scAreRows (fun vs H Q E h => ?_) (fun cdv A outer s H vs Q E hr h => ?_)
  · obtain ⟨z, v, rvs, rows, m, rfl, _⟩ := h
    rfl
  · obtain ⟨z, v, rvs, rows, m, rfl, hv, hR, hne, hm, h1000, hz, hrs, k⟩ := h
    refine ⟨_, (pss_cons (ps_if (pt_not (pt_val (pe_own Ito (hr.mono (by omega)) (pa_cons (pv 1) (pa_cons pe_int (pa_cons (pv 2) pa_nil)))))) (pss_one (ps_ret pe_bl)) pss_nil) (pss_one (ps_ret (pe_callB (cr_all rfl) (by rfl) B.all (by decide +kernel) (pa_cons (pe_lc (own := [("row", 3)]) (g := gName 3) (tt := tYes) rfl scAreRows.nd (pi_sq (pv 1)) (blkOk_by (N := nAreRows) (sc := defScope sAreRows) (by decide +kernel)) (fun _ _ _ _ _ => (pg_name (i := 3) scAreRows.nd rfl (Or.inl rfl))) (fun _ _ _ _ _ => pts_nil) (fun _ _ _ _ _ => (pe_own Oir hr (pa_cons (pv 3) (pa_cons (pe_callB (r := rLenK K) call_len (by rfl) B.len PySem.boot_len (pa_cons (pv 0) pa_nil)) (pa_cons (pe_callB (r := rLenK K) call_len (by rfl) B.len PySem.boot_len (pa_cons (pv 1) pa_nil)) pa_nil)))))) pa_nil))))), ?_⟩
    try dsimp only [cxOf, Cx.nox, Cx.wish]
    have hrl := hR.len
    have hpos := List.length_pos_iff.mpr hne
    walk_at "go"
    refine ⟨v, 1, m, rfl, .inl ⟨_, hv, fun H1 s1 => ?_⟩⟩
    rw [decide_eq_true (by omega), decide_eq_true (by omega)]
    walk_at "go"
    refine lc_true (hv.same s1) (by omega) (fun _ => rfl) ?_ _ ?_ (fun J h => h)
    · intro i x H' R hx sm q
      obtain ⟨r, hri, hrA⟩ := hR.get hx
      have hmem := List.mem_of_getElem? hri
      walk_at "go"
      refine ⟨_, _, rfl, lenS (small_line (by omega)), ?_⟩
      walk_at "go"
      refine ⟨_, _, rfl, (hv.same (s1.trans sm)).len, ?_⟩
      walk_at "go"
      rw [hrl]
      exact ⟨x, r, z.length, rows.length, rfl, hrA.keep (Same.keeps (s1.trans sm)), (hrs r hmem).1, by omega, (hrs r hmem).2, fun H4 s4 => q _ s4⟩
    · intro D H' hD sm e
      walk_at "go"
      exact r_allT e (k _ (s1.trans sm))
theorem ok_areGoals {f : Addr} {fd : FuncData} (F : Fun K "are_goals" "are_goals" sAreGoals f fd) (B : Bl mg) (Oit : OIsTuple P w K mg base) (Owi : OWithin P w K mg base) (Oan : OAscN P w K mg base) : FnOk P w K mg base CX0 3 f fd ["thing", "many"] (spAreGoals K) := by
  refine F.ok scAreGoals (fun vs H Q E h => ?_) (fun cdv A outer s H vs Q E hr h => ?_)
  · obtain ⟨v, gs, m, rfl, _⟩ := h
    rfl
  · obtain ⟨v, gs, m, rfl, hv, h1000, hp, hm, k⟩ := h
    refine ⟨_, (pss_cons (ps_if (PW.pt (pw_or (pt_not (pt_val (pe_own Oit (hr.mono (by omega)) (pa_cons (pv 0) pa_nil)))) (pw_or1 (pt_not (pt_val (pe_callB (cr_all rfl) (by rfl) B.all (by decide +kernel) (pa_cons (pe_lc (own := [("goal", 2)]) (g := gName 2) (tt := tYes) rfl scAreGoals.nd (pi_sq (pv 0)) (blkOk_by (N := nAreGoals) (sc := defScope sAreGoals) (by decide +kernel)) (fun _ _ _ _ _ => (pg_name (i := 2) scAreGoals.nd rfl (Or.inl rfl))) (fun _ _ _ _ _ => pts_nil) (fun _ _ _ _ _ => (pe_own Owi (hr.mono (by omega)) (pa_cons (pv 2) (pa_cons pe_int (pa_cons (pe_op op_sub (pv 1) pe_int) pa_nil)))))) pa_nil))))))) (pss_one (ps_ret pe_bl)) pss_nil) (pss_one (ps_ret (pe_own Oan (hr.mono (by omega)) (pa_cons (pv 0) pa_nil))))), ?_⟩
    try dsimp only [cxOf, Cx.nox, Cx.wish]
    walk_at "go"
    refine ⟨v, true, rfl, .inl ⟨rfl, _, hv⟩, fun H1 s1 => ?_⟩
    walk_at "go"
    refine lc_true (hv.same s1) (by rw [List.length_map]; omega) (fun _ => rfl) ?_ _ ?_ (fun J h => h)
    · intro i x H' R hx sm q
      obtain ⟨y, hy, rfl⟩ := get_map hx
      walk_at "go"
      refine ⟨(y : Int), 0, (m : Int) - 1, rfl, ?_⟩
      have := hm y (List.mem_of_getElem? hy)
      rw [decide_eq_true (by omega), decide_eq_true (by omega)]
      exact q _ (Same.refl _)
    · intro D H' hD sm e
      walk_at "go"
      refine r_allT e ?_
      walk_at "go"
      refine ⟨v, gs, rfl, hv.same (s1.trans sm), h1000, fun H2 s2 => ?_⟩
      rw [asc_true hp]
      exact k _ ((s1.trans sm).trans s2)
abbrev OAreRows (P : Program) (w : World) (K : PySem.W.Frag) (mg : Str → Option Value) (base : Heap) : Prop := Own P w K mg base "are_rows" 4 ["signs", "thing", "most"] (spAreRows K)
abbrev OAreGoals (P : Program) (w : World) (K : PySem.W.Frag) (mg : Str → Option Value) (base : Heap) : Prop := Own P w K mg base "are_goals" 3 ["thing", "many"] (spAreGoals K)
theorem ok_isSum {f : Addr} {fd : FuncData} (F : Fun K "is_sum" "is_sum" sIsSum f fd) (B : Bl mg) (G : G11 K w mg dO dI) (Ito : OIsTupleOf P w K mg base) (Owi : OWithin P w K mg base) : FnOk P w K mg base CX0 3 f fd ["values"] (spIsSum K) := by
  refine F.ok scIsSum (fun vs H Q E h => ?_) (fun cdv A outer s H vs Q E hr h => ?_)
  · obtain ⟨v, xs, z, m, ws, g, rfl, _⟩ := h
    rfl
  · obtain ⟨v, xs, z, m, ws, g, rfl, hv, ⟨wv, rfl, hw⟩, ⟨m2, m60, wne, w8, wlt, glt⟩, k⟩ := h
    refine ⟨_, (pss_cons (ps_asg (pv 0) (pg_sq rfl (pgs_cons (pg_name (i := 1) scIsSum.nd rfl (Or.inr rfl)) (pgs_cons (pg_name (i := 2) scIsSum.nd rfl (Or.inl rfl)) (pgs_cons (pg_name (i := 3) scIsSum.nd rfl (Or.inl rfl)) pgs_nil))))) (pss_cons (ps_if (PW.pt (pw_or (pt_not (pt_val (pe_own Owi (hr.mono (by omega)) (pa_cons (pv 1) (pa_cons (pe_gI G.LEAST_MODULUS) (pa_cons (pe_gI G.MOST_MODULUS) pa_nil)))))) (pw_or1 (pt_not (pt_val (pe_own Ito (hr.mono (by omega)) (pa_cons (pv 2) (pa_cons pe_int (pa_cons (pe_gI G.MOST_WEIGHTS) pa_nil))))))))) (pss_one (ps_ret pe_bl)) pss_nil) (pss_one (ps_ret (pe_callB (cr_all rfl) (by rfl) B.all (by decide +kernel) (pa_cons (pe_lc (own := [("number", 4)]) (g := gName 4) (tt := tYes) rfl scIsSum.nd (pi_list (pe_lst (StX.pa_star (pv 2) (pa_cons (pv 3) pa_nil)))) (blkOk_by (N := nIsSum) (sc := defScope sIsSum) (by decide +kernel)) (fun _ _ _ _ _ => (pg_name (i := 4) scIsSum.nd rfl (Or.inl rfl))) (fun _ _ _ _ _ => pts_nil) (fun _ _ _ _ _ => (pe_own Owi (hr.mono (by omega)) (pa_cons (pv 4) (pa_cons pe_int (pa_cons (pe_op op_sub (pv 1) pe_int) pa_nil)))))) pa_nil)))))), ?_⟩
    try dsimp only [cxOf, Cx.nox, Cx.wish]
    walk_at "go"
    refine r_gSq hv rfl ?_
    walk_at "go"
    refine ⟨(m : Int), 2, 60, rfl, ?_⟩
    rw [decide_eq_true (by omega), decide_eq_true (by omega)]
    walk_at "go"
    have wpos := List.length_pos_iff.mpr wne
    refine ⟨wv, 1, 8, rfl, .inl ⟨_, hw, fun H1 s1 => ?_⟩⟩
    rw [List.length_map, decide_eq_true (by omega), decide_eq_true (by omega)]
    walk_at "go"
    refine r_starSq (hw.same s1) ?_
    walk_at "go"
    have hsum : ∀ x ∈ ws.map vi ++ [vi g], ∃ y : Nat, x = vi y ∧ y < m := by
      intro x hx
      rcases List.mem_append.mp hx with hx | hx
      · obtain ⟨y, hy, rfl⟩ := List.mem_map.mp hx
        exact ⟨y, rfl, wlt y hy⟩
      · exact ⟨g, List.mem_singleton.mp hx, glt⟩
    have hlen : (ws.map vi ++ [vi g]).length ≤ 1000 := by rw [List.length_append, List.length_map, List.length_singleton]; omega
    refine ⟨small_line hlen, fun p hp => ⟨p, rfl, ⟨_, SqL.of upd_same⟩, fun D hD => lc_trueL (SqL.of upd_same) hD hlen (fun _ => rfl) ?_ ?_⟩⟩
    · intro i x H' R hx sm q
      obtain ⟨y, rfl, hy⟩ := hsum x (List.mem_of_getElem? hx)
      walk_at "go"
      refine ⟨(y : Int), 0, (m : Int) - 1, rfl, ?_⟩
      rw [decide_eq_true (by omega), decide_eq_true (by omega)]
      exact q _ (Same.refl _)
    · intro H' sm e
      walk_at "go"
      exact r_allT e (k _ (s1.trans ((same_new hp).trans sm)))
theorem ok_isSquare {f : Addr} {fd : FuncData} (F : Fun K "is_square" "is_square" sIsSquare f fd) (B : Bl mg) (G : G11 K w mg dO dI) (Oar : OAreRows P w K mg base) (Oag : OAreGoals P w K mg base) : FnOk P w K mg base CX0 5 f fd ["signs", "values"] (spIsSquare K) := by
  refine F.ok scIsSquare (fun vs H Q E h => ?_) (fun cdv A outer s H vs Q E hr h => ?_)
  · obtain ⟨z, v, xs, rows, gs, rfl, _⟩ := h
    rfl
  · obtain ⟨z, v, xs, rows, gs, rfl, hz, hv, ⟨rv, gv, rvs, rfl, h1, h2, h3⟩, ⟨r1, r2, r3, r4, r5, r6⟩, k⟩ := h
    refine ⟨_, (pss_cons (ps_asg (pv 1) (pg_sq rfl (pgs_cons (pg_name (i := 2) scIsSquare.nd rfl (Or.inl rfl)) (pgs_cons (pg_name (i := 3) scIsSquare.nd rfl (Or.inl rfl)) pgs_nil)))) (pss_one (ps_ret (pe_and (pe_own Oar (hr.mono (by omega)) (pa_cons (pv 0) (pa_cons (pv 2) (pa_cons (pe_gI G.MOST_ROWS) pa_nil)))) (pe_and (pe_own Oag (hr.mono (by omega)) (pa_cons (pv 3) (pa_cons (pe_callB call_len (by rfl) B.len PySem.boot_len (pa_cons (pv 2) pa_nil)) pa_nil))) (pe_one (pe_cmpR op_gt (pe_callB call_len (by rfl) B.len PySem.boot_len (pa_cons (pv 3) pa_nil)) pe_int (nomark _)))))))), ?_⟩
    try dsimp only [cxOf, Cx.nox, Cx.wish]
    have lz := len_tl z
    have gl := asc_len (n := rows.length) 0 r5 fun g q => ⟨Nat.zero_le _, r6 g q⟩
    walk_at "go"
    refine r_gSq hv rfl ?_
    walk_at "go"
    refine ⟨z, rv, rvs, rows, 60, rfl, h1, h2, r1, r2, by decide, hz, fun r hr => by rw [lz]; exact r3 r hr, fun H1 s1 => ?_⟩
    walk_at "go"
    refine ⟨_, _, rfl, (h1.same s1).len, ?_⟩
    walk_at "go"
    rw [h2.len]
    refine ⟨gv, gs, rows.length, rfl, h3.same s1, by omega, r5, r6, fun H2 s2 => ?_⟩
    walk_at "go"
    refine ⟨_, _, rfl, (h3.same (s1.trans s2)).len, ?_⟩
    walk_at "go"
    have := List.length_pos_iff.mpr r4
    rw [List.length_map, decide_eq_true (by omega)]
    exact k _ (s1.trans s2)
theorem ok_areFaces {f : Addr} {fd : FuncData} (F : Fun K "are_faces" "are_faces" sAreFaces f fd) (B : Bl mg) (G : G11 K w mg dO dI) (Ito : OIsTupleOf P w K mg base) (Ot : OIsText P w K mg base) : FnOk P w K mg base CX0 3 f fd ["signs", "thing"] (spAreFaces K) := by
  refine F.ok scAreFaces (fun vs H Q E h => ?_) (fun cdv A outer s H vs Q E hr h => ?_)
  · obtain ⟨z, v, fs, rfl, _⟩ := h
    rfl
  · obtain ⟨z, v, fs, rfl, hz, hv, ⟨f1, f4, hf⟩, k⟩ := h
    refine ⟨_, (pss_cons (ps_if (pt_not (pt_val (pe_own Ito (hr.mono (by omega)) (pa_cons (pv 1) (pa_cons pe_int (pa_cons (pe_gI G.MOST_FACES) pa_nil)))))) (pss_one (ps_ret pe_bl)) pss_nil) (pss_one (ps_ret (pe_callB (cr_all rfl) (by rfl) B.all (by decide +kernel) (pa_cons (pe_lc (own := [("face", 2)]) (g := gName 2) (tt := tYes) rfl scAreFaces.nd (pi_sq (pv 1)) (blkOk_by (N := nAreFaces) (sc := defScope sAreFaces) (by decide +kernel)) (fun _ _ _ _ _ => (pg_name (i := 2) scAreFaces.nd rfl (Or.inl rfl))) (fun _ _ _ _ _ => pts_nil) (fun _ _ _ _ _ => (pe_own Ot (hr.mono (by omega)) (pa_cons (pv 2) (pa_cons (pe_callB (r := rLenK K) call_len (by rfl) B.len PySem.boot_len (pa_cons (pv 0) pa_nil)) (pa_cons (pe_callB (r := rLenK K) call_len (by rfl) B.len PySem.boot_len (pa_cons (pv 0) pa_nil)) (pa_cons (pv 0) pa_nil))))))) pa_nil))))), ?_⟩
    try dsimp only [cxOf, Cx.nox, Cx.wish]
    have lz := len_tl z
    have := List.length_pos_iff.mpr f1
    walk_at "go"
    refine ⟨v, 1, 4, rfl, .inl ⟨_, hv, fun H1 s1 => ?_⟩⟩
    rw [List.length_map, decide_eq_true (by omega), decide_eq_true (by omega)]
    walk_at "go"
    refine lc_true (hv.same s1) (by rw [List.length_map]; omega) (fun _ => rfl) ?_ _ ?_ (fun J h => h)
    · intro i x H' R hx sm q
      obtain ⟨y, hy, rfl⟩ := get_map hx
      have hy' := hf y (List.mem_of_getElem? hy)
      have ly := len_tl y
      walk_at "go"
      refine ⟨_, _, rfl, lenS (small_line (by omega)), ?_⟩
      walk_at "go"
      refine ⟨_, _, rfl, lenS (small_line (by omega)), ?_⟩
      walk_at "go"
      refine ⟨.str y, z.length, z.length, z, rfl, .inl ⟨y, rfl, by omega, fun H4 s4 => ?_⟩⟩
      have e : textB z.length z.length z y = true := by
        unfold textB
        rw [decide_eq_true (by omega), decide_eq_true (by omega), Bool.true_and, Bool.true_and]
        exact List.all_eq_true.mpr fun c hc => decide_eq_true (hy'.2 c hc)
      rw [e]
      exact q _ s4
    · intro D H' hD sm e
      walk_at "go"
      exact r_allT e (k _ (s1.trans sm))
end
end K4

/-! P11d -/


namespace K4
open PySem L2 K1
abbrev sAsTuples : Stmt := top 15
abbrev nAsTuples : List Str := ["thing", "inner"]
theorem scAsTuples : FnScope nAsTuples ["thing"] (defScope sAsTuples) := ⟨rfl, rfl, rfl, by decide +kernel, rfl, by decide +kernel, by decide +kernel⟩
abbrev sCountParts : Stmt := top 48
abbrev nCountParts : List Str := ["rule", "inner"]
theorem scCountParts : FnScope nCountParts ["rule"] (defScope sCountParts) := ⟨rfl, rfl, rfl, by decide +kernel, rfl, by decide +kernel, by decide +kernel⟩
mutual
def wdt : PyData → Bool
  | .tuple ds => decide (ds.length ≤ 1000) && wdtA ds
  | .list ds => decide (ds.length ≤ 1000) && wdtA ds
  | _ => true
def wdtA : List PyData → Bool
  | [] => true
  | d :: ds => wdt d && wdtA ds
end
mutual
def tupd : PyData → PyData
  | .tuple ds => .tuple (tupA ds)
  | .list ds => .tuple (tupA ds)
  | d => d
def tupA : List PyData → List PyData
  | [] => []
  | d :: ds => tupd d :: tupA ds
end
theorem tupA_map : ∀ ds : List PyData, tupA ds = ds.map tupd
  | [] => rfl
  | d :: ds => by rw [tupA, tupA_map ds]; rfl
theorem tupd_sq (t : Bool) (ds : List PyData) : tupd (sq t ds) = .tuple (ds.map tupd) := by
  cases t
  · show tupd (.list ds) = _
    rw [tupd, tupA_map]
  · show tupd (.tuple ds) = _
    rw [tupd, tupA_map]
theorem wdtA_iff : ∀ {ds : List PyData}, wdtA ds = true ↔ ∀ d ∈ ds, wdt d = true
  | [] => by simp [wdtA]
  | d :: ds => by simp [wdtA, wdtA_iff]
theorem wdt_sq {t : Bool} {ds : List PyData} (h : ds.length ≤ 1000) (k : ∀ d ∈ ds, wdt d = true) : wdt (sq t ds) = true := by
  cases t
  · show wdt (.list ds) = true
    rw [wdt, decide_eq_true h, wdtA_iff.mpr k]; rfl
  · show wdt (.tuple ds) = true
    rw [wdt, decide_eq_true h, wdtA_iff.mpr k]; rfl
theorem tupd_nums (ns : List Nat) : (ns.map pn).map tupd = ns.map pn := by
  rw [List.map_map]
  exact List.map_congr_left fun n _ => by simp [pn, tupd]
theorem wdt_nums {t : Bool} {ns : List Nat} (h : ns.length ≤ 1000) : wdt (sq t (ns.map pn)) = true := wdt_sq (by rw [List.length_map]; exact h) fun d hd => by obtain ⟨n, _, rfl⟩ := List.mem_map.mp hd; simp [pn, wdt]
theorem Ow.tup (t : Bool) (o : Ow) : (o.data t).map tupd = o.data true := by
  cases o with
  | sum m ws g => simp only [Ow.data, List.map_cons, List.map_nil, tupd_sq, tupd_nums]; simp [pn, tupd, sq]
  | square rows gs =>
    simp only [Ow.data, List.map_cons, List.map_nil, tupd_sq, tupd_nums, List.map_map]
    simp only [sq, if_true]
    refine congrArg (fun x => [PyData.tuple x, PyData.tuple (gs.map pn)]) ?_
    exact List.map_congr_left fun r _ => by
      show tupd (sq t (r.map pn)) = _
      rw [tupd_sq, tupd_nums]
  | faces fs =>
    simp only [Ow.data, List.map_cons, List.map_nil, tupd_sq, List.map_map]
    simp only [sq, if_true]
    refine congrArg (fun x => [PyData.tuple x]) ?_
    exact List.map_congr_left fun r _ => by simp [tupd]
  | cut a b => simp [Ow.data, pn, tupd]
  | _ => simp [Ow.data]
theorem Ow.wdt {o : Ow} (h : o.ok) (t : Bool) : ∀ d ∈ o.data t, K4.wdt d = true := by
  cases o with
  | sum m ws g =>
    intro d hd
    simp only [Ow.data, List.mem_cons, List.not_mem_nil, or_false] at hd
    rcases hd with rfl | rfl | rfl
    · simp [pn, K4.wdt]
    · exact wdt_nums (by have := h.2.2.1.2.1; omega)
    · simp [pn, K4.wdt]
  | square rows gs =>
    intro d hd
    simp only [Ow.data, List.mem_cons, List.not_mem_nil, or_false] at hd
    rcases hd with rfl | rfl
    · exact wdt_sq (by rw [List.length_map]; have := h.2.1; omega) fun d hd => by obtain ⟨r, hr, rfl⟩ := List.mem_map.mp hd; exact wdt_nums (by have := (h.2.2.1 r hr).2.1; omega)
    · exact wdt_nums (by have := h.2.2.2.2.1; omega)
  | faces fs =>
    intro d hd
    simp only [Ow.data, List.mem_cons, List.not_mem_nil, or_false] at hd
    subst hd
    exact wdt_sq (by rw [List.length_map]; have := h.2.1; omega) fun d hd => by obtain ⟨r, hr, rfl⟩ := List.mem_map.mp hd; simp [K4.wdt]
  | cut a b =>
    intro d hd
    simp only [Ow.data, List.mem_cons, List.not_mem_nil, or_false] at hd
    rcases hd with rfl | rfl <;> simp [pn, K4.wdt]
  | _ => intro d hd; simp [Ow.data] at hd
mutual
theorem tupd_pure : ∀ d : PyData, flatN d = true → pure (tupd d) = true
  | .none, _ => by simp [tupd, pure]
  | .int _, _ => by simp [tupd, pure]
  | .str _, _ => by simp [tupd, pure]
  | .tuple ds, h => by rw [tupd, pure]; exact tupA_pure ds (by simpa [flatN] using h)
  | .list ds, h => by rw [tupd, pure]; exact tupA_pure ds (by simpa [flatN] using h)
  | .bool _, h => by simp [flatN] at h
  | .dict _, h => by simp [flatN] at h
theorem tupA_pure : ∀ ds : List PyData, flatA ds = true → pureA (tupA ds) = true
  | [], _ => by simp [tupA, pureA]
  | d :: ds, h => by
    simp only [flatA, Bool.and_eq_true] at h
    rw [tupA, pureA, tupd_pure d h.1, tupA_pure ds h.2]
    rfl
end
theorem depthA_mem {n : Nat} : ∀ {ds : List PyData}, PyData.depthAll ds ≤ n → ∀ d ∈ ds, d.depth ≤ n
  | [], _, d, h => by simp at h
  | e :: ds, h, d, hd => by
    rw [PyData.depthAll] at h
    rcases List.mem_cons.mp hd with rfl | hd
    · omega
    · exact depthA_mem (by omega) d hd
def spAsT (K : PySem.W.Frag) (n : Nat) : Sp := fun vs H Q _ => ∃ (v : V) (d : PyData), vs = [v] ∧ Dp K H v d ∧ flatN d = true ∧ wdt d = true ∧ d.depth < n ∧ ∀ H' v', Same H H' → Dp K H' v' (tupd d) → Q v' H'
section
variable {P : Program} {w : World} {K : PySem.W.Frag} {mg : Str → Option Value} {base : Heap} {dO dI : Addr}
theorem dp_tuple {H : Hp} {v : V} {ds : List PyData} (h : Dp K H v (.tuple ds)) : ∃ a xs, v = .ref a ∧ SqT K H a xs ∧ DpAll K H xs ds := by
  cases h with
  | tup a b => exact ⟨_, _, rfl, a, b⟩
abbrev OAsT (n : Nat) (P : Program) (w : World) (K : PySem.W.Frag) (mg : Str → Option Value) (base : Heap) : Prop := Own P w K mg base "as_tuples" (n + 1) ["thing"] (spAsT K n)
theorem ok_asTuples {n : Nat} {f : Addr} {fd : FuncData} (F : Fun K "as_tuples" "as_tuples" sAsTuples f fd) (B : Bl mg) (Oit : OIsTuple P w K mg base) (Oas : OAsT n P w K mg base) : FnOk P w K mg base CX0 (n + 1 + 1) f fd ["thing"] (spAsT K (n + 1)) := by
  refine F.ok scAsTuples (fun vs H Q E h => ?_) (fun cdv A outer s H vs Q E hr h => ?_)
  · obtain ⟨v, d, rfl, _⟩ := h
    rfl
  · obtain ⟨v, d, rfl, hv, hf, hw, hd, k⟩ := h
    refine ⟨_, (pss_cons (ps_if (pt_not (pt_val (pe_own Oit (hr.mono (by omega)) (pa_cons (pv 0) pa_nil)))) (pss_one (ps_ret (pv 0))) pss_nil) (pss_one (ps_ret (pe_callTy call_tuple_of (by rfl) B.tuple (by decide +kernel) (pa_cons (pe_lc (own := [("inner", 1)]) (g := gName 1) (tt := tYes) rfl scAsTuples.nd (pi_sq (pv 0)) (blkOk_by (N := nAsTuples) (sc := defScope sAsTuples) (by decide +kernel)) (fun _ _ _ _ _ => (pg_name (i := 1) scAsTuples.nd rfl (Or.inl rfl))) (fun _ _ _ _ _ => pts_nil) (fun _ _ _ _ _ => (pe_own Oas hr (pa_cons (pv 1) pa_nil)))) pa_nil))))), ?_⟩
    try dsimp only [cxOf, Cx.nox, Cx.wish]
    walk_at "go"
    have seq : ∀ (t : Bool) (ds : List PyData), d = sq t ds → ∃ xs, Sq K H v xs ∧ DpAll K H xs ds ∧ flatA ds = true ∧ ds.length ≤ 1000 ∧ wdtA ds = true ∧ PyData.depthAll ds < n := fun t ds e => by
      subst e
      obtain ⟨xs, h1, h2⟩ := dp_sq hv
      refine ⟨xs, h1, h2, ?_⟩
      cases t
      · have hw' : wdt (.list ds) = true := hw
        have hd' : (PyData.list ds).depth < n + 1 := hd
        rw [wdt, Bool.and_eq_true, decide_eq_true_eq] at hw'
        rw [PyData.depth] at hd'
        exact ⟨by simpa [sq, flatN] using hf, hw'.1, hw'.2, by omega⟩
      · have hw' : wdt (.tuple ds) = true := hw
        have hd' : (PyData.tuple ds).depth < n + 1 := hd
        rw [wdt, Bool.and_eq_true, decide_eq_true_eq] at hw'
        rw [PyData.depth] at hd'
        exact ⟨by simpa [sq, flatN] using hf, hw'.1, hw'.2, by omega⟩
    have two : (NoSeq K H v ∧ tupd d = d) ∨ ∃ t ds, d = sq t ds := by
      cases hv with
      | non => exact .inl ⟨noSeq_non, by simp [tupd]⟩
      | int i => exact .inl ⟨noSeq_int, by simp [tupd]⟩
      | str x => exact .inl ⟨noSeq_str, by simp [tupd]⟩
      | bl b => simp [flatN] at hf
      | lst a b => exact .inr ⟨false, _, rfl⟩
      | tup a b => exact .inr ⟨true, _, rfl⟩
    rcases two with ⟨hn, e⟩ | ⟨t, ds, e⟩
    · refine ⟨v, false, rfl, .inr ⟨rfl, hn⟩, fun H1 s1 => ?_⟩
      walk_at "go"
      exact k H1 v s1 (by rw [e]; exact dp_keep (Same.keeps s1) _ _ hv)
    · obtain ⟨xs, hS, hA, hfA, hl, hwA, hdA⟩ := seq t ds e
      subst e
      rw [tupd_sq] at k
      have hpA : pureA (ds.map tupd) = true := by rw [← tupA_map]; exact tupA_pure ds hfA
      have hxl := dpA_len hA
      refine ⟨v, true, rfl, .inl ⟨rfl, xs, hS⟩, fun H1 s1 => ?_⟩
      walk_at "go"
      refine lc_sq (hS.same s1) (fun _ => rfl) (fun acc H' => DpAll K H' acc ((ds.map tupd).take acc.length) ∧ Same H1 H') (fun D hD => ⟨.nil, same_new hD⟩) (fun D acc H' _ _ q => Same.keeps q.2) ?_ _ ?_ (fun J h => h)
      · rintro D i x acc H' hD hx la hacc ⟨ha, sm⟩
        obtain ⟨di, hdi, hxd⟩ := dpA_get hA hx
        have hmem := List.mem_of_getElem? hdi
        have hil := (List.getElem?_eq_some_iff.mp hdi).1
        walk_at "go"
        refine ⟨x, di, rfl, dp_keep (Same.keeps (s1.trans sm)) _ _ hxd, flatA_iff.mp hfA di hmem, wdtA_iff.mp hwA di hmem, Nat.lt_of_le_of_lt (depthA_mem (Nat.le_refl _) di hmem) hdA, fun H2 v2 s2 d2 => ?_⟩
        refine pp_next (s2 _ _ hacc) la (line60 (by omega)) ⟨?_, same_upd (sm.trans s2) hD⟩
        have kt : KT K H2 (upd H2 D (.lst (acc ++ [v2]))) := kt_lst (s2 _ _ hacc)
        have e2 : ds.map tupd = ds.map tupd := rfl
        have pt : pureA ((ds.map tupd).take acc.length) = true := pureA_iff.mpr fun y hy => pureA_iff.mp hpA y (List.mem_of_mem_take hy)
        have r1 := dpA_app (dpA_pure kt _ _ pt (dpA_keep (Same.keeps s2) _ _ ha)) (.cons (dp_pure kt _ _ (tupd_pure di (flatA_iff.mp hfA di hmem)) d2) .nil)
        rw [la, ← List.map_take, take_next hdi, List.map_take] at r1
        rw [List.length_append, la]
        exact r1
      · rintro D acc H' hD la hacc ⟨ha, sm⟩
        rw [la, hxl, ← List.length_map (f := tupd), List.take_length] at ha
        walk_at "go"
        refine ⟨D, acc, rfl, .inl ⟨SqL.of hacc, fun l hl => ?_⟩⟩
        have s3 := same_new (o := HO.tup acc) hl
        exact k _ _ (s1.trans (sm.trans s3)) (.tup (SqT.of upd_same) (dpA_keep (Same.keeps s3) _ _ ha))
theorem as_all {f : Addr} {fd : FuncData} (F : Fun K "as_tuples" "as_tuples" sAsTuples f fd) (B : Bl mg) (Oit : OIsTuple P w K mg base) (m : mg "as_tuples" = some (.ref f)) (b : Binds K fd ["thing"] []) : ∀ n : Nat, OAsT n P w K mg base
  | 0 => ⟨f, fd, none_ok fun vs H Q E h => by obtain ⟨v, d, _, _, _, _, hd, _⟩ := h; omega, m, F.kp, b⟩
  | n + 1 => ⟨f, fd, ok_asTuples F B Oit (as_all F B Oit m b n), m, F.kp, b⟩
end
end K4

/-! P11e -/


namespace K4
open PySem L2 K1
abbrev sHasForm : Stmt := top 45
abbrev nHasForm : List Str := ["signs", "part", "word", "values", "many"]
theorem scHasForm : FnScope nHasForm ["signs", "part"] (defScope sHasForm) := ⟨rfl, rfl, rfl, by decide +kernel, rfl, by decide +kernel, by decide +kernel⟩
/-- no rule, told at its head -/
def BadR (K : PySem.W.Frag) (H : Hp) (v : V) : Prop :=
  NoSeq K H v ∨ (∃ x : Str, Sq K H v [.str x] ∧ ∀ k < 9, x ≠ wd k) ∨ (∃ (k : Nat) (xs : List V), k < 9 ∧ Sq K H v (.str (wd k) :: xs) ∧ xs.length ≤ 3 ∧ xs.length ≠ mn k + ar k) ∨
  (∃ (a b : Nat) (x : V), Sq K H v [.str (wd 8), vi a, vi b, x] ∧ a ≤ 3 ∧ 3 < b)
theorem NoSeq.same {K : PySem.W.Frag} {H H' : Hp} {v : V} (h : NoSeq K H v) (s : Same H H') : NoSeq K H' v := by
  obtain ⟨t, a, b⟩ := h
  exact ⟨t, fun H2 s2 => a H2 (s.trans s2), b⟩
theorem BadR.same {K : PySem.W.Frag} {H H' : Hp} {v : V} (h : BadR K H v) (s : Same H H') : BadR K H' v := by
  rcases h with h | ⟨x, h, e⟩ | ⟨k, xs, hk, h, l⟩ | ⟨a, b, x, h, l⟩
  · exact .inl (h.same s)
  · exact .inr (.inl ⟨x, h.same s, e⟩)
  · exact .inr (.inr (.inl ⟨k, xs, hk, h.same s, l⟩))
  · exact .inr (.inr (.inr ⟨a, b, x, h.same s, l⟩))
def spHasForm (K : PySem.W.Frag) : Sp := fun vs H Q _ => ∃ (z : Str) (v : V), vs = [.str z, v] ∧ z.length ≤ 12 ∧ ((∃ r : R, RAt K H v r ∧ r.ow.fit (tl z) ∧ r.inner.length = ar r.ow.kind ∧ ∀ H', Same H H' → Q (.bl true) H') ∨ (BadR K H v ∧ ∀ H', Same H H' → Q (.bl false) H'))
theorem r_neY {p : Prop} {dp : Decidable p} {A B : Prop} (h : p) (q : B) : if (!decide p) = true then A else B := by
  rw [decide_eq_true h]; exact q
theorem r_neN {p : Prop} {dp : Decidable p} {A B : Prop} (h : ¬ p) (q : A) : if (!decide p) = true then A else B := by
  rw [decide_eq_false h]; exact q
theorem mn_ar : ∀ k < 9, mn k + ar k ≤ 3 := by decide
section
variable {P : Program} {w : World} {K : PySem.W.Frag} {mg : Str → Option Value} {base : Heap} {dO dI : Addr}
abbrev OIsSum (P : Program) (w : World) (K : PySem.W.Frag) (mg : Str → Option Value) (base : Heap) : Prop := Own P w K mg base "is_sum" 3 ["values"] (spIsSum K)
abbrev OIsSquare (P : Program) (w : World) (K : PySem.W.Frag) (mg : Str → Option Value) (base : Heap) : Prop := Own P w K mg base "is_square" 5 ["signs", "values"] (spIsSquare K)
abbrev OAreFaces (P : Program) (w : World) (K : PySem.W.Frag) (mg : Str → Option Value) (base : Heap) : Prop := Own P w K mg base "are_faces" 3 ["signs", "thing"] (spAreFaces K)
abbrev OOwnV (P : Program) (w : World) (K : PySem.W.Frag) (mg : Str → Option Value) (base : Heap) : Prop := Own P w K mg base "own_values" 1 ["part"] (spOwn K)
abbrev OInner (P : Program) (w : World) (K : PySem.W.Frag) (mg : Str → Option Value) (base : Heap) : Prop := Own P w K mg base "inner_rules" 1 ["part"] (spInner K)
theorem ok_hasForm {f : Addr} {fd : FuncData} (F : Fun K "has_form" "has_form" sHasForm f fd) (B : Bl mg) (G : G11 K w mg dO dI) (Ito : OIsTupleOf P w K mg base) (Owi : OWithin P w K mg base) (Oov : OOwnV P w K mg base) (Osu : OIsSum P w K mg base) (Osq : OIsSquare P w K mg base) (Ofa : OAreFaces P w K mg base) :
    FnOk P w K mg base CX0 6 f fd ["signs", "part"] (spHasForm K) := by
  refine F.ok scHasForm (fun vs H Q E h => ?_) (fun cdv A outer s H vs Q E hr h => ?_)
  · obtain ⟨z, v, rfl, _⟩ := h
    rfl
  · obtain ⟨z, v, rfl, hz, h⟩ := h
    obtain ⟨es, m, DD⟩ := G.ovD
    refine ⟨_, (pss_cons (ps_if (PW.pt (pw_or (pt_not (pt_val (pe_own Ito (hr.mono (by omega)) (pa_cons (pv 1) (pa_cons pe_int (pa_cons pe_int pa_nil)))))) (pw_or (pt_not (pt_val (pe_callB (id := "isinstance") (r := rIsi K) call_isi (by rfl) B.isin (by decide +kernel) (pa_cons (pe_ix ix_seq (pv 1) pe_int (fun _ _ => rfl)) (pa_cons (pe_bltn (v := .ty "str") (by rfl) B.str (by decide +kernel) rfl) pa_nil))))) (pw_or1 (pt_cmpR (op_notIn_kd DD) (pe_ix ix_seq (pv 1) pe_int (fun _ _ => rfl)) (pe_gR G.OV) (by rfl)))))) (pss_one (ps_ret pe_bl)) pss_nil) (pss_cons (ps_set (i := 2) scHasForm.nd rfl (Or.inl rfl) (pe_ix ix_seq (pv 1) pe_int (fun _ _ => rfl))) (pss_cons (ps_if (pt_cmpR op_ne (pe_callB call_len (by rfl) B.len PySem.boot_len (pa_cons (pv 1) pa_nil)) (pe_op op_add (pe_op op_add pe_int (pe_ix ix_kdict (pe_gR G.OV) (pv 2) (fun _ _ => rfl))) (pe_ix ix_kdict (pe_gR G.IR) (pv 2) (fun _ _ => rfl))) (nomark _)) (pss_one (ps_ret pe_bl)) pss_nil) (pss_cons (ps_set (i := 3) scHasForm.nd rfl (Or.inl rfl) (pe_own Oov (hr.mono (by omega)) (pa_cons (pv 1) pa_nil))) (pss_cons (ps_if (pt_cmpR op_eq (pv 2) pe_str (nomark _)) (pss_one (ps_ret (pe_own Osu (hr.mono (by omega)) (pa_cons (pv 3) pa_nil)))) pss_nil) (pss_cons (ps_if (pt_cmpR op_eq (pv 2) pe_str (nomark _)) (pss_one (ps_ret (pe_own Osq (hr.mono (by omega)) (pa_cons (pv 0) (pa_cons (pv 3) pa_nil))))) pss_nil) (pss_cons (ps_if (pt_cmpR op_eq (pv 2) pe_str (nomark _)) (pss_one (ps_ret (pe_own Ofa (hr.mono (by omega)) (pa_cons (pv 0) (pa_cons (pe_ix ix_seq (pv 3) pe_int (fun _ _ => rfl)) pa_nil))))) pss_nil) (pss_one (ps_ret (pe_callB (cr_all rfl) (by rfl) B.all (by decide +kernel) (pa_cons (pe_lc (own := [("many", 4)]) (g := gName 4) (tt := tYes) rfl scHasForm.nd (pi_sq (pv 3)) (blkOk_by (N := nHasForm) (sc := defScope sHasForm) (by decide +kernel)) (fun _ _ _ _ _ => (pg_name (i := 4) scHasForm.nd rfl (Or.inl rfl))) (fun _ _ _ _ _ => pts_nil) (fun _ _ _ _ _ => (pe_own Owi (hr.mono (by omega)) (pa_cons (pv 4) (pa_cons pe_int (pa_cons (pe_gI G.MOST_CUT) pa_nil)))))) pa_nil))))))))))), ?_⟩
    try dsimp only [cxOf, Cx.nox, Cx.wish]
    walk_at "go"
    have cmpW : ∀ {k j : Nat}, k < 9 → j < 9 → k ≠ j → ¬ (V.str (wd k) = V.str (wd j)) := fun hk hj ne q => ne (wd_inj _ hk _ hj (V.str.inj q))
    rcases h with ⟨r, hR, hfit, har, k⟩ | ⟨hb, k⟩
    · obtain ⟨xs, is, hS, hO, hI⟩ := hR.open
      have lx := hO.len
      have li := hI.len
      have hk9 := r.ow.kind_lt
      have hmn := mn_ar r.ow.kind hk9
      refine ⟨v, 1, 4, rfl, .inl ⟨_, hS, fun H1 s1 => ?_⟩⟩
      rw [List.length_cons, List.length_append, lx, li, har, decide_eq_true (by omega), decide_eq_true (by omega)]
      walk_at "go"
      refine r_ixSq (hS.same s1) at0 ?_
      walk_at "go"
      refine r_isi (b := true) (.ty "str") (.base (.str _)) (kit_ty (by decide +kernel)) ?_
      walk_at "go"
      refine r_ixSq (hS.same s1) at0 ?_
      walk_at "go"
      obtain ⟨u, hu⟩ := G.ovN _ hk9
      refine ⟨_, some u, rfl, rfl, hu, ?_⟩
      walk_at "go"
      refine r_ixSq (hS.same s1) at0 ?_
      walk_at "go"
      refine ⟨_, _, rfl, (hS.same s1).len, ?_⟩
      walk_at "go"
      refine r_kd (G.ov _ hk9) ?_
      walk_at "go"
      refine r_kd (G.ir _ hk9) ?_
      walk_at "go"
      refine r_neY (congrArg V.int (by rw [List.length_cons, List.length_append, lx, li, har]; omega)) ?_
      walk_at "go"
      refine ⟨v, r.ow.kind, xs, is, rfl, hk9, hS.same s1, lx, fun v' H2 s2 hv' => ?_⟩
      have s12 := s1.trans s2
      have hO2 := hO.keep (Same.keeps s12)
      clear hO hS
      generalize r.ow = o at *
      walk_at "go"
      refine r_ite (fun h5 => ?_) (fun h5 => ?_)
      · have e := kind_of (k := 5) (by decide) h5
        cases o <;> first | (exact absurd e (by simp only [Ow.kind]; decide)) | skip
        rename_i m' ws g
        walk_at "go"
        exact ⟨v', xs, tl z, m', ws, g, rfl, hv', hO2, hfit, fun H3 s3 => k _ (s12.trans s3)⟩
      walk_at "go"
      refine r_ite (fun h6 => ?_) (fun h6 => ?_)
      · have e := kind_of (k := 6) (by decide) h6
        cases o <;> first | (exact absurd e (by simp only [Ow.kind]; decide)) | skip
        rename_i rows gs
        walk_at "go"
        exact ⟨z, v', xs, rows, gs, rfl, hz, hv', hO2, hfit, fun H3 s3 => k _ (s12.trans s3)⟩
      walk_at "go"
      refine r_ite (fun h7 => ?_) (fun h7 => ?_)
      · have e := kind_of (k := 7) (by decide) h7
        cases o <;> first | (exact absurd e (by simp only [Ow.kind]; decide)) | skip
        rename_i fs
        obtain ⟨fv, rfl, hf⟩ := hO2
        walk_at "go"
        refine r_ixSq hv' at0 ?_
        walk_at "go"
        exact ⟨z, fv, fs, rfl, hz, hf, hfit, fun H3 s3 => k _ (s12.trans s3)⟩
      walk_at "go"
      have hx : xs.length ≤ 1000 ∧ ∀ x ∈ xs, ∃ y : Nat, x = vi y ∧ y ≤ 3 := by
        cases o with
        | sum m' ws g => exact absurd rfl h5
        | square rows gs => exact absurd rfl h6
        | faces fs => exact absurd rfl h7
        | cut a b =>
          obtain rfl : xs = [vi a, vi b] := hO2
          refine ⟨by show 2 ≤ 1000; decide, fun x hx => ?_⟩
          simp only [List.mem_cons, List.not_mem_nil, or_false] at hx
          rcases hx with rfl | rfl
          · exact ⟨a, rfl, hfit.1⟩
          · exact ⟨b, rfl, hfit.2⟩
        | any => obtain rfl : xs = [] := hO2; exact ⟨Nat.zero_le _, fun x hx => by cases hx⟩
        | back => obtain rfl : xs = [] := hO2; exact ⟨Nat.zero_le _, fun x hx => by cases hx⟩
        | not => obtain rfl : xs = [] := hO2; exact ⟨Nat.zero_le _, fun x hx => by cases hx⟩
        | both => obtain rfl : xs = [] := hO2; exact ⟨Nat.zero_le _, fun x hx => by cases hx⟩
        | either => obtain rfl : xs = [] := hO2; exact ⟨Nat.zero_le _, fun x hx => by cases hx⟩
      refine lc_true hv' hx.1 (fun _ => rfl) ?_ _ ?_ (fun J h => h)
      · intro i x H' R hxi sm q
        obtain ⟨y, rfl, hy⟩ := hx.2 x (List.mem_of_getElem? hxi)
        walk_at "go"
        refine ⟨(y : Int), 0, 3, rfl, ?_⟩
        rw [decide_eq_true (by omega), decide_eq_true (by omega)]
        exact q _ (Same.refl _)
      · intro D H' hD sm e
        walk_at "go"
        exact r_allT e (k _ (s12.trans sm))
    · rcases hb with hn | ⟨x, hS, hx⟩ | ⟨kd, xs, hk9, hS, hl, hne⟩ | ⟨a, b, x, hS, ha, hb⟩
      · refine ⟨v, 1, 4, rfl, .inr ⟨hn, fun H1 s1 => ?_⟩⟩
        walk_at "go"
        exact k _ s1
      · refine ⟨v, 1, 4, rfl, .inl ⟨_, hS, fun H1 s1 => ?_⟩⟩
        rw [show (([V.str x].length : Nat) : Int) = 1 from rfl, decide_eq_true (by omega), decide_eq_true (by omega)]
        walk_at "go"
        refine r_ixSq (hS.same s1) at0 ?_
        walk_at "go"
        refine r_isi (b := true) (.ty "str") (.base (.str _)) (kit_ty (by decide +kernel)) ?_
        walk_at "go"
        refine r_ixSq (hS.same s1) at0 ?_
        walk_at "go"
        refine ⟨_, none, rfl, rfl, G.ovX x hx, ?_⟩
        walk_at "go"
        exact k _ s1
      · refine ⟨v, 1, 4, rfl, .inl ⟨_, hS, fun H1 s1 => ?_⟩⟩
        rw [List.length_cons, decide_eq_true (by omega), decide_eq_true (by omega)]
        walk_at "go"
        refine r_ixSq (hS.same s1) at0 ?_
        walk_at "go"
        refine r_isi (b := true) (.ty "str") (.base (.str _)) (kit_ty (by decide +kernel)) ?_
        walk_at "go"
        refine r_ixSq (hS.same s1) at0 ?_
        walk_at "go"
        obtain ⟨u, hu⟩ := G.ovN _ hk9
        refine ⟨_, some u, rfl, rfl, hu, ?_⟩
        walk_at "go"
        refine r_ixSq (hS.same s1) at0 ?_
        walk_at "go"
        refine ⟨_, _, rfl, (hS.same s1).len, ?_⟩
        walk_at "go"
        refine r_kd (G.ov _ hk9) ?_
        walk_at "go"
        refine r_kd (G.ir _ hk9) ?_
        walk_at "go"
        refine r_neN (fun q => hne (by have := V.int.inj q; rw [List.length_cons] at this; omega)) ?_
        walk_at "go"
        exact k _ s1
      · refine ⟨v, 1, 4, rfl, .inl ⟨_, hS, fun H1 s1 => ?_⟩⟩
        rw [show (([V.str (wd 8), vi a, vi b, x].length : Nat) : Int) = 4 from rfl, decide_eq_true (by omega), decide_eq_true (by omega)]
        walk_at "go"
        refine r_ixSq (hS.same s1) at0 ?_
        walk_at "go"
        refine r_isi (b := true) (.ty "str") (.base (.str _)) (kit_ty (by decide +kernel)) ?_
        walk_at "go"
        refine r_ixSq (hS.same s1) at0 ?_
        walk_at "go"
        obtain ⟨u, hu⟩ := G.ovN 8 (by decide)
        refine ⟨_, some u, rfl, rfl, hu, ?_⟩
        walk_at "go"
        refine r_ixSq (hS.same s1) at0 ?_
        walk_at "go"
        refine ⟨_, _, rfl, (hS.same s1).len, ?_⟩
        walk_at "go"
        refine r_kd (G.ov 8 (by decide)) ?_
        walk_at "go"
        refine r_kd (G.ir 8 (by decide)) ?_
        walk_at "go"
        refine ⟨v, 8, [vi a, vi b], [x], rfl, by decide, hS.same s1, rfl, fun v' H2 s2 hv' => ?_⟩
        have s12 := s1.trans s2
        walk_at "go"
        refine lc_sq hv' (fun _ => rfl) (fun acc H' => acc = ([true, false].take acc.length).map V.bl ∧ Same H2 H') (fun D hD => ⟨rfl, same_new hD⟩) (fun D acc H' _ _ q => Same.keeps q.2) ?_ _ ?_ (fun J h => h)
        · rintro D i x' acc H' hD hx la hacc ⟨hacc', sm⟩
          walk_at "go"
          match i, hx with
          | 0, hx =>
            obtain rfl := Option.some.inj hx
            refine ⟨(a : Int), 0, 3, rfl, ?_⟩
            rw [decide_eq_true (by omega), decide_eq_true (by omega)]
            exact pp_next hacc la (line60 (by decide)) ⟨acc_next (f := V.bl) (a := true) hacc' la rfl, same_upd sm hD⟩
          | 1, hx =>
            obtain rfl := Option.some.inj hx
            refine ⟨(b : Int), 0, 3, rfl, ?_⟩
            rw [decide_eq_true (by omega), decide_eq_false (by omega)]
            exact pp_next hacc la (line60 (by decide)) ⟨acc_next (f := V.bl) (a := false) hacc' la rfl, same_upd sm hD⟩
          | i + 2, hx => cases hx
        · rintro D acc H' hD la hacc ⟨hacc', sm⟩
          rw [la] at hacc'
          walk_at "go"
          refine r_all (bs := [true, false]) (by rw [hacc'] at hacc; exact SqL.of hacc) ?_
          exact k _ (s12.trans sm)
abbrev OHasForm (P : Program) (w : World) (K : PySem.W.Frag) (mg : Str → Option Value) (base : Heap) : Prop := Own P w K mg base "has_form" 6 ["signs", "part"] (spHasForm K)
theorem R.depth_pos : ∀ r : R, 1 ≤ r.depth
  | .n0 _ => Nat.le_refl _
  | .n1 _ _ => Nat.succ_le_succ (Nat.zero_le _)
  | .n2 _ _ _ => Nat.succ_le_succ (Nat.zero_le _)
def spCount (K : PySem.W.Frag) (n : Nat) : Sp := fun vs H Q _ => ∃ (v : V) (r : R), vs = [v] ∧ RAt K H v r ∧ r.depth ≤ n ∧ ∀ H', Same H H' → Q (.int r.parts) H'
theorem sum_cast : ∀ ns : List Nat, (ns.map fun n : Nat => (n : Int)).sum = ((ns.sum : Nat) : Int)
  | [] => rfl
  | n :: ns => by rw [List.map_cons, List.sum_cons, List.sum_cons, sum_cast ns]; omega
theorem inner_len : ∀ r : R, r.inner.length ≤ 2
  | .n0 _ => by simp [R.inner]
  | .n1 _ _ => by simp [R.inner]
  | .n2 _ _ _ => by simp [R.inner]
abbrev OCount (n : Nat) (P : Program) (w : World) (K : PySem.W.Frag) (mg : Str → Option Value) (base : Heap) : Prop := Own P w K mg base "count_parts" (n + 1) ["rule"] (spCount K n)
theorem ok_count {n : Nat} {f : Addr} {fd : FuncData} (F : Fun K "count_parts" "count_parts" sCountParts f fd) (B : Bl mg) (Oin : OInner P w K mg base) (Ocp : OCount n P w K mg base) : FnOk P w K mg base CX0 (n + 1 + 1) f fd ["rule"] (spCount K (n + 1)) := by
  refine F.ok scCountParts (fun vs H Q E h => ?_) (fun cdv A outer s H vs Q E hr h => ?_)
  · obtain ⟨v, r, rfl, _⟩ := h
    rfl
  · obtain ⟨v, r, rfl, hR, hd, k⟩ := h
    refine ⟨_, (pss_one (ps_ret (pe_op op_add pe_int (pe_callB (cr_sum rfl) (by rfl) B.sum (by decide +kernel) (pa_cons (pe_lc (own := [("inner", 1)]) (g := gName 1) (tt := tYes) rfl scCountParts.nd (pi_sq (pe_own Oin (hr.mono (by omega)) (pa_cons (pv 0) pa_nil))) (blkOk_by (N := nCountParts) (sc := defScope sCountParts) (by decide +kernel)) (fun _ _ _ _ _ => (pg_name (i := 1) scCountParts.nd rfl (Or.inl rfl))) (fun _ _ _ _ _ => pts_nil) (fun _ _ _ _ _ => (pe_own Ocp (hr.mono (by omega)) (pa_cons (pv 1) pa_nil)))) pa_nil))))), ?_⟩
    try dsimp only [cxOf, Cx.nox, Cx.wish]
    obtain ⟨xs, is, hS, hO, hI⟩ := hR.open
    walk_at "go"
    refine ⟨v, r.ow.kind, xs, is, rfl, r.ow.kind_lt, hS, hO.len, fun p H1 hp s1 hi => ?_⟩
    have hI1 := hI.keep (Same.keeps s1)
    have li := hI.len
    have l2 := inner_len r
    refine lc_sq hi (fun _ => rfl) (fun acc H' => acc = ((r.inner.map R.parts).take acc.length).map vi ∧ Same H1 H') (fun D hD => ⟨rfl, same_new hD⟩) (fun D acc H' _ _ q => Same.keeps q.2) ?_ _ ?_ (fun J h => h)
    · rintro D i x acc H' hD hx la hacc ⟨ha, sm⟩
      obtain ⟨ri, hri, hRA⟩ := hI1.get hx
      have hmem := List.mem_of_getElem? hri
      walk_at "go"
      refine ⟨x, ri, rfl, hRA.keep (Same.keeps sm), by have := R.in_depth ri hmem; omega, fun H4 s4 => ?_⟩
      exact pp_next (s4 _ _ hacc) la (line60 (by have := (List.getElem?_eq_some_iff.mp hri).1; omega)) ⟨acc_next (f := vi) (a := ri.parts) ha la (by rw [List.getElem?_map, hri]; rfl), same_upd (sm.trans s4) hD⟩
    · rintro D acc H' hD la hacc ⟨ha, sm⟩
      rw [la, li, ← List.length_map (f := R.parts), List.take_length] at ha
      walk_at "go"
      refine r_sum (ns := (r.inner.map R.parts).map fun n : Nat => (n : Int)) (by rw [ha] at hacc; rw [List.map_map]; exact SqL.of hacc) ?_
      walk_at "go"
      rw [sum_cast]
      have e : (1 : Int) + ((r.inner.map R.parts).sum : Nat) = (r.parts : Nat) := by rw [r.parts_eq]; omega
      rw [e]
      exact k _ (s1.trans sm)
theorem cp_all {f : Addr} {fd : FuncData} (F : Fun K "count_parts" "count_parts" sCountParts f fd) (B : Bl mg) (Oin : OInner P w K mg base) (m : mg "count_parts" = some (.ref f)) (b : Binds K fd ["rule"] []) : ∀ n : Nat, OCount n P w K mg base
  | 0 => ⟨f, fd, none_ok fun vs H Q E h => by obtain ⟨v, r, _, _, hd, _⟩ := h; have := R.depth_pos r; omega, m, F.kp, b⟩
  | n + 1 => ⟨f, fd, ok_count F B Oin (cp_all F B Oin m b n), m, F.kp, b⟩
end
end K4

/-! X1 -/
/-! super().__init__(text) of an own exception over ValueError. -/
namespace K1
open PySem L2 PyProof.Rows PySem.W PySem.Calls
theorem init_code {P : Program} {w : World} {A : Around} {R : Result → Shared → Prop} {h : Heap} {g : Array GenState} {d : Drawn} {t : Nat} {os : OsState} {C e t0 : Addr} {rest : List Value}
    (he : h.get? e = some (HandSPX.excO C t0)) (hrest : rest.length ≤ sizeLine)
    (hq : ∀ (h' : Heap) (t1 : Addr), (∀ b o, b ≠ e → h.get? b = some o → h'.get? b = some o) → h'.get? e = some (HandSPX.excO C t1) → R (.ok (.ret .none)) ⟨h', g, d, t, os⟩) :
    codeAny (model P w) A (.builtin "ValueError.__init__" ⟨.ref e :: rest, []⟩) R ⟨h, g, d, t, os⟩ := by
  refine codeAny_builtin F.excBase_ValueError.initEntry ?_
  rw [Around.under_plainId F.excBase_ValueError.init.plain]
  unfold Builtin.«BaseException.__init__»
  refine wpAny_ite_false (by rfl) ?_
  refine wpAny_bind (wpAny_newTuple ?_ hrest)
  have he' := Heap.get?_push_of_some ⟨.type "tuple", none, .seq rest.toArray 0, #[]⟩ he
  refine wpAny_bind ?_
  unfold Builtin.BaseException.bexcPut
  refine wpAny_bind ?_
  unfold field
  refine wpAny_bind ?_
  unfold fieldsOf
  refine wpAny_bind (wpAny_load' he' ?_)
  refine wpAny_pure ?_
  show wpAny _ _ (pure (Value.ref t0)) _ _ _
  refine wpAny_pure ?_
  refine wpAny_bind ?_
  unfold setField
  refine wpAny_bind (wpAny_load' he' ?_)
  refine wpAny_ite_true (by rfl) ?_
  refine wpAny_update' he' ?_
  refine wpAny_letGo ?_
  refine wpAny_pure ?_
  refine hq _ h.objs.size (fun b o hb e1 => ?_) ?_
  · rw [Heap.get?_update_ne _ _ _ _ hb]
    exact Heap.get?_push_of_some _ e1
  · exact Heap.get?_update_self _ he' rfl
theorem call_mw {P : Program} {w : World} {A : Around} {E : Value → Shared → Prop} {h : Heap} {g : Array GenState} {d : Drawn} {t : Nat} {os : OsState} {nm q : Str} {C N : Addr} {bs bm : List Value} {hdct : Bool} {sn : List Str} {sub : List Value} {ab : Bool} {col : Option Bool} {dd : Option Addr} {k0 k1 k2 k3 k5 : Option Value}
    {u e t0 : Addr} {rest : List Value} {Q : Value → Shared → Prop}
    (hC : h.get? C = some (excClassObj nm q C N bs bm hdct sn sub ab col dd k0 k1 k2 k3 k5 "ValueError.__new__")) (he : h.get? e = some (HandSPX.excO C t0)) (hu : h.get? u = some (kxs_mw "ValueError.__init__" e)) (hrest : rest.length ≤ sizeLine)
    (hq : ∀ (h' : Heap) (t1 : Addr), (∀ b o, b ≠ e → h.get? b = some o → h'.get? b = some o) → h'.get? e = some (HandSPX.excO C t1) → Q .none ⟨h', g, d, t, os⟩) :
    wpAny (model P w) A (call (.ref u) rest) Q E ⟨h, g, d, t, os⟩ := by
  refine wpAny_call (codeAny_of_tree ?_)
  show wpAny _ _ (callAny (.ref u) ⟨rest, []⟩) _ _ _
  unfold callAny
  refine wpAny_bind (wpAny_load hu ?_)
  dsimp only [kxs_mw]
  rw [if_pos (by decide)]
  show wpAny _ _ (if (Value.type "method-wrapper" != Value.type "method") = true then do
          checkBoundCall "ValueError.__init__" { pos := .ref e :: rest }
          again (Code.builtin "ValueError.__init__" { pos := .ref e :: rest })
        else again (Code.call (.builtin "ValueError.__init__") { pos := .ref e :: rest })) _ _ _
  rw [if_pos (by decide)]
  exact wpAny_bind (check_bound_init F.excBase_ValueError.toExcCallFacts hC he rfl (wpAny_pure ⟨Code.quiet_builtin _ (by decide +kernel), init_code he hrest hq⟩))
end K1

/-! X8n -/
/-! An error with its own __init__, made where nothing is handled: its context is None. -/
namespace K1
open PySem L2 PyProof.Rows PySem.W PySem.Calls
theorem mk_ctx {X : Cx} {pins : List (Addr × Obj)} {σ : L2.St} {Q : XK} {a C t : Addr} {d : Option Addr} {s' : Shared} (h : MkP X pins σ Q (.ref a) s') (e : s'.heap.get? a = some ⟨.ref C, d, .fields #[.ref t, .none, .none, .none, .bool false, .none], #[]⟩) : L2N.MkP X pins σ Q (.ref a) s' := by
  obtain ⟨a', oe, vs, sI, H', cls, d', ea, I, k, n, g, hz, hd, h1, hn, os, b, r, q⟩ := h
  obtain rfl : a = a' := Value.ref.inj ea
  rw [e] at g
  obtain rfl := Option.some.inj g
  refine ⟨a, _, vs, sI, H', cls, d', rfl, I, k, n, e, ⟨hz.1, hz.2, fun ws hw => ?_⟩, hd, h1, hn, os, b, r, q⟩
  obtain rfl := Data.fields.inj hw
  rfl
theorem pmk_oexN {X : Cx} {e : Expr} {es : List Expr} {ta : TA} {p pos : Pos} {x : Str} {C fI : Addr} {k : Nat} {fd : FuncData} {ps : List Str} {sp : Sp} (T : OexC X.K C) (iC : findIn X.K (.ref C) "__init__" = some (some (.ref fI))) (tI : typeIn X.K (.ref fI) = some (.type "function")) (F1 : FnOk X.prog X.w X.K X.mg X.base CX0 k fI fd ps sp) (hr : Room (k + 1) X.A) (hb : Binds X.K fd ps []) (hg : Gl X x) (hm : X.mg x = some (.ref C)) (ha : PA X (e :: es) ta)
    (hdb : (x == ("__debug__" : Str)) = false := by decide) (he : starEach (e :: es) X.env = (false, eval e X.env) :: starEach es X.env := by rfl) (hpl : (backTo pos (starEach es X.env)).any (·.1) = false := by rfl) :
    L2N.PMk X (.Call (.Name x p) (e :: es) [] pos) (tMkO C sp [] ta) := by
  intro pins s σ H Q I h
  obtain ⟨nm, q, N, bs, bm, sn, sub, ab, col, dd, k0, k1, k2, k3, k5, hC, hbm⟩ := T.cls
  refine wpAny_Call_Name_kw (ld_glob I hg hm (callWith_K I.ok.mod.kin T.kC (thn (ha.run pos pins s σ H _ I h) ?_) he hpl) hdb)
  rintro us s1 ⟨vs, H1, I1, r1, hz, q1⟩
  refine ⟨I1.kIn, ?_⟩
  obtain ⟨hp, g, dr, tk, os⟩ := s1
  have hsz := Nat.le_succ hp.objs.size
  have hn := HOk.fresh I1.hok hsz
  have hq := q1 (hp.objs.size + 1) hn
  have kk : ∀ b o, hp.get? b = some o → ((hp.push (kdv_tup us)).push (HandSPX.excO C hp.objs.size)).get? b = some o := fun b o e => Heap.get?_push_of_some _ (Heap.get?_push_of_some _ e)
  have hget : ((hp.push (kdv_tup us)).push (HandSPX.excO C hp.objs.size)).get? (hp.objs.size + 1) = some (HandSPX.excO C hp.objs.size) := Heap.get?_push_at (by rw [Heap.size_push]) rfl
  have I2 := Inv.laid (t' := tk) I1 kk hsz (exo_ok hget)
  have r2 : Vals (V.ref (hp.objs.size + 1) :: (vs ++ [])) (Value.ref (hp.objs.size + 1) :: us) := by
    rw [List.append_nil]
    exact .cons rfl r1
  have hl : (Value.ref (hp.objs.size + 1) :: us).length = ps.length := by
    rw [← Vals.length r2]
    exact F1.len _ _ _ _ hq
  have hus : us.length ≤ sizeLine := by
    rw [← Vals.length r1]
    exact small_line hz
  have hbb := hb ⟨(hp.push (kdv_tup us)).push (HandSPX.excO C hp.objs.size), g, dr, tk, os⟩ (.ref (hp.objs.size + 1) :: us) I2.kIn (by simpa using hl)
  refine wpAny_call (HandSPX.call_own F.excBase_ValueError (fun Y => HandSPX.refsVE_contains Y bm hbm) (I1.kIn C _ hC) (looks_findIn I1.kIn iC) (fun self => bind_fn I1.kIn self tI) hus (codeAny_mono (F1.run (X.A.under (.builtin "type.__call__" ⟨.ref C :: us, []⟩)) X.stack _ _ _ _ _ _ _ (Room.make hr C us []) (Env0.make I2.env0 C us []) (by simpa using hbb) r2 hq) ?_))
  intro r s' hq'
  cases r with
  | error er => exact hq'.elim
  | ok fl =>
    cases fl with
    | ret u =>
      obtain ⟨v, H2, os2, bare2, un2, hok2, rv, ev, d, fs, ea, ed, hd1, q2⟩ := hq'
      subst ev
      obtain ⟨h2, g2, d2, t2, os2'⟩ := s'
      obtain ⟨t1, et⟩ := exo_at hok2 ea
      exact ⟨rv, mk_ctx (mk_end (raises_own T.exC T.tyC) I1 hsz kk un2 hok2 os2 bare2 ea ed hd1 q2) et⟩
    | _ => exact hq'.elim
end K1

/-! E11 -/

namespace K1
open PySem L2 PyProof.Rows PySem.W PySem.Calls
abbrev sBadS : Stmt := inClass (top 4) 0
/-- what is known of the class of the errors, and of its __init__ -/
structure BadFS (P : Program) (K : Frag) (mg : Str → Option Value) (f : Addr) (fd : FuncData) (C : Addr) : Prop where
  ex : ∃ (oc : Value) (od : Option Addr) (kV doc pm : Value) (an : Option Addr) (ct : Value) (osl : Array (Option Value)) (cda cc : Addr) (ccl : Value) (cdd : Option Addr) (vs : Array Value) (ccs : Array (Option Value)) (file : Str) (tf : Tok) (cl : Value) (cld : Option Addr) (csl : Array (Option Value)),
    fd = ksFn "__init__" "BadSigns.__init__" (defArgs sBadS) (defBody sBadS) (defScope sBadS) .none kV doc pm an (.ref cda) ct cc ∧ K.lookup f = some ⟨oc, od, .func fd, osl⟩ ∧ codeIn K (.ref cda) "BadSigns.__init__" = true ∧
    K.lookup cda = some ⟨ccl, cdd, .fields vs, ccs⟩ ∧ vs[2]? = some (.str file tf) ∧ (P.main.file == file) = true ∧ K.lookup cc = some ⟨cl, cld, .cell (some (.ref C)), csl⟩
  sup : (List.lookup (PySem.Str.ofString "super") P.main.scope.names).isSome = false
  any : nsIn K cStatics "thirdparty.any" = some none
  mgS : mg "super" = none
  oex : OexC K C
  sin : ks_superIn K C C "__init__" = some (some (.builtin "ValueError.__init__"))
  subC : mroIn K C (.ref C) = some true
  subV : subIn K (.ref C) (.type "ValueError") = some true
  fi : findIn K (.ref C) "signs" = some none
def spBadS (C : Addr) : Sp := fun vs H Q _ => ∃ (a : Addr) (y : V), vs = [.ref a, y] ∧ H a = some (exo a C none) ∧ ∀ dx, H dx = none → dx ≠ a → Q .non (upd (upd H dx (exd dx [("signs", y)])) a (exo a C (some dx)))
section
variable {P : Program} {w : World} {K : PySem.W.Frag} {mg : Str → Option Value} {base : Heap}
theorem ok_badS {f C : Addr} {fd : FuncData} (F : BadFS P K mg f fd C) : FnOk P w K mg base CX0 1 f fd ["self", "signs"] (spBadS C) := by
  refine ⟨fun vs H Q E h => ?_, fun A outer s H args us vs Q E hr en hb hv hsp => ?_⟩
  · obtain ⟨a, y, rfl, _⟩ := h
    rfl
  obtain ⟨a, y, rfl, ha, k⟩ := hsp
  obtain ⟨oc, od, kV, doc, pm, an, ct, osl, cda, cc, ccl, cdd, vs, ccs, file, tf, cl, cld, csl, rfl, lk, hcd, lcd, hvs, hfile, lcc⟩ := F.ex
  obtain ⟨nm, q, N, bs, bm, sn, sub, ab, col, dd, k0, k1, k2, k3, k5, hC, hbm⟩ := F.oex.cls
  cases hv with
  | cons h1 t1 =>
  cases t1 with
  | cons h2 t2 =>
  cases t2 with
  | nil =>
  rename_i u1 u2
  have e1 : u1 = .ref a := h1
  subst e1
  have hda := hr.dp
  have kb : ∀ b o, base.get? b = some o → s.heap.get? b = some o := fun b o e => (en.bs b o e).1
  have X : K.In s.heap := en.mod.kin.keeps kb
  have hcl : clsIn K C = some { name := nm, bases := bs, mro := .ref C :: bm, ns := N, qualname := q, hasDict := true, slotNames := sn, subclasses := sub, abstract := ab, collection := col } := by unfold clsIn; rw [hC]
  obtain ⟨t0, ho⟩ := exo_at en.hok ha
  have nb : ∀ {b o}, base.get? b = some o → b ≠ a := fun e z => by rw [z] at e; have := (en.bs _ _ e).2; rw [ha] at this; cases this
  have aL : a ≠ s.heap.objs.size := Nat.ne_of_lt (Heap.lt_size ho)
  refine ks_codeAny_call_defAt (by omega) (X f _ lk) rfl (en.mod.nolimit.keeps kb) (codeRec_of X hcd) rfl hb (by show ∀ x ∈ (defScope sBadS).names, x.2 ≠ .cell; decide +kernel) ?_ (fun h₀ hns kp => ?_) (by rfl) (by rfl) (by rfl)
  · intro x hx
    rcases List.mem_cons.mp hx with rfl | hx
    · rfl
    · obtain rfl := List.mem_singleton.mp hx
      rfl
  have X0 : K.In h₀ := X.keeps kp
  refine ks_wpAt_execs_cons ?_
  refine ks_wpAt_Expr_any (ks_wpAt_MethodCall ?_ rfl) rfl rfl
  refine ks_wpAt_super_base rfl rfl rfl rfl (X0 f _ lk) rfl rfl rfl (X0 cda _ lcd) rfl hvs hfile F.sup ?_
  obtain ⟨mb, hb1, hb2⟩ := en.mod.blt
  have kb0 : ∀ b o, base.get? b = some o → h₀.get? b = some o := fun b o e => kp b o (kb b o e)
  show wpAny _ _ (loadGlobal _ "super") _ _ _
  refine loadGlobal_builtin (en.mod.glob.keeps kb0) F.mgS (hb1.keeps kb0) ((hb2 "super" (by decide)).trans (by decide +kernel)) ⟨rfl, ?_⟩
  refine wpAny_loadName_free rfl rfl rfl ⟨_, X0 cc _ lcc, rfl⟩ ?_
  refine wpAny_loadName_local rfl rfl hns rfl ?_
  refine ks_wpAny_isType_cls (X0 C _ hC) rfl ⟨rfl, ?_⟩
  refine ks_wpAny_call_super (X0 C _ hC) rfl (kp _ _ ho) rfl (by intro c h; cases h) (looks_mroIn X0 F.subC) (fun h1 hso kp1 => ?_)
  have X1 : K.In h1 := X0.keeps kp1
  have ho1 := kp1 _ _ (kp _ _ ho)
  have I1 : InstAt h1 a _ C none := ⟨ho1, rfl, rfl, trivial⟩
  refine kxs_getMethod kxs_ValueError hso (looks_opaque X1 F.any) (fun A Q E s k q => wpAny_bind (looks_clsIn X1 hcl A _ E s k (wpAny_pure q))) rfl X1 (by have := F.sin; unfold ks_superIn at this; rw [hcl] at this; exact this) (Looks.andThen I1.type (looks_subIn X1 F.subV)) (ks_ne X1 I1 hcl) rfl ?_
  have kp2 : ∀ b o, h₀.get? b = some o → (h1.push (kxs_mw "ValueError.__init__" a)).get? b = some o := fun b o e => Heap.get?_push_of_some _ (kp1 b o e)
  have hu : (h1.push (kxs_mw "ValueError.__init__" a)).get? h1.objs.size = some (kxs_mw "ValueError.__init__" a) := Heap.get?_push_at rfl rfl
  have hu1 : h1.get? h1.objs.size = none := by
    cases e : h1.get? h1.objs.size with
    | none => rfl
    | some o => exact absurd (Heap.lt_size e) (Nat.lt_irrefl _)
  have hC2 := kp2 _ _ (X0 C _ hC)
  have ho2 := kp2 _ _ (kp _ _ ho)
  revert kp2 hu hC2 ho2
  generalize h1.push (kxs_mw "ValueError.__init__" a) = hp2
  intro kp2 hu hC2 ho2
  refine kxs_callWith1 (h₀ := h1) (L := h1.objs.size + 1) (news := [(h1.objs.size, kxs_mw "ValueError.__init__" a)]) (x := a) (i := "ValueError.__init__") (fun p hp => ?_) (by simp) ?_ rfl rfl
  · obtain rfl := List.mem_singleton.mp hp
    exact ⟨hu, by simp, hu1⟩
  refine spliced_cons ?_
  refine Constant_str (x := "these are no signs") (k := 0) (pos := ⟨0, 0, 0, 0⟩) ?_
  refine spliced_nil ?_
  refine ⟨hu, ?_⟩
  refine call_mw hC2 ho2 hu (by show 1 ≤ sizeLine; decide) (fun h3 t1 kp3 ho3 => ?_)
  have kp3' : ∀ b o, b ≠ a → s.heap.get? b = some o → h3.get? b = some o := fun b o nb e => kp3 b o nb (kp2 b o (kp b o e))
  have hns3 : h3.Ns s.heap.objs.size (fun x => List.lookup x ([PySem.Str.ofString "self", PySem.Str.ofString "signs"].zip [Value.ref a, u2]).reverse) := by
    obtain ⟨o, es, ep, e, r⟩ := hns
    exact ⟨o, es, ep, kp3 _ _ aL.symm (kp2 _ _ e), r⟩
  have X3 : K.In h3 := fun b o e => kp3' b o (nb (en.mod.kin b o e)) (X b o e)
  dsimp only
  refine ks_wpAt_execs_cons ?_
  refine ks_wpAt_Assign_Attr ?_ rfl
  refine wpAt_of_wpAny ?_
  refine wpAny_Name (wpAny_loadName_local rfl rfl hns3 rfl ?_) rfl
  refine wpAny_Name (wpAny_loadName_local rfl rfl hns3 rfl ?_) rfl
  refine set_plain (ox := HandSPX.excO C t1) (od := none) X3 ⟨ho3, rfl, rfl, trivial⟩ F.oex.sa ?_
  refine HandSPX.exc_osa X3 ho3 hcl hbm rfl F.fi (fun h4 tk4 dx kp4 dn dne hx hn => ?_)
  refine wpAt_of_wpAny (wpAny_execs_nil ?_)
  have kp4' : ∀ b o, b ≠ a → s.heap.get? b = some o → h4.get? b = some o := fun b o nb e => kp4 b o nb (kp3' b o nb e)
  have dn' : h3.objs.size ≤ dx := dn
  have dnS : s.heap.objs.size ≤ dx := by
    rcases Nat.lt_or_ge dx s.heap.objs.size with q | q
    · exact absurd q (by
        have q0 : s.heap.objs.size < h3.objs.size := by
          obtain ⟨o, es, ep, e, r⟩ := hns3
          exact Heap.lt_size e
        omega)
    · exact q
  have hnd : H dx = none := HOk.fresh en.hok dnS
  have nd : ∀ {b o}, s.heap.get? b = some o → b ≠ dx := fun e => Nat.ne_of_lt (Nat.lt_of_lt_of_le (Heap.lt_size e) dnS)
  have na : ∀ {b}, H b = none → b ≠ a := fun e z => by rw [z, ha] at e; cases e
  show CR CX0 outer P w H s Q E (.ok (.ret .none)) _
  refine ⟨.non, upd (upd H dx (exd dx [("signs", y)])) a (exo a C (some dx)), rfl, en.bare, ⟨?_, ?_, ?_, ?_, ?_, ?_, ?_⟩, ?_, rfl, k dx hnd dne⟩
  · exact fun b o e n _ _ => kp4' b o (na n) e
  · exact fun b o e n _ _ => ⟨o.slots, kp4' b o (na n) e⟩
  · exact fun b o e n _ => by rw [upd_ne (na n), upd_ne (nd e)]; exact n
  · intro b o e _
    by_cases z : b = a
    · rw [z]; exact ⟨_, hx⟩
    · exact ⟨o, kp4' b o z e⟩
  · intro b xs e
    rw [upd_ne (at_ne ha e exo_tup), upd_ne (ne_of_none e hnd)]; exact e
  · intro b o v e
    rw [upd_ne (at_ne ha e exo_frz), upd_ne (ne_of_none e hnd)]; exact e
  · intro b ps e
    refine ⟨#[], ?_⟩
    rw [upd_ne (at_ne ha e (by intro z; cases z)), upd_ne (ne_of_none e hnd), Array.append_empty]; exact e
  · intro b o e
    by_cases z : b = a
    · subst z
      rw [upd_same] at e
      obtain rfl := Option.some.inj e
      exact ⟨⟨t1, hx⟩, ⟨_, hx⟩, fun h1 h2 ⟨t, e⟩ k => ⟨t, k _ e⟩⟩
    · rw [upd_ne z] at e
      by_cases z2 : b = dx
      · subst z2
        rw [upd_same] at e
        obtain rfl := Option.some.inj e
        refine ⟨⟨_, hn, fun g => ?_⟩, by obtain ⟨o, _, _, e, _⟩ := hn; exact ⟨o, e⟩, fun h1 h2 ⟨mA, ⟨o, es, ep, e, r⟩, q⟩ k => ⟨mA, ⟨o, es, ep, k _ e, r⟩, q⟩⟩
        by_cases z3 : g = "signs"
        · subst z3
          rw [if_pos rfl]
          exact h2
        · rw [if_neg z3, List.lookup_cons, beq_false_of_ne z3]
          exact trivial
      · rw [upd_ne z2] at e
        refine ObjOk.stay (en.hok b o e) (fun c u hc hu => ?_) (fun c hc => ?_) (fun c xs hc => ?_)
        · refine kp4' c u ?_ hu
          rcases hc with rfl | hc
          · exact z
          · exact at_ne ha hc (by intro z; cases z)
        · rw [upd_ne (at_ne ha hc (by intro z; cases z)), upd_ne (ne_of_none hc hnd)]; exact hc
        · rw [upd_ne (at_ne ha hc exo_tup), upd_ne (ne_of_none hc hnd)]; exact hc
end
structure ErrS (P : Program) (K : Frag) (mg : Str → Option Value) (C fI : Addr) (fdI : FuncData) : Prop where
  T : BadFS P K mg fI fdI C
  gC : mg "BadSigns" = some (.ref C)
  iC : findIn K (.ref C) "__init__" = some (some (.ref fI))
  tI : typeIn K (.ref fI) = some (.type "function")
  bI : Binds K fdI ["self", "signs"] []
abbrev sBadP : Stmt := inClass (top 5) 0
/-- what is known of the class of the errors, and of its __init__ -/
structure BadFP (P : Program) (K : Frag) (mg : Str → Option Value) (f : Addr) (fd : FuncData) (C : Addr) : Prop where
  ex : ∃ (oc : Value) (od : Option Addr) (kV doc pm : Value) (an : Option Addr) (ct : Value) (osl : Array (Option Value)) (cda cc : Addr) (ccl : Value) (cdd : Option Addr) (vs : Array Value) (ccs : Array (Option Value)) (file : Str) (tf : Tok) (cl : Value) (cld : Option Addr) (csl : Array (Option Value)),
    fd = ksFn "__init__" "BadPaper.__init__" (defArgs sBadP) (defBody sBadP) (defScope sBadP) .none kV doc pm an (.ref cda) ct cc ∧ K.lookup f = some ⟨oc, od, .func fd, osl⟩ ∧ codeIn K (.ref cda) "BadPaper.__init__" = true ∧
    K.lookup cda = some ⟨ccl, cdd, .fields vs, ccs⟩ ∧ vs[2]? = some (.str file tf) ∧ (P.main.file == file) = true ∧ K.lookup cc = some ⟨cl, cld, .cell (some (.ref C)), csl⟩
  sup : (List.lookup (PySem.Str.ofString "super") P.main.scope.names).isSome = false
  any : nsIn K cStatics "thirdparty.any" = some none
  mgS : mg "super" = none
  oex : OexC K C
  sin : ks_superIn K C C "__init__" = some (some (.builtin "ValueError.__init__"))
  subC : mroIn K C (.ref C) = some true
  subV : subIn K (.ref C) (.type "ValueError") = some true
  fi : findIn K (.ref C) "paper" = some none
def spBadP (C : Addr) : Sp := fun vs H Q _ => ∃ (a : Addr) (y : V), vs = [.ref a, y] ∧ H a = some (exo a C none) ∧ ∀ dx, H dx = none → dx ≠ a → Q .non (upd (upd H dx (exd dx [("paper", y)])) a (exo a C (some dx)))
section
variable {P : Program} {w : World} {K : PySem.W.Frag} {mg : Str → Option Value} {base : Heap}
theorem ok_badP {f C : Addr} {fd : FuncData} (F : BadFP P K mg f fd C) : FnOk P w K mg base CX0 1 f fd ["self", "paper"] (spBadP C) := by
  refine ⟨fun vs H Q E h => ?_, fun A outer s H args us vs Q E hr en hb hv hsp => ?_⟩
  · obtain ⟨a, y, rfl, _⟩ := h
    rfl
  obtain ⟨a, y, rfl, ha, k⟩ := hsp
  obtain ⟨oc, od, kV, doc, pm, an, ct, osl, cda, cc, ccl, cdd, vs, ccs, file, tf, cl, cld, csl, rfl, lk, hcd, lcd, hvs, hfile, lcc⟩ := F.ex
  obtain ⟨nm, q, N, bs, bm, sn, sub, ab, col, dd, k0, k1, k2, k3, k5, hC, hbm⟩ := F.oex.cls
  cases hv with
  | cons h1 t1 =>
  cases t1 with
  | cons h2 t2 =>
  cases t2 with
  | nil =>
  rename_i u1 u2
  have e1 : u1 = .ref a := h1
  subst e1
  have hda := hr.dp
  have kb : ∀ b o, base.get? b = some o → s.heap.get? b = some o := fun b o e => (en.bs b o e).1
  have X : K.In s.heap := en.mod.kin.keeps kb
  have hcl : clsIn K C = some { name := nm, bases := bs, mro := .ref C :: bm, ns := N, qualname := q, hasDict := true, slotNames := sn, subclasses := sub, abstract := ab, collection := col } := by unfold clsIn; rw [hC]
  obtain ⟨t0, ho⟩ := exo_at en.hok ha
  have nb : ∀ {b o}, base.get? b = some o → b ≠ a := fun e z => by rw [z] at e; have := (en.bs _ _ e).2; rw [ha] at this; cases this
  have aL : a ≠ s.heap.objs.size := Nat.ne_of_lt (Heap.lt_size ho)
  refine ks_codeAny_call_defAt (by omega) (X f _ lk) rfl (en.mod.nolimit.keeps kb) (codeRec_of X hcd) rfl hb (by show ∀ x ∈ (defScope sBadP).names, x.2 ≠ .cell; decide +kernel) ?_ (fun h₀ hns kp => ?_) (by rfl) (by rfl) (by rfl)
  · intro x hx
    rcases List.mem_cons.mp hx with rfl | hx
    · rfl
    · obtain rfl := List.mem_singleton.mp hx
      rfl
  have X0 : K.In h₀ := X.keeps kp
  refine ks_wpAt_execs_cons ?_
  refine ks_wpAt_Expr_any (ks_wpAt_MethodCall ?_ rfl) rfl rfl
  refine ks_wpAt_super_base rfl rfl rfl rfl (X0 f _ lk) rfl rfl rfl (X0 cda _ lcd) rfl hvs hfile F.sup ?_
  obtain ⟨mb, hb1, hb2⟩ := en.mod.blt
  have kb0 : ∀ b o, base.get? b = some o → h₀.get? b = some o := fun b o e => kp b o (kb b o e)
  show wpAny _ _ (loadGlobal _ "super") _ _ _
  refine loadGlobal_builtin (en.mod.glob.keeps kb0) F.mgS (hb1.keeps kb0) ((hb2 "super" (by decide)).trans (by decide +kernel)) ⟨rfl, ?_⟩
  refine wpAny_loadName_free rfl rfl rfl ⟨_, X0 cc _ lcc, rfl⟩ ?_
  refine wpAny_loadName_local rfl rfl hns rfl ?_
  refine ks_wpAny_isType_cls (X0 C _ hC) rfl ⟨rfl, ?_⟩
  refine ks_wpAny_call_super (X0 C _ hC) rfl (kp _ _ ho) rfl (by intro c h; cases h) (looks_mroIn X0 F.subC) (fun h1 hso kp1 => ?_)
  have X1 : K.In h1 := X0.keeps kp1
  have ho1 := kp1 _ _ (kp _ _ ho)
  have I1 : InstAt h1 a _ C none := ⟨ho1, rfl, rfl, trivial⟩
  refine kxs_getMethod kxs_ValueError hso (looks_opaque X1 F.any) (fun A Q E s k q => wpAny_bind (looks_clsIn X1 hcl A _ E s k (wpAny_pure q))) rfl X1 (by have := F.sin; unfold ks_superIn at this; rw [hcl] at this; exact this) (Looks.andThen I1.type (looks_subIn X1 F.subV)) (ks_ne X1 I1 hcl) rfl ?_
  have kp2 : ∀ b o, h₀.get? b = some o → (h1.push (kxs_mw "ValueError.__init__" a)).get? b = some o := fun b o e => Heap.get?_push_of_some _ (kp1 b o e)
  have hu : (h1.push (kxs_mw "ValueError.__init__" a)).get? h1.objs.size = some (kxs_mw "ValueError.__init__" a) := Heap.get?_push_at rfl rfl
  have hu1 : h1.get? h1.objs.size = none := by
    cases e : h1.get? h1.objs.size with
    | none => rfl
    | some o => exact absurd (Heap.lt_size e) (Nat.lt_irrefl _)
  have hC2 := kp2 _ _ (X0 C _ hC)
  have ho2 := kp2 _ _ (kp _ _ ho)
  revert kp2 hu hC2 ho2
  generalize h1.push (kxs_mw "ValueError.__init__" a) = hp2
  intro kp2 hu hC2 ho2
  refine kxs_callWith1 (h₀ := h1) (L := h1.objs.size + 1) (news := [(h1.objs.size, kxs_mw "ValueError.__init__" a)]) (x := a) (i := "ValueError.__init__") (fun p hp => ?_) (by simp) ?_ rfl rfl
  · obtain rfl := List.mem_singleton.mp hp
    exact ⟨hu, by simp, hu1⟩
  refine spliced_cons ?_
  refine Constant_str (x := "this is no paper") (k := 0) (pos := ⟨0, 0, 0, 0⟩) ?_
  refine spliced_nil ?_
  refine ⟨hu, ?_⟩
  refine call_mw hC2 ho2 hu (by show 1 ≤ sizeLine; decide) (fun h3 t1 kp3 ho3 => ?_)
  have kp3' : ∀ b o, b ≠ a → s.heap.get? b = some o → h3.get? b = some o := fun b o nb e => kp3 b o nb (kp2 b o (kp b o e))
  have hns3 : h3.Ns s.heap.objs.size (fun x => List.lookup x ([PySem.Str.ofString "self", PySem.Str.ofString "paper"].zip [Value.ref a, u2]).reverse) := by
    obtain ⟨o, es, ep, e, r⟩ := hns
    exact ⟨o, es, ep, kp3 _ _ aL.symm (kp2 _ _ e), r⟩
  have X3 : K.In h3 := fun b o e => kp3' b o (nb (en.mod.kin b o e)) (X b o e)
  dsimp only
  refine ks_wpAt_execs_cons ?_
  refine ks_wpAt_Assign_Attr ?_ rfl
  refine wpAt_of_wpAny ?_
  refine wpAny_Name (wpAny_loadName_local rfl rfl hns3 rfl ?_) rfl
  refine wpAny_Name (wpAny_loadName_local rfl rfl hns3 rfl ?_) rfl
  refine set_plain (ox := HandSPX.excO C t1) (od := none) X3 ⟨ho3, rfl, rfl, trivial⟩ F.oex.sa ?_
  refine HandSPX.exc_osa X3 ho3 hcl hbm rfl F.fi (fun h4 tk4 dx kp4 dn dne hx hn => ?_)
  refine wpAt_of_wpAny (wpAny_execs_nil ?_)
  have kp4' : ∀ b o, b ≠ a → s.heap.get? b = some o → h4.get? b = some o := fun b o nb e => kp4 b o nb (kp3' b o nb e)
  have dn' : h3.objs.size ≤ dx := dn
  have dnS : s.heap.objs.size ≤ dx := by
    rcases Nat.lt_or_ge dx s.heap.objs.size with q | q
    · exact absurd q (by
        have q0 : s.heap.objs.size < h3.objs.size := by
          obtain ⟨o, es, ep, e, r⟩ := hns3
          exact Heap.lt_size e
        omega)
    · exact q
  have hnd : H dx = none := HOk.fresh en.hok dnS
  have nd : ∀ {b o}, s.heap.get? b = some o → b ≠ dx := fun e => Nat.ne_of_lt (Nat.lt_of_lt_of_le (Heap.lt_size e) dnS)
  have na : ∀ {b}, H b = none → b ≠ a := fun e z => by rw [z, ha] at e; cases e
  show CR CX0 outer P w H s Q E (.ok (.ret .none)) _
  refine ⟨.non, upd (upd H dx (exd dx [("paper", y)])) a (exo a C (some dx)), rfl, en.bare, ⟨?_, ?_, ?_, ?_, ?_, ?_, ?_⟩, ?_, rfl, k dx hnd dne⟩
  · exact fun b o e n _ _ => kp4' b o (na n) e
  · exact fun b o e n _ _ => ⟨o.slots, kp4' b o (na n) e⟩
  · exact fun b o e n _ => by rw [upd_ne (na n), upd_ne (nd e)]; exact n
  · intro b o e _
    by_cases z : b = a
    · rw [z]; exact ⟨_, hx⟩
    · exact ⟨o, kp4' b o z e⟩
  · intro b xs e
    rw [upd_ne (at_ne ha e exo_tup), upd_ne (ne_of_none e hnd)]; exact e
  · intro b o v e
    rw [upd_ne (at_ne ha e exo_frz), upd_ne (ne_of_none e hnd)]; exact e
  · intro b ps e
    refine ⟨#[], ?_⟩
    rw [upd_ne (at_ne ha e (by intro z; cases z)), upd_ne (ne_of_none e hnd), Array.append_empty]; exact e
  · intro b o e
    by_cases z : b = a
    · subst z
      rw [upd_same] at e
      obtain rfl := Option.some.inj e
      exact ⟨⟨t1, hx⟩, ⟨_, hx⟩, fun h1 h2 ⟨t, e⟩ k => ⟨t, k _ e⟩⟩
    · rw [upd_ne z] at e
      by_cases z2 : b = dx
      · subst z2
        rw [upd_same] at e
        obtain rfl := Option.some.inj e
        refine ⟨⟨_, hn, fun g => ?_⟩, by obtain ⟨o, _, _, e, _⟩ := hn; exact ⟨o, e⟩, fun h1 h2 ⟨mA, ⟨o, es, ep, e, r⟩, q⟩ k => ⟨mA, ⟨o, es, ep, k _ e, r⟩, q⟩⟩
        by_cases z3 : g = "paper"
        · subst z3
          rw [if_pos rfl]
          exact h2
        · rw [if_neg z3, List.lookup_cons, beq_false_of_ne z3]
          exact trivial
      · rw [upd_ne z2] at e
        refine ObjOk.stay (en.hok b o e) (fun c u hc hu => ?_) (fun c hc => ?_) (fun c xs hc => ?_)
        · refine kp4' c u ?_ hu
          rcases hc with rfl | hc
          · exact z
          · exact at_ne ha hc (by intro z; cases z)
        · rw [upd_ne (at_ne ha hc (by intro z; cases z)), upd_ne (ne_of_none hc hnd)]; exact hc
        · rw [upd_ne (at_ne ha hc exo_tup), upd_ne (ne_of_none hc hnd)]; exact hc
end
structure ErrP (P : Program) (K : Frag) (mg : Str → Option Value) (C fI : Addr) (fdI : FuncData) : Prop where
  T : BadFP P K mg fI fdI C
  gC : mg "BadPaper" = some (.ref C)
  iC : findIn K (.ref C) "__init__" = some (some (.ref fI))
  tI : typeIn K (.ref fI) = some (.type "function")
  bI : Binds K fdI ["self", "paper"] []
abbrev sBadR : Stmt := inClass (top 6) 0
/-- what is known of the class of the errors, and of its __init__ -/
structure BadFR (P : Program) (K : Frag) (mg : Str → Option Value) (f : Addr) (fd : FuncData) (C : Addr) : Prop where
  ex : ∃ (oc : Value) (od : Option Addr) (kV doc pm : Value) (an : Option Addr) (ct : Value) (osl : Array (Option Value)) (cda cc : Addr) (ccl : Value) (cdd : Option Addr) (vs : Array Value) (ccs : Array (Option Value)) (file : Str) (tf : Tok) (cl : Value) (cld : Option Addr) (csl : Array (Option Value)),
    fd = ksFn "__init__" "BadRule.__init__" (defArgs sBadR) (defBody sBadR) (defScope sBadR) .none kV doc pm an (.ref cda) ct cc ∧ K.lookup f = some ⟨oc, od, .func fd, osl⟩ ∧ codeIn K (.ref cda) "BadRule.__init__" = true ∧
    K.lookup cda = some ⟨ccl, cdd, .fields vs, ccs⟩ ∧ vs[2]? = some (.str file tf) ∧ (P.main.file == file) = true ∧ K.lookup cc = some ⟨cl, cld, .cell (some (.ref C)), csl⟩
  sup : (List.lookup (PySem.Str.ofString "super") P.main.scope.names).isSome = false
  any : nsIn K cStatics "thirdparty.any" = some none
  mgS : mg "super" = none
  oex : OexC K C
  sin : ks_superIn K C C "__init__" = some (some (.builtin "ValueError.__init__"))
  subC : mroIn K C (.ref C) = some true
  subV : subIn K (.ref C) (.type "ValueError") = some true
  fi : findIn K (.ref C) "rule" = some none
def spBadR (C : Addr) : Sp := fun vs H Q _ => ∃ (a : Addr) (y : V), vs = [.ref a, y] ∧ H a = some (exo a C none) ∧ ∀ dx, H dx = none → dx ≠ a → Q .non (upd (upd H dx (exd dx [("rule", y)])) a (exo a C (some dx)))
section
variable {P : Program} {w : World} {K : PySem.W.Frag} {mg : Str → Option Value} {base : Heap}
theorem ok_badR {f C : Addr} {fd : FuncData} (F : BadFR P K mg f fd C) : FnOk P w K mg base CX0 1 f fd ["self", "rule"] (spBadR C) := by
  refine ⟨fun vs H Q E h => ?_, fun A outer s H args us vs Q E hr en hb hv hsp => ?_⟩
  · obtain ⟨a, y, rfl, _⟩ := h
    rfl
  obtain ⟨a, y, rfl, ha, k⟩ := hsp
  obtain ⟨oc, od, kV, doc, pm, an, ct, osl, cda, cc, ccl, cdd, vs, ccs, file, tf, cl, cld, csl, rfl, lk, hcd, lcd, hvs, hfile, lcc⟩ := F.ex
  obtain ⟨nm, q, N, bs, bm, sn, sub, ab, col, dd, k0, k1, k2, k3, k5, hC, hbm⟩ := F.oex.cls
  cases hv with
  | cons h1 t1 =>
  cases t1 with
  | cons h2 t2 =>
  cases t2 with
  | nil =>
  rename_i u1 u2
  have e1 : u1 = .ref a := h1
  subst e1
  have hda := hr.dp
  have kb : ∀ b o, base.get? b = some o → s.heap.get? b = some o := fun b o e => (en.bs b o e).1
  have X : K.In s.heap := en.mod.kin.keeps kb
  have hcl : clsIn K C = some { name := nm, bases := bs, mro := .ref C :: bm, ns := N, qualname := q, hasDict := true, slotNames := sn, subclasses := sub, abstract := ab, collection := col } := by unfold clsIn; rw [hC]
  obtain ⟨t0, ho⟩ := exo_at en.hok ha
  have nb : ∀ {b o}, base.get? b = some o → b ≠ a := fun e z => by rw [z] at e; have := (en.bs _ _ e).2; rw [ha] at this; cases this
  have aL : a ≠ s.heap.objs.size := Nat.ne_of_lt (Heap.lt_size ho)
  refine ks_codeAny_call_defAt (by omega) (X f _ lk) rfl (en.mod.nolimit.keeps kb) (codeRec_of X hcd) rfl hb (by show ∀ x ∈ (defScope sBadR).names, x.2 ≠ .cell; decide +kernel) ?_ (fun h₀ hns kp => ?_) (by rfl) (by rfl) (by rfl)
  · intro x hx
    rcases List.mem_cons.mp hx with rfl | hx
    · rfl
    · obtain rfl := List.mem_singleton.mp hx
      rfl
  have X0 : K.In h₀ := X.keeps kp
  refine ks_wpAt_execs_cons ?_
  refine ks_wpAt_Expr_any (ks_wpAt_MethodCall ?_ rfl) rfl rfl
  refine ks_wpAt_super_base rfl rfl rfl rfl (X0 f _ lk) rfl rfl rfl (X0 cda _ lcd) rfl hvs hfile F.sup ?_
  obtain ⟨mb, hb1, hb2⟩ := en.mod.blt
  have kb0 : ∀ b o, base.get? b = some o → h₀.get? b = some o := fun b o e => kp b o (kb b o e)
  show wpAny _ _ (loadGlobal _ "super") _ _ _
  refine loadGlobal_builtin (en.mod.glob.keeps kb0) F.mgS (hb1.keeps kb0) ((hb2 "super" (by decide)).trans (by decide +kernel)) ⟨rfl, ?_⟩
  refine wpAny_loadName_free rfl rfl rfl ⟨_, X0 cc _ lcc, rfl⟩ ?_
  refine wpAny_loadName_local rfl rfl hns rfl ?_
  refine ks_wpAny_isType_cls (X0 C _ hC) rfl ⟨rfl, ?_⟩
  refine ks_wpAny_call_super (X0 C _ hC) rfl (kp _ _ ho) rfl (by intro c h; cases h) (looks_mroIn X0 F.subC) (fun h1 hso kp1 => ?_)
  have X1 : K.In h1 := X0.keeps kp1
  have ho1 := kp1 _ _ (kp _ _ ho)
  have I1 : InstAt h1 a _ C none := ⟨ho1, rfl, rfl, trivial⟩
  refine kxs_getMethod kxs_ValueError hso (looks_opaque X1 F.any) (fun A Q E s k q => wpAny_bind (looks_clsIn X1 hcl A _ E s k (wpAny_pure q))) rfl X1 (by have := F.sin; unfold ks_superIn at this; rw [hcl] at this; exact this) (Looks.andThen I1.type (looks_subIn X1 F.subV)) (ks_ne X1 I1 hcl) rfl ?_
  have kp2 : ∀ b o, h₀.get? b = some o → (h1.push (kxs_mw "ValueError.__init__" a)).get? b = some o := fun b o e => Heap.get?_push_of_some _ (kp1 b o e)
  have hu : (h1.push (kxs_mw "ValueError.__init__" a)).get? h1.objs.size = some (kxs_mw "ValueError.__init__" a) := Heap.get?_push_at rfl rfl
  have hu1 : h1.get? h1.objs.size = none := by
    cases e : h1.get? h1.objs.size with
    | none => rfl
    | some o => exact absurd (Heap.lt_size e) (Nat.lt_irrefl _)
  have hC2 := kp2 _ _ (X0 C _ hC)
  have ho2 := kp2 _ _ (kp _ _ ho)
  revert kp2 hu hC2 ho2
  generalize h1.push (kxs_mw "ValueError.__init__" a) = hp2
  intro kp2 hu hC2 ho2
  refine kxs_callWith1 (h₀ := h1) (L := h1.objs.size + 1) (news := [(h1.objs.size, kxs_mw "ValueError.__init__" a)]) (x := a) (i := "ValueError.__init__") (fun p hp => ?_) (by simp) ?_ rfl rfl
  · obtain rfl := List.mem_singleton.mp hp
    exact ⟨hu, by simp, hu1⟩
  refine spliced_cons ?_
  refine Constant_str (x := "this is no rule") (k := 0) (pos := ⟨0, 0, 0, 0⟩) ?_
  refine spliced_nil ?_
  refine ⟨hu, ?_⟩
  refine call_mw hC2 ho2 hu (by show 1 ≤ sizeLine; decide) (fun h3 t1 kp3 ho3 => ?_)
  have kp3' : ∀ b o, b ≠ a → s.heap.get? b = some o → h3.get? b = some o := fun b o nb e => kp3 b o nb (kp2 b o (kp b o e))
  have hns3 : h3.Ns s.heap.objs.size (fun x => List.lookup x ([PySem.Str.ofString "self", PySem.Str.ofString "rule"].zip [Value.ref a, u2]).reverse) := by
    obtain ⟨o, es, ep, e, r⟩ := hns
    exact ⟨o, es, ep, kp3 _ _ aL.symm (kp2 _ _ e), r⟩
  have X3 : K.In h3 := fun b o e => kp3' b o (nb (en.mod.kin b o e)) (X b o e)
  dsimp only
  refine ks_wpAt_execs_cons ?_
  refine ks_wpAt_Assign_Attr ?_ rfl
  refine wpAt_of_wpAny ?_
  refine wpAny_Name (wpAny_loadName_local rfl rfl hns3 rfl ?_) rfl
  refine wpAny_Name (wpAny_loadName_local rfl rfl hns3 rfl ?_) rfl
  refine set_plain (ox := HandSPX.excO C t1) (od := none) X3 ⟨ho3, rfl, rfl, trivial⟩ F.oex.sa ?_
  refine HandSPX.exc_osa X3 ho3 hcl hbm rfl F.fi (fun h4 tk4 dx kp4 dn dne hx hn => ?_)
  refine wpAt_of_wpAny (wpAny_execs_nil ?_)
  have kp4' : ∀ b o, b ≠ a → s.heap.get? b = some o → h4.get? b = some o := fun b o nb e => kp4 b o nb (kp3' b o nb e)
  have dn' : h3.objs.size ≤ dx := dn
  have dnS : s.heap.objs.size ≤ dx := by
    rcases Nat.lt_or_ge dx s.heap.objs.size with q | q
    · exact absurd q (by
        have q0 : s.heap.objs.size < h3.objs.size := by
          obtain ⟨o, es, ep, e, r⟩ := hns3
          exact Heap.lt_size e
        omega)
    · exact q
  have hnd : H dx = none := HOk.fresh en.hok dnS
  have nd : ∀ {b o}, s.heap.get? b = some o → b ≠ dx := fun e => Nat.ne_of_lt (Nat.lt_of_lt_of_le (Heap.lt_size e) dnS)
  have na : ∀ {b}, H b = none → b ≠ a := fun e z => by rw [z, ha] at e; cases e
  show CR CX0 outer P w H s Q E (.ok (.ret .none)) _
  refine ⟨.non, upd (upd H dx (exd dx [("rule", y)])) a (exo a C (some dx)), rfl, en.bare, ⟨?_, ?_, ?_, ?_, ?_, ?_, ?_⟩, ?_, rfl, k dx hnd dne⟩
  · exact fun b o e n _ _ => kp4' b o (na n) e
  · exact fun b o e n _ _ => ⟨o.slots, kp4' b o (na n) e⟩
  · exact fun b o e n _ => by rw [upd_ne (na n), upd_ne (nd e)]; exact n
  · intro b o e _
    by_cases z : b = a
    · rw [z]; exact ⟨_, hx⟩
    · exact ⟨o, kp4' b o z e⟩
  · intro b xs e
    rw [upd_ne (at_ne ha e exo_tup), upd_ne (ne_of_none e hnd)]; exact e
  · intro b o v e
    rw [upd_ne (at_ne ha e exo_frz), upd_ne (ne_of_none e hnd)]; exact e
  · intro b ps e
    refine ⟨#[], ?_⟩
    rw [upd_ne (at_ne ha e (by intro z; cases z)), upd_ne (ne_of_none e hnd), Array.append_empty]; exact e
  · intro b o e
    by_cases z : b = a
    · subst z
      rw [upd_same] at e
      obtain rfl := Option.some.inj e
      exact ⟨⟨t1, hx⟩, ⟨_, hx⟩, fun h1 h2 ⟨t, e⟩ k => ⟨t, k _ e⟩⟩
    · rw [upd_ne z] at e
      by_cases z2 : b = dx
      · subst z2
        rw [upd_same] at e
        obtain rfl := Option.some.inj e
        refine ⟨⟨_, hn, fun g => ?_⟩, by obtain ⟨o, _, _, e, _⟩ := hn; exact ⟨o, e⟩, fun h1 h2 ⟨mA, ⟨o, es, ep, e, r⟩, q⟩ k => ⟨mA, ⟨o, es, ep, k _ e, r⟩, q⟩⟩
        by_cases z3 : g = "rule"
        · subst z3
          rw [if_pos rfl]
          exact h2
        · rw [if_neg z3, List.lookup_cons, beq_false_of_ne z3]
          exact trivial
      · rw [upd_ne z2] at e
        refine ObjOk.stay (en.hok b o e) (fun c u hc hu => ?_) (fun c hc => ?_) (fun c xs hc => ?_)
        · refine kp4' c u ?_ hu
          rcases hc with rfl | hc
          · exact z
          · exact at_ne ha hc (by intro z; cases z)
        · rw [upd_ne (at_ne ha hc (by intro z; cases z)), upd_ne (ne_of_none hc hnd)]; exact hc
        · rw [upd_ne (at_ne ha hc exo_tup), upd_ne (ne_of_none hc hnd)]; exact hc
end
structure ErrR (P : Program) (K : Frag) (mg : Str → Option Value) (C fI : Addr) (fdI : FuncData) : Prop where
  T : BadFR P K mg fI fdI C
  gC : mg "BadRule" = some (.ref C)
  iC : findIn K (.ref C) "__init__" = some (some (.ref fI))
  tI : typeIn K (.ref fI) = some (.type "function")
  bI : Binds K fdI ["self", "rule"] []
/-- what an error bears -/
def Err (C : Addr) (f : Str) (x : V) (H : Hp) (E : XK) : Prop := ∀ H' d, Same H H' → H' d = some (.xd [(f, x)]) → H d = none → E (.ref C) (some d) H'
theorem Err.same {C : Addr} {f : Str} {x : V} {H H1 : Hp} {E : XK} (h : Err C f x H E) (s : Same H H1) : Err C f x H1 E := fun H' d s' e n => h H' d (s.trans s') e (Same.free s n)
theorem rzS {C : Addr} {x : V} {H1 : Hp} {E : XK} (er : Err C "signs" x H1 E) : [x].length ≤ 1000 ∧ ∀ a : Addr, H1 a = none → spBadS C (V.ref a :: ([x] ++ [])) (upd H1 a (exo a C none))
      (fun v H2 => v = V.non ∧ ∃ d fs, H2 a = some (exo a C (some d)) ∧ H2 d = some (exd d fs) ∧ H1 d = none ∧ E (Value.ref C) (some d) (upd (del H2 a) d (HO.xd fs))) fun x x_1 x_2 => False := by
  refine ⟨(by show 1 ≤ 1000; decide), fun a ha => ⟨a, x, rfl, upd_same, fun dx hdx ne => ?_⟩⟩
  rw [upd_ne ne] at hdx
  refine ⟨rfl, dx, [("signs", x)], upd_same, by rw [upd_ne ne, upd_same], hdx, ?_⟩
  refine er _ _ (fun c o e => ?_) upd_same hdx
  have n1 : c ≠ dx := ne_of_none e hdx
  have n2 : c ≠ a := ne_of_none e ha
  rw [upd_ne n1, del_ne n2, upd_ne n2, upd_ne n1, upd_ne n2]
  exact e
theorem rzP {C : Addr} {x : V} {H1 : Hp} {E : XK} (er : Err C "paper" x H1 E) : [x].length ≤ 1000 ∧ ∀ a : Addr, H1 a = none → spBadP C (V.ref a :: ([x] ++ [])) (upd H1 a (exo a C none))
      (fun v H2 => v = V.non ∧ ∃ d fs, H2 a = some (exo a C (some d)) ∧ H2 d = some (exd d fs) ∧ H1 d = none ∧ E (Value.ref C) (some d) (upd (del H2 a) d (HO.xd fs))) fun x x_1 x_2 => False := by
  refine ⟨(by show 1 ≤ 1000; decide), fun a ha => ⟨a, x, rfl, upd_same, fun dx hdx ne => ?_⟩⟩
  rw [upd_ne ne] at hdx
  refine ⟨rfl, dx, [("paper", x)], upd_same, by rw [upd_ne ne, upd_same], hdx, ?_⟩
  refine er _ _ (fun c o e => ?_) upd_same hdx
  have n1 : c ≠ dx := ne_of_none e hdx
  have n2 : c ≠ a := ne_of_none e ha
  rw [upd_ne n1, del_ne n2, upd_ne n2, upd_ne n1, upd_ne n2]
  exact e
theorem rzR {C : Addr} {x : V} {H1 : Hp} {E : XK} (er : Err C "rule" x H1 E) : [x].length ≤ 1000 ∧ ∀ a : Addr, H1 a = none → spBadR C (V.ref a :: ([x] ++ [])) (upd H1 a (exo a C none))
      (fun v H2 => v = V.non ∧ ∃ d fs, H2 a = some (exo a C (some d)) ∧ H2 d = some (exd d fs) ∧ H1 d = none ∧ E (Value.ref C) (some d) (upd (del H2 a) d (HO.xd fs))) fun x x_1 x_2 => False := by
  refine ⟨(by show 1 ≤ 1000; decide), fun a ha => ⟨a, x, rfl, upd_same, fun dx hdx ne => ?_⟩⟩
  rw [upd_ne ne] at hdx
  refine ⟨rfl, dx, [("rule", x)], upd_same, by rw [upd_ne ne, upd_same], hdx, ?_⟩
  refine er _ _ (fun c o e => ?_) upd_same hdx
  have n1 : c ≠ dx := ne_of_none e hdx
  have n2 : c ≠ a := ne_of_none e ha
  rw [upd_ne n1, del_ne n2, upd_ne n2, upd_ne n1, upd_ne n2]
  exact e
end K1
namespace K4
open PySem L2 K1 PyProof.Rows
theorem okXN {P : Program} {w : World} {K : PySem.W.Frag} {mg : Str → Option Value} {base : Heap} {x qual : Str} {st : Stmt} {f : Addr} {fd : FuncData} {N ps : List Str} {k : Nat} {sp : Sp} (F : Fun K x qual st f fd) (S : FnScope N ps (defScope st)) (len : ∀ vs H Q E, sp vs H Q E → vs.length = ps.length)
    (hbody : ∀ (cdv : Value) (A : Around) (outer : List Env) (s : Shared) (H : Hp) (vs : List V) (Q : VK) (E : XK), Room k (A.deeper (PyProof.Rows.envOfC qual (defScope st) s.heap.objs.size f cdv)) → sp vs H Q E →
      ∃ t, PSs (cxOf (L2N.CX P w) P w K mg base N qual (defScope st) f cdv A outer s H E) (defBody st) t ∧ t { nx := fun _ H' => Q .non H', rt := Q } (L2.start N vs) H) : FnOk P w K mg base (L2N.CX P w) (k + 1) f fd ps sp := by
  obtain ⟨oc, od, kV, doc, pm, an, cdv, ct, osl, rfl, lk, hcd⟩ := F.ex
  exact fn_of lk hcd S len fun A outer s H vs Q E hr hsp => hbody cdv A outer s H vs Q E hr hsp
def OwnX (P : Program) (w : World) (K : PySem.W.Frag) (mg : Str → Option Value) (base : Heap) (x : Str) (k : Nat) (ps : List Str) (sp : Sp) : Prop :=
  ∃ (f : Addr) (fd : FuncData), FnOk P w K mg base (L2N.CX P w) k f fd ps sp ∧ mg x = some (.ref f) ∧ PySem.W.keepIn K (.ref f) = true ∧ Binds K fd ps []
theorem pe_ownX {X : Cx} {x : Str} {k : Nat} {ps : List Str} {sp : Sp} {E : XK} {e : Expr} {es : List Expr} {t : TA} {p pos : Pos} (O : OwnX X.prog X.w X.K X.mg X.base x k ps sp) (hr : Room k X.A) (hx : Passes (L2N.CX X.prog X.w) X E) (ha : PA X (e :: es) t) (hg : Gl X x := by rfl)
    (hdb : (x == ("__debug__" : Str)) = false := by decide) (he : starEach (e :: es) X.env = (false, eval e X.env) :: starEach es X.env := by rfl) (hpl : (backTo pos (starEach es X.env)).any (·.1) = false := by rfl) :
    PE X (.Call (.Name x p) (e :: es) [] pos) (tCall sp [] E t) := by
  obtain ⟨f, fd, G, m, kp, b⟩ := O
  exact pe_call G hr hg m kp b .nil hx ha hdb he hpl
theorem FnOk.calm {P : Program} {w : World} {K : PySem.W.Frag} {mg : Str → Option Value} {base : Heap} {k : Nat} {f : Addr} {fd : FuncData} {ps : List Str} {sp sp' : Sp} (F : FnOk P w K mg base (L2N.CX P w) k f fd ps sp)
    (h : ∀ vs H Q E, sp' vs H Q E → sp vs H Q (fun _ _ _ => False)) : FnOk P w K mg base CX0 k f fd ps sp' :=
  ⟨fun vs H Q E q => F.len vs H Q _ (h vs H Q E q), fun A outer s H args us vs Q E hr en hb hv q => codeAny_mono (F.run A outer s H args us vs Q _ hr en hb hv (h vs H Q E q)) fun r s' hq => by
    cases r with
    | ok fl => cases fl <;> exact hq
    | error e =>
      obtain ⟨_, _, _, _, _, _, _, _, _, _, _, _, hE⟩ := hq
      exact hE.elim⟩
end K4

/-! P11f -/


namespace K4
open PySem L2 K1
abbrev sChkPart : Stmt := top 47
abbrev nChkPart : List Str := ["signs", "part", "inner", "rule"]
theorem scChkPart : FnScope nChkPart ["signs", "part"] (defScope sChkPart) := ⟨rfl, rfl, rfl, by decide +kernel, rfl, by decide +kernel, by decide +kernel⟩
abbrev sChkRule : Stmt := top 46
abbrev nChkRule : List Str := ["signs", "rule", "told"]
theorem scChkRule : FnScope nChkRule ["signs", "rule"] (defScope sChkRule) := ⟨rfl, rfl, rfl, by decide +kernel, rfl, by decide +kernel, by decide +kernel⟩
abbrev sReqSigns : Stmt := top 22
abbrev nReqSigns : List Str := ["signs"]
theorem scReqSigns : FnScope nReqSigns ["signs"] (defScope sReqSigns) := ⟨rfl, rfl, rfl, by decide +kernel, rfl, by decide +kernel, by decide +kernel⟩
abbrev sReqPaper : Stmt := top 24
abbrev nReqPaper : List Str := ["signs", "paper"]
theorem scReqPaper : FnScope nReqPaper ["signs", "paper"] (defScope sReqPaper) := ⟨rfl, rfl, rfl, by decide +kernel, rfl, by decide +kernel, by decide +kernel⟩
abbrev sCheckRule : Stmt := top 50
abbrev nCheckRule : List Str := ["signs", "rule"]
theorem scCheckRule : FnScope nCheckRule ["signs", "rule"] (defScope sCheckRule) := ⟨rfl, rfl, rfl, by decide +kernel, rfl, by decide +kernel, by decide +kernel⟩
theorem dp_of_sq {K : PySem.W.Frag} {H : Hp} {v : V} {xs : List V} {ds : List PyData} (h : Sq K H v xs) (a : DpAll K H xs ds) : ∃ t, Dp K H v (sq t ds) := by
  obtain ⟨p, rfl, h | h⟩ := h
  · exact ⟨false, .lst h a⟩
  · exact ⟨true, .tup h a⟩
theorem dp_open {K : PySem.W.Frag} {H : Hp} {v : V} {r : R} {t : Bool} (h : Dp K H v (r.data t)) : ∃ xs is, Sq K H v (.str r.ow.word :: (xs ++ is)) ∧ DpAll K H xs (r.ow.data t) ∧ DpAll K H is (r.inner.map (R.data t)) ∧ xs.length = mn r.ow.kind ∧ is.length = r.inner.length := by
  rw [r.data_eq] at h
  obtain ⟨zs, h1, h2⟩ := dp_sq h
  cases h2 with
  | cons a b =>
    cases a
    obtain ⟨xs, is, rfl, p, q⟩ := dpA_split b
    exact ⟨xs, is, h1, p, q, by rw [dpA_len p, r.ow.data_len], by rw [dpA_len q, List.length_map]⟩
def spChk (K : PySem.W.Frag) (n : Nat) : Sp := fun vs H Q _ => ∃ (z : Str) (v : V) (r : R) (t : Bool), vs = [.str z, v] ∧ z.length ≤ 12 ∧ Dp K H v (r.data t) ∧ r.fit (tl z) ∧ r.ok ∧ r.depth ≤ n ∧ ∀ H' v', Same H H' → Dp K H' v' (r.data true) → Q v' H'
def spChkX (K : PySem.W.Frag) (C : Addr) : Sp := fun vs H Q E => ∃ (z : Str) (v : V), vs = [.str z, v] ∧ z.length ≤ 12 ∧ ((∃ (r : R) (t : Bool), Dp K H v (r.data t) ∧ r.fit (tl z) ∧ r.ok ∧ r.depth ≤ 41 ∧ ∀ H' v', Same H H' → Dp K H' v' (r.data true) → Q v' H') ∨ (BadR K H v ∧ Err C "rule" v H E))
def spChkR (K : PySem.W.Frag) (C : Addr) : Sp := fun vs H Q E => ∃ (z : Str) (v : V), vs = [.str z, v] ∧ z.length ≤ 12 ∧ ((∃ (r : R) (t : Bool), Dp K H v (r.data t) ∧ r.fit (tl z) ∧ r.ok ∧ r.parts ≤ 40 ∧ ∀ H' v', Same H H' → Dp K H' v' (r.data true) → Q v' H') ∨ (BadR K H v ∧ Err C "rule" v H E))
section
variable {P : Program} {w : World} {K : PySem.W.Frag} {mg : Str → Option Value} {base : Heap} {dO dI : Addr}
abbrev OChk (n : Nat) (P : Program) (w : World) (K : PySem.W.Frag) (mg : Str → Option Value) (base : Heap) : Prop := Own P w K mg base "checked_part" (n + 7) ["signs", "part"] (spChk K n)
theorem ok_chk {n : Nat} {f : Addr} {fd : FuncData} (F : Fun K "checked_part" "checked_part" sChkPart f fd) (B : Bl mg) (Ohf : OHasForm P w K mg base) (Oin : OInner P w K mg base) (Oov : OOwnV P w K mg base) (Oas : OAsT 4 P w K mg base) (Ock : OChk n P w K mg base) :
    FnOk P w K mg base CX0 (n + 1 + 7) f fd ["signs", "part"] (spChk K (n + 1)) := by
  refine F.ok scChkPart (fun vs H Q E h => ?_) (fun cdv A outer s H vs Q E hr h => ?_)
  · obtain ⟨z, v, r, t, rfl, _⟩ := h
    rfl
  · obtain ⟨z, v, r, t, rfl, hz, hv, hf, hok, hd, k⟩ := h
    refine ⟨_, (pss_cons (ps_if (pt_not (pt_val (pe_own Ohf (hr.mono (by omega)) (pa_cons (pv 0) (pa_cons (pv 1) pa_nil))))) (pss_one ps_never) pss_nil) (pss_cons (ps_setLc (i := 2) (own := [("rule", 3)]) (g := gName 3) (tt := tYes) rfl scChkPart.nd rfl rfl (sw_true rfl rfl rfl (by decide +kernel)) (pi_sq (pe_own Oin (hr.mono (by omega)) (pa_cons (pv 1) pa_nil))) (blkOk_by (N := nChkPart) (sc := defScope sChkPart) (by decide +kernel)) (fun _ _ _ _ _ => (pg_name (i := 3) scChkPart.nd rfl (Or.inl rfl))) (fun _ _ _ _ _ => pts_nil) (fun _ _ _ _ _ => (pe_own Ock hr (pa_cons (pv 0) (pa_cons (pv 3) pa_nil))))) (pss_one (ps_ret (pe_tup (pa_cons (pe_ix ix_seq (pv 1) pe_int (fun _ _ => rfl)) (StX.pa_star (pe_own Oas (hr.mono (by omega)) (pa_cons (pe_own Oov (hr.mono (by omega)) (pa_cons (pv 1) pa_nil)) pa_nil)) (StX.pa_star (pv 2) pa_nil)))))))), ?_⟩
    try dsimp only [cxOf, Cx.nox, Cx.wish]
    have chk : ∀ {v' : V}, True := fun {_} => trivial
    obtain ⟨xs, is, hS, hX, hI, lx, li⟩ := dp_open hv
    have l2 := inner_len r
    have lm := mn_le r.ow.kind
    walk_at "go"
    refine ⟨z, v, rfl, hz, .inl ⟨r, RAt.of hv, (R.fit_ow hf).1, (R.fit_ow hf).2, fun H1 s1 => ?_⟩⟩
    walk_at "go"
    refine ⟨v, r.ow.kind, xs, is, rfl, r.ow.kind_lt, hS.same s1, lx, fun p H2 hp s2 hi => ?_⟩
    have s12 := s1.trans s2
    have hpA : pureA (r.inner.map (R.data true)) = true := pureA_iff.mpr fun y hy => by obtain ⟨i, _, rfl⟩ := List.mem_map.mp hy; exact i.pure
    refine lc_sq hi (fun _ => rfl) (fun acc H' => DpAll K H' acc ((r.inner.map (R.data true)).take acc.length) ∧ Same H2 H') (fun D hD => ⟨.nil, same_new hD⟩) (fun D acc H' _ _ q => Same.keeps q.2) ?_ _ ?_ (fun J h => h)
    · rintro D i x acc H' hD hx la hacc ⟨ha, sm⟩
      obtain ⟨di, hdi, hxd⟩ := dpA_get hI hx
      rw [List.getElem?_map] at hdi
      cases eri : r.inner[i]? with
      | none => rw [eri] at hdi; cases hdi
      | some ri =>
        rw [eri] at hdi
        obtain rfl := Option.some.inj hdi
        have hmem := List.mem_of_getElem? eri
        have hil := (List.getElem?_eq_some_iff.mp eri).1
        walk_at "go"
        refine ⟨z, x, ri, t, rfl, hz, dp_keep (Same.keeps (s12.trans sm)) _ _ hxd, R.fit_in hf ri hmem, R.ok_in hok ri hmem, by have := R.in_depth ri hmem; omega, fun H4 v4 s4 d4 => ?_⟩
        refine pp_next (s4 _ _ hacc) la (line60 (by omega)) ⟨?_, same_upd (sm.trans s4) hD⟩
        have kt : KT K H4 (upd H4 D (.lst (acc ++ [v4]))) := kt_lst (s4 _ _ hacc)
        have pt : pureA ((r.inner.map (R.data true)).take acc.length) = true := pureA_iff.mpr fun y hy => pureA_iff.mp hpA y (List.mem_of_mem_take hy)
        have r1 := dpA_app (dpA_pure kt _ _ pt (dpA_keep (Same.keeps s4) _ _ ha)) (.cons (dp_pure kt _ _ ri.pure d4) .nil)
        rw [la, ← List.map_take, take_next eri, List.map_take] at r1
        rw [List.length_append, la]
        exact r1
    · rintro D acc H3 hD la hacc ⟨ha, sm⟩
      rw [la, li, ← List.length_map (f := R.data true), List.take_length] at ha
      have s13 := s12.trans sm
      walk_at "go"
      refine r_ixSq (hS.same s13) at0 ?_
      walk_at "go"
      refine ⟨v, r.ow.kind, xs, is, rfl, r.ow.kind_lt, hS.same s13, lx, fun v' H4 s4 hv' => ?_⟩
      walk_at "go"
      obtain ⟨t', hd'⟩ := dp_of_sq hv' (dpA_keep (Same.keeps (s13.trans s4)) _ _ hX)
      have fl := Ow.flat (R.ok_ow hok) t
      refine ⟨v', _, rfl, hd', flat_sq fun d hd => (fl d hd).1, wdt_sq (by rw [r.ow.data_len]; omega) (Ow.wdt (R.ok_ow hok) t), Nat.lt_succ_of_le (depth_sq fun d hd => (fl d hd).2), fun H5 v5 s5 d5 => ?_⟩
      rw [tupd_sq, Ow.tup] at d5
      obtain ⟨p5, os, rfl, hos, dos⟩ := dp_tuple d5
      have s35 := s4.trans s5
      refine r_starSq ⟨p5, rfl, .inr hos⟩ ?_
      walk_at "go"
      refine r_starSq ⟨D, rfl, .inl (SqL.of (s35 _ _ hacc))⟩ ?_
      walk_at "go"
      have lo : os.length = mn r.ow.kind := by rw [dpA_len dos, r.ow.data_len]
      have lacc : acc.length = r.inner.length := by rw [dpA_len ha, List.length_map]
      refine ⟨small_line (by simp only [List.length_cons, List.length_append, List.length_nil]; omega), fun q hq => ?_⟩
      have s6 := same_new (o := HO.tup (V.str r.ow.word :: (os ++ (acc ++ [])))) hq
      refine k _ _ (s13.trans (s35.trans s6)) ?_
      rw [r.data_eq]
      exact .tup (SqT.of upd_same) (.cons (.str _) (dpA_app (dpA_keep (Same.keeps s6) _ _ dos) (Eq.subst (motive := fun l => DpAll K _ l (r.inner.map (R.data true))) (List.append_nil acc).symm (dpA_keep (Same.keeps (s35.trans s6)) _ _ ha))))
theorem chk_all {f : Addr} {fd : FuncData} (F : Fun K "checked_part" "checked_part" sChkPart f fd) (B : Bl mg) (Ohf : OHasForm P w K mg base) (Oin : OInner P w K mg base) (Oov : OOwnV P w K mg base) (Oas : OAsT 4 P w K mg base)
    (m : mg "checked_part" = some (.ref f)) (b : Binds K fd ["signs", "part"] []) : ∀ n : Nat, OChk n P w K mg base
  | 0 => ⟨f, fd, none_ok fun vs H Q E h => by obtain ⟨z, v, r, t, _, _, _, _, _, hd, _⟩ := h; have := R.depth_pos r; omega, m, F.kp, b⟩
  | n + 1 => ⟨f, fd, ok_chk F B Ohf Oin Oov Oas (chk_all F B Ohf Oin Oov Oas m b n), m, F.kp, b⟩

end
end K4

/-! P11g -/


namespace K4
open PySem L2 K1
section
variable {P : Program} {w : World} {K : PySem.W.Frag} {mg : Str → Option Value} {base : Heap} {dO dI : Addr}
theorem ok_chkX {f C fI : Addr} {fd fdI : FuncData} (F : Fun K "checked_part" "checked_part" sChkPart f fd) (B : Bl mg) (TR : ErrR P K mg C fI fdI) (Ohf : OHasForm P w K mg base) (Oin : OInner P w K mg base) (Oov : OOwnV P w K mg base) (Oas : OAsT 4 P w K mg base) (Ock : OChk 40 P w K mg base) :
    FnOk P w K mg base (L2N.CX P w) 48 f fd ["signs", "part"] (spChkX K C) := by
  refine okXN F scChkPart (fun vs H Q E h => ?_) (fun cdv A outer s H vs Q E hr h => ?_)
  · obtain ⟨z, v, rfl, _⟩ := h
    rfl
  · obtain ⟨z, v, rfl, hz, h⟩ := h
    refine ⟨_, (pss_cons (ps_if (pt_not (pt_val (pe_own Ohf (hr.mono (by omega)) (pa_cons (pv 0) (pa_cons (pv 1) pa_nil))))) (pss_one (L2N.ps_raise rfl (L2N.takes_of rfl rfl rfl rfl) (pmk_oexN TR.T.oex TR.iC TR.tI (ok_badR TR.T) (hr.mono (by omega)) TR.bI rfl TR.gC (pa_cons (pv 1) pa_nil)))) pss_nil) (pss_cons (ps_setLc (i := 2) (own := [("rule", 3)]) (g := gName 3) (tt := tYes) rfl scChkPart.nd rfl rfl (sw_true rfl rfl rfl (by decide +kernel)) (pi_sq (pe_own Oin (hr.mono (by omega)) (pa_cons (pv 1) pa_nil))) (blkOk_by (N := nChkPart) (sc := defScope sChkPart) (by decide +kernel)) (fun _ _ _ _ _ => (pg_name (i := 3) scChkPart.nd rfl (Or.inl rfl))) (fun _ _ _ _ _ => pts_nil) (fun _ _ _ _ _ => (pe_own Ock (hr.mono (by omega)) (pa_cons (pv 0) (pa_cons (pv 3) pa_nil))))) (pss_one (ps_ret (pe_tup (pa_cons (pe_ix ix_seq (pv 1) pe_int (fun _ _ => rfl)) (StX.pa_star (pe_own Oas (hr.mono (by omega)) (pa_cons (pe_own Oov (hr.mono (by omega)) (pa_cons (pv 1) pa_nil)) pa_nil)) (StX.pa_star (pv 2) pa_nil)))))))), ?_⟩
    try dsimp only [cxOf, Cx.nox, Cx.wish]
    walk_at "go"
    rcases h with ⟨r, t, hv, hf, hok, hd, k⟩ | ⟨hb, er⟩
    · skip
      obtain ⟨xs, is, hS, hX, hI, lx, li⟩ := dp_open hv
      have l2 := inner_len r
      have lm := mn_le r.ow.kind
      refine ⟨z, v, rfl, hz, .inl ⟨r, RAt.of hv, (R.fit_ow hf).1, (R.fit_ow hf).2, fun H1 s1 => ?_⟩⟩
      walk_at "go"
      refine ⟨v, r.ow.kind, xs, is, rfl, r.ow.kind_lt, hS.same s1, lx, fun p H2 hp s2 hi => ?_⟩
      have s12 := s1.trans s2
      have hpA : pureA (r.inner.map (R.data true)) = true := pureA_iff.mpr fun y hy => by obtain ⟨i, _, rfl⟩ := List.mem_map.mp hy; exact i.pure
      refine lc_sq hi (fun _ => rfl) (fun acc H' => DpAll K H' acc ((r.inner.map (R.data true)).take acc.length) ∧ Same H2 H') (fun D hD => ⟨.nil, same_new hD⟩) (fun D acc H' _ _ q => Same.keeps q.2) ?_ _ ?_ (fun J h => h)
      · rintro D i x acc H' hD hx la hacc ⟨ha, sm⟩
        obtain ⟨di, hdi, hxd⟩ := dpA_get hI hx
        rw [List.getElem?_map] at hdi
        cases eri : r.inner[i]? with
        | none => rw [eri] at hdi; cases hdi
        | some ri =>
          rw [eri] at hdi
          obtain rfl := Option.some.inj hdi
          have hmem := List.mem_of_getElem? eri
          have hil := (List.getElem?_eq_some_iff.mp eri).1
          walk_at "go"
          refine ⟨z, x, ri, t, rfl, hz, dp_keep (Same.keeps (s12.trans sm)) _ _ hxd, R.fit_in hf ri hmem, R.ok_in hok ri hmem, by have := R.in_depth ri hmem; omega, fun H4 v4 s4 d4 => ?_⟩
          refine pp_next (s4 _ _ hacc) la (line60 (by omega)) ⟨?_, same_upd (sm.trans s4) hD⟩
          have kt : KT K H4 (upd H4 D (.lst (acc ++ [v4]))) := kt_lst (s4 _ _ hacc)
          have pt : pureA ((r.inner.map (R.data true)).take acc.length) = true := pureA_iff.mpr fun y hy => pureA_iff.mp hpA y (List.mem_of_mem_take hy)
          have r1 := dpA_app (dpA_pure kt _ _ pt (dpA_keep (Same.keeps s4) _ _ ha)) (.cons (dp_pure kt _ _ ri.pure d4) .nil)
          rw [la, ← List.map_take, take_next eri, List.map_take] at r1
          rw [List.length_append, la]
          exact r1
      · rintro D acc H3 hD la hacc ⟨ha, sm⟩
        rw [la, li, ← List.length_map (f := R.data true), List.take_length] at ha
        have s13 := s12.trans sm
        walk_at "go"
        refine r_ixSq (hS.same s13) at0 ?_
        walk_at "go"
        refine ⟨v, r.ow.kind, xs, is, rfl, r.ow.kind_lt, hS.same s13, lx, fun v' H4 s4 hv' => ?_⟩
        walk_at "go"
        obtain ⟨t', hd'⟩ := dp_of_sq hv' (dpA_keep (Same.keeps (s13.trans s4)) _ _ hX)
        have fl := Ow.flat (R.ok_ow hok) t
        refine ⟨v', _, rfl, hd', flat_sq fun d hd => (fl d hd).1, wdt_sq (by rw [r.ow.data_len]; omega) (Ow.wdt (R.ok_ow hok) t), Nat.lt_succ_of_le (depth_sq fun d hd => (fl d hd).2), fun H5 v5 s5 d5 => ?_⟩
        rw [tupd_sq, Ow.tup] at d5
        obtain ⟨p5, os, rfl, hos, dos⟩ := dp_tuple d5
        have s35 := s4.trans s5
        refine r_starSq ⟨p5, rfl, .inr hos⟩ ?_
        walk_at "go"
        refine r_starSq ⟨D, rfl, .inl (SqL.of (s35 _ _ hacc))⟩ ?_
        walk_at "go"
        have lo : os.length = mn r.ow.kind := by rw [dpA_len dos, r.ow.data_len]
        have lacc : acc.length = r.inner.length := by rw [dpA_len ha, List.length_map]
        refine ⟨small_line (by simp only [List.length_cons, List.length_append, List.length_nil]; omega), fun q hq => ?_⟩
        have s6 := same_new (o := HO.tup (V.str r.ow.word :: (os ++ (acc ++ [])))) hq
        refine k _ _ (s13.trans (s35.trans s6)) ?_
        rw [r.data_eq]
        exact .tup (SqT.of upd_same) (.cons (.str _) (dpA_app (dpA_keep (Same.keeps s6) _ _ dos) (Eq.subst (motive := fun l => DpAll K _ l (r.inner.map (R.data true))) (List.append_nil acc).symm (dpA_keep (Same.keeps (s35.trans s6)) _ _ ha))))
    · refine ⟨z, v, rfl, hz, .inr ⟨hb, fun H1 s1 => ?_⟩⟩
      walk_at "go"
      exact rzR (er.same s1)
abbrev OChkX (C : Addr) (P : Program) (w : World) (K : PySem.W.Frag) (mg : Str → Option Value) (base : Heap) : Prop := OwnX P w K mg base "checked_part" 48 ["signs", "part"] (spChkX K C)
theorem ok_chkRule {f C : Addr} {fd : FuncData} (F : Fun K "checked_rule" "checked_rule" sChkRule f fd) (B : Bl mg) (G : G11 K w mg dO dI) (Ock : OChkX C P w K mg base) (Ocp : OCount 41 P w K mg base) : FnOk P w K mg base (L2N.CX P w) 49 f fd ["signs", "rule"] (spChkR K C) := by
  refine okXN F scChkRule (fun vs H Q E h => ?_) (fun cdv A outer s H vs Q E hr h => ?_)
  · obtain ⟨z, v, rfl, _⟩ := h
    rfl
  · obtain ⟨z, v, rfl, hz, h⟩ := h
    refine ⟨_, (pss_cons (ps_set (i := 2) scChkRule.nd rfl (Or.inl rfl) (pe_ownX Ock (hr.mono (by omega)) (L2N.passes_call (E := E) (L2N.takes_of rfl rfl rfl rfl) (fun _ _ _ _ h => h)) (pa_cons (pv 0) (pa_cons (pv 1) pa_nil)))) (pss_cons (ps_if (pt_cmpR op_gt (pe_own Ocp (hr.mono (by omega)) (pa_cons (pv 2) pa_nil)) (pe_gI G.MOST_PARTS) (nomark _)) (pss_one ps_never) pss_nil) (pss_one (ps_ret (pv 2))))), ?_⟩
    try dsimp only [cxOf, Cx.nox, Cx.wish]
    walk_at "go"
    rcases h with ⟨r, t, hv, hf, hok, hp, k⟩ | ⟨hb, er⟩
    · have hd := r.depth_le
      refine ⟨z, v, rfl, hz, .inl ⟨r, t, hv, hf, hok, by omega, fun H1 v1 s1 d1 => ?_⟩⟩
      walk_at "go"
      refine ⟨v1, r, rfl, RAt.of d1, by omega, fun H2 s2 => ?_⟩
      walk_at "go"
      refine r_no (by omega) ?_
      walk_at "go"
      exact k H2 v1 (s1.trans s2) (dp_keep (Same.keeps s2) _ _ d1)
    · exact ⟨z, v, rfl, hz, .inr ⟨hb, er⟩⟩
def Bads (K : PySem.W.Frag) (H : Hp) (x : V) : Prop := (∃ y : Str, x = .str y ∧ y.length ≤ 1000 ∧ signsB y = false) ∨ NoText K H x
def spReqS (K : PySem.W.Frag) (C : Addr) : Sp := fun vs H Q E => ∃ x : V, vs = [x] ∧ ((∃ y : Str, x = .str y ∧ y.length ≤ 1000 ∧ signsB y = true ∧ ∀ H', Same H H' → Q .non H') ∨ (Bads K H x ∧ Err C "signs" x H E))
abbrev OAreSigns (P : Program) (w : World) (K : PySem.W.Frag) (mg : Str → Option Value) (base : Heap) : Prop := Own P w K mg base "are_signs" 2 ["thing"] (spAreSigns K)
theorem ok_reqS {f C fI : Addr} {fd fdI : FuncData} (F : Fun K "require_signs" "require_signs" sReqSigns f fd) (TS : ErrS P K mg C fI fdI) (Oa : OAreSigns P w K mg base) : FnOk P w K mg base (L2N.CX P w) 3 f fd ["signs"] (spReqS K C) := by
  refine okXN F scReqSigns (fun vs H Q E h => ?_) (fun cdv A outer s H vs Q E hr h => ?_)
  · obtain ⟨x, rfl, _⟩ := h
    rfl
  · obtain ⟨x, rfl, h⟩ := h
    refine ⟨_, (pss_one (ps_if (pt_not (pt_val (pe_own Oa (hr.mono (by omega)) (pa_cons (pv 0) pa_nil)))) (pss_one (L2N.ps_raise rfl (L2N.takes_of rfl rfl rfl rfl) (pmk_oexN TS.T.oex TS.iC TS.tI (ok_badS TS.T) (hr.mono (by omega)) TS.bI rfl TS.gC (pa_cons (pv 0) pa_nil)))) pss_nil)), ?_⟩
    try dsimp only [cxOf, Cx.nox, Cx.wish]
    walk_at "go"
    rcases h with ⟨y, rfl, hy, hs, k⟩ | ⟨hb, er⟩
    · refine .inl ⟨y, rfl, hy, fun H' sm => ?_⟩
      rw [hs]
      walk_at "go"
      exact k H' sm
    · rcases hb with ⟨y, rfl, hy, hs⟩ | hn
      · refine .inl ⟨y, rfl, hy, fun H' sm => ?_⟩
        rw [hs]
        walk_at "go"
        exact rzS (er.same sm)
      · refine .inr ⟨hn, ?_⟩
        walk_at "go"
        exact rzS er
def BadP (K : PySem.W.Frag) (H : Hp) (z : Str) (x : V) : Prop := (∃ y : Str, x = .str y ∧ y.length ≤ 1000 ∧ textB 0 60 z y = false) ∨ NoText K H x
def spReqP (K : PySem.W.Frag) (C : Addr) : Sp := fun vs H Q E => ∃ (z : Str) (x : V), vs = [.str z, x] ∧ ((∃ y : Str, x = .str y ∧ y.length ≤ 1000 ∧ textB 0 60 z y = true ∧ ∀ H', Same H H' → Q .non H') ∨ (BadP K H z x ∧ Err C "paper" x H E))
abbrev OIsPaper (P : Program) (w : World) (K : PySem.W.Frag) (mg : Str → Option Value) (base : Heap) : Prop := Own P w K mg base "is_paper" 2 ["signs", "thing"] (spIsPaper K)
theorem ok_reqP {f C fI : Addr} {fd fdI : FuncData} (F : Fun K "require_paper" "require_paper" sReqPaper f fd) (TP : ErrP P K mg C fI fdI) (Oip : OIsPaper P w K mg base) : FnOk P w K mg base (L2N.CX P w) 3 f fd ["signs", "paper"] (spReqP K C) := by
  refine okXN F scReqPaper (fun vs H Q E h => ?_) (fun cdv A outer s H vs Q E hr h => ?_)
  · obtain ⟨z, x, rfl, _⟩ := h
    rfl
  · obtain ⟨z, x, rfl, h⟩ := h
    refine ⟨_, (pss_one (ps_if (pt_not (pt_val (pe_own Oip (hr.mono (by omega)) (pa_cons (pv 0) (pa_cons (pv 1) pa_nil))))) (pss_one (L2N.ps_raise rfl (L2N.takes_of rfl rfl rfl rfl) (pmk_oexN TP.T.oex TP.iC TP.tI (ok_badP TP.T) (hr.mono (by omega)) TP.bI rfl TP.gC (pa_cons (pv 1) pa_nil)))) pss_nil)), ?_⟩
    try dsimp only [cxOf, Cx.nox, Cx.wish]
    walk_at "go"
    refine ⟨z, x, rfl, ?_⟩
    rcases h with ⟨y, rfl, hy, hs, k⟩ | ⟨hb, er⟩
    · refine .inl ⟨y, rfl, hy, fun H' sm => ?_⟩
      rw [hs]
      walk_at "go"
      exact k H' sm
    · rcases hb with ⟨y, rfl, hy, hs⟩ | hn
      · refine .inl ⟨y, rfl, hy, fun H' sm => ?_⟩
        rw [hs]
        walk_at "go"
        exact rzP (er.same sm)
      · refine .inr ⟨hn, ?_⟩
        walk_at "go"
        exact rzP er
/-- what check_rule is told -/
def spCheck (K : PySem.W.Frag) (CS CR : Addr) : Sp := fun vs H Q E => ∃ x v : V, vs = [x, v] ∧
  ((Bads K H x ∧ Err CS "signs" x H E) ∨ (∃ z : Str, x = .str z ∧ z.length ≤ 12 ∧ signsB z = true ∧ ((BadR K H v ∧ Err CR "rule" v H E) ∨
    (∃ (r : R) (t : Bool), Dp K H v (r.data t) ∧ r.fit (tl z) ∧ r.ok ∧ r.parts ≤ 40 ∧ ∀ H' v', Same H H' → Dp K H' v' (r.data true) → Q v' H'))))
abbrev OReqS (C : Addr) (P : Program) (w : World) (K : PySem.W.Frag) (mg : Str → Option Value) (base : Heap) : Prop := OwnX P w K mg base "require_signs" 3 ["signs"] (spReqS K C)
abbrev OReqP (C : Addr) (P : Program) (w : World) (K : PySem.W.Frag) (mg : Str → Option Value) (base : Heap) : Prop := OwnX P w K mg base "require_paper" 3 ["signs", "paper"] (spReqP K C)
abbrev OChkR (C : Addr) (P : Program) (w : World) (K : PySem.W.Frag) (mg : Str → Option Value) (base : Heap) : Prop := OwnX P w K mg base "checked_rule" 49 ["signs", "rule"] (spChkR K C)
theorem ok_checkRule {f CS CR : Addr} {fd : FuncData} (F : Fun K "check_rule" "check_rule" sCheckRule f fd) (Ors : OReqS CS P w K mg base) (Ocr : OChkR CR P w K mg base) : FnOk P w K mg base (L2N.CX P w) 50 f fd ["signs", "rule"] (spCheck K CS CR) := by
  refine okXN F scCheckRule (fun vs H Q E h => ?_) (fun cdv A outer s H vs Q E hr h => ?_)
  · obtain ⟨x, v, rfl, _⟩ := h
    rfl
  · obtain ⟨x, v, rfl, h⟩ := h
    refine ⟨_, (pss_cons (ps_expr (pe_ownX Ors (hr.mono (by omega)) (L2N.passes_call (E := E) (L2N.takes_of rfl rfl rfl rfl) (fun _ _ _ _ h => h)) (pa_cons (pv 0) pa_nil))) (pss_one (ps_ret (pe_ownX Ocr (hr.mono (by omega)) (L2N.passes_call (E := E) (L2N.takes_of rfl rfl rfl rfl) (fun _ _ _ _ h => h)) (pa_cons (pv 0) (pa_cons (pv 1) pa_nil)))))), ?_⟩
    try dsimp only [cxOf, Cx.nox, Cx.wish]
    walk_at "go"
    rcases h with ⟨hb, er⟩ | ⟨z, rfl, hz, hs, h⟩
    · exact .inr ⟨hb, er⟩
    · refine .inl ⟨z, rfl, by omega, hs, fun H1 s1 => ?_⟩
      walk_at "go"
      refine ⟨z, v, rfl, hz, ?_⟩
      rcases h with ⟨hb, er⟩ | ⟨r, t, hv, hf, hok, hp, k⟩
      · exact .inr ⟨hb.same s1, er.same s1⟩
      · exact .inl ⟨r, t, dp_keep (Same.keeps s1) _ _ hv, hf, hok, hp, fun H2 v2 s2 d2 => k H2 v2 (s1.trans s2) d2⟩
end
end K4

/-! En11 -/

/-! enumerate(text). -/
namespace K4
open PySem L2 PySem.Spec PyProof.Rows
/-- the signs of a text, each in a new pair -/
def IteS (z : Str) : It :=
  ⟨fun i _ => i < z.cps.size, fun i H v H' => ∃ T c, v = .ref T ∧ H T = none ∧ H' = upd H T (.tup [.int (i : Nat), .str ⟨#[c]⟩]) ∧ z.cps[i]? = some c, fun i _ => i = z.cps.size⟩
theorem turn_enumS {P : Program} {w : World} {K : PySem.W.Frag} {elts : List Expr} {kk : Nat} {tpos : Pos} {z : Str} {t : Tok} {e it : Addr} (hne : e ≠ it) :
    Turn P w K (.Tuple elts kk tpos) (IteS z) [e, it] e (fun i h => (∃ old, IsEnum h e it ((i : Nat) : Int) old) ∧ h.IsStrIter it (strIterType z) z t i) where
  mem := by simp
  obj := fun i h st b hb => by
    obtain ⟨⟨old, he⟩, ⟨o, ho, hc, hd⟩⟩ := st
    have e' : b = e ∨ b = it := by simpa using hb
    rcases e' with q | q
    · rw [q]; exact ⟨_, he, fun v q => nomatch q⟩
    · rw [q]; exact ⟨o, ho, fun v q => by rw [hd] at q; cases q⟩
  keep := fun i h h' st k => by
    obtain ⟨⟨old, he⟩, ⟨o, ho, r⟩⟩ := st
    exact ⟨⟨old, k e (by simp) _ he⟩, ⟨o, k it (by simp) o ho, r⟩⟩
  item := by
    intro X hP hw hK hc i pins s σ H E I hf st hg
    subst hP hw hK
    obtain ⟨⟨old, he⟩, hit⟩ := st
    have hel : e < s.heap.objs.size := Heap.lt_size he
    have hil : it < s.heap.objs.size := by obtain ⟨_, q, _⟩ := hit; exact Heap.lt_size q
    have hh : X.A.in1.handled = none := I.ok.hd hc
    refine wpAny_pyNext_enum_itemC (Draws.text hh it z t) he hit hg hne (by simp [hne]) fun x1 h' tk hx1 ho hit' hT hsz hk => ?_
    obtain ⟨c, u, hcx, rfl⟩ := hx1
    refine ⟨_, rfl, wpAny_letOwnedTupleGo_enum (s := { s with heap := h', toks := tk + 1 }) ho fun h'' he' sb => ?_⟩
    have hT2 : h''.get? s.heap.objs.size = some { cls := .type "tuple", data := .seq #[.int i tk, .str ⟨#[c]⟩ u] } := (sb.2 _ (Nat.ne_of_gt hel)).trans hT
    have new : ObjOk X.prog X.w (upd H s.heap.objs.size (.tup [.int (i : Nat), .str ⟨#[c]⟩])) h'' s.heap.objs.size (.tup [.int (i : Nat), .str ⟨#[c]⟩]) :=
      ⟨by show 2 ≤ sizeLine; decide, [.int i tk, .str ⟨#[c]⟩ u], .cons ⟨_, rfl⟩ (.cons ⟨_, rfl⟩ .nil), ⟨_, hT2, rfl, _, rfl⟩⟩
    have I1 : L2.Inv X pins σ (upd H s.heap.objs.size (.tup [.int (i : Nat), .str ⟨#[c]⟩])) { s with heap := h'', toks := tk + 1 } :=
      I.turnedNew (t' := tk + 1) (ch := [e, it]) (fun b ob hb q => (sb.2 b (fun z => hb (by simp [z]))).trans (hk b ob (fun z => hb (by simp [z])) (fun z => hb (by simp [z])) q)) hf (Nat.le_refl _) new
    refine ⟨.ref s.heap.objs.size, _, I1, rfl, ⟨_, c, rfl, I.hok.fresh (Nat.le_refl _), rfl, hcx⟩, ⟨⟨.str ⟨#[c]⟩ u, ?_⟩, ?_⟩, fun b hb => ?_⟩
    · have e1 : ((i + 1 : Nat) : Int) = (i : Int) + 1 := by omega
      rw [e1]; exact he'
    · obtain ⟨o, ho', r⟩ := hit'
      exact ⟨o, (sb.2 it (Ne.symm hne)).trans ho', r⟩
    · have hb' : b < s.heap.objs.size := by
        have e' : b = e ∨ b = it := by simpa using hb
        rcases e' with q | q
        · rw [q]; exact hel
        · rw [q]; exact hil
      rw [upd_ne (Nat.ne_of_lt hb')]
      exact (hf b hb).1
  done := by
    intro X hP hw hK hc i pins s σ H E I hf st hg
    subst hP hw hK
    obtain ⟨⟨old, he⟩, hit⟩ := st
    have hh : X.A.in1.handled = none := I.ok.hd hc
    have e1 : i = z.cps.size := hg
    subst e1
    refine wpAny_pyNext_enum_endD (Draws.text hh it z t) he hit fun h' hx => ⟨rfl, I.turnedL (t' := s.toks) (ch := [e, it]) (fun b o hb q => hx b o (fun z => hb (by simp [z])) q) hf⟩
  self := fun A i s Q E st h => let ⟨⟨_, he⟩, _⟩ := st; wpAny_pyIter_enum he h
def iEnumS (ta : TA) : TI := fun σ H R => ta σ H fun vs H1 => ∃ z, vs = [.str z] ∧ R (IteS z) H1
theorem pi_enumS {X : Cx} {e : Expr} {ta : TA} {p pos tpos : Pos} {elts : List Expr} {kk : Nat} (hg : Gl X "enumerate") (hm : X.mg "enumerate" = none) (ha : PA X [e] ta) (hs : starEach [e] X.env = [(false, eval e X.env)] := by rfl) :
    PI X (.Tuple elts kk tpos) (.Call (.Name "enumerate" p) [e] [] pos) (iEnumS ta) := by
  refine ⟨fun pins s σ H R I h => ?_⟩
  refine Call_ (ld_blt I hg hm boot_enumerate (PyProof.Rows.callWith_type1 (thn (ha.run pos pins s σ H _ I h) fun us s1 ⟨vs, H1, I1, r1, q1⟩ => ?_) hs rfl))
  obtain ⟨z, ex, q⟩ := q1
  subst ex
  cases r1 with
  | cons r rr =>
    cases rr
    obtain ⟨t, rfl⟩ := r
    have fr : ∀ b ∈ [s1.heap.objs.size + 1, s1.heap.objs.size], FpOk X pins H1 b := fun b hb => by
      have e' : b = s1.heap.objs.size + 1 ∨ b = s1.heap.objs.size := by simpa using hb
      have hle : s1.heap.objs.size ≤ b := by
        rcases e' with z | z
        · rw [z]; exact Nat.le_succ _
        · rw [z]; exact Nat.le_refl _
      exact I1.fpOk hle (I1.hok.fresh hle)
    refine call_enumerate_str fun h' he hit hsz hk => wpAny_pyIter_enum he ?_
    have I2 : L2.Inv X pins σ H1 { s1 with heap := h' } := I1.kept (t' := s1.toks) hk
    exact ⟨s1.heap.objs.size + 1, [s1.heap.objs.size + 1, s1.heap.objs.size], _, _, H1, rfl, I2, turn_enumS (t := t) (Nat.succ_ne_self _), ⟨⟨_, he⟩, hit⟩, fr, q⟩
end K4
namespace K4
open PySem L2 K1 PyProof.Rows
theorem walk_enumS {z : Str} : Walk (IteS z) z.cps.size (fun _ => True) (YPair (fun i => some (.int (i : Nat))) (fun i => (z.cps[i]?).map fun c => V.str ⟨#[c]⟩)) := by
  refine ⟨fun i _ hi q => hi, fun _ q => rfl, fun i H v H' _ q y => ?_⟩
  obtain ⟨T, c, h1, h2, h3, h4⟩ := y
  exact ⟨T, _, .str ⟨#[c]⟩, h1, h2, h3, rfl, by show Option.map _ z.cps[i]? = _; rw [h4]; rfl⟩
section
variable {K : PySem.W.Frag} {σ : L2.St} {H : Hp} {D : Addr} {vs : List Nat} {te : TE} {Qd : Hp → Prop} {J : It} {n : Nat} {G : Hp → Prop} {f g : Nat → Option V} {i j : Nat}
/-- [e for x, y in pairs] -/
theorem lc_pairs (w : Walk J n G (YPair f g)) (hw : ∀ x y, wipe (((wipe σ vs).set i (some x)).set j (some y)) vs = wipe σ vs) (P : List V → Hp → Prop) (h0 : P [] (upd H D (.lst [])))
    (hG : ∀ acc H', H' D = some (.lst acc) → P acc H' → G H')
    (hs : ∀ k x y T acc H', f k = some x → g k = some y → k < n → acc.length = k → H' D = some (.lst acc) → P acc H' → H' T = none → te (((wipe σ vs).set i (some x)).set j (some y)) (upd H' T (.tup [x, y])) fun y H4 => ∃ acc, H4 D = some (.lst acc) ∧ acc.length < sizeLine ∧ PP D P (k + 1) (upd H4 D (.lst (acc ++ [y]))))
    (hd : ∀ acc H', acc.length = n → H' D = some (.lst acc) → P acc H' → Qd H') :
    ∃ W : Nat → Nat → Hp → Prop, (∃ m, W 0 m (upd H D (.lst []))) ∧ ∀ k m H, W k m H →
      (J.stop k H ∧ Qd H) ∨ (J.go k H ∧ ∃ Nx : Hp → Prop, (∀ H', Nx H' → ∃ m', m' < m ∧ W (k + 1) m' H') ∧ ∀ x H', J.yld k H x H' → gTup K 2 (gCons (gName i) (gCons (gName j) gNil)) x (wipe σ vs) H' fun σ2 H2 => wipe σ2 vs = wipe σ vs ∧ tYes σ2 H2 fun b H3 =>
        if b = true then te σ2 H3 fun y H4 => ∃ acc, H4 D = some (.lst acc) ∧ acc.length < sizeLine ∧ Nx (upd H4 D (.lst (acc ++ [y]))) else Nx H3) := by
  refine lc_it w (PP D P) ⟨[], rfl, upd_same, h0⟩ (fun k H' _ ⟨acc, _, e, p⟩ => hG acc H' e p) ?_ (fun H' ⟨acc, l, e, p⟩ => hd acc H' l e p)
  rintro k v H1 H2 hi ⟨acc, l, e, p⟩ ⟨T, x, y, rfl, hT, rfl, hx, hy⟩
  refine ⟨T, [x, y], rfl, SqT.of upd_same, rfl, ?_⟩
  refine r_gcons ?_
  unfold gName
  refine r_gcons ?_
  refine r_gnil ⟨hw x y, ?_⟩
  show te _ _ _
  exact hs k x y T acc _ hx hy hi l e p hT
end
end K4

/-! P11h -/


namespace K1
open PySem L2
theorem tyS {K : PySem.W.Frag} {H : Hp} {y : Str} : tyV K "str" (.str y) H := rfl
theorem sub_one (y : Str) (c i : Nat) : StrLaws.At y (one c) y.length i ↔ (tl y)[i]? = some c := by
  show (i + 1 ≤ y.cps.size ∧ (y.cps.extract i (i + 1) == #[c]) = true) ↔ _
  rw [beq_iff_eq]
  constructor
  · rintro ⟨h1, h2⟩
    have h3 : (y.cps.extract i (i + 1))[0]? = some c := by rw [h2]; rfl
    rw [Array.getElem?_extract] at h3
    split at h3
    · simpa using h3
    · cases h3
  · intro h
    obtain ⟨h1, h2⟩ := List.getElem?_eq_some_iff.mp h
    have h1' : i < y.cps.size := by simpa using h1
    refine ⟨h1', ?_⟩
    apply Array.ext
    · simp; omega
    · intro j j1 j2
      have j0 : j = 0 := by simpa using j2
      subst j0
      simpa using h2
theorem index_one {y : Str} {c k : Nat} (h : (tl y)[k]? = some c) (nd : (tl y).Nodup) : ∃ r, Builtin.Str.occurrences y (one c) 0 y.length 1 = k :: r := by
  rcases StrLaws.occ_head y (one c) 1 (Nat.le_refl _) with ⟨_, e⟩ | ⟨i, r, e, hi, hk⟩
  · exact absurd ((sub_one y c k).mpr h) (e k)
  · have h2 := (sub_one y c i).mp hi
    obtain ⟨a1, a2⟩ := List.getElem?_eq_some_iff.mp h
    obtain ⟨b1, b2⟩ := List.getElem?_eq_some_iff.mp h2
    have pw := List.pairwise_iff_getElem.mp nd
    have : i = k := by
      rcases Nat.lt_trichotomy i k with q | q | q
      · exact absurd (b2.trans a2.symm) (pw i k b1 a1 q)
      · exact q
      · exact absurd (a2.trans b2.symm) (pw k i a1 b1 q)
    subst this
    exact ⟨r, e⟩
section
variable {g : TG} {tb : TS} {nx : L2.St → Hp → Prop} {rt : VK} {σ : L2.St} {H : Hp}
/-- a for over a text -/
theorem fr_str {z : Str} (Pv : Nat → L2.St → Hp → Prop) (h0 : Pv 0 σ H)
    (hs : ∀ (i c : Nat) (σ : L2.St) (H : Hp), (tl z)[i]? = some c → Pv i σ H → g (.str ⟨#[c]⟩) σ H fun σ2 H2 => tb ⟨Pv (i + 1), rt, nx, Pv (i + 1)⟩ σ2 H2) (hd : ∀ σ H, Pv (tl z).length σ H → nx σ H) :
    ∃ W : Nat → Nat → L2.St → Hp → Prop, (∃ m, W 0 m σ H) ∧ ∀ i m σ H, W i m σ H →
      ((Its z).stop i H ∧ nx σ H) ∨ ((Its z).go i H ∧ ∃ N : L2.St → Hp → Prop, (∀ σ' H', N σ' H' → ∃ m', m' < m ∧ W (i + 1) m' σ' H') ∧ ∀ x H', (Its z).yld i H x H' → g x σ H' fun σ2 H2 => tb ⟨N, rt, nx, N⟩ σ2 H2) := by
  have hsz : z.cps.size = (tl z).length := by simp
  refine ⟨fun i m σ H => m = (tl z).length - i ∧ i ≤ (tl z).length ∧ Pv i σ H, ⟨_, rfl, Nat.zero_le _, h0⟩, ?_⟩
  rintro i m σ H ⟨rfl, hi, p⟩
  by_cases hlt : i < (tl z).length
  · refine .inr ⟨by show i < z.cps.size; omega, Pv (i + 1), fun σ' H' q => ⟨(tl z).length - (i + 1), by omega, rfl, by omega, q⟩, ?_⟩
    rintro x H' ⟨rfl, c, hc, rfl⟩
    exact hs i c σ _ (by simpa using hc) p
  · have e : i = (tl z).length := by omega
    refine .inl ⟨by show z.cps.size ≤ i; omega, hd σ H ?_⟩
    rw [← e]; exact p
end
end K1
namespace K4
open PySem L2 K1
abbrev sStandIn : Stmt := top 29
abbrev nStandIn : List Str := ["signs", "rows", "paper", "start", "at", "sign"]
theorem scStandIn : FnScope nStandIn ["signs", "rows", "paper", "start"] (defScope sStandIn) := ⟨rfl, rfl, rfl, by decide +kernel, rfl, by decide +kernel, by decide +kernel⟩
abbrev sFaced : Stmt := top 54
abbrev nFaced : List Str := ["signs", "faces", "paper", "at", "sign"]
theorem scFaced : FnScope nFaced ["signs", "faces", "paper"] (defScope sFaced) := ⟨rfl, rfl, rfl, by decide +kernel, rfl, by decide +kernel, by decide +kernel⟩
abbrev sHasSum : Stmt := top 52
abbrev nHasSum : List Str := ["signs", "values", "paper", "modulus", "weights", "goal", "total", "at", "sign"]
theorem scHasSum : FnScope nHasSum ["signs", "values", "paper"] (defScope sHasSum) := ⟨rfl, rfl, rfl, by decide +kernel, rfl, by decide +kernel, by decide +kernel⟩
abbrev sEndsInGoal : Stmt := top 53
abbrev nEndsInGoal : List Str := ["signs", "values", "paper", "rows", "goals"]
theorem scEndsInGoal : FnScope nEndsInGoal ["signs", "values", "paper"] (defScope sEndsInGoal) := ⟨rfl, rfl, rfl, by decide +kernel, rfl, by decide +kernel, by decide +kernel⟩
theorem r_mod {H : Hp} {Q : VK} {i n : Nat} (hn : 0 < n) (q : Q (vi (i % n)) H) : rI (fun _ j => j ≠ 0) (fun i j => V.int (i.fmod j)) (.int (i : Int)) (.int (n : Int)) H Q := by
  refine ⟨_, _, rfl, rfl, by omega, ?_⟩
  show Q (.int ((i : Int).fmod (n : Int))) H
  rw [← Int.ofNat_fmod]
  exact q
theorem r_mul {H : Hp} {Q : VK} {i n : Nat} (h : i < 2 ^ 60) (q : Q (vi (i * n)) H) : rI CMul (fun i j => V.int (i * j)) (vi i) (vi n) H Q := by
  refine ⟨_, _, rfl, rfl, .inl ⟨by omega, by omega⟩, ?_⟩
  have e : ((i : Int) * (n : Int)) = ((i * n : Nat) : Int) := by rw [Int.natCast_mul]
  show Q (.int ((i : Int) * (n : Int))) H
  rw [e]
  exact q
theorem r_iEnumS {ta : TA} {σ : L2.St} {H : Hp} {R : It → Hp → Prop} (q : ta σ H fun vs H1 => ∃ z, vs = [V.str z] ∧ R (IteS z) H1) : iEnumS ta σ H R := q
theorem rows_at {K : PySem.W.Frag} {H : Hp} : ∀ {rvs : List V} {rows : List (List Nat)}, RowsAt K H rvs rows → ∀ {i : Nat}, i < rows.length → ∃ v, rvs[i]? = some v ∧ NumsAt K H v (rows.getD i [])
  | [], [], _, i, h => by simp at h
  | v :: vs, r :: rs, h, 0, _ => ⟨v, rfl, h.1⟩
  | v :: vs, r :: rs, h, i + 1, hi => by
    obtain ⟨u, e, q⟩ := rows_at h.2 (i := i) (by simpa using hi)
    exact ⟨u, by simpa using e, by simpa using q⟩
  | [], _ :: _, h, _, _ => h.elim
  | _ :: _, [], h, _, _ => h.elim
/-- the place of a sign -/
theorem idx_occ {z : Str} {c : Nat} (hc : c ∈ tl z) (nd : (tl z).Nodup) : ∃ r, Builtin.Str.occurrences z (one c) 0 z.length 1 = (tl z).idxOf c :: r := index_one (idx_at hc) nd
def spStand (K : PySem.W.Frag) : Sp := fun vs H Q _ => ∃ (z : Str) (v : V) (rvs : List V) (rows : List (List Nat)) (gs : List Nat) (x : Str) (a : Nat), vs = [.str z, v, .str x, vi a] ∧ z.length ≤ 12 ∧ (tl z).Nodup ∧ Sq K H v rvs ∧ RowsAt K H rvs rows ∧ Ow.fit (tl z) (.square rows gs) ∧ a < rows.length ∧
  (∀ c ∈ tl x, c ∈ tl z) ∧ Q (vi (runs (tl z) rows a (tl x))) H
section
variable {P : Program} {w : World} {K : PySem.W.Frag} {mg : Str → Option Value} {base : Heap} {dO dI : Addr}
theorem ok_standIn {f : Addr} {fd : FuncData} (F : Fun K "standing_in" "standing_in" sStandIn f fd) (B : Bl mg) : FnOk P w K mg base CX0 1 f fd ["signs", "rows", "paper", "start"] (spStand K) := by
  refine F.ok scStandIn (fun vs H Q E h => ?_) (fun cdv A outer s H vs Q E hr h => ?_)
  · obtain ⟨z, v, rvs, rows, gs, x, a, rfl, _⟩ := h
    rfl
  · obtain ⟨z, v, rvs, rows, gs, x, a, rfl, hz, nd, hS, hR, hf, ha, hx, k⟩ := h
    refine ⟨_, (pss_cons (ps_set (i := 4) scStandIn.nd rfl (Or.inl rfl) (pv 3)) (pss_cons (ps_for PassesOwn.never rfl (pi_str (pv 2)) (pg_name (i := 5) scStandIn.nd rfl (Or.inl rfl)) (pss_one (ps_set (i := 4) scStandIn.nd rfl (Or.inl rfl) (pe_ix ix_seq (pe_ix ix_seq (pv 1) (pv 4) (fun _ _ => rfl)) (pe_bm PySem.F.plainAttrs_str PySem.F.slot_str_index PySem.F.type_str_index mt_sindex (pv 0) (pa_cons (pv 5) pa_nil)) (fun _ _ => rfl))))) (pss_one (ps_ret (pv 4))))), ?_⟩
    try dsimp only [cxOf, Cx.nox, Cx.wish]
    walk_at "go"
    refine fr_str (fun i σ H' => ∃ o5 : Option V, σ = [some (.str z), some v, some (.str x), some (vi a), some (vi (runs (tl z) rows a ((tl x).take i))), o5] ∧ H' = H) ⟨none, rfl, rfl⟩ ?_ ?_
    · rintro i c σ _ hi ⟨o5, rfl, rfl⟩
      have hc := hx c (List.mem_of_getElem? hi)
      have hlt := runs_lt (z := tl z) (rows := rows) (fun a c h1 h2 => stp_lt hf h1 h2) (p := (tl x).take i) ha fun y hy => hx y (List.mem_of_mem_take hy)
      obtain ⟨rv, e1, hN⟩ := rows_at hR hlt
      have hrow := hf.2.2.1 _ (getD_mem (d := ([] : List Nat)) hlt)
      walk_at "go"
      refine r_ixSq hS (atI_nat e1) ?_
      walk_at "go"
      refine ⟨tyS, ?_⟩
      walk_at "go"
      obtain ⟨r, er⟩ := idx_occ hc nd
      refine ⟨z, one c, _, r, rfl, rfl, er, ?_⟩
      walk_at "go"
      refine nums_get hN (by rw [hrow.1]; exact idx_lt hc) ?_
      walk_at "go"
      refine ⟨some (.str ⟨#[c]⟩), ?_, rfl⟩
      have e2 : runs (tl z) rows a ((tl x).take (i + 1)) = stp (tl z) rows (runs (tl z) rows a ((tl x).take i)) c := by
        rw [List.take_succ, hi, ← runs_snoc]; rfl
      rw [e2]
      rfl
    · rintro σ _ ⟨o5, rfl, rfl⟩
      walk_at "go"
      rw [List.take_length]
      exact k
abbrev OStand (P : Program) (w : World) (K : PySem.W.Frag) (mg : Str → Option Value) (base : Heap) : Prop := Own P w K mg base "standing_in" 1 ["signs", "rows", "paper", "start"] (spStand K)
def spHasSum (K : PySem.W.Frag) : Sp := fun vs H Q _ => ∃ (z : Str) (v : V) (xs : List V) (m : Nat) (ws : List Nat) (g : Nat) (x : Str), vs = [.str z, v, .str x] ∧ z.length ≤ 12 ∧ (tl z).Nodup ∧ Sq K H v xs ∧ OwAt K H xs (.sum m ws g) ∧ Ow.fit (tl z) (.sum m ws g) ∧ Pp (tl z) (tl x) ∧
  ∀ H', Same H H' → Q (.bl (decide (tot (tl z) ws (tl x) (tl x).length % m = g))) H'
theorem ok_hasSum {f : Addr} {fd : FuncData} (F : Fun K "has_sum" "has_sum" sHasSum f fd) (B : Bl mg) (BZ : mg "enumerate" = none) : FnOk P w K mg base CX0 1 f fd ["signs", "values", "paper"] (spHasSum K) := by
  refine F.ok scHasSum (fun vs H Q E h => ?_) (fun cdv A outer s H vs Q E hr h => ?_)
  · obtain ⟨z, v, xs, m, ws, g, x, rfl, _⟩ := h
    rfl
  · obtain ⟨z, v, xs, m, ws, g, x, rfl, hz, nd, hS, ⟨wv, rfl, hw⟩, hf, hp, k⟩ := h
    refine ⟨_, (pss_cons (ps_asg (pv 1) (pg_sq rfl (pgs_cons (pg_name (i := 3) scHasSum.nd rfl (Or.inl rfl)) (pgs_cons (pg_name (i := 4) scHasSum.nd rfl (Or.inr rfl)) (pgs_cons (pg_name (i := 5) scHasSum.nd rfl (Or.inl rfl)) pgs_nil))))) (pss_cons (ps_set (i := 6) scHasSum.nd rfl (Or.inl rfl) (pe_callB (cr_sum rfl) (by rfl) B.sum (by decide +kernel) (pa_cons (pe_lc (own := [("at", 7), ("sign", 8)]) (g := gTup K 2 (gCons (gName 7) (gCons (gName 8) gNil))) (tt := tYes) rfl scHasSum.nd (pi_enumS rfl BZ (pa_cons (pv 2) pa_nil)) (blkOk_by (N := nHasSum) (sc := defScope sHasSum) (by decide +kernel)) (fun _ _ _ _ _ => (pg_tup rfl (pgs_cons (pg_name (i := 7) scHasSum.nd rfl (Or.inl rfl)) (pgs_cons (pg_name (i := 8) scHasSum.nd rfl (Or.inl rfl)) pgs_nil)))) (fun _ _ _ _ _ => pts_nil) (fun _ _ _ _ _ => (pe_op op_mul (pe_ix (r := rIx K) ix_seq (pv 4) (pe_op op_modN (pv 7) (pe_callB (r := rLenK K) call_len (by rfl) B.len PySem.boot_len (pa_cons (pv 4) pa_nil))) (fun _ _ => rfl)) (pe_bmK (K := K) rfl PySem.F.plainAttrs_str PySem.F.slot_str_index PySem.F.type_str_index mt_sindex (pv 0) (pa_cons (pv 8) pa_nil))))) pa_nil))) (pss_one (ps_ret (pe_cmpR op_eq (pe_op op_modN (pv 6) (pv 3)) (pv 5) (nomark _)))))), ?_⟩
    try dsimp only [cxOf, Cx.nox, Cx.wish]
    walk_at "go"
    refine r_gSq hS rfl ?_
    walk_at "go"
    intro D hD
    have hsz : x.cps.size = (tl x).length := by simp
    have hx60 := hp.le
    refine lc_pairs walk_enumS (fun _ _ => rfl) (fun acc H' => acc = ((List.range (tl x).length).take acc.length).map (fun k => vi (term (tl z) ws (tl x) k)) ∧ Same H H') ⟨rfl, same_new hD⟩ (fun _ _ _ _ => trivial) ?_ ?_
    · intro k u y T acc H' hu hy hk la hacc hPa hT
      obtain ⟨ha, sm⟩ := hPa
      obtain rfl := Option.some.inj hu
      have hk' : k < (tl x).length := by omega
      have hc : x.cps[k]? = some ((tl x).getD k 0) := by
        have := getD_at (d := 0) hk'
        simpa using this
      rw [hc] at hy
      obtain rfl := Option.some.inj hy
      have hmem := hp.all _ (getD_mem (d := 0) hk')
      have sT := sm.trans (same_new (o := HO.tup [V.int (k : Nat), V.str ⟨#[(tl x).getD k 0]⟩]) hT)
      have eD : (upd H' T (HO.tup [V.int (k : Nat), V.str ⟨#[(tl x).getD k 0]⟩])) D = some (.lst acc) := by rw [upd_ne (ne_of_none hacc hT)]; exact hacc
      walk_at "go"
      have hwl := (hw.same sT).len
      rw [List.length_map] at hwl
      have wpos := List.length_pos_iff.mpr hf.2.2.1
      refine ⟨wv, _, rfl, hwl, ?_⟩
      refine r_mod wpos ?_
      refine nums_get (hw.same sT) (mod_lt hf.2.2.1 k) ?_
      walk_at "go"
      refine ⟨tyS, ?_⟩
      walk_at "go"
      obtain ⟨r, er⟩ := idx_occ hmem nd
      refine ⟨z, one _, _, r, rfl, rfl, er, ?_⟩
      have hwlt := hf.2.2.2.2.1 _ (getD_mem (d := 0) (mod_lt hf.2.2.1 k))
      have hm60 := hf.2.1
      refine r_mul (by omega) ?_
      refine pp_next eD la (line60 (by omega)) ⟨acc_next (f := fun k => vi (term (tl z) ws (tl x) k)) (a := k) ha la (List.getElem?_eq_some_iff.mpr ⟨by rw [List.length_range]; exact hk', List.getElem_range _⟩), same_upd sT hD⟩
    · intro acc H' la hacc hPa
      obtain ⟨ha, sm⟩ := hPa
      have e0 : (List.range (tl x).length).take acc.length = List.range (tl x).length := by
        refine List.take_of_length_le ?_
        rw [List.length_range]; omega
      rw [e0] at ha
      walk_at "go"
      refine r_sum (ns := ((List.range (tl x).length).map (term (tl z) ws (tl x))).map fun n : Nat => (n : Int)) (by rw [ha] at hacc; rw [List.map_map, List.map_map]; exact SqL.of hacc) ?_
      rw [sum_cast]
      walk_at "go"
      have hm2 := hf.1
      refine r_mod (by omega) ?_
      walk_at "go"
      have e2 : decide (vi (tot (tl z) ws (tl x) (tl x).length % m) = vi g) = decide (tot (tl z) ws (tl x) (tl x).length % m = g) := by
        rw [decide_eq_decide]
        exact ⟨fun q => by have := V.int.inj q; omega, fun q => by rw [q]⟩
      have := k H' sm
      rw [← e2] at this
      exact this
theorem joinL_ones : ∀ l : List Nat, TL.joinL ([] : List Nat) (l.map fun c => [c]) = l
  | [] => rfl
  | [c] => rfl
  | c :: d :: l => by
    show [c] ++ ([] ++ TL.joinL [] ((d :: l).map fun c => [c])) = _
    rw [joinL_ones (d :: l)]
    rfl
theorem tl_join1 (l : List Nat) : tl (Txt.join "" (l.map one)) = l := by
  rw [tl_joinL, List.map_map]
  have e : (tl ("" : Str)) = [] := by decide +kernel
  rw [e]
  exact joinL_ones l
theorem strs_get {H : Hp} {v : V} {fs : List Str} (h : Sq K H v (fs.map V.str)) {i : Nat} (hi : i < fs.length) {Q : VK} (q : Q (.str (fs.getD i "")) H) : rIx K v (.int (i : Int)) H Q := by
  refine r_ixSq h (atI_nat ?_) q
  rw [List.getElem?_map, getD_at (xs := fs) (d := ("" : Str)) hi]
  rfl
def spFaced (K : PySem.W.Frag) : Sp := fun vs H Q _ => ∃ (z : Str) (v : V) (fs : List Str) (x : Str), vs = [.str z, v, .str x] ∧ z.length ≤ 12 ∧ (tl z).Nodup ∧ Sq K H v (fs.map V.str) ∧ Ow.fit (tl z) (.faces fs) ∧ Pp (tl z) (tl x) ∧
  ∀ H' y, Same H H' → tl y = faced (tl z) fs (tl x) → Q (.str y) H'
theorem ok_faced {f : Addr} {fd : FuncData} (F : Fun K "faced" "faced" sFaced f fd) (B : Bl mg) (BZ : mg "enumerate" = none) : FnOk P w K mg base CX0 1 f fd ["signs", "faces", "paper"] (spFaced K) := by
  refine F.ok scFaced (fun vs H Q E h => ?_) (fun cdv A outer s H vs Q E hr h => ?_)
  · obtain ⟨z, v, fs, x, rfl, _⟩ := h
    rfl
  · obtain ⟨z, v, fs, x, rfl, hz, nd, hS, hf, hp, k⟩ := h
    refine ⟨_, (pss_one (ps_ret (pe_m1 PySem.F.slot_str_join PySem.F.type_str_join mt_join pe_str (pe_lc (own := [("at", 3), ("sign", 4)]) (g := gTup K 2 (gCons (gName 3) (gCons (gName 4) gNil))) (tt := tYes) rfl scFaced.nd (pi_enumS rfl BZ (pa_cons (pv 2) pa_nil)) (blkOk_by (N := nFaced) (sc := defScope sFaced) (by decide +kernel)) (fun _ _ _ _ _ => (pg_tup rfl (pgs_cons (pg_name (i := 3) scFaced.nd rfl (Or.inl rfl)) (pgs_cons (pg_name (i := 4) scFaced.nd rfl (Or.inl rfl)) pgs_nil)))) (fun _ _ _ _ _ => pts_nil) (fun _ _ _ _ _ => (pe_ix ix_str (pe_ix (r := rIx K) ix_seq (pv 1) (pe_op op_modN (pv 3) (pe_callB (r := rLenK K) call_len (by rfl) B.len PySem.boot_len (pa_cons (pv 1) pa_nil))) (fun _ _ => rfl)) (pe_bmK (K := K) rfl PySem.F.plainAttrs_str PySem.F.slot_str_index PySem.F.type_str_index mt_sindex (pv 0) (pa_cons (pv 4) pa_nil)) (fun _ _ => rfl))))))), ?_⟩
    try dsimp only [cxOf, Cx.nox, Cx.wish]
    walk_at "go"
    intro D hD
    have hsz : x.cps.size = (tl x).length := by simp
    have hx60 := hp.le
    have fpos := List.length_pos_iff.mpr hf.1
    refine lc_pairs walk_enumS (fun _ _ => rfl) (fun acc H' => acc = ((List.range (tl x).length).take acc.length).map (fun k => V.str (one (fch (tl z) fs (tl x) k))) ∧ Same H H') ⟨rfl, same_new hD⟩ (fun _ _ _ _ => trivial) ?_ ?_
    · intro k u y T acc H' hu hy hk la hacc hPa hT
      obtain ⟨ha, sm⟩ := hPa
      obtain rfl := Option.some.inj hu
      have hk' : k < (tl x).length := by omega
      have hc : x.cps[k]? = some ((tl x).getD k 0) := by
        have := getD_at (d := 0) hk'
        simpa using this
      rw [hc] at hy
      obtain rfl := Option.some.inj hy
      have hmem := hp.all _ (getD_mem (d := 0) hk')
      have sT := sm.trans (same_new (o := HO.tup [V.int (k : Nat), V.str ⟨#[(tl x).getD k 0]⟩]) hT)
      have eD : (upd H' T (HO.tup [V.int (k : Nat), V.str ⟨#[(tl x).getD k 0]⟩])) D = some (.lst acc) := by rw [upd_ne (ne_of_none hacc hT)]; exact hacc
      walk_at "go"
      have hwl := (hS.same sT).len
      rw [List.length_map] at hwl
      refine ⟨v, _, rfl, hwl, ?_⟩
      refine r_mod fpos ?_
      refine strs_get (hS.same sT) (mod_lt hf.1 k) ?_
      walk_at "go"
      refine ⟨tyS, ?_⟩
      walk_at "go"
      obtain ⟨r, er⟩ := idx_occ hmem nd
      refine ⟨z, one _, _, r, rfl, rfl, er, ?_⟩
      have hfm := hf.2.2 (fs.getD (k % fs.length) "") (getD_mem (mod_lt hf.1 k))
      have hil := idx_lt hmem
      have hzl := len_tl z
      have hfl := len_tl (fs.getD (k % fs.length) "")
      refine r_ixS (small_line (by omega)) (atI_nat (show (tl (fs.getD (k % fs.length) ""))[(tl z).idxOf ((tl x).getD k 0)]? = some (fch (tl z) fs (tl x) k) from getD_at (by rw [hfm.1]; exact hil))) ?_
      refine pp_next eD la (line60 (by omega)) ⟨acc_next (f := fun k => V.str (one (fch (tl z) fs (tl x) k))) (a := k) ha la (List.getElem?_eq_some_iff.mpr ⟨by rw [List.length_range]; exact hk', List.getElem_range _⟩), same_upd sT hD⟩
    · intro acc H' la hacc hPa
      obtain ⟨ha, sm⟩ := hPa
      have e0 : (List.range (tl x).length).take acc.length = List.range (tl x).length := by
        refine List.take_of_length_le ?_
        rw [List.length_range]; omega
      rw [e0] at ha
      have e1 : acc = ((faced (tl z) fs (tl x)).map one).map V.str := by rw [ha, faced, List.map_map, List.map_map]; rfl
      walk_at "go"
      refine ⟨_, D, (faced (tl z) fs (tl x)).map one, rfl, rfl, .inl (by rw [e1] at hacc; exact SqL.of hacc), ?_, ?_⟩
      · have := sum_le (ys := (faced (tl z) fs (tl x)).map one) (b := 1) (fun p hp => by obtain ⟨c, _, rfl⟩ := List.mem_map.mp hp; exact Nat.le_refl _)
        have e3 : ("" : Str).length = 0 := by decide +kernel
        rw [e3]
        rw [List.length_map, faced_len] at *
        omega
      · exact k H' _ sm (tl_join1 _)
def spEnds (K : PySem.W.Frag) : Sp := fun vs H Q _ => ∃ (z : Str) (v : V) (xs : List V) (rows : List (List Nat)) (gs : List Nat) (x : Str), vs = [.str z, v, .str x] ∧ z.length ≤ 12 ∧ (tl z).Nodup ∧ Sq K H v xs ∧ OwAt K H xs (.square rows gs) ∧ Ow.fit (tl z) (.square rows gs) ∧ (∀ c ∈ tl x, c ∈ tl z) ∧
  Q (.bl (decide (runs (tl z) rows 0 (tl x) ∈ gs))) H
theorem inV_nums (n : Nat) : ∀ ns : List Nat, inV (vi n) (ns.map vi) = decide (n ∈ ns)
  | [] => rfl
  | m :: ns => by
    have ih := inV_nums n ns
    unfold inV at ih ⊢
    rw [List.map_cons, List.any_cons, ih]
    have e : eqV (vi m) (vi n) = decide (n = m) := by
      show decide ((m : Int) = (n : Int)) = _
      rw [decide_eq_decide]; omega
    rw [e]
    by_cases h : n = m
    · subst h; simp
    · simp [h]
theorem ok_ends {f : Addr} {fd : FuncData} (F : Fun K "ends_in_goal" "ends_in_goal" sEndsInGoal f fd) (B : Bl mg) (Osi : OStand P w K mg base) : FnOk P w K mg base CX0 2 f fd ["signs", "values", "paper"] (spEnds K) := by
  refine F.ok scEndsInGoal (fun vs H Q E h => ?_) (fun cdv A outer s H vs Q E hr h => ?_)
  · obtain ⟨z, v, xs, rows, gs, x, rfl, _⟩ := h
    rfl
  · obtain ⟨z, v, xs, rows, gs, x, rfl, hz, nd, hS, ⟨rv, gv, rvs, rfl, h1, h2, h3⟩, hf, hx, k⟩ := h
    refine ⟨_, (pss_cons (ps_asg (pv 1) (pg_sq rfl (pgs_cons (pg_name (i := 3) scEndsInGoal.nd rfl (Or.inl rfl)) (pgs_cons (pg_name (i := 4) scEndsInGoal.nd rfl (Or.inl rfl)) pgs_nil)))) (pss_one (ps_ret (pe_cmpR op_in_seq (pe_own Osi hr (pa_cons (pv 0) (pa_cons (pv 3) (pa_cons (pv 2) (pa_cons pe_int pa_nil))))) (pv 4) (by rfl))))), ?_⟩
    try dsimp only [cxOf, Cx.nox, Cx.wish]
    walk_at "go"
    refine r_gSq hS rfl ?_
    walk_at "go"
    refine ⟨z, rv, rvs, rows, gs, x, 0, rfl, hz, nd, h1, h2, hf, List.length_pos_iff.mpr hf.1, hx, ?_⟩
    walk_at "go"
    obtain ⟨ga, ea, hg⟩ := h3
    refine ⟨ga, gs.map vi, ea, hg, rfl, ?_, ?_⟩
    · rw [List.all_eq_true]
      intro y hy
      obtain ⟨n, _, rfl⟩ := List.mem_map.mp hy
      rfl
    · show Q (.bl (inV _ _)) H
      rw [inV_nums]
      exact k
abbrev OHasSum (P : Program) (w : World) (K : PySem.W.Frag) (mg : Str → Option Value) (base : Heap) : Prop := Own P w K mg base "has_sum" 1 ["signs", "values", "paper"] (spHasSum K)
abbrev OEnds (P : Program) (w : World) (K : PySem.W.Frag) (mg : Str → Option Value) (base : Heap) : Prop := Own P w K mg base "ends_in_goal" 2 ["signs", "values", "paper"] (spEnds K)
abbrev OFaced (P : Program) (w : World) (K : PySem.W.Frag) (mg : Str → Option Value) (base : Heap) : Prop := Own P w K mg base "faced" 1 ["signs", "faces", "paper"] (spFaced K)
end
end K4

/-! P11i -/


namespace K4
open PySem L2 K1
abbrev sFinds : Stmt := top 51
abbrev nFinds : List Str := ["signs", "part", "paper", "word", "values", "inner", "first", "last", "rest", "flags", "rule"]
theorem scFinds : FnScope nFinds ["signs", "part", "paper"] (defScope sFinds) := ⟨rfl, rfl, rfl, by decide +kernel, rfl, by decide +kernel, by decide +kernel⟩
theorem tl_cut_mid {x : Str} (i j : Nat) : tl (cutS x (some (i : Int)) (some (j : Int))) = ((tl x).drop i).take (j - i) := by
  have hl := len_tl x
  unfold cutS
  rw [HT.sIx_nat, HT.sIx_nat]
  show ((tl x).drop (min i x.length)).take (min j x.length - min i x.length) = _
  by_cases h : i ≤ x.length
  · rw [Nat.min_eq_left h]
    by_cases h2 : j ≤ x.length
    · rw [Nat.min_eq_left h2]
    · rw [Nat.min_eq_right (by omega), List.take_of_length_le (by rw [List.length_drop]; omega), List.take_of_length_le (by rw [List.length_drop]; omega)]
  · have hi : min i x.length = x.length := Nat.min_eq_right (by omega)
    rw [hi]
    have e1 : (tl x).drop i = [] := List.drop_eq_nil_of_le (by omega)
    have e2 : (tl x).drop x.length = [] := List.drop_eq_nil_of_le (by omega)
    rw [e1, e2]; simp
def spFinds (K : PySem.W.Frag) (n : Nat) : Sp := fun vs H Q _ => ∃ (z : Str) (v : V) (r : R) (x : Str), vs = [.str z, v, .str x] ∧ z.length ≤ 12 ∧ (tl z).Nodup ∧ RAt K H v r ∧ r.fit (tl z) ∧ Pp (tl z) (tl x) ∧ r.depth ≤ n ∧ ∀ H', Same H H' → Q (.bl (ev (tl z) r (tl x))) H'
section
variable {P : Program} {w : World} {K : PySem.W.Frag} {mg : Str → Option Value} {base : Heap} {dO dI : Addr}
abbrev OFinds (n : Nat) (P : Program) (w : World) (K : PySem.W.Frag) (mg : Str → Option Value) (base : Heap) : Prop := Own P w K mg base "finds_right" (n + 3) ["signs", "part", "paper"] (spFinds K n)
theorem ok_finds {n : Nat} {f : Addr} {fd : FuncData} (F : Fun K "finds_right" "finds_right" sFinds f fd) (B : Bl mg) (Oin : OInner P w K mg base) (Oov : OOwnV P w K mg base) (Ohs : OHasSum P w K mg base) (Oeg : OEnds P w K mg base) (Ofc : OFaced P w K mg base) (Ofi : OFinds n P w K mg base) :
    FnOk P w K mg base CX0 (n + 1 + 3) f fd ["signs", "part", "paper"] (spFinds K (n + 1)) := by
  refine F.ok scFinds (fun vs H Q E h => ?_) (fun cdv A outer s H vs Q E hr h => ?_)
  · obtain ⟨z, v, r, x, rfl, _⟩ := h
    rfl
  · obtain ⟨z, v, r, x, rfl, hz, nd, hR, hf, hp, hd, k⟩ := h
    refine ⟨_, (pss_cons (ps_set (i := 3) scFinds.nd rfl (Or.inl rfl) (pe_ix ix_seq (pv 1) pe_int (fun _ _ => rfl))) (pss_cons (ps_set (i := 4) scFinds.nd rfl (Or.inl rfl) (pe_own Oov (hr.mono (by omega)) (pa_cons (pv 1) pa_nil))) (pss_cons (ps_set (i := 5) scFinds.nd rfl (Or.inl rfl) (pe_own Oin (hr.mono (by omega)) (pa_cons (pv 1) pa_nil))) (pss_cons (ps_if (pt_cmpR op_eq (pv 3) pe_str (nomark _)) (pss_one (ps_ret (pe_own Ohs (hr.mono (by omega)) (pa_cons (pv 0) (pa_cons (pv 4) (pa_cons (pv 2) pa_nil)))))) pss_nil) (pss_cons (ps_if (pt_cmpR op_eq (pv 3) pe_str (nomark _)) (pss_one (ps_ret (pe_own Oeg (hr.mono (by omega)) (pa_cons (pv 0) (pa_cons (pv 4) (pa_cons (pv 2) pa_nil)))))) pss_nil) (pss_cons (ps_if (pt_cmpR op_eq (pv 3) pe_str (nomark _)) (pss_one (ps_ret (pe_own Ofi hr (pa_cons (pv 0) (pa_cons (pe_ix ix_seq (pv 5) pe_int (fun _ _ => rfl)) (pa_cons (pe_own Ofc (hr.mono (by omega)) (pa_cons (pv 0) (pa_cons (pe_ix ix_seq (pv 4) pe_int (fun _ _ => rfl)) (pa_cons (pv 2) pa_nil)))) pa_nil)))))) pss_nil) (pss_cons (ps_if (pt_cmpR op_eq (pv 3) pe_str (nomark _)) (pss_one (ps_ret (pe_own Ofi hr (pa_cons (pv 0) (pa_cons (pe_ix ix_seq (pv 5) pe_int (fun _ _ => rfl)) (pa_cons (pe_revS (pv 2)) pa_nil)))))) pss_nil) (pss_cons (ps_if (pt_cmpR op_eq (pv 3) pe_str (nomark _)) (pss_cons (ps_asg (pv 4) (pg_sq rfl (pgs_cons (pg_name (i := 6) scFinds.nd rfl (Or.inl rfl)) (pgs_cons (pg_name (i := 7) scFinds.nd rfl (Or.inl rfl)) pgs_nil)))) (pss_cons (ps_set (i := 8) scFinds.nd rfl (Or.inl rfl) (pe_slice sl_str (pv 2) (po_some (pv 6)) (po_some (pe_op op_sub (pe_callB call_len (by rfl) B.len PySem.boot_len (pa_cons (pv 2) pa_nil)) (pv 7))))) (pss_one (ps_ret (pe_and (pe_cmpR op_ge (pe_callB call_len (by rfl) B.len PySem.boot_len (pa_cons (pv 2) pa_nil)) (pe_op op_add (pv 6) (pv 7)) (nomark _)) (pe_one (pe_own Ofi hr (pa_cons (pv 0) (pa_cons (pe_ix ix_seq (pv 5) pe_int (fun _ _ => rfl)) (pa_cons (pv 8) pa_nil)))))))))) pss_nil) (pss_cons (ps_setLc (i := 9) (own := [("rule", 10)]) (g := gName 10) (tt := tYes) rfl scFinds.nd rfl rfl (sw_true rfl rfl rfl (by decide +kernel)) (pi_sq (pv 5)) (blkOk_by (N := nFinds) (sc := defScope sFinds) (by decide +kernel)) (fun _ _ _ _ _ => (pg_name (i := 10) scFinds.nd rfl (Or.inl rfl))) (fun _ _ _ _ _ => pts_nil) (fun _ _ _ _ _ => (pe_own Ofi hr (pa_cons (pv 0) (pa_cons (pv 10) (pa_cons (pv 2) pa_nil)))))) (pss_cons (ps_if (pt_cmpR op_eq (pv 3) pe_str (nomark _)) (pss_one (ps_ret (pe_not (pe_ix ix_list (pv 9) pe_int (fun _ _ => rfl))))) pss_nil) (pss_one (ps_ret (pe_ifExp (pt_cmpR op_eq (pv 3) pe_str (nomark _)) (pe_callB (cr_any rfl) (by rfl) B.any (by decide +kernel) (pa_cons (pv 9) pa_nil)) (pe_callB (cr_all rfl) (by rfl) B.all (by decide +kernel) (pa_cons (pv 9) pa_nil))))))))))))))), ?_⟩
    try dsimp only [cxOf, Cx.nox, Cx.wish]
    have hlx := len_tl x
    have hx60 := hp.le
    have kd := r.ow.kind_lt
    obtain ⟨xs, is, hS, hO, hI⟩ := hR.open
    have lx := hO.len
    have li := hI.len
    walk_at "go"
    refine r_ixSq hS at0 ?_
    walk_at "go"
    refine ⟨v, r.ow.kind, xs, is, rfl, kd, hS, lx, fun v' H1 s1 hv' => ?_⟩
    walk_at "go"
    refine ⟨v, r.ow.kind, xs, is, rfl, kd, hS.same s1, lx, fun p H2 hp2 s2 hi => ?_⟩
    generalize V.ref p = pv at hi ⊢
    have s12 := s1.trans s2
    have hO2 := hO.keep (Same.keeps s12)
    have hI2 := hI.keep (Same.keeps s12)
    have hv2 := hv'.same s2
    have fa := R.fit_ow hf
    walk_at "go"
    have one_in : ∀ {o : Ow} {a : R}, r = .n1 o a → ∃ i, is = [i] ∧ RAt K H2 i a := fun {o a} e => by
      subst e
      match is, hI2 with
      | [i], h => exact ⟨i, rfl, h.1⟩
      | [], h => exact h.elim
      | _ :: _ :: _, h => exact h.2.elim
    have noar : ∀ {j m : Nat}, r.ow.kind = j → ar j = m → r.inner.length = m := fun e1 e2 => by rw [fa.2, e1, e2]
    refine r_ite (fun h5 => ?_) (fun h5 => ?_)
    · have e := kind_of (k := 5) (by decide) h5
      have l0 : r.inner.length = 0 := noar e rfl
      cases r with
      | n1 o a => simp [R.inner] at l0
      | n2 o a b => simp [R.inner] at l0
      | n0 o =>
        cases o <;> first | (exact absurd e (by simp only [R.ow, Ow.kind]; decide)) | skip
        rename_i m ws g
        walk_at "go"
        exact ⟨z, v', xs, m, ws, g, x, rfl, hz, nd, hv2, hO2, fa.1, hp, fun H3 s3 => k _ (s12.trans s3)⟩
    walk_at "go"
    refine r_ite (fun h6 => ?_) (fun h6 => ?_)
    · have e := kind_of (k := 6) (by decide) h6
      have l0 : r.inner.length = 0 := noar e rfl
      cases r with
      | n1 o a => simp [R.inner] at l0
      | n2 o a b => simp [R.inner] at l0
      | n0 o =>
        cases o <;> first | (exact absurd e (by simp only [R.ow, Ow.kind]; decide)) | skip
        rename_i rows gs
        walk_at "go"
        exact ⟨z, v', xs, rows, gs, x, rfl, hz, nd, hv2, hO2, fa.1, hp.all, k _ s12⟩
    walk_at "go"
    refine r_ite (fun h7 => ?_) (fun h7 => ?_)
    · have e := kind_of (k := 7) (by decide) h7
      have l0 : r.inner.length = 1 := noar e rfl
      cases r with
      | n0 o => simp [R.inner] at l0
      | n2 o a b => simp [R.inner] at l0
      | n1 o a =>
        cases o <;> first | (exact absurd e (by simp only [R.ow, Ow.kind]; decide)) | skip
        rename_i fs
        obtain ⟨fv, rfl, hfv⟩ := hO2
        obtain ⟨i, rfl, hA⟩ := one_in rfl
        walk_at "go"
        refine r_ixSq hi at0 ?_
        walk_at "go"
        refine r_ixSq hv2 at0 ?_
        walk_at "go"
        refine ⟨z, fv, fs, x, rfl, hz, nd, hfv, fa.1, hp, fun H3 y s3 ey => ?_⟩
        walk_at "go"
        refine ⟨z, i, a, y, rfl, hz, nd, hA.keep (Same.keeps s3), hf.2.2, by rw [ey]; exact Pp.faced fa.1 hp, Nat.le_of_succ_le_succ hd, fun H4 s4 => ?_⟩
        rw [ey]
        exact k _ (s12.trans (s3.trans s4))
    walk_at "go"
    refine r_ite (fun h1 => ?_) (fun h1 => ?_)
    · have e := kind_of (k := 1) (by decide) h1
      have l0 : r.inner.length = 1 := noar e rfl
      cases r with
      | n0 o => simp [R.inner] at l0
      | n2 o a b => simp [R.inner] at l0
      | n1 o a =>
        cases o <;> first | (exact absurd e (by simp only [R.ow, Ow.kind]; decide)) | skip
        obtain ⟨i, rfl, hA⟩ := one_in rfl
        walk_at "go"
        refine r_ixSq hi at0 ?_
        walk_at "go"
        refine ⟨small_line (by omega), ?_⟩
        walk_at "go"
        exact ⟨z, i, a, revS x, rfl, hz, nd, hA, hf.2.2, hp.rev, Nat.le_of_succ_le_succ hd, fun H4 s4 => k _ (s12.trans s4)⟩
    walk_at "go"
    refine r_ite (fun h8 => ?_) (fun h8 => ?_)
    · have e := kind_of (k := 8) (by decide) h8
      have l0 : r.inner.length = 1 := noar e rfl
      cases r with
      | n0 o => simp [R.inner] at l0
      | n2 o a b => simp [R.inner] at l0
      | n1 o a =>
        cases o <;> first | (exact absurd e (by simp only [R.ow, Ow.kind]; decide)) | skip
        rename_i i1 i2
        obtain ⟨i, rfl, hA⟩ := one_in rfl
        obtain rfl : xs = [vi i1, vi i2] := hO2
        walk_at "go"
        refine r_gSq hv2 rfl ?_
        walk_at "go"
        refine ⟨_, _, rfl, lenS (small_line (by omega)), ?_⟩
        walk_at "go"
        refine ⟨small_line (by omega), ?_⟩
        walk_at "go"
        refine ⟨_, _, rfl, lenS (small_line (by omega)), ?_⟩
        walk_at "go"
        have ek : ev (tl z) (.n1 (.cut i1 i2) a) (tl x) = (decide (i1 + i2 ≤ (tl x).length) && ev (tl z) a (((tl x).drop i1).take ((tl x).length - i2 - i1))) := rfl
        rw [ek] at k
        by_cases hle : i1 + i2 ≤ x.length
        · rw [decide_eq_true (by omega), Bool.true_and] at k
          refine r_yes (by omega) ?_
          walk_at "go"
          refine r_ixSq hi at0 ?_
          walk_at "go"
          have e1 : ((x.length : Int) - (i2 : Int)) = ((x.length - i2 : Nat) : Int) := by omega
          have e2 : tl (cutS x (some (i1 : Int)) (some ((x.length : Int) - (i2 : Int)))) = ((tl x).drop i1).take ((tl x).length - i2 - i1) := by rw [e1, tl_cut_mid, hlx]
          refine ⟨z, i, a, _, rfl, hz, nd, hA, hf.2.2, by rw [e2]; exact hp.cut _ _, Nat.le_of_succ_le_succ hd, fun H4 s4 => ?_⟩
          rw [e2]
          exact k _ (s12.trans s4)
        · rw [decide_eq_false (by omega), Bool.false_and] at k
          refine r_no (by omega) ?_
          exact k _ s12
    walk_at "go"
    have lin := inner_len r
    refine lc_sq hi (fun _ => rfl) (fun acc H' => acc = ((r.inner.map fun i => ev (tl z) i (tl x)).take acc.length).map V.bl ∧ Same H2 H') (fun D hD => ⟨rfl, same_new hD⟩) (fun D acc H' _ _ q => Same.keeps q.2) ?_ _ ?_ (fun J h => h)
    · rintro D i y acc H' hD hx la hacc ⟨ha, sm⟩
      obtain ⟨ri, hri, hRA⟩ := hI2.get hx
      have hmem := List.mem_of_getElem? hri
      walk_at "go"
      refine ⟨z, y, ri, x, rfl, hz, nd, hRA.keep (Same.keeps sm), R.fit_in hf ri hmem, hp, by have := R.in_depth ri hmem; omega, fun H4 s4 => ?_⟩
      exact pp_next (s4 _ _ hacc) la (line60 (by have := (List.getElem?_eq_some_iff.mp hri).1; omega)) ⟨acc_next (f := V.bl) (a := ev (tl z) ri (tl x)) ha la (by rw [List.getElem?_map, hri]; rfl), same_upd (sm.trans s4) hD⟩
    · rintro D acc H' hD la hacc ⟨ha, sm⟩
      rw [la, li, ← List.length_map (f := fun i => ev (tl z) i (tl x)), List.take_length] at ha
      subst ha
      have kk := k _ (s12.trans sm)
      walk_at "go"
      refine r_ite (fun h2 => ?_) (fun h2 => ?_)
      · have e := kind_of (k := 2) (by decide) h2
        have l0 : r.inner.length = 1 := noar e rfl
        cases r with
        | n0 o => simp [R.inner] at l0
        | n2 o a b => simp [R.inner] at l0
        | n1 o a =>
          cases o <;> first | (exact absurd e (by simp only [R.ow, Ow.kind]; decide)) | skip
          walk_at "go"
          refine r_ixL (SqL.of hacc) (atI_nat (j := 0) rfl) ?_
          walk_at "go"
          exact kk
      walk_at "go"
      refine r_ite (fun h4 => ?_) (fun h4 => ?_)
      · have e := kind_of (k := 4) (by decide) h4
        have l0 : r.inner.length = 2 := noar e rfl
        cases r with
        | n0 o => simp [R.inner] at l0
        | n1 o a => simp [R.inner] at l0
        | n2 o a b =>
          cases o <;> first | (exact absurd e (by simp only [R.ow, Ow.kind]; decide)) | skip
          walk_at "go"
          refine ⟨D, [ev (tl z) a (tl x), ev (tl z) b (tl x)], rfl, SqL.of hacc, ?_⟩
          have e3 : [ev (tl z) a (tl x), ev (tl z) b (tl x)].any id = ev (tl z) (.n2 .either a b) (tl x) := by
            show (ev (tl z) a (tl x) || (ev (tl z) b (tl x) || false)) = (ev (tl z) a (tl x) || ev (tl z) b (tl x))
            rw [Bool.or_false]
          rw [e3]
          exact kk
      walk_at "go"
      refine r_all (SqL.of hacc) ?_
      have e3 : (r.inner.map fun i => ev (tl z) i (tl x)).all id = ev (tl z) r (tl x) := by
        cases r with
        | n0 o =>
          cases o with
          | any => rfl
          | sum m ws g => exact absurd rfl h5
          | square rows gs => exact absurd rfl h6
          | faces fs => exact absurd hf.2 (show ¬ (1 : Nat) = 0 by decide)
          | cut a b => exact absurd hf.2 (show ¬ (1 : Nat) = 0 by decide)
          | back => exact absurd hf.2 (by decide)
          | not => exact absurd hf.2 (by decide)
          | both => exact absurd hf.2 (by decide)
          | either => exact absurd hf.2 (by decide)
        | n1 o a =>
          cases o with
          | any => exact absurd hf.2.1 (by decide)
          | sum m ws g => exact absurd rfl h5
          | square rows gs => exact absurd rfl h6
          | faces fs => exact absurd rfl h7
          | cut a b => exact absurd rfl h8
          | back => exact absurd rfl h1
          | not => exact absurd rfl h2
          | both => exact absurd hf.2.1 (by decide)
          | either => exact absurd hf.2.1 (by decide)
        | n2 o a b =>
          cases o with
          | any => exact absurd hf.2.1 (by decide)
          | sum m ws g => exact absurd rfl h5
          | square rows gs => exact absurd rfl h6
          | faces fs => exact absurd rfl h7
          | cut a b => exact absurd rfl h8
          | back => exact absurd rfl h1
          | not => exact absurd rfl h2
          | both =>
            show (ev (tl z) a (tl x) && (ev (tl z) b (tl x) && true)) = (ev (tl z) a (tl x) && ev (tl z) b (tl x))
            rw [Bool.and_true]
          | either => exact absurd rfl h4
      rw [e3]
      exact kk
theorem fi_all {f : Addr} {fd : FuncData} (F : Fun K "finds_right" "finds_right" sFinds f fd) (B : Bl mg) (Oin : OInner P w K mg base) (Oov : OOwnV P w K mg base) (Ohs : OHasSum P w K mg base) (Oeg : OEnds P w K mg base) (Ofc : OFaced P w K mg base)
    (m : mg "finds_right" = some (.ref f)) (b : Binds K fd ["signs", "part", "paper"] []) : ∀ n : Nat, OFinds n P w K mg base
  | 0 => ⟨f, fd, none_ok fun vs H Q E h => by obtain ⟨z, v, r, x, _, _, _, _, _, _, hd, _⟩ := h; have := R.depth_pos r; omega, m, F.kp, b⟩
  | n + 1 => ⟨f, fd, ok_finds F B Oin Oov Ohs Oeg Ofc (fi_all F B Oin Oov Ohs Oeg Ofc m b n), m, F.kp, b⟩
theorem pp_text {z p : Str} (h : Pp (tl z) (tl p)) : textB 0 60 z p = true := by
  have := h.le
  have l := len_tl p
  unfold textB
  rw [decide_eq_true (by omega), decide_eq_true (by omega), Bool.true_and, Bool.true_and]
  exact List.all_eq_true.mpr fun c hc => decide_eq_true (h.all c hc)
end
end K4

/-! L11a -/


namespace K4
open PySem L2 K1
abbrev sLJudged : Stmt := top 70
abbrev nLJudged : List Str := ["_law_signs", "_law_rule", "_law_paper", "_law_word", "_law_total", "_law_k", "_law_z", "_law_sign", "_law_faced"]
theorem scLJudged : FnScope nLJudged ["_law_signs", "_law_rule", "_law_paper"] (defScope sLJudged) := ⟨rfl, rfl, rfl, by decide +kernel, rfl, by decide +kernel, by decide +kernel⟩
theorem ix_paper {x : Str} (hx : x.length ≤ 1000) {i : Nat} (hi : i < (tl x).length) {Q : VK} {H : Hp} (q : Q (.str (one ((tl x).getD i 0))) H) : rIxS (.str x) (.int (i : Int)) H Q :=
  r_ixS (small_line hx) (atI_nat (getD_at (d := 0) hi)) q
section
variable {P : Program} {w : World} {K : PySem.W.Frag} {mg : Str → Option Value} {base : Heap} {dO dI : Addr}
abbrev OJudged (n : Nat) (P : Program) (w : World) (K : PySem.W.Frag) (mg : Str → Option Value) (base : Heap) : Prop := Own P w K mg base "_law_judged" (n + 1) ["_law_signs", "_law_rule", "_law_paper"] (spFinds K n)
theorem ok_judged {n : Nat} {f : Addr} {fd : FuncData} (F : Fun K "_law_judged" "_law_judged" sLJudged f fd) (B : Bl mg) (Olj : OJudged n P w K mg base) :
    FnOk P w K mg base CX0 (n + 1 + 1) f fd ["_law_signs", "_law_rule", "_law_paper"] (spFinds K (n + 1)) := by
  refine F.ok scLJudged (fun vs H Q E h => ?_) (fun cdv A outer s H vs Q E hr h => ?_)
  · obtain ⟨z, v, r, x, rfl, _⟩ := h
    rfl
  · obtain ⟨z, v, r, x, rfl, hz, nd, hR, hf, hp, hd, k⟩ := h
    refine ⟨_, (pss_cons (ps_set (i := 3) scLJudged.nd rfl (Or.inl rfl) (pe_ix ix_seq (pv 1) pe_int (fun _ _ => rfl))) (pss_cons (ps_if (pt_cmpR op_eq (pv 3) pe_str (nomark _)) (pss_cons (ps_set (i := 4) scLJudged.nd rfl (Or.inl rfl) pe_int) (pss_cons (ps_for PassesOwn.never rfl (pi_range1 rfl B.range (pa_cons (pe_callB call_len (by rfl) B.len PySem.boot_len (pa_cons (pv 2) pa_nil)) pa_nil)) (pg_name (i := 5) scLJudged.nd rfl (Or.inl rfl)) (pss_one (ps_set (i := 4) scLJudged.nd rfl (Or.inl rfl) (pe_op op_add (pv 4) (pe_op op_mul (pe_ix ix_seq (pe_ix ix_seq (pv 1) pe_int (fun _ _ => rfl)) (pe_op op_modN (pe_callTy call_int1 (by rfl) B.int (by decide +kernel) (pa_cons (pv 5) pa_nil)) (pe_callB call_len (by rfl) B.len PySem.boot_len (pa_cons (pe_ix ix_seq (pv 1) pe_int (fun _ _ => rfl)) pa_nil))) (fun _ _ => rfl)) (pe_bm PySem.F.plainAttrs_str PySem.F.slot_str_index PySem.F.type_str_index mt_sindex (pv 0) (pa_cons (pe_ix ix_str (pv 2) (pv 5) (fun _ _ => rfl)) pa_nil))))))) (pss_one (ps_ret (pe_cmpR op_eq (pe_op op_modN (pe_callTy call_int1 (by rfl) B.int (by decide +kernel) (pa_cons (pv 4) pa_nil)) (pe_ix ix_seq (pv 1) pe_int (fun _ _ => rfl))) (pe_ix ix_seq (pv 1) pe_int (fun _ _ => rfl)) (nomark _)))))) pss_nil) (pss_cons (ps_if (pt_cmpR op_eq (pv 3) pe_str (nomark _)) (pss_cons (ps_set (i := 6) scLJudged.nd rfl (Or.inl rfl) pe_int) (pss_cons (ps_for PassesOwn.never rfl (pi_str (pv 2)) (pg_name (i := 7) scLJudged.nd rfl (Or.inl rfl)) (pss_one (ps_set (i := 6) scLJudged.nd rfl (Or.inl rfl) (pe_ix ix_seq (pe_ix ix_seq (pe_ix ix_seq (pv 1) pe_int (fun _ _ => rfl)) (pv 6) (fun _ _ => rfl)) (pe_bm PySem.F.plainAttrs_str PySem.F.slot_str_index PySem.F.type_str_index mt_sindex (pv 0) (pa_cons (pv 7) pa_nil)) (fun _ _ => rfl))))) (pss_one (ps_ret (pe_cmpR op_in_seq (pv 6) (pe_ix ix_seq (pv 1) pe_int (fun _ _ => rfl)) (by rfl)))))) pss_nil) (pss_cons (ps_if (pt_cmpR op_eq (pv 3) pe_str (nomark _)) (pss_cons (ps_set (i := 8) scLJudged.nd rfl (Or.inl rfl) pe_str) (pss_cons (ps_for PassesOwn.never rfl (pi_range1 rfl B.range (pa_cons (pe_callB call_len (by rfl) B.len PySem.boot_len (pa_cons (pv 2) pa_nil)) pa_nil)) (pg_name (i := 5) scLJudged.nd rfl (Or.inl rfl)) (pss_one (ps_set (i := 8) scLJudged.nd rfl (Or.inl rfl) (pe_op op_add_str (pv 8) (pe_ix ix_str (pe_ix ix_seq (pe_ix ix_seq (pv 1) pe_int (fun _ _ => rfl)) (pe_op op_modN (pe_callTy call_int1 (by rfl) B.int (by decide +kernel) (pa_cons (pv 5) pa_nil)) (pe_callB call_len (by rfl) B.len PySem.boot_len (pa_cons (pe_ix ix_seq (pv 1) pe_int (fun _ _ => rfl)) pa_nil))) (fun _ _ => rfl)) (pe_bm PySem.F.plainAttrs_str PySem.F.slot_str_index PySem.F.type_str_index mt_sindex (pv 0) (pa_cons (pe_ix ix_str (pv 2) (pv 5) (fun _ _ => rfl)) pa_nil)) (fun _ _ => rfl)))))) (pss_one (ps_ret (pe_own Olj hr (pa_cons (pv 0) (pa_cons (pe_ix ix_seq (pv 1) pe_int (fun _ _ => rfl)) (pa_cons (pv 8) pa_nil)))))))) pss_nil) (pss_cons (ps_if (pt_cmpR op_eq (pv 3) pe_str (nomark _)) (pss_one (ps_ret (pe_own Olj hr (pa_cons (pv 0) (pa_cons (pe_ix ix_seq (pv 1) pe_int (fun _ _ => rfl)) (pa_cons (pe_revS (pv 2)) pa_nil)))))) pss_nil) (pss_cons (ps_if (pt_cmpR op_eq (pv 3) pe_str (nomark _)) (pss_cons (ps_if (pt_cmpR op_lt (pe_callB call_len (by rfl) B.len PySem.boot_len (pa_cons (pv 2) pa_nil)) (pe_op op_add (pe_ix ix_seq (pv 1) pe_int (fun _ _ => rfl)) (pe_ix ix_seq (pv 1) pe_int (fun _ _ => rfl))) (nomark _)) (pss_one (ps_ret pe_bl)) pss_nil) (pss_one (ps_ret (pe_own Olj hr (pa_cons (pv 0) (pa_cons (pe_ix ix_seq (pv 1) pe_int (fun _ _ => rfl)) (pa_cons (pe_slice sl_str (pv 2) (po_some (pe_ix ix_seq (pv 1) pe_int (fun _ _ => rfl))) (po_some (pe_op op_sub (pe_callB call_len (by rfl) B.len PySem.boot_len (pa_cons (pv 2) pa_nil)) (pe_ix ix_seq (pv 1) pe_int (fun _ _ => rfl))))) pa_nil))))))) pss_nil) (pss_cons (ps_if (pt_cmpR op_eq (pv 3) pe_str (nomark _)) (pss_one (ps_ret (pe_and (pe_own Olj hr (pa_cons (pv 0) (pa_cons (pe_ix ix_seq (pv 1) pe_int (fun _ _ => rfl)) (pa_cons (pv 2) pa_nil)))) (pe_one (pe_own Olj hr (pa_cons (pv 0) (pa_cons (pe_ix ix_seq (pv 1) pe_int (fun _ _ => rfl)) (pa_cons (pv 2) pa_nil)))))))) pss_nil) (pss_cons (ps_if (pt_cmpR op_eq (pv 3) pe_str (nomark _)) (pss_one (ps_ret (pe_or (pe_own Olj hr (pa_cons (pv 0) (pa_cons (pe_ix ix_seq (pv 1) pe_int (fun _ _ => rfl)) (pa_cons (pv 2) pa_nil)))) (pe_one (pe_own Olj hr (pa_cons (pv 0) (pa_cons (pe_ix ix_seq (pv 1) pe_int (fun _ _ => rfl)) (pa_cons (pv 2) pa_nil)))))))) pss_nil) (pss_cons (ps_if (pt_cmpR op_eq (pv 3) pe_str (nomark _)) (pss_one (ps_ret (pe_not (pe_own Olj hr (pa_cons (pv 0) (pa_cons (pe_ix ix_seq (pv 1) pe_int (fun _ _ => rfl)) (pa_cons (pv 2) pa_nil))))))) pss_nil) (pss_one (ps_ret pe_bl))))))))))), ?_⟩
    try dsimp only [cxOf, Cx.nox, Cx.wish]
    have hlx := len_tl x
    have hzl := len_tl z
    have hx60 := hp.le
    have kd := r.ow.kind_lt
    obtain ⟨xs, is, hS, hO, hI⟩ := hR.open
    have lx := hO.len
    have li := hI.len
    have fa := R.fit_ow hf
    have noar : ∀ {j m : Nat}, r.ow.kind = j → ar j = m → r.inner.length = m := fun e1 e2 => by rw [fa.2, e1, e2]
    have one_in : ∀ {o : Ow} {a : R}, r = .n1 o a → ∃ i, is = [i] ∧ RAt K H i a := fun {o a} e => by
      subst e
      match is, hI with
      | [i], h => exact ⟨i, rfl, h.1⟩
      | [], h => exact h.elim
      | _ :: _ :: _, h => exact h.2.elim
    have two_in : ∀ {o : Ow} {a b : R}, r = .n2 o a b → ∃ i j, is = [i, j] ∧ RAt K H i a ∧ RAt K H j b := fun {o a b} e => by
      subst e
      match is, hI with
      | [i, j], h => exact ⟨i, j, rfl, h.1, h.2.1⟩
      | [], h => exact h.elim
      | [_], h => exact h.2.elim
      | _ :: _ :: _ :: _, h => exact h.2.2.elim
    have sg : ∀ c, c ∈ tl x → ∃ r', Builtin.Str.occurrences z (one c) 0 z.length 1 = (tl z).idxOf c :: r' := fun c hc => idx_occ (hp.all c hc) nd
    walk_at "go"
    refine r_ixSq hS at0 ?_
    walk_at "go"
    refine r_ite (fun h5 => ?_) (fun h5 => ?_)
    · have e := kind_of (k := 5) (by decide) h5
      have l0 : r.inner.length = 0 := noar e rfl
      cases r with
      | n1 o a => simp [R.inner] at l0
      | n2 o a b => simp [R.inner] at l0
      | n0 o =>
        cases o <;> first | (exact absurd e (by simp only [R.ow, Ow.kind]; decide)) | skip
        rename_i m ws g
        obtain ⟨wv, rfl, hw⟩ := hO
        obtain ⟨m2, m60, wne, w8, wlt, glt⟩ := fa.1
        have wpos := List.length_pos_iff.mpr wne
        have hwl := hw.len
        rw [List.length_map] at hwl
        walk_at "go"
        refine ⟨_, _, rfl, lenS (small_line (by omega)), ?_⟩
        walk_at "go"
        refine ⟨by omega, by omega, fr_range (lo := 0) (n := x.length) (fun i σ H' => ∃ o5 : Option V, σ = [some (.str z), some v, some (.str x), some (.str (wd 5)), some (vi (tot (tl z) ws (tl x) i)), o5, none, none, none] ∧ H' = H) ⟨none, rfl, rfl⟩ ?_ ?_⟩
        · rintro i σ _ hi ⟨o5, rfl, rfl⟩
          walk_at "go"
          rw [Int.zero_add]
          refine r_ixSq hS (atI_nat (j := 2) rfl) ?_
          walk_at "go"
          refine r_ixSq hS (atI_nat (j := 2) rfl) ?_
          walk_at "go"
          refine ⟨wv, _, rfl, hwl, ?_⟩
          refine r_mod wpos ?_
          refine nums_get hw (mod_lt wne i) ?_
          walk_at "go"
          refine ⟨tyS, ?_⟩
          walk_at "go"
          refine ix_paper (by omega) (by omega) ?_
          walk_at "go"
          have hmem := getD_mem (xs := tl x) (i := i) (d := 0) (by omega)
          obtain ⟨r', er⟩ := sg _ hmem
          refine ⟨z, one _, _, r', rfl, rfl, er, ?_⟩
          have hwlt := wlt _ (getD_mem (d := 0) (mod_lt wne i))
          refine r_mul (by omega) ?_
          walk_at "go"
          refine ⟨some (.int (i : Nat)), ?_, rfl⟩
          rw [tot_succ, ← Int.natCast_add]
          rfl
        · rintro σ _ ⟨o5, rfl, rfl⟩
          walk_at "go"
          refine r_ixSq hS (atI_nat (j := 1) rfl) ?_
          refine r_mod (by omega) ?_
          walk_at "go"
          refine r_ixSq hS (atI_nat (j := 3) rfl) ?_
          walk_at "go"
          have e2 : decide (vi (tot (tl z) ws (tl x) x.length % m) = vi g) = decide (tot (tl z) ws (tl x) (tl x).length % m = g) := by
            rw [decide_eq_decide, hlx]
            exact ⟨fun q => by have := V.int.inj q; omega, fun q => by rw [q]⟩
          have := k _ (Same.refl _)
          rw [show ev (tl z) (.n0 (.sum m ws g)) (tl x) = decide (tot (tl z) ws (tl x) (tl x).length % m = g) from rfl, ← e2] at this
          exact this
    walk_at "go"
    refine r_ite (fun h6 => ?_) (fun h6 => ?_)
    · have e := kind_of (k := 6) (by decide) h6
      have l0 : r.inner.length = 0 := noar e rfl
      cases r with
      | n1 o a => simp [R.inner] at l0
      | n2 o a b => simp [R.inner] at l0
      | n0 o =>
        cases o <;> first | (exact absurd e (by simp only [R.ow, Ow.kind]; decide)) | skip
        rename_i rows gs
        obtain ⟨rv, gv, rvs, rfl, h1, h2, h3⟩ := hO
        have hfs : Ow.fit (tl z) (.square rows gs) := fa.1
        walk_at "go"
        refine fr_str (fun i σ H' => ∃ o7 : Option V, σ = [some (.str z), some v, some (.str x), some (.str (wd 6)), none, none, some (vi (runs (tl z) rows 0 ((tl x).take i))), o7, none] ∧ H' = H) ⟨none, rfl, rfl⟩ ?_ ?_
        · rintro i c σ _ hi ⟨o5, rfl, rfl⟩
          have hc := hp.all c (List.mem_of_getElem? hi)
          have hlt := runs_lt (z := tl z) (rows := rows) (fun a c h1 h2 => stp_lt hfs h1 h2) (p := (tl x).take i) (List.length_pos_iff.mpr hfs.1) fun y hy => hp.all y (List.mem_of_mem_take hy)
          obtain ⟨rv', e1, hN⟩ := rows_at h2 hlt
          have hrow := hfs.2.2.1 _ (getD_mem (d := ([] : List Nat)) hlt)
          walk_at "go"
          refine r_ixSq hS (atI_nat (j := 1) rfl) ?_
          walk_at "go"
          refine r_ixSq h1 (atI_nat e1) ?_
          walk_at "go"
          refine ⟨tyS, ?_⟩
          walk_at "go"
          obtain ⟨r', er⟩ := idx_occ hc nd
          refine ⟨z, one c, _, r', rfl, rfl, er, ?_⟩
          walk_at "go"
          refine nums_get hN (by rw [hrow.1]; exact idx_lt hc) ?_
          walk_at "go"
          refine ⟨some (.str ⟨#[c]⟩), ?_, rfl⟩
          have e2 : runs (tl z) rows 0 ((tl x).take (i + 1)) = stp (tl z) rows (runs (tl z) rows 0 ((tl x).take i)) c := by
            rw [List.take_succ, hi, ← runs_snoc]; rfl
          rw [e2]
          rfl
        · rintro σ _ ⟨o5, rfl, rfl⟩
          walk_at "go"
          refine r_ixSq hS (atI_nat (j := 2) rfl) ?_
          obtain ⟨ga, ea, hg⟩ := h3
          refine ⟨ga, gs.map vi, ea, hg, rfl, ?_, ?_⟩
          · rw [List.all_eq_true]
            intro y hy
            obtain ⟨n, _, rfl⟩ := List.mem_map.mp hy
            rfl
          · show Q (.bl (inV _ _)) _
            rw [inV_nums, List.take_length]
            exact k _ (Same.refl _)
    walk_at "go"
    refine r_ite (fun h7 => ?_) (fun h7 => ?_)
    · have e := kind_of (k := 7) (by decide) h7
      have l0 : r.inner.length = 1 := noar e rfl
      cases r with
      | n0 o => simp [R.inner] at l0
      | n2 o a b => simp [R.inner] at l0
      | n1 o a =>
        cases o <;> first | (exact absurd e (by simp only [R.ow, Ow.kind]; decide)) | skip
        rename_i fs
        obtain ⟨fv, rfl, hfv⟩ := hO
        obtain ⟨i, rfl, hA⟩ := one_in rfl
        have hff : Ow.fit (tl z) (.faces fs) := fa.1
        have fpos := List.length_pos_iff.mpr hff.1
        have hfl := hfv.len
        rw [List.length_map] at hfl
        walk_at "go"
        refine ⟨_, _, rfl, lenS (small_line (by omega)), ?_⟩
        walk_at "go"
        refine ⟨by omega, by omega, fr_range (lo := 0) (n := x.length) (fun j σ H' => ∃ (o5 : Option V) (y : Str), σ = [some (.str z), some v, some (.str x), some (.str (wd 7)), none, o5, none, none, some (.str y)] ∧ tl y = (faced (tl z) fs (tl x)).take j ∧ H' = H) ⟨none, _, rfl, rfl, rfl⟩ ?_ ?_⟩
        · rintro j σ _ hj ⟨o5, y, rfl, hy, rfl⟩
          walk_at "go"
          rw [Int.zero_add]
          refine r_ixSq hS (atI_nat (j := 1) rfl) ?_
          walk_at "go"
          refine r_ixSq hS (atI_nat (j := 1) rfl) ?_
          walk_at "go"
          refine ⟨fv, _, rfl, hfl, ?_⟩
          refine r_mod fpos ?_
          refine strs_get hfv (mod_lt hff.1 j) ?_
          walk_at "go"
          refine ⟨tyS, ?_⟩
          walk_at "go"
          refine ix_paper (by omega) (by omega) ?_
          walk_at "go"
          have hmem := getD_mem (xs := tl x) (i := j) (d := 0) (by omega)
          obtain ⟨r', er⟩ := sg _ hmem
          refine ⟨z, one _, _, r', rfl, rfl, er, ?_⟩
          have hfm := hff.2.2 (fs.getD (j % fs.length) "") (getD_mem (mod_lt hff.1 j))
          have hil := idx_lt (hp.all _ hmem)
          have hgl := len_tl (fs.getD (j % fs.length) "")
          have hyl := len_tl y
          have hyl2 : (tl y).length ≤ 60 := by rw [hy, List.length_take, faced_len]; omega
          refine r_ixS (small_line (by omega)) (atI_nat (show (tl (fs.getD (j % fs.length) ""))[(tl z).idxOf ((tl x).getD j 0)]? = some (fch (tl z) fs (tl x) j) from getD_at (by rw [hfm.1]; exact hil))) ?_
          refine ⟨y, _, rfl, rfl, small_line (by show y.length + 1 ≤ 1000; omega), ?_⟩
          walk_at "go"
          refine ⟨some (.int (j : Nat)), y ++ one (fch (tl z) fs (tl x) j), rfl, ?_, rfl⟩
          have e3 : (faced (tl z) fs (tl x))[j]? = some (fch (tl z) fs (tl x) j) := by
            rw [faced, List.getElem?_map, List.getElem?_range (by omega)]; rfl
          rw [List.take_succ, e3, ← hy]
          exact K1.app_cps y _
        · rintro σ _ ⟨o5, y, rfl, hy, rfl⟩
          rw [List.take_of_length_le (by rw [faced_len]; omega)] at hy
          walk_at "go"
          refine r_ixSq hS (atI_nat (j := 2) rfl) ?_
          walk_at "go"
          refine ⟨z, i, a, y, rfl, hz, nd, hA, hf.2.2, by rw [hy]; exact Pp.faced hff hp, Nat.le_of_succ_le_succ hd, fun H4 s4 => ?_⟩
          rw [hy]
          exact k _ s4
    walk_at "go"
    refine r_ite (fun h1 => ?_) (fun h1 => ?_)
    · have e := kind_of (k := 1) (by decide) h1
      have l0 : r.inner.length = 1 := noar e rfl
      cases r with
      | n0 o => simp [R.inner] at l0
      | n2 o a b => simp [R.inner] at l0
      | n1 o a =>
        cases o <;> first | (exact absurd e (by simp only [R.ow, Ow.kind]; decide)) | skip
        obtain ⟨i, rfl, hA⟩ := one_in rfl
        obtain rfl : xs = [] := hO
        walk_at "go"
        refine r_ixSq hS (atI_nat (j := 1) rfl) ?_
        walk_at "go"
        refine ⟨small_line (by omega), ?_⟩
        walk_at "go"
        exact ⟨z, i, a, revS x, rfl, hz, nd, hA, hf.2.2, hp.rev, Nat.le_of_succ_le_succ hd, fun H4 s4 => k _ s4⟩
    walk_at "go"
    refine r_ite (fun h8 => ?_) (fun h8 => ?_)
    · have e := kind_of (k := 8) (by decide) h8
      have l0 : r.inner.length = 1 := noar e rfl
      cases r with
      | n0 o => simp [R.inner] at l0
      | n2 o a b => simp [R.inner] at l0
      | n1 o a =>
        cases o <;> first | (exact absurd e (by simp only [R.ow, Ow.kind]; decide)) | skip
        rename_i i1 i2
        obtain ⟨i, rfl, hA⟩ := one_in rfl
        obtain rfl : xs = [vi i1, vi i2] := hO
        have ek : ev (tl z) (.n1 (.cut i1 i2) a) (tl x) = (decide (i1 + i2 ≤ (tl x).length) && ev (tl z) a (((tl x).drop i1).take ((tl x).length - i2 - i1))) := rfl
        rw [ek] at k
        walk_at "go"
        refine ⟨_, _, rfl, lenS (small_line (by omega)), ?_⟩
        walk_at "go"
        refine r_ixSq hS (atI_nat (j := 1) rfl) ?_
        walk_at "go"
        refine r_ixSq hS (atI_nat (j := 2) rfl) ?_
        walk_at "go"
        by_cases hle : i1 + i2 ≤ x.length
        · rw [decide_eq_true (by omega), Bool.true_and] at k
          refine r_no (by omega) ?_
          walk_at "go"
          refine r_ixSq hS (atI_nat (j := 3) rfl) ?_
          walk_at "go"
          refine r_ixSq hS (atI_nat (j := 1) rfl) ?_
          walk_at "go"
          refine ⟨_, _, rfl, lenS (small_line (by omega)), ?_⟩
          walk_at "go"
          refine r_ixSq hS (atI_nat (j := 2) rfl) ?_
          walk_at "go"
          refine ⟨small_line (by omega), ?_⟩
          have e1 : ((x.length : Int) - (i2 : Int)) = ((x.length - i2 : Nat) : Int) := by omega
          have e2 : tl (cutS x (some (i1 : Int)) (some ((x.length : Int) - (i2 : Int)))) = ((tl x).drop i1).take ((tl x).length - i2 - i1) := by rw [e1, tl_cut_mid, hlx]
          refine ⟨z, i, a, _, rfl, hz, nd, hA, hf.2.2, by rw [e2]; exact hp.cut _ _, Nat.le_of_succ_le_succ hd, fun H4 s4 => ?_⟩
          rw [e2]
          exact k _ s4
        · rw [decide_eq_false (by omega), Bool.false_and] at k
          refine r_yes (by omega) ?_
          walk_at "go"
          exact k _ (Same.refl _)
    walk_at "go"
    refine r_ite (fun h3 => ?_) (fun h3 => ?_)
    · have e := kind_of (k := 3) (by decide) h3
      have l0 : r.inner.length = 2 := noar e rfl
      cases r with
      | n0 o => simp [R.inner] at l0
      | n1 o a => simp [R.inner] at l0
      | n2 o a b =>
        cases o <;> first | (exact absurd e (by simp only [R.ow, Ow.kind]; decide)) | skip
        obtain ⟨i, j, rfl, hA, hB⟩ := two_in rfl
        obtain rfl : xs = [] := hO
        have hda : a.depth ≤ n ∧ b.depth ≤ n := by have hd' : max a.depth b.depth + 1 ≤ n + 1 := hd; omega
        have kb : ∀ H', Same H H' → Q (.bl (ev (tl z) a (tl x) && ev (tl z) b (tl x))) H' := k
        walk_at "go"
        refine r_ixSq hS (atI_nat (j := 1) rfl) ?_
        walk_at "go"
        refine ⟨z, i, a, x, rfl, hz, nd, hA, hf.2.2.1, hp, hda.1, fun H4 s4 => ?_⟩
        cases ea : ev (tl z) a (tl x) with
        | false =>
          rw [ea] at kb
          walk_at "go"
          exact kb _ s4
        | true =>
          rw [ea] at kb
          walk_at "go"
          refine r_ixSq (hS.same s4) (atI_nat (j := 2) rfl) ?_
          walk_at "go"
          refine ⟨z, j, b, x, rfl, hz, nd, hB.keep (Same.keeps s4), hf.2.2.2, hp, hda.2, fun H5 s5 => ?_⟩
          have := kb _ (s4.trans s5)
          rw [Bool.true_and] at this
          exact this
    walk_at "go"
    refine r_ite (fun h4 => ?_) (fun h4 => ?_)
    · have e := kind_of (k := 4) (by decide) h4
      have l0 : r.inner.length = 2 := noar e rfl
      cases r with
      | n0 o => simp [R.inner] at l0
      | n1 o a => simp [R.inner] at l0
      | n2 o a b =>
        cases o <;> first | (exact absurd e (by simp only [R.ow, Ow.kind]; decide)) | skip
        obtain ⟨i, j, rfl, hA, hB⟩ := two_in rfl
        obtain rfl : xs = [] := hO
        have hda : a.depth ≤ n ∧ b.depth ≤ n := by have hd' : max a.depth b.depth + 1 ≤ n + 1 := hd; omega
        have kb : ∀ H', Same H H' → Q (.bl (ev (tl z) a (tl x) || ev (tl z) b (tl x))) H' := k
        walk_at "go"
        refine r_ixSq hS (atI_nat (j := 1) rfl) ?_
        walk_at "go"
        refine ⟨z, i, a, x, rfl, hz, nd, hA, hf.2.2.1, hp, hda.1, fun H4 s4 => ?_⟩
        cases ea : ev (tl z) a (tl x) with
        | true =>
          rw [ea] at kb
          walk_at "go"
          exact kb _ s4
        | false =>
          rw [ea] at kb
          walk_at "go"
          refine r_ixSq (hS.same s4) (atI_nat (j := 2) rfl) ?_
          walk_at "go"
          refine ⟨z, j, b, x, rfl, hz, nd, hB.keep (Same.keeps s4), hf.2.2.2, hp, hda.2, fun H5 s5 => ?_⟩
          have := kb _ (s4.trans s5)
          rw [Bool.false_or] at this
          exact this
    walk_at "go"
    refine r_ite (fun h2 => ?_) (fun h2 => ?_)
    · have e := kind_of (k := 2) (by decide) h2
      have l0 : r.inner.length = 1 := noar e rfl
      cases r with
      | n0 o => simp [R.inner] at l0
      | n2 o a b => simp [R.inner] at l0
      | n1 o a =>
        cases o <;> first | (exact absurd e (by simp only [R.ow, Ow.kind]; decide)) | skip
        obtain ⟨i, rfl, hA⟩ := one_in rfl
        obtain rfl : xs = [] := hO
        have kb : ∀ H', Same H H' → Q (.bl (!ev (tl z) a (tl x))) H' := k
        walk_at "go"
        refine r_ixSq hS (atI_nat (j := 1) rfl) ?_
        walk_at "go"
        refine ⟨z, i, a, x, rfl, hz, nd, hA, hf.2.2, hp, Nat.le_of_succ_le_succ hd, fun H4 s4 => ?_⟩
        walk_at "go"
        exact kb _ s4
    walk_at "go"
    have e3 : ev (tl z) r (tl x) = true := by
      cases r with
      | n0 o =>
        cases o with
        | any => rfl
        | sum m ws g => exact absurd rfl h5
        | square rows gs => exact absurd rfl h6
        | faces fs => exact absurd rfl h7
        | cut a b => exact absurd rfl h8
        | back => exact absurd rfl h1
        | not => exact absurd rfl h2
        | both => exact absurd rfl h3
        | either => exact absurd rfl h4
      | n1 o a =>
        cases o with
        | any => exact absurd hf.2.1 (by decide)
        | sum m ws g => exact absurd rfl h5
        | square rows gs => exact absurd rfl h6
        | faces fs => exact absurd rfl h7
        | cut a b => exact absurd rfl h8
        | back => exact absurd rfl h1
        | not => exact absurd rfl h2
        | both => exact absurd rfl h3
        | either => exact absurd rfl h4
      | n2 o a b =>
        cases o with
        | any => exact absurd hf.2.1 (by decide)
        | sum m ws g => exact absurd rfl h5
        | square rows gs => exact absurd rfl h6
        | faces fs => exact absurd rfl h7
        | cut a b => exact absurd rfl h8
        | back => exact absurd rfl h1
        | not => exact absurd rfl h2
        | both => exact absurd rfl h3
        | either => exact absurd rfl h4
    have kk := k H (Same.refl _)
    rw [e3] at kk
    exact kk
theorem lj_all {f : Addr} {fd : FuncData} (F : Fun K "_law_judged" "_law_judged" sLJudged f fd) (B : Bl mg) (m : mg "_law_judged" = some (.ref f)) (b : Binds K fd ["_law_signs", "_law_rule", "_law_paper"] []) : ∀ n : Nat, OJudged n P w K mg base
  | 0 => ⟨f, fd, none_ok fun vs H Q E h => by obtain ⟨z, v, r, x, _, _, _, _, _, _, hd, _⟩ := h; have := R.depth_pos r; omega, m, F.kp, b⟩
  | n + 1 => ⟨f, fd, ok_judged F B (lj_all F B m b n), m, F.kp, b⟩
end
end K4

/-! G69a -/


/-! What the program says of any data as a rule. -/
namespace K4
open PySem L2 K1
mutual
def okd : PyData → Bool
  | .str y => decide (y.length ≤ 1000)
  | .tuple ds => decide (ds.length ≤ 1000) && okdA ds
  | .list ds => decide (ds.length ≤ 1000) && okdA ds
  | .dict _ => false
  | _ => true
def okdA : List PyData → Bool
  | [] => true
  | d :: ds => okd d && okdA ds
end
theorem okdA_iff : ∀ {ds : List PyData}, okdA ds = true ↔ ∀ d ∈ ds, okd d = true
  | [] => by simp [okdA]
  | d :: ds => by simp [okdA, okdA_iff]
def items : PyData → Option (List PyData)
  | .tuple ds => some ds
  | .list ds => some ds
  | _ => none
theorem okd_items {d : PyData} {ds : List PyData} (h : okd d = true) (e : items d = some ds) : ds.length ≤ 1000 ∧ ∀ x ∈ ds, okd x = true := by
  cases d with
  | tuple xs =>
    obtain rfl := Option.some.inj e
    rw [okd, Bool.and_eq_true, decide_eq_true_eq] at h
    exact ⟨h.1, okdA_iff.mp h.2⟩
  | list xs =>
    obtain rfl := Option.some.inj e
    rw [okd, Bool.and_eq_true, decide_eq_true_eq] at h
    exact ⟨h.1, okdA_iff.mp h.2⟩
  | _ => cases e
def wnB (lo hi : Int) : PyData → Bool
  | .int i => decide (lo ≤ i) && decide (i ≤ hi)
  | _ => false
def tupB (lo hi : Int) (d : PyData) : Bool := match items d with
  | some ds => decide (lo ≤ (ds.length : Int)) && decide ((ds.length : Int) ≤ hi)
  | none => false
def txB (lo hi : Int) (cs : Str) : PyData → Bool
  | .str y => textB lo hi cs y
  | _ => false
def natD : PyData → Nat
  | .int i => i.toNat
  | _ => 0
def rowB (kinds many : Nat) (d : PyData) : Bool := match items d with
  | some ds => decide (ds.length = kinds) && ds.all (wnB 0 ((many : Int) - 1))
  | none => false
def rowsB (kinds most : Nat) (d : PyData) : Bool := match items d with
  | some ds => (decide (1 ≤ ds.length) && decide (ds.length ≤ most)) && ds.all (rowB kinds ds.length)
  | none => false
def goalsB (many : Nat) (d : PyData) : Bool := match items d with
  | some ds => ds.all (wnB 0 ((many : Int) - 1)) && ascL (ds.map natD)
  | none => false
def sumB : List PyData → Bool
  | [.int m, w, g] => (decide (2 ≤ m) && decide (m ≤ 60)) && match items w with
    | some ws => (decide (1 ≤ ws.length) && decide (ws.length ≤ 8)) && (ws ++ [g]).all (wnB 0 (m - 1))
    | none => false
  | _ => false
def sizeD (d : PyData) : Nat := match items d with
  | some ds => ds.length
  | none => 0
def squareB (kinds : Nat) : List PyData → Bool
  | [r, g] => rowsB kinds 60 r && (goalsB (sizeD r) g && decide (0 < sizeD g))
  | _ => false
def facesB (z : Str) (d : PyData) : Bool := match items d with
  | some ds => (decide (1 ≤ ds.length) && decide (ds.length ≤ 4)) && ds.all (txB z.length z.length z)
  | none => false
def wordOf (x : Str) : Option Nat := (List.range 9).find? fun k => decide (x = wd k)
def ownB (z : Str) (k : Nat) (vs : List PyData) : Bool :=
  if k = 5 then sumB vs else if k = 6 then squareB z.length vs else if k = 7 then (match vs with | [d] => facesB z d | _ => false) else vs.all (wnB 0 3)
/-- has this part its form? -/
def formB (z : Str) (d : PyData) : Bool := match items d with
  | some (.str x :: ds) => (match wordOf x with
    | some k => decide (ds.length = mn k + ar k) && ownB z k (ds.take (mn k))
    | none => false)
  | _ => false
theorem wordOf_some {x : Str} {k : Nat} (h : wordOf x = some k) : k < 9 ∧ x = wd k := by
  have h1 := List.mem_of_find?_eq_some h
  have h2 := List.find?_some h
  exact ⟨List.mem_range.mp h1, of_decide_eq_true h2⟩
theorem wordOf_none {x : Str} (h : wordOf x = none) : ∀ k < 9, x ≠ wd k := fun k hk e => by
  have := List.find?_eq_none.mp h k (List.mem_range.mpr hk)
  exact this (decide_eq_true e)
theorem wordOf_wd : ∀ k < 9, wordOf (wd k) = some k := by decide +kernel
theorem noSeq_bl {K : PySem.W.Frag} {H : Hp} {b : Bool} : NoSeq K H (.bl b) := ⟨.type "bool", fun _ _ => .base (.bl _), any_n (by decide +kernel) (by decide +kernel)⟩
theorem dp_two {K : PySem.W.Frag} {H : Hp} {v : V} {d : PyData} (h : Dp K H v d) : (∃ ds xs, items d = some ds ∧ Sq K H v xs ∧ DpAll K H xs ds) ∨ (items d = none ∧ NoSeq K H v) := by
  cases h with
  | non => exact .inr ⟨rfl, noSeq_non⟩
  | int i => exact .inr ⟨rfl, noSeq_int⟩
  | str x => exact .inr ⟨rfl, noSeq_str⟩
  | bl b => exact .inr ⟨rfl, noSeq_bl⟩
  | lst a b => exact .inl ⟨_, _, rfl, ⟨_, rfl, .inl a⟩, b⟩
  | tup a b => exact .inl ⟨_, _, rfl, ⟨_, rfl, .inr a⟩, b⟩
section
variable {K : PySem.W.Frag} {σ : L2.St} {H : Hp} {vs : List Nat} {te : TE} {slot : Nat} {xs : List V} {v : V} {ds : List PyData}
/-- [f x for x in xs], f a test -/
theorem lc_bools {R : It → Hp → Prop} (f : PyData → Bool) (h : Sq K H v xs) (hA : DpAll K H xs ds) (hl : ds.length ≤ 1000) (hw : ∀ x, wipe ((wipe σ vs).set slot (some x)) vs = wipe σ vs)
    (hs : ∀ (i : Nat) (x : V) (d : PyData) (H' : Hp) (R : VK), d ∈ ds → Dp K H' x d → Same H H' → (∀ H4, Same H' H4 → R (.bl (f d)) H4) → te ((wipe σ vs).set slot (some x)) H' R)
    (Qe : Addr → Hp → Prop) (hd : ∀ D H', H D = none → Same H H' → H' D = some (.lst ((ds.map f).map V.bl)) → Qe D H')
    (hR : ∀ J, (∀ D, H D = none → ∃ W : Nat → Nat → Hp → Prop, (∃ m, W 0 m (upd H D (.lst []))) ∧ ∀ i m H, W i m H →
      (It.stop J i H ∧ Qe D H) ∨ (It.go J i H ∧ ∃ Nx : Hp → Prop, (∀ H', Nx H' → ∃ m', m' < m ∧ W (i + 1) m' H') ∧ ∀ x H', It.yld J i H x H' → gName slot x (wipe σ vs) H' fun σ2 H2 => wipe σ2 vs = wipe σ vs ∧ tYes σ2 H2 fun b H3 =>
        if b = true then te σ2 H3 fun y H4 => ∃ acc, H4 D = some (.lst acc) ∧ acc.length < sizeLine ∧ Nx (upd H4 D (.lst (acc ++ [y]))) else Nx H3)) → R J H) :
    SqIt K v R H := by
  have hxl := dpA_len hA
  refine lc_sq h hw (fun acc H' => acc = ((ds.map f).take acc.length).map V.bl ∧ Same H H') (fun D hD => ⟨rfl, same_new hD⟩) (fun D acc H' _ _ q => Same.keeps q.2) ?_ Qe ?_ hR
  · rintro D i x acc H' hD hx la hacc ⟨ha, sm⟩
    obtain ⟨d, hdi, hxd⟩ := dpA_get hA hx
    have hmem := List.mem_of_getElem? hdi
    have hil := (List.getElem?_eq_some_iff.mp hdi).1
    refine hs i x d H' _ hmem (dp_keep (Same.keeps sm) _ _ hxd) sm fun H4 s4 => ?_
    exact pp_next (s4 _ _ hacc) la (line60 (by omega)) ⟨acc_next (f := V.bl) (a := f d) ha la (by rw [List.getElem?_map, hdi]; rfl), same_upd (sm.trans s4) hD⟩
  · rintro D acc H' hD la hacc ⟨ha, sm⟩
    refine hd D H' hD sm ?_
    rw [la, hxl, ← List.length_map (f := f), List.take_length] at ha
    rw [hacc, ha]
end
def spWholeG (K : PySem.W.Frag) : Sp := fun vs H Q _ => ∃ (v : V) (d : PyData), vs = [v] ∧ Dp K H v d ∧ Q (.bl (match d with | .int _ => true | _ => false)) H
def spWithinG (K : PySem.W.Frag) : Sp := fun vs H Q _ => ∃ (v : V) (d : PyData) (lo hi : Int), vs = [v, .int lo, .int hi] ∧ Dp K H v d ∧ Q (.bl (wnB lo hi d)) H
def spRowG (K : PySem.W.Frag) : Sp := fun vs H Q _ => ∃ (v : V) (d : PyData) (n m : Nat), vs = [v, vi n, vi m] ∧ Dp K H v d ∧ okd d = true ∧ ∀ H', Same H H' → Q (.bl (rowB n m d)) H'
def spRowsC (K : PySem.W.Frag) : Sp := fun vs H Q _ => ∃ (z : Str) (v : V) (d : PyData) (m : Nat), vs = [.str z, v, vi m] ∧ z.length ≤ 12 ∧ Dp K H v d ∧ okd d = true ∧ ∀ H', Same H H' → Q (.bl (rowsB z.length m d)) H'
def spGoalsC (K : PySem.W.Frag) : Sp := fun vs H Q _ => ∃ (v : V) (d : PyData) (m : Nat), vs = [v, vi m] ∧ Dp K H v d ∧ okd d = true ∧ ∀ H', Same H H' → Q (.bl (goalsB m d)) H'
def spSumC (K : PySem.W.Frag) : Sp := fun vs H Q _ => ∃ (v : V) (xs : List V) (ds : List PyData), vs = [v] ∧ Sq K H v xs ∧ DpAll K H xs ds ∧ ds.length = 3 ∧ (∀ d ∈ ds, okd d = true) ∧ ∀ H', Same H H' → Q (.bl (sumB ds)) H'
def spSquareC (K : PySem.W.Frag) : Sp := fun vs H Q _ => ∃ (z : Str) (v : V) (xs : List V) (ds : List PyData), vs = [.str z, v] ∧ z.length ≤ 12 ∧ Sq K H v xs ∧ DpAll K H xs ds ∧ ds.length = 2 ∧ (∀ d ∈ ds, okd d = true) ∧ ∀ H', Same H H' → Q (.bl (squareB z.length ds)) H'
def spFacesC (K : PySem.W.Frag) : Sp := fun vs H Q _ => ∃ (z : Str) (v : V) (d : PyData), vs = [.str z, v] ∧ z.length ≤ 12 ∧ Dp K H v d ∧ okd d = true ∧ ∀ H', Same H H' → Q (.bl (facesB z d)) H'
def spFormG (K : PySem.W.Frag) : Sp := fun vs H Q _ => ∃ (z : Str) (v : V) (d : PyData), vs = [.str z, v] ∧ z.length ≤ 12 ∧ Dp K H v d ∧ okd d = true ∧ ∀ H', Same H H' → Q (.bl (formB z d)) H'
section
variable {P : Program} {w : World} {K : PySem.W.Frag} {mg : Str → Option Value} {base : Heap} {dO dI : Addr}
theorem ok_wholeG {f : Addr} {fd : FuncData} (F : Fun K "is_whole" "is_whole" sIsWhole f fd) (B : Bl mg) : FnOk P w K mg base CX0 1 f fd ["thing"] (spWholeG K) := by
  refine F.ok scIsWhole (fun vs H Q E h => ?_) (fun cdv A outer s H vs Q E hr h => ?_)
  · obtain ⟨v, d, rfl, _⟩ := h
    rfl
  · obtain ⟨v, d, rfl, hv, k⟩ := h
    refine ⟨_, (pss_one (ps_ret (pe_and (pe_callB (id := "isinstance") (r := rIsi K) call_isi (by rfl) B.isin (by decide +kernel) (pa_cons (pv 0) (pa_cons (pe_bltn (v := .ty "int") (by rfl) B.int (by decide +kernel) rfl) pa_nil))) (pe_one (pe_not (pe_callB (id := "isinstance") (r := rIsi K) call_isi (by rfl) B.isin (by decide +kernel) (pa_cons (pv 0) (pa_cons (pe_bltn (v := .ty "bool") (by rfl) B.bool (by decide +kernel) rfl) pa_nil)))))))), ?_⟩
    try dsimp only [cxOf, Cx.nox, Cx.wish]
    walk_at "go"
    cases hv with
    | non =>
      refine r_isi (b := false) (.ty "int") (.base .non) (kit_ty (by decide +kernel)) ?_
      walk_at "go"
      exact k
    | bl b =>
      refine r_isi (b := true) (.ty "int") (.base (.bl _)) (kit_ty (by decide +kernel)) ?_
      walk_at "go"
      refine r_isi (b := true) (.ty "bool") (.base (.bl _)) (kit_ty (by decide +kernel)) ?_
      walk_at "go"
      exact k
    | int i =>
      refine r_isi (b := true) (.ty "int") (.base (.int _)) (kit_ty (by decide +kernel)) ?_
      walk_at "go"
      refine r_isi (b := false) (.ty "bool") (.base (.int _)) (kit_ty (by decide +kernel)) ?_
      walk_at "go"
      exact k
    | str x =>
      refine r_isi (b := false) (.ty "int") (.base (.str _)) (kit_ty (by decide +kernel)) ?_
      walk_at "go"
      exact k
    | lst a b =>
      refine r_isi (b := false) (.ty "int") (tyxL a) (kit_ty (by decide +kernel)) ?_
      walk_at "go"
      exact k
    | tup a b =>
      refine r_isi (b := false) (.ty "int") (tyxT a) (kit_ty (by decide +kernel)) ?_
      walk_at "go"
      exact k
abbrev OWholeG (P : Program) (w : World) (K : PySem.W.Frag) (mg : Str → Option Value) (base : Heap) : Prop := Own P w K mg base "is_whole" 1 ["thing"] (spWholeG K)
theorem ok_withinG {f : Addr} {fd : FuncData} (F : Fun K "is_within" "is_within" sIsWithin f fd) (B : Bl mg) (Owh : OWholeG P w K mg base) : FnOk P w K mg base CX0 2 f fd ["thing", "least", "most"] (spWithinG K) := by
  refine F.ok scIsWithin (fun vs H Q E h => ?_) (fun cdv A outer s H vs Q E hr h => ?_)
  · obtain ⟨v, d, lo, hi, rfl, _⟩ := h
    rfl
  · obtain ⟨v, d, lo, hi, rfl, hv, k⟩ := h
    refine ⟨_, (pss_one (ps_ret (pe_and (pe_own Owh hr (pa_cons (pv 0) pa_nil)) (pe_one (pe_chain op_le op_le (pv 1) (pv 0) (pv 2)))))), ?_⟩
    try dsimp only [cxOf, Cx.nox, Cx.wish]
    walk_at "go"
    refine ⟨v, d, rfl, hv, ?_⟩
    cases hv with
    | int i =>
      walk_at "go"
      by_cases h1 : lo ≤ i
      · have e : wnB lo hi (.int i) = decide (i ≤ hi) := by show (decide (lo ≤ i) && decide (i ≤ hi)) = _; rw [decide_eq_true h1, Bool.true_and]
        rw [e] at k
        rw [decide_eq_true h1]
        walk_at "go"
        exact k
      · have e : wnB lo hi (.int i) = false := by show (decide (lo ≤ i) && decide (i ≤ hi)) = _; rw [decide_eq_false h1, Bool.false_and]
        rw [e] at k
        rw [decide_eq_false h1]
        walk_at "go"
        exact k
    | non => walk_at "go"; exact k
    | bl b => walk_at "go"; exact k
    | str x => walk_at "go"; exact k
    | lst a b => walk_at "go"; exact k
    | tup a b => walk_at "go"; exact k
abbrev OWithinG (P : Program) (w : World) (K : PySem.W.Frag) (mg : Str → Option Value) (base : Heap) : Prop := Own P w K mg base "is_within" 2 ["thing", "least", "most"] (spWithinG K)
theorem r_allB {a : Addr} {H : Hp} {ds : List PyData} {f : PyData → Bool} {Q : VK} (h : H a = some (.lst ((ds.map f).map V.bl))) (q : Q (.bl (ds.all f)) H) : rAll K [.ref a] H Q := by
  refine r_all (bs := ds.map f) (SqL.of h) ?_
  rw [List.all_map]
  exact q
theorem ok_rowG {f : Addr} {fd : FuncData} (F : Fun K "is_row" "is_row" sIsRow f fd) (B : Bl mg) (Ito : OIsTupleOf P w K mg base) (Owi : OWithinG P w K mg base) : FnOk P w K mg base CX0 3 f fd ["thing", "kinds", "many"] (spRowG K) := by
  refine F.ok scIsRow (fun vs H Q E h => ?_) (fun cdv A outer s H vs Q E hr h => ?_)
  · obtain ⟨v, d, n, m, rfl, _⟩ := h
    rfl
  · obtain ⟨v, d, n, m, rfl, hv, ho, k⟩ := h
    refine ⟨_, (pss_one (ps_ret (pe_and (pe_own Ito (hr.mono (by omega)) (pa_cons (pv 0) (pa_cons (pv 1) (pa_cons (pv 1) pa_nil)))) (pe_one (pe_callB (cr_all rfl) (by rfl) B.all (by decide +kernel) (pa_cons (pe_lc (own := [("to", 3)]) (g := gName 3) (tt := tYes) rfl scIsRow.nd (pi_sq (pv 0)) (blkOk_by (N := nIsRow) (sc := defScope sIsRow) (by decide +kernel)) (fun _ _ _ _ _ => (pg_name (i := 3) scIsRow.nd rfl (Or.inl rfl))) (fun _ _ _ _ _ => pts_nil) (fun _ _ _ _ _ => (pe_own Owi hr (pa_cons (pv 3) (pa_cons pe_int (pa_cons (pe_op op_sub (pv 2) pe_int) pa_nil)))))) pa_nil)))))), ?_⟩
    try dsimp only [cxOf, Cx.nox, Cx.wish]
    walk_at "go"
    rcases dp_two hv with ⟨ds, xs, e, hS, hA⟩ | ⟨e, hn⟩
    · have eB : rowB n m d = (decide (ds.length = n) && ds.all (wnB 0 ((m : Int) - 1))) := by unfold rowB; rw [e]
      rw [eB] at k
      have hl := (okd_items ho e).1
      have hxl := dpA_len hA
      refine ⟨v, n, n, rfl, .inl ⟨_, hS, fun H1 s1 => ?_⟩⟩
      by_cases hn : ds.length = n
      · rw [hxl, hn, decide_eq_true (Int.le_refl _)]
        rw [decide_eq_true hn, Bool.true_and] at k
        walk_at "go"
        refine lc_bools (wnB 0 ((m : Int) - 1)) (hS.same s1) (dpA_keep (Same.keeps s1) _ _ hA) hl (fun _ => rfl) ?_ _ ?_ (fun J h => h)
        · intro i x y H' R hy hxd sm q
          walk_at "go"
          exact ⟨x, y, 0, (m : Int) - 1, rfl, hxd, q _ (Same.refl _)⟩
        · intro D H' hD sm e
          walk_at "go"
          exact r_allB e (k _ (s1.trans sm))
      · rw [decide_eq_false hn, Bool.false_and] at k
        have : (decide ((n : Int) ≤ (xs.length : Int)) && decide ((xs.length : Int) ≤ (n : Int))) = false := by
          by_cases h1 : (n : Int) ≤ (xs.length : Int)
          · rw [decide_eq_false (show ¬ (xs.length : Int) ≤ (n : Int) by omega), Bool.and_false]
          · rw [decide_eq_false h1, Bool.false_and]
        rw [this]
        walk_at "go"
        exact k _ s1
    · have eB : rowB n m d = false := by unfold rowB; rw [e]
      rw [eB] at k
      refine ⟨v, n, n, rfl, .inr ⟨hn, fun H1 s1 => ?_⟩⟩
      walk_at "go"
      exact k _ s1
abbrev ORowG (P : Program) (w : World) (K : PySem.W.Frag) (mg : Str → Option Value) (base : Heap) : Prop := Own P w K mg base "is_row" 3 ["thing", "kinds", "many"] (spRowG K)
theorem ok_rowsC {f : Addr} {fd : FuncData} (F : Fun K "are_rows" "are_rows" sAreRows f fd) (B : Bl mg) (Ito : OIsTupleOf P w K mg base) (Oir : ORowG P w K mg base) : FnOk P w K mg base CX0 4 f fd ["signs", "thing", "most"] (spRowsC K) := by
  refine F.ok scAreRows (fun vs H Q E h => ?_) (fun cdv A outer s H vs Q E hr h => ?_)
  · obtain ⟨z, v, d, m, rfl, _⟩ := h
    rfl
  · obtain ⟨z, v, d, m, rfl, hz, hv, ho, k⟩ := h
    refine ⟨_, (pss_cons (ps_if (pt_not (pt_val (pe_own Ito (hr.mono (by omega)) (pa_cons (pv 1) (pa_cons pe_int (pa_cons (pv 2) pa_nil)))))) (pss_one (ps_ret pe_bl)) pss_nil) (pss_one (ps_ret (pe_callB (cr_all rfl) (by rfl) B.all (by decide +kernel) (pa_cons (pe_lc (own := [("row", 3)]) (g := gName 3) (tt := tYes) rfl scAreRows.nd (pi_sq (pv 1)) (blkOk_by (N := nAreRows) (sc := defScope sAreRows) (by decide +kernel)) (fun _ _ _ _ _ => (pg_name (i := 3) scAreRows.nd rfl (Or.inl rfl))) (fun _ _ _ _ _ => pts_nil) (fun _ _ _ _ _ => (pe_own Oir hr (pa_cons (pv 3) (pa_cons (pe_callB (r := rLenK K) call_len (by rfl) B.len PySem.boot_len (pa_cons (pv 0) pa_nil)) (pa_cons (pe_callB (r := rLenK K) call_len (by rfl) B.len PySem.boot_len (pa_cons (pv 1) pa_nil)) pa_nil)))))) pa_nil))))), ?_⟩
    try dsimp only [cxOf, Cx.nox, Cx.wish]
    walk_at "go"
    rcases dp_two hv with ⟨ds, xs, e, hS, hA⟩ | ⟨e, hn⟩
    · have eB : rowsB z.length m d = ((decide (1 ≤ ds.length) && decide (ds.length ≤ m)) && ds.all (rowB z.length ds.length)) := by unfold rowsB; rw [e]
      rw [eB] at k
      obtain ⟨hl, hok⟩ := okd_items ho e
      have hxl := dpA_len hA
      refine ⟨v, 1, m, rfl, .inl ⟨_, hS, fun H1 s1 => ?_⟩⟩
      have e2 : (decide ((1 : Int) ≤ (xs.length : Int)) && decide ((xs.length : Int) ≤ (m : Int))) = (decide (1 ≤ ds.length) && decide (ds.length ≤ m)) := by
        rw [hxl]; congr 1
        · exact decide_eq_decide.mpr (by omega)
        · exact decide_eq_decide.mpr (by omega)
      rw [e2]
      cases hb : (decide (1 ≤ ds.length) && decide (ds.length ≤ m))
      · rw [hb, Bool.false_and] at k
        walk_at "go"
        exact k _ s1
      · rw [hb, Bool.true_and] at k
        walk_at "go"
        refine lc_bools (rowB z.length ds.length) (hS.same s1) (dpA_keep (Same.keeps s1) _ _ hA) hl (fun _ => rfl) ?_ _ ?_ (fun J h => h)
        · intro i x y H' R hy hxd sm q
          walk_at "go"
          refine ⟨_, _, rfl, lenS (small_line (by omega)), ?_⟩
          walk_at "go"
          refine ⟨_, _, rfl, (hS.same (s1.trans sm)).len, ?_⟩
          walk_at "go"
          rw [hxl]
          exact ⟨x, y, z.length, ds.length, rfl, hxd, hok y hy, fun H4 s4 => q _ s4⟩
        · intro D H' hD sm e
          walk_at "go"
          exact r_allB e (k _ (s1.trans sm))
    · have eB : rowsB z.length m d = false := by unfold rowsB; rw [e]
      rw [eB] at k
      refine ⟨v, 1, m, rfl, .inr ⟨hn, fun H1 s1 => ?_⟩⟩
      walk_at "go"
      exact k _ s1
end
end K4

/-! G69b -/


namespace K4
open PySem L2 K1
section
variable {K : PySem.W.Frag} {σ : L2.St} {H : Hp} {vs : List Nat} {te : TE} {slot : Nat} {xs : List V} {v : V} {ds : List PyData}
theorem lc_boolsL {a D : Addr} {Qd : Hp → Prop} (f : PyData → Bool) (h : SqL K H a xs) (hA : DpAll K H xs ds) (hD : H D = none) (hl : ds.length ≤ 1000) (hw : ∀ x, wipe ((wipe σ vs).set slot (some x)) vs = wipe σ vs)
    (hs : ∀ (i : Nat) (x : V) (d : PyData) (H' : Hp) (R : VK), d ∈ ds → Dp K H' x d → Same H H' → (∀ H4, Same H' H4 → R (.bl (f d)) H4) → te ((wipe σ vs).set slot (some x)) H' R)
    (hd : ∀ H', Same H H' → H' D = some (.lst ((ds.map f).map V.bl)) → Qd H') :
    ∃ W : Nat → Nat → Hp → Prop, (∃ m, W 0 m (upd H D (.lst []))) ∧ ∀ i m H, W i m H →
      ((Itl K a).stop i H ∧ Qd H) ∨ ((Itl K a).go i H ∧ ∃ Nx : Hp → Prop, (∀ H', Nx H' → ∃ m', m' < m ∧ W (i + 1) m' H') ∧ ∀ x H', (Itl K a).yld i H x H' → gName slot x (wipe σ vs) H' fun σ2 H2 => wipe σ2 vs = wipe σ vs ∧ tYes σ2 H2 fun b H3 =>
        if b = true then te σ2 H3 fun y H4 => ∃ acc, H4 D = some (.lst acc) ∧ acc.length < sizeLine ∧ Nx (upd H4 D (.lst (acc ++ [y]))) else Nx H3) := by
  have hxl := dpA_len hA
  refine lc_gen (walk_list (K := K) (a := a) (xs := xs)) hw (fun acc H' => acc = ((ds.map f).take acc.length).map V.bl ∧ Same H H') ⟨rfl, same_new hD⟩ (fun acc H' _ q => q.2.seq h) ?_ ?_
  · rintro i x acc H' hx la hacc ⟨ha, sm⟩
    obtain ⟨d, hdi, hxd⟩ := dpA_get hA hx
    have hmem := List.mem_of_getElem? hdi
    have hil := (List.getElem?_eq_some_iff.mp hdi).1
    refine hs i x d H' _ hmem (dp_keep (Same.keeps sm) _ _ hxd) sm fun H4 s4 => ?_
    exact pp_next (s4 _ _ hacc) la (line60 (by omega)) ⟨acc_next (f := V.bl) (a := f d) ha la (by rw [List.getElem?_map, hdi]; rfl), same_upd (sm.trans s4) hD⟩
  · rintro acc H' la hacc ⟨ha, sm⟩
    refine hd H' sm ?_
    rw [la, hxl, ← List.length_map (f := f), List.take_length] at ha
    rw [hacc, ha]
end
theorem numsD {m : Int} : ∀ {ds : List PyData}, ds.all (wnB 0 m) = true → ∃ ns : List Nat, ds = ns.map pn ∧ ds.map natD = ns ∧ ∀ n ∈ ns, (n : Int) ≤ m
  | [], _ => ⟨[], rfl, rfl, fun n h => by cases h⟩
  | d :: ds, h => by
    rw [List.all_cons, Bool.and_eq_true] at h
    obtain ⟨ns, e, e2, b⟩ := numsD h.2
    cases d with
    | int i =>
      have h1 : (decide (0 ≤ i) && decide (i ≤ m)) = true := h.1
      rw [Bool.and_eq_true, decide_eq_true_eq, decide_eq_true_eq] at h1
      refine ⟨i.toNat :: ns, ?_, ?_, ?_⟩
      · rw [e, List.map_cons]
        show PyData.int i :: _ = PyData.int ((i.toNat : Nat) : Int) :: _
        rw [Int.toNat_of_nonneg h1.1]
      · rw [List.map_cons, e2]; rfl
      · intro n hn
        rcases List.mem_cons.mp hn with rfl | hn
        · rw [Int.toNat_of_nonneg h1.1]; exact h1.2
        · exact b n hn
    | _ => exact absurd h.1 (by simp [wnB])
section
variable {P : Program} {w : World} {K : PySem.W.Frag} {mg : Str → Option Value} {base : Heap} {dO dI : Addr}
theorem ok_goalsC {f : Addr} {fd : FuncData} (F : Fun K "are_goals" "are_goals" sAreGoals f fd) (B : Bl mg) (Oit : OIsTuple P w K mg base) (Owi : OWithinG P w K mg base) (Oan : OAscN P w K mg base) : FnOk P w K mg base CX0 3 f fd ["thing", "many"] (spGoalsC K) := by
  refine F.ok scAreGoals (fun vs H Q E h => ?_) (fun cdv A outer s H vs Q E hr h => ?_)
  · obtain ⟨v, d, m, rfl, _⟩ := h
    rfl
  · obtain ⟨v, d, m, rfl, hv, ho, k⟩ := h
    refine ⟨_, (pss_cons (ps_if (PW.pt (pw_or (pt_not (pt_val (pe_own Oit (hr.mono (by omega)) (pa_cons (pv 0) pa_nil)))) (pw_or1 (pt_not (pt_val (pe_callB (cr_all rfl) (by rfl) B.all (by decide +kernel) (pa_cons (pe_lc (own := [("goal", 2)]) (g := gName 2) (tt := tYes) rfl scAreGoals.nd (pi_sq (pv 0)) (blkOk_by (N := nAreGoals) (sc := defScope sAreGoals) (by decide +kernel)) (fun _ _ _ _ _ => (pg_name (i := 2) scAreGoals.nd rfl (Or.inl rfl))) (fun _ _ _ _ _ => pts_nil) (fun _ _ _ _ _ => (pe_own Owi (hr.mono (by omega)) (pa_cons (pv 2) (pa_cons pe_int (pa_cons (pe_op op_sub (pv 1) pe_int) pa_nil)))))) pa_nil))))))) (pss_one (ps_ret pe_bl)) pss_nil) (pss_one (ps_ret (pe_own Oan (hr.mono (by omega)) (pa_cons (pv 0) pa_nil))))), ?_⟩
    try dsimp only [cxOf, Cx.nox, Cx.wish]
    walk_at "go"
    rcases dp_two hv with ⟨ds, xs, e, hS, hA⟩ | ⟨e, hn⟩
    · have eB : goalsB m d = (ds.all (wnB 0 ((m : Int) - 1)) && ascL (ds.map natD)) := by unfold goalsB; rw [e]
      rw [eB] at k
      have hl := (okd_items ho e).1
      refine ⟨v, true, rfl, .inl ⟨rfl, xs, hS⟩, fun H1 s1 => ?_⟩
      walk_at "go"
      refine lc_bools (wnB 0 ((m : Int) - 1)) (hS.same s1) (dpA_keep (Same.keeps s1) _ _ hA) hl (fun _ => rfl) ?_ _ ?_ (fun J h => h)
      · intro i x y H' R hy hxd sm q
        walk_at "go"
        exact ⟨x, y, 0, (m : Int) - 1, rfl, hxd, q _ (Same.refl _)⟩
      · intro D H' hD sm e
        walk_at "go"
        refine r_allB e ?_
        cases hb : ds.all (wnB 0 ((m : Int) - 1))
        · rw [hb, Bool.false_and] at k
          walk_at "go"
          exact k _ (s1.trans sm)
        · rw [hb, Bool.true_and] at k
          obtain ⟨ns, e1, e2, _⟩ := numsD hb
          rw [e2] at k
          walk_at "go"
          have hN : NumsAt K H' v ns := by
            have hA2 := dpA_keep (Same.keeps (s1.trans sm)) _ _ hA
            rw [e1] at hA2
            have := dpA_nums.mp hA2
            have hS2 := hS.same (s1.trans sm)
            rw [this] at hS2
            exact hS2
          refine ⟨v, ns, rfl, hN, by rw [e1, List.length_map] at hl; omega, fun H2 s2 => ?_⟩
          exact k _ ((s1.trans sm).trans s2)
    · have eB : goalsB m d = false := by unfold goalsB; rw [e]
      rw [eB] at k
      refine ⟨v, false, rfl, .inr ⟨rfl, hn⟩, fun H1 s1 => ?_⟩
      walk_at "go"
      exact k _ s1
abbrev ORowsC (P : Program) (w : World) (K : PySem.W.Frag) (mg : Str → Option Value) (base : Heap) : Prop := Own P w K mg base "are_rows" 4 ["signs", "thing", "most"] (spRowsC K)
abbrev OGoalsC (P : Program) (w : World) (K : PySem.W.Frag) (mg : Str → Option Value) (base : Heap) : Prop := Own P w K mg base "are_goals" 3 ["thing", "many"] (spGoalsC K)
theorem dpA3 {H : Hp} {xs : List V} {a b c : PyData} (h : DpAll K H xs [a, b, c]) : ∃ x y u, xs = [x, y, u] ∧ Dp K H x a ∧ Dp K H y b ∧ Dp K H u c := by
  cases h with
  | cons h1 h =>
    cases h with
    | cons h2 h =>
      cases h with
      | cons h3 h =>
        cases h
        exact ⟨_, _, _, rfl, h1, h2, h3⟩
theorem dpA2 {H : Hp} {xs : List V} {a b : PyData} (h : DpAll K H xs [a, b]) : ∃ x y, xs = [x, y] ∧ Dp K H x a ∧ Dp K H y b := by
  cases h with
  | cons h1 h =>
    cases h with
    | cons h2 h =>
      cases h
      exact ⟨_, _, rfl, h1, h2⟩
theorem dpA1 {H : Hp} {xs : List V} {a : PyData} (h : DpAll K H xs [a]) : ∃ x, xs = [x] ∧ Dp K H x a := by
  cases h with
  | cons h1 h =>
    cases h
    exact ⟨_, rfl, h1⟩
theorem sumB_int (m : Int) (dw dg : PyData) : sumB [.int m, dw, dg] = ((decide (2 ≤ m) && decide (m ≤ 60)) && (match items dw with
    | some ws => (decide (1 ≤ ws.length) && decide (ws.length ≤ 8)) && (ws ++ [dg]).all (wnB 0 (m - 1))
    | none => false)) := rfl
theorem ok_sumC {f : Addr} {fd : FuncData} (F : Fun K "is_sum" "is_sum" sIsSum f fd) (B : Bl mg) (G : G11 K w mg dO dI) (Ito : OIsTupleOf P w K mg base) (Owi : OWithinG P w K mg base) : FnOk P w K mg base CX0 3 f fd ["values"] (spSumC K) := by
  refine F.ok scIsSum (fun vs H Q E h => ?_) (fun cdv A outer s H vs Q E hr h => ?_)
  · obtain ⟨v, xs, ds, rfl, _⟩ := h
    rfl
  · obtain ⟨v, xs, ds, rfl, hS, hA, hl, ho, k⟩ := h
    refine ⟨_, (pss_cons (ps_asg (pv 0) (pg_sq rfl (pgs_cons (pg_name (i := 1) scIsSum.nd rfl (Or.inr rfl)) (pgs_cons (pg_name (i := 2) scIsSum.nd rfl (Or.inl rfl)) (pgs_cons (pg_name (i := 3) scIsSum.nd rfl (Or.inl rfl)) pgs_nil))))) (pss_cons (ps_if (PW.pt (pw_or (pt_not (pt_val (pe_own Owi (hr.mono (by omega)) (pa_cons (pv 1) (pa_cons (pe_gI G.LEAST_MODULUS) (pa_cons (pe_gI G.MOST_MODULUS) pa_nil)))))) (pw_or1 (pt_not (pt_val (pe_own Ito (hr.mono (by omega)) (pa_cons (pv 2) (pa_cons pe_int (pa_cons (pe_gI G.MOST_WEIGHTS) pa_nil))))))))) (pss_one (ps_ret pe_bl)) pss_nil) (pss_one (ps_ret (pe_callB (cr_all rfl) (by rfl) B.all (by decide +kernel) (pa_cons (pe_lc (own := [("number", 4)]) (g := gName 4) (tt := tYes) rfl scIsSum.nd (pi_list (pe_lst (StX.pa_star (pv 2) (pa_cons (pv 3) pa_nil)))) (blkOk_by (N := nIsSum) (sc := defScope sIsSum) (by decide +kernel)) (fun _ _ _ _ _ => (pg_name (i := 4) scIsSum.nd rfl (Or.inl rfl))) (fun _ _ _ _ _ => pts_nil) (fun _ _ _ _ _ => (pe_own Owi (hr.mono (by omega)) (pa_cons (pv 4) (pa_cons pe_int (pa_cons (pe_op op_sub (pv 1) pe_int) pa_nil)))))) pa_nil)))))), ?_⟩
    try dsimp only [cxOf, Cx.nox, Cx.wish]
    match ds, hl with
    | [dm, dw, dg], _ =>
    obtain ⟨x, y, u, rfl, hx, hy, hu⟩ := dpA3 hA
    have ho1 := ho dw (by simp)
    walk_at "go"
    refine r_gSq hS rfl ?_
    walk_at "go"
    refine ⟨x, dm, 2, 60, rfl, hx, ?_⟩
    have no : (∀ m, dm = .int m → (decide (2 ≤ m) && decide (m ≤ 60)) = false) → sumB [dm, dw, dg] = false ∧ wnB 2 60 dm = false := fun h => by
      cases dm with
      | int m =>
        have e := h m rfl
        refine ⟨?_, e⟩
        rw [sumB_int, e]; rfl
      | _ => exact ⟨rfl, rfl⟩
    by_cases hm : ∃ m : Int, dm = .int m ∧ (decide (2 ≤ m) && decide (m ≤ 60)) = true
    · obtain ⟨m, rfl, hm⟩ := hm
      have ew : wnB 2 60 (.int m) = true := hm
      rw [ew]
      cases hx
      walk_at "go"
      rcases dp_two hy with ⟨ws, ys, e, hSy, hAy⟩ | ⟨e, hn⟩
      · have eB : sumB [.int m, dw, dg] = ((decide (1 ≤ ws.length) && decide (ws.length ≤ 8)) && (ws ++ [dg]).all (wnB 0 (m - 1))) := by rw [sumB_int, hm, e]; rfl
        rw [eB] at k
        have hwl := (okd_items ho1 e).1
        have hyl := dpA_len hAy
        refine ⟨y, 1, 8, rfl, .inl ⟨_, hSy, fun H1 s1 => ?_⟩⟩
        have e2 : (decide ((1 : Int) ≤ (ys.length : Int)) && decide ((ys.length : Int) ≤ (8 : Int))) = (decide (1 ≤ ws.length) && decide (ws.length ≤ 8)) := by
          rw [hyl]; congr 1
          · exact decide_eq_decide.mpr (by omega)
          · exact decide_eq_decide.mpr (by omega)
        rw [e2]
        cases hb : (decide (1 ≤ ws.length) && decide (ws.length ≤ 8))
        · rw [hb, Bool.false_and] at k
          walk_at "go"
          exact k _ s1
        · rw [hb, Bool.true_and] at k
          rw [Bool.and_eq_true, decide_eq_true_eq, decide_eq_true_eq] at hb
          walk_at "go"
          refine r_starSq (hSy.same s1) ?_
          walk_at "go"
          have hlen : (ys ++ [u]).length ≤ 1000 := by rw [List.length_append, List.length_singleton]; omega
          have hAll : DpAll K H1 (ys ++ [u]) (ws ++ [dg]) := dpA_app (dpA_keep (Same.keeps s1) _ _ hAy) (.cons (dp_keep (Same.keeps s1) _ _ hu) .nil)
          refine ⟨small_line hlen, fun p hp => ⟨p, rfl, ⟨_, SqL.of upd_same⟩, fun D hD => lc_boolsL (wnB 0 (m - 1)) (SqL.of upd_same) (dpA_keep (Same.keeps (same_new hp)) _ _ hAll) hD (by rw [List.length_append, List.length_singleton]; omega) (fun _ => rfl) ?_ ?_⟩⟩
          · intro i x' y' H' R hy' hxd sm q
            walk_at "go"
            exact ⟨x', y', 0, m - 1, rfl, hxd, q _ (Same.refl _)⟩
          · intro H' sm e
            walk_at "go"
            exact r_allB e (k _ (s1.trans ((same_new hp).trans sm)))
      · have eB : sumB [.int m, dw, dg] = false := by rw [sumB_int, hm, e]; rfl
        rw [eB] at k
        refine ⟨y, 1, 8, rfl, .inr ⟨hn, fun H1 s1 => ?_⟩⟩
        walk_at "go"
        exact k _ s1
    · obtain ⟨e1, e2⟩ := no fun m e => by
        cases hb : (decide (2 ≤ m) && decide (m ≤ 60)) with
        | false => rfl
        | true => exact absurd ⟨m, e, hb⟩ hm
      rw [e1] at k
      rw [e2]
      walk_at "go"
      exact k _ (Same.refl _)
theorem ok_squareC {f : Addr} {fd : FuncData} (F : Fun K "is_square" "is_square" sIsSquare f fd) (B : Bl mg) (G : G11 K w mg dO dI) (Oar : ORowsC P w K mg base) (Oag : OGoalsC P w K mg base) : FnOk P w K mg base CX0 5 f fd ["signs", "values"] (spSquareC K) := by
  refine F.ok scIsSquare (fun vs H Q E h => ?_) (fun cdv A outer s H vs Q E hr h => ?_)
  · obtain ⟨z, v, xs, ds, rfl, _⟩ := h
    rfl
  · obtain ⟨z, v, xs, ds, rfl, hz, hS, hA, hl, ho, k⟩ := h
    refine ⟨_, (pss_cons (ps_asg (pv 1) (pg_sq rfl (pgs_cons (pg_name (i := 2) scIsSquare.nd rfl (Or.inl rfl)) (pgs_cons (pg_name (i := 3) scIsSquare.nd rfl (Or.inl rfl)) pgs_nil)))) (pss_one (ps_ret (pe_and (pe_own Oar (hr.mono (by omega)) (pa_cons (pv 0) (pa_cons (pv 2) (pa_cons (pe_gI G.MOST_ROWS) pa_nil)))) (pe_and (pe_own Oag (hr.mono (by omega)) (pa_cons (pv 3) (pa_cons (pe_callB call_len (by rfl) B.len PySem.boot_len (pa_cons (pv 2) pa_nil)) pa_nil))) (pe_one (pe_cmpR op_gt (pe_callB call_len (by rfl) B.len PySem.boot_len (pa_cons (pv 3) pa_nil)) pe_int (nomark _)))))))), ?_⟩
    try dsimp only [cxOf, Cx.nox, Cx.wish]
    match ds, hl with
    | [dr, dg], _ =>
    obtain ⟨x, y, rfl, hx, hy⟩ := dpA2 hA
    have ho1 := ho dr (by simp)
    have ho2 := ho dg (by simp)
    walk_at "go"
    refine r_gSq hS rfl ?_
    walk_at "go"
    refine ⟨z, x, dr, 60, rfl, hz, hx, ho1, fun H1 s1 => ?_⟩
    have eB : squareB z.length [dr, dg] = (rowsB z.length 60 dr && (goalsB (sizeD dr) dg && decide (0 < sizeD dg))) := rfl
    rw [eB] at k
    cases hb : rowsB z.length 60 dr
    · rw [hb, Bool.false_and] at k
      walk_at "go"
      exact k _ s1
    · rw [hb, Bool.true_and] at k
      walk_at "go"
      rcases dp_two hx with ⟨ds, xs, e, hSx, hAx⟩ | ⟨e, hn⟩
      · have hsz : sizeD dr = ds.length := by unfold sizeD; rw [e]
        rw [hsz] at k
        have hxl := dpA_len hAx
        refine ⟨_, _, rfl, (hSx.same s1).len, ?_⟩
        walk_at "go"
        rw [hxl]
        refine ⟨y, dg, ds.length, rfl, dp_keep (Same.keeps s1) _ _ hy, ho2, fun H2 s2 => ?_⟩
        cases hg : goalsB ds.length dg
        · rw [hg, Bool.false_and] at k
          walk_at "go"
          exact k _ (s1.trans s2)
        · rw [hg, Bool.true_and] at k
          walk_at "go"
          rcases dp_two hy with ⟨gs, ys, e3, hSy, hAy⟩ | ⟨e3, hn3⟩
          · have hsg : sizeD dg = gs.length := by unfold sizeD; rw [e3]
            rw [hsg] at k
            have hyl := dpA_len hAy
            refine ⟨_, _, rfl, (hSy.same (s1.trans s2)).len, ?_⟩
            walk_at "go"
            rw [hyl]
            have e4 : decide ((0 : Int) < (gs.length : Int)) = decide (0 < gs.length) := decide_eq_decide.mpr (by omega)
            rw [e4]
            exact k _ (s1.trans s2)
          · unfold goalsB at hg
            rw [e3] at hg; cases hg
      · unfold rowsB at hb
        rw [e] at hb; cases hb
theorem ok_facesC {f : Addr} {fd : FuncData} (F : Fun K "are_faces" "are_faces" sAreFaces f fd) (B : Bl mg) (G : G11 K w mg dO dI) (Ito : OIsTupleOf P w K mg base) (Ot : OIsText P w K mg base) : FnOk P w K mg base CX0 3 f fd ["signs", "thing"] (spFacesC K) := by
  refine F.ok scAreFaces (fun vs H Q E h => ?_) (fun cdv A outer s H vs Q E hr h => ?_)
  · obtain ⟨z, v, d, rfl, _⟩ := h
    rfl
  · obtain ⟨z, v, d, rfl, hz, hv, ho, k⟩ := h
    refine ⟨_, (pss_cons (ps_if (pt_not (pt_val (pe_own Ito (hr.mono (by omega)) (pa_cons (pv 1) (pa_cons pe_int (pa_cons (pe_gI G.MOST_FACES) pa_nil)))))) (pss_one (ps_ret pe_bl)) pss_nil) (pss_one (ps_ret (pe_callB (cr_all rfl) (by rfl) B.all (by decide +kernel) (pa_cons (pe_lc (own := [("face", 2)]) (g := gName 2) (tt := tYes) rfl scAreFaces.nd (pi_sq (pv 1)) (blkOk_by (N := nAreFaces) (sc := defScope sAreFaces) (by decide +kernel)) (fun _ _ _ _ _ => (pg_name (i := 2) scAreFaces.nd rfl (Or.inl rfl))) (fun _ _ _ _ _ => pts_nil) (fun _ _ _ _ _ => (pe_own Ot (hr.mono (by omega)) (pa_cons (pv 2) (pa_cons (pe_callB (r := rLenK K) call_len (by rfl) B.len PySem.boot_len (pa_cons (pv 0) pa_nil)) (pa_cons (pe_callB (r := rLenK K) call_len (by rfl) B.len PySem.boot_len (pa_cons (pv 0) pa_nil)) (pa_cons (pv 0) pa_nil))))))) pa_nil))))), ?_⟩
    try dsimp only [cxOf, Cx.nox, Cx.wish]
    walk_at "go"
    rcases dp_two hv with ⟨ds, xs, e, hS, hA⟩ | ⟨e, hn⟩
    · have eB : facesB z d = ((decide (1 ≤ ds.length) && decide (ds.length ≤ 4)) && ds.all (txB z.length z.length z)) := by unfold facesB; rw [e]
      rw [eB] at k
      obtain ⟨hl, hok⟩ := okd_items ho e
      have hxl := dpA_len hA
      refine ⟨v, 1, 4, rfl, .inl ⟨_, hS, fun H1 s1 => ?_⟩⟩
      have e2 : (decide ((1 : Int) ≤ (xs.length : Int)) && decide ((xs.length : Int) ≤ (4 : Int))) = (decide (1 ≤ ds.length) && decide (ds.length ≤ 4)) := by
        rw [hxl]; congr 1
        · exact decide_eq_decide.mpr (by omega)
        · exact decide_eq_decide.mpr (by omega)
      rw [e2]
      cases hb : (decide (1 ≤ ds.length) && decide (ds.length ≤ 4))
      · rw [hb, Bool.false_and] at k
        walk_at "go"
        exact k _ s1
      · rw [hb, Bool.true_and] at k
        walk_at "go"
        refine lc_bools (txB z.length z.length z) (hS.same s1) (dpA_keep (Same.keeps s1) _ _ hA) hl (fun _ => rfl) ?_ _ ?_ (fun J h => h)
        · intro i x y H' R hy hxd sm q
          walk_at "go"
          refine ⟨_, _, rfl, lenS (small_line (by omega)), ?_⟩
          walk_at "go"
          refine ⟨_, _, rfl, lenS (small_line (by omega)), ?_⟩
          walk_at "go"
          have hy2 := hok y hy
          cases hxd with
          | str x =>
            have : x.length ≤ 1000 := by rw [okd, decide_eq_true_eq] at hy2; exact hy2
            exact ⟨.str x, z.length, z.length, z, rfl, .inl ⟨x, rfl, this, fun H4 s4 => q _ s4⟩⟩
          | non => exact ⟨.non, z.length, z.length, z, rfl, .inr ⟨⟨"NoneType", .base .non, kit_ty (by decide +kernel)⟩, q _ (Same.refl _)⟩⟩
          | bl b => exact ⟨.bl b, z.length, z.length, z, rfl, .inr ⟨⟨"bool", .base (.bl _), kit_ty (by decide +kernel)⟩, q _ (Same.refl _)⟩⟩
          | int b => exact ⟨.int b, z.length, z.length, z, rfl, .inr ⟨⟨"int", .base (.int _), kit_ty (by decide +kernel)⟩, q _ (Same.refl _)⟩⟩
          | lst a b => exact ⟨_, z.length, z.length, z, rfl, .inr ⟨⟨"list", tyxL a, kit_ty (by decide +kernel)⟩, q _ (Same.refl _)⟩⟩
          | tup a b => exact ⟨_, z.length, z.length, z, rfl, .inr ⟨⟨"tuple", tyxT a, kit_ty (by decide +kernel)⟩, q _ (Same.refl _)⟩⟩
        · intro D H' hD sm e
          walk_at "go"
          exact r_allB e (k _ (s1.trans sm))
    · have eB : facesB z d = false := by unfold facesB; rw [e]
      rw [eB] at k
      refine ⟨v, 1, 4, rfl, .inr ⟨hn, fun H1 s1 => ?_⟩⟩
      walk_at "go"
      exact k _ s1
end
end K4

/-! G69c -/


namespace K4
open PySem L2 K1
theorem dpA_cut {K : PySem.W.Frag} {H : Hp} : ∀ {n : Nat} {xs : List V} {ds : List PyData}, DpAll K H xs ds → DpAll K H (xs.take n) (ds.take n) ∧ DpAll K H (xs.drop n) (ds.drop n)
  | 0, _, _, h => ⟨by rw [List.take_zero, List.take_zero]; exact .nil, by rw [List.drop_zero, List.drop_zero]; exact h⟩
  | n + 1, _, _, .nil => ⟨by simp; exact .nil, by simp; exact .nil⟩
  | n + 1, _, _, .cons a b => by
    have ih := dpA_cut (n := n) b
    exact ⟨.cons a ih.1, ih.2⟩
theorem word_is {k j : Nat} (hk : k < 9) (hj : j < 9) (h : V.str (wd k) = V.str (wd j)) : k = j := wd_inj _ hk _ hj (V.str.inj h)
section
variable {P : Program} {w : World} {K : PySem.W.Frag} {mg : Str → Option Value} {base : Heap} {dO dI : Addr}
abbrev OSumC (P : Program) (w : World) (K : PySem.W.Frag) (mg : Str → Option Value) (base : Heap) : Prop := Own P w K mg base "is_sum" 3 ["values"] (spSumC K)
abbrev OSquareC (P : Program) (w : World) (K : PySem.W.Frag) (mg : Str → Option Value) (base : Heap) : Prop := Own P w K mg base "is_square" 5 ["signs", "values"] (spSquareC K)
abbrev OFacesC (P : Program) (w : World) (K : PySem.W.Frag) (mg : Str → Option Value) (base : Heap) : Prop := Own P w K mg base "are_faces" 3 ["signs", "thing"] (spFacesC K)
theorem ok_formG {f : Addr} {fd : FuncData} (F : Fun K "has_form" "has_form" sHasForm f fd) (B : Bl mg) (G : G11 K w mg dO dI) (Ito : OIsTupleOf P w K mg base) (Owi : OWithinG P w K mg base) (Oov : OOwnV P w K mg base) (Osu : OSumC P w K mg base) (Osq : OSquareC P w K mg base) (Ofa : OFacesC P w K mg base) :
    FnOk P w K mg base CX0 6 f fd ["signs", "part"] (spFormG K) := by
  refine F.ok scHasForm (fun vs H Q E h => ?_) (fun cdv A outer s H vs Q E hr h => ?_)
  · obtain ⟨z, v, d, rfl, _⟩ := h
    rfl
  · obtain ⟨z, v, d, rfl, hz, hv, ho, k⟩ := h
    obtain ⟨es, m, DD⟩ := G.ovD
    refine ⟨_, (pss_cons (ps_if (PW.pt (pw_or (pt_not (pt_val (pe_own Ito (hr.mono (by omega)) (pa_cons (pv 1) (pa_cons pe_int (pa_cons pe_int pa_nil)))))) (pw_or (pt_not (pt_val (pe_callB (id := "isinstance") (r := rIsi K) call_isi (by rfl) B.isin (by decide +kernel) (pa_cons (pe_ix ix_seq (pv 1) pe_int (fun _ _ => rfl)) (pa_cons (pe_bltn (v := .ty "str") (by rfl) B.str (by decide +kernel) rfl) pa_nil))))) (pw_or1 (pt_cmpR (op_notIn_kd DD) (pe_ix ix_seq (pv 1) pe_int (fun _ _ => rfl)) (pe_gR G.OV) (by rfl)))))) (pss_one (ps_ret pe_bl)) pss_nil) (pss_cons (ps_set (i := 2) scHasForm.nd rfl (Or.inl rfl) (pe_ix ix_seq (pv 1) pe_int (fun _ _ => rfl))) (pss_cons (ps_if (pt_cmpR op_ne (pe_callB call_len (by rfl) B.len PySem.boot_len (pa_cons (pv 1) pa_nil)) (pe_op op_add (pe_op op_add pe_int (pe_ix ix_kdict (pe_gR G.OV) (pv 2) (fun _ _ => rfl))) (pe_ix ix_kdict (pe_gR G.IR) (pv 2) (fun _ _ => rfl))) (nomark _)) (pss_one (ps_ret pe_bl)) pss_nil) (pss_cons (ps_set (i := 3) scHasForm.nd rfl (Or.inl rfl) (pe_own Oov (hr.mono (by omega)) (pa_cons (pv 1) pa_nil))) (pss_cons (ps_if (pt_cmpR op_eq (pv 2) pe_str (nomark _)) (pss_one (ps_ret (pe_own Osu (hr.mono (by omega)) (pa_cons (pv 3) pa_nil)))) pss_nil) (pss_cons (ps_if (pt_cmpR op_eq (pv 2) pe_str (nomark _)) (pss_one (ps_ret (pe_own Osq (hr.mono (by omega)) (pa_cons (pv 0) (pa_cons (pv 3) pa_nil))))) pss_nil) (pss_cons (ps_if (pt_cmpR op_eq (pv 2) pe_str (nomark _)) (pss_one (ps_ret (pe_own Ofa (hr.mono (by omega)) (pa_cons (pv 0) (pa_cons (pe_ix ix_seq (pv 3) pe_int (fun _ _ => rfl)) pa_nil))))) pss_nil) (pss_one (ps_ret (pe_callB (cr_all rfl) (by rfl) B.all (by decide +kernel) (pa_cons (pe_lc (own := [("many", 4)]) (g := gName 4) (tt := tYes) rfl scHasForm.nd (pi_sq (pv 3)) (blkOk_by (N := nHasForm) (sc := defScope sHasForm) (by decide +kernel)) (fun _ _ _ _ _ => (pg_name (i := 4) scHasForm.nd rfl (Or.inl rfl))) (fun _ _ _ _ _ => pts_nil) (fun _ _ _ _ _ => (pe_own Owi (hr.mono (by omega)) (pa_cons (pv 4) (pa_cons pe_int (pa_cons (pe_gI G.MOST_CUT) pa_nil)))))) pa_nil))))))))))), ?_⟩
    try dsimp only [cxOf, Cx.nox, Cx.wish]
    walk_at "go"
    rcases dp_two hv with ⟨ds, xs, e, hS, hA⟩ | ⟨e, hn⟩
    · obtain ⟨hl, hok⟩ := okd_items ho e
      have hxl := dpA_len hA
      refine ⟨v, 1, 4, rfl, .inl ⟨_, hS, fun H1 s1 => ?_⟩⟩
      by_cases hlen : 1 ≤ ds.length ∧ ds.length ≤ 4
      · rw [decide_eq_true (by omega), decide_eq_true (by omega)]
        walk_at "go"
        match ds, xs, hA, hlen with
        | d0 :: ds, x0 :: xs, .cons h0 hA, hlen =>
        rw [List.length_cons] at hlen
        have hxl := dpA_len hA
        have no : (∀ x, d0 ≠ .str x) → formB z d = false := fun h => by
          unfold formB
          rw [e]
          cases d0 with
          | str x => exact absurd rfl (h x)
          | _ => rfl
        refine r_ixSq (hS.same s1) at0 ?_
        have h01 := dp_keep (Same.keeps s1) _ _ h0
        cases h01 with
        | non =>
          rw [no (fun x q => nomatch q)] at k
          walk_at "go"
          refine r_isi (b := false) (.ty "str") (.base .non) (kit_ty (by decide +kernel)) ?_
          walk_at "go"
          exact k _ s1
        | bl b =>
          rw [no (fun x q => nomatch q)] at k
          walk_at "go"
          refine r_isi (b := false) (.ty "str") (.base (.bl _)) (kit_ty (by decide +kernel)) ?_
          walk_at "go"
          exact k _ s1
        | int i =>
          rw [no (fun x q => nomatch q)] at k
          walk_at "go"
          refine r_isi (b := false) (.ty "str") (.base (.int _)) (kit_ty (by decide +kernel)) ?_
          walk_at "go"
          exact k _ s1
        | lst a b =>
          rw [no (fun x q => nomatch q)] at k
          walk_at "go"
          refine r_isi (b := false) (.ty "str") (tyxL a) (kit_ty (by decide +kernel)) ?_
          walk_at "go"
          exact k _ s1
        | tup a b =>
          rw [no (fun x q => nomatch q)] at k
          walk_at "go"
          refine r_isi (b := false) (.ty "str") (tyxT a) (kit_ty (by decide +kernel)) ?_
          walk_at "go"
          exact k _ s1
        | str x =>
          walk_at "go"
          refine r_isi (b := true) (.ty "str") (.base (.str _)) (kit_ty (by decide +kernel)) ?_
          walk_at "go"
          refine r_ixSq (hS.same s1) at0 ?_
          walk_at "go"
          cases ew : wordOf x with
          | none =>
            have eB : formB z d = false := by unfold formB; rw [e]; dsimp only; rw [ew]
            rw [eB] at k
            refine ⟨_, none, rfl, rfl, G.ovX x (wordOf_none ew), ?_⟩
            walk_at "go"
            exact k _ s1
          | some kd =>
            obtain ⟨hk9, rfl⟩ := wordOf_some ew
            have eB : formB z d = (decide (ds.length = mn kd + ar kd) && ownB z kd (ds.take (mn kd))) := by unfold formB; rw [e]; dsimp only; rw [ew]
            rw [eB] at k
            obtain ⟨u, hu⟩ := G.ovN _ hk9
            refine ⟨_, some u, rfl, rfl, hu, ?_⟩
            walk_at "go"
            refine r_ixSq (hS.same s1) at0 ?_
            walk_at "go"
            refine ⟨_, _, rfl, (hS.same s1).len, ?_⟩
            walk_at "go"
            refine r_kd (G.ov _ hk9) ?_
            walk_at "go"
            refine r_kd (G.ir _ hk9) ?_
            walk_at "go"
            by_cases hln : ds.length = mn kd + ar kd
            · rw [decide_eq_true hln, Bool.true_and] at k
              refine r_neY (congrArg V.int (by rw [List.length_cons]; omega)) ?_
              walk_at "go"
              have hcut := dpA_cut (n := mn kd) hA
              have hmn := mn_ar kd hk9
              refine ⟨v, kd, xs.take (mn kd), xs.drop (mn kd), rfl, hk9, by rw [List.take_append_drop]; exact hS.same s1, by rw [List.length_take]; omega, fun v' H2 s2 hv' => ?_⟩
              have s12 := s1.trans s2
              have hA2 := dpA_keep (Same.keeps s12) _ _ hcut.1
              have hok2 : ∀ d ∈ ds.take (mn kd), okd d = true := fun d hd => hok d (List.mem_cons_of_mem _ (List.mem_of_mem_take hd))
              have ltk : (ds.take (mn kd)).length = mn kd := by rw [List.length_take]; omega
              walk_at "go"
              refine r_ite (fun h5 => ?_) (fun h5 => ?_)
              · obtain rfl : kd = 5 := word_is (j := 5) hk9 (by decide) h5
                walk_at "go"
                exact ⟨v', _, _, rfl, hv', hA2, ltk, hok2, fun H3 s3 => k _ (s12.trans s3)⟩
              have n5 : kd ≠ 5 := fun q => h5 (by rw [q]; rfl)
              walk_at "go"
              refine r_ite (fun h6 => ?_) (fun h6 => ?_)
              · obtain rfl : kd = 6 := word_is (j := 6) hk9 (by decide) h6
                walk_at "go"
                exact ⟨z, v', _, _, rfl, hz, hv', hA2, ltk, hok2, fun H3 s3 => k _ (s12.trans s3)⟩
              have n6 : kd ≠ 6 := fun q => h6 (by rw [q]; rfl)
              walk_at "go"
              refine r_ite (fun h7 => ?_) (fun h7 => ?_)
              · obtain rfl : kd = 7 := word_is (j := 7) hk9 (by decide) h7
                match hds : ds.take (mn 7), ltk, hA2, hok2 with
                | [df], _, hA2, hok2 =>
                  rw [hds] at k
                  obtain ⟨xf, hxf, hdf⟩ := dpA1 hA2
                  rw [hxf] at hv'
                  walk_at "go"
                  refine r_ixSq hv' at0 ?_
                  walk_at "go"
                  exact ⟨z, xf, df, rfl, hz, hdf, hok2 df (by simp), fun H3 s3 => k _ (s12.trans s3)⟩
              have n7 : kd ≠ 7 := fun q => h7 (by rw [q]; rfl)
              have eO : ownB z kd (ds.take (mn kd)) = (ds.take (mn kd)).all (wnB 0 3) := by unfold ownB; rw [if_neg n5, if_neg n6, if_neg n7]
              rw [eO] at k
              walk_at "go"
              refine lc_bools (wnB 0 3) hv' hA2 (by omega) (fun _ => rfl) ?_ _ ?_ (fun J h => h)
              · intro i x y H' R hy hxd sm q
                walk_at "go"
                exact ⟨x, y, 0, 3, rfl, hxd, q _ (Same.refl _)⟩
              · intro D H' hD sm e
                walk_at "go"
                exact r_allB e (k _ (s12.trans sm))
            · rw [decide_eq_false hln, Bool.false_and] at k
              refine r_neN (fun q => hln (by have := V.int.inj q; rw [List.length_cons] at this; omega)) ?_
              walk_at "go"
              exact k _ s1
      · have eB : formB z d = false := by
          unfold formB
          rw [e]
          match ds, hlen with
          | [], _ => rfl
          | d0 :: ds, hlen =>
            rw [List.length_cons] at hlen
            cases d0 with
            | str x =>
              dsimp only
              cases ew : wordOf x with
              | none => rfl
              | some kd =>
                have hmn := mn_ar kd (wordOf_some ew).1
                dsimp only
                rw [decide_eq_false (by omega), Bool.false_and]
            | _ => rfl
        rw [eB] at k
        have : (decide ((1 : Int) ≤ (xs.length : Int)) && decide ((xs.length : Int) ≤ 4)) = false := by
          by_cases h1 : (1 : Int) ≤ (xs.length : Int)
          · rw [decide_eq_false (show ¬ (xs.length : Int) ≤ 4 by omega), Bool.and_false]
          · rw [decide_eq_false h1, Bool.false_and]
        rw [this]
        walk_at "go"
        exact k _ s1
    · have eB : formB z d = false := by unfold formB; rw [e]
      rw [eB] at k
      refine ⟨v, 1, 4, rfl, .inr ⟨hn, fun H1 s1 => ?_⟩⟩
      walk_at "go"
      exact k _ s1
abbrev OFormG (P : Program) (w : World) (K : PySem.W.Frag) (mg : Str → Option Value) (base : Heap) : Prop := Own P w K mg base "has_form" 6 ["signs", "part"] (spFormG K)
end
end K4

/-! R1 -/
/-! A comprehension whose step may raise: what the block leaves where an error goes through it. -/
namespace K4
open PySem L2 PySem.Spec PyProof.Rows
/-- the block's end; an error goes on with the block's own env -/
def endX (M : Model) (A : Around) (E : Value → Shared → Prop) (Q : Value → Shared → Prop) (acc : Value) (ce : Env) (r : Result) (z : Shared) : Prop :=
  match r with
  | .ok _ => ∃ m, z.heap.Ns ce.locals m ∧ ∀ g, Heap.SameBut ce.locals z.heap g → Q acc { z with heap := g }
  | .error x => ∃ m, z.heap.Ns ce.locals m ∧ ∀ g, Heap.SameBut ce.locals z.heap g → wpAny M A (passOn "comprehension.variables-let-go" x ce : Sem Value) (fun _ _ => False) E { z with heap := g }
theorem comp_free {M : Model} {A : Around} {E : Value → Shared → Prop} {s : Shared} {env : Env} {e : Expr} {sco : Scope} {pos : Pos} {fresh begin_ : Sem Value} {c0 : Comprehension} {cs : List Comprehension} {clo : List (Str × Addr)} {Q : Value → Shared → Prop}
    (e1 : clausesOf e = c0 :: cs) (e2 : ∀ x, foldedSetIterable c0.iter env x = Pure.pure x) (e3 : closureFor sco env = Pure.pure clo) (fk : sco.kind = .function) (uq : ∀ x ∈ sco.names, x.2 = .local → sco.names.lookup x.1 = some .local)
    (road : wpAny M A begin_ (fun x z1 => wpAny M A (pyIter x) (fun it z2 => wpAny M A fresh (fun acc z3 => wpAny M A (newFunctionEnv sco env.globals clo [] env.qual none .none (some env))
      (fun ce z4 => codeAny M A (.compStart e 0 it acc { ce with scope := relabel sco env }) (endX M A E Q acc { ce with scope := relabel sco env }) z4) E z3) E z2) E z1) E s) :
    wpAny M A (comprehension e sco env pos fresh false begin_ none) Q E s := by
  unfold comprehension
  rw [e3, e1]
  have pass : ∀ {α : Type} {t : Sem α} {P P' : α → Shared → Prop} {z : Shared}, wpAny M A t P E z → (∀ a y, P a y → P' a y) → wpAny M A t P' E z := fun a b => wpAny_mono a b fun _ _ w => w
  refine wpAny_bind (pass road fun x z1 r1 => ?_)
  refine wpAny_bind (wpAny_standAt (wpAny_bind (wpAny_of_eq (e2 x) (wpAny_bind (wpAny_holding (pass r1 fun it z2 r2 => ?_))))))
  refine wpAny_standIf (wpAny_bind (pass r2 fun acc z3 r3 => ?_))
  refine wpAny_bind (wpAny_pure (wpAny_bind (pass r3 fun ce z4 r4 => ?_)))
  dsimp only
  have own : ∀ x ∈ (sco.names.filter fun x => (x.2 == .local || x.2 == .cell) && x.1 != (".0" : Str)).reverse, x.2 = .local → Env.kindOf { ce with scope := relabel sco env } x.1 = some .local := by
    intro x hx hl
    exact lookup_relabel_local (uq x (List.mem_filter.mp (List.mem_reverse.mp hx)).1 hl)
  refine wpAny_holding (wpAny_bind (wpAny_attempt (wpAny_holding (wpAny_run (codeAny_mono r4 fun r z5 r5 => ?_)))))
  cases r with
  | ok f =>
    obtain ⟨m, n5, k5⟩ := r5
    exact wpAny_bind (wpAny_holding (wpAny_comp_letGo (cenv := { ce with scope := relabel sco env }) fk _ z5 m own n5 fun g _ _ sb => wpAny_pure (k5 g sb)))
  | error x =>
    obtain ⟨m, n5, k5⟩ := r5
    exact wpAny_bind (wpAny_holding (wpAny_comp_letGo (cenv := { ce with scope := relabel sco env }) fk _ z5 m own n5 fun g _ _ sb => wpAny_mono (k5 g sb) (fun _ _ w => w.elim) fun _ _ w => w))
end K4

/-! R2 -/
/-! An error of a call goes through a comprehension's block: noted at the def's frame, the block's names gone. -/
namespace K4
open PySem L2 PySem.Spec PyProof.Rows
theorem frames_but {h g B B' : Heap} {C : Addr} (same : ∀ b, b ≠ C → g.get? b = h.get? b) (bs : ∀ b, b ≠ C → B'.get? b = B.get? b) (inB : ∃ o, B.get? C = some o) : ∀ {l : List Env}, h.FunFrames B l → g.FunFrames B' l
  | [], _ => trivial
  | v :: l, q => by
    obtain ⟨k, ⟨L, o, f, n, e, d⟩, r⟩ := q
    have ne : L ≠ C := fun w => by obtain ⟨o', e'⟩ := inB; rw [w, e'] at n; cases n
    exact ⟨k, ⟨L, o, f, by rw [bs L ne]; exact n, by rw [same L ne]; exact e, d⟩, frames_but same bs inB r⟩
theorem note_end {X : Cx} {ce : Env} {a : Addr} {B : Heap} {cls : Value} {d : Option Addr} {z : Shared} {Q : Value → Shared → Prop} {acc : Value} (frm : X.env.frame = some X.env.locals) (fr0 : X.A.frames = some (X.env :: X.outer)) (cf : ce.frame = X.env.frame)
    (fly : HandSPX.FlyingZ B (X.env :: X.outer) a (L2N.Zn cls d) z.heap) (inB : ∃ o, B.get? ce.locals = some o) (ns : ∃ m, z.heap.Ns ce.locals m)
    (fin : ∀ (g B' : Heap), (∀ b, b ≠ ce.locals → B'.get? b = B.get? b) → B'.get? ce.locals = none → HandSPX.HeldZ B' (X.env :: X.outer) a (L2N.Zn cls d) X.env.locals g →
      (∀ b o, b ≠ ce.locals → z.heap.get? b = some o → (∀ vs, o.data ≠ .fields vs) → ∃ sl, g.get? b = some { o with slots := sl }) → X.xe (.ref a) { z with heap := g }) :
    notedBy (model X.prog X.w) X.A ce (fun x y => endX (model X.prog X.w) X.A X.xe Q acc ce (.error x) y) (.ref a) z := by
  show wpAny (model X.prog X.w) X.A (noteFrame (.ref a) ce) (fun _ y => endX (model X.prog X.w) X.A X.xe Q acc ce (.error (.ref a)) y) _ z
  have same : noteFrame (.ref a) ce = noteFrame (.ref a) X.env := by unfold noteFrame PySem.frameOf; rw [cf]
  rw [same]
  refine PXN.looks_onZ L2N.Zn.steady fr0 frm fly fun h1 held up => ?_
  obtain ⟨m, o, es, ep, e0, ed, sk, nf⟩ := ns
  obtain ⟨sl, e1⟩ := up ce.locals o e0 fun vs w => by rw [ed] at w; cases w
  refine ⟨m, ⟨_, es, ep, e1, ed, sk, nf⟩, fun g sb => ?_⟩
  obtain ⟨b1, b2, b3, oe, vs, T, oT, ts, he, hz, hd, h1T, nT, Tne, hT, hdT, h3⟩ := held
  obtain ⟨oC, eC⟩ := inB
  have aC : a ≠ ce.locals := fun w => by rw [w, eC] at b2; cases b2
  have TC : T ≠ ce.locals := fun w => by rw [w, eC] at nT; cases nT
  obtain ⟨B', p1, p2⟩ := restrict B fun b => decide (b ≠ ce.locals)
  have pB : ∀ b, b ≠ ce.locals → B'.get? b = B.get? b := fun b n => p1 b (decide_eq_true n)
  have pC : B'.get? ce.locals = none := p2 _ (by simp)
  have heg : g.get? a = some oe := by rw [sb.2 a aC]; exact he
  unfold PySem.passOn
  refine wpAny_bind (wpAny_field heg hd h1T ?_)
  rw [if_neg (show ¬ ((Value.ref T == Value.none) = true) from by simp)]
  have go : wpAny (model X.prog X.w) X.A (setFlight (.ref a) ce.frame) (fun _ y => wpAny (model X.prog X.w) X.A (throw (.ref a) : Sem Value) (fun _ _ => False) X.xe y) X.xe { z with heap := g } := by
    refine HandSPX.setFlight_anyZ (base := B') (Z := L2N.Zn cls d) (l := X.env :: X.outer) (fun b ob q => ?_) (frames_but sb.2 pB ⟨oC, eC⟩ b3) ⟨oe, vs, T, oT, ts, heg, hz, hd, h1T, by rw [pB T TC]; exact nT, Tne, by rw [sb.2 T TC]; exact hT, hdT, h3⟩ fun g2 k1 k2 k3 k4 => wpAny_throw ?_
    · have n : b ≠ ce.locals := fun w => by rw [w, pC] at q; cases q
      show g.get? b = some ob
      rw [sb.2 b n]
      exact b1 b ob (by rw [← pB b n]; exact q)
    · rw [cf, frm] at k3
      refine fin g2 B' pB pC ⟨k1, by rw [pB a aC]; exact b2, k2, k3⟩ fun b ob n q nv => ?_
      obtain ⟨s1, q1⟩ := up b ob q nv
      have q2 : g.get? b = some { ob with slots := s1 } := by rw [sb.2 b n]; exact q1
      obtain ⟨s2, q3⟩ := k4 b { ob with slots := s1 } q2 nv
      exact ⟨s2, q3⟩
  first
    | exact wpAny_bind (wpAny_pure (wpAny_bind go))
    | exact wpAny_bind go
end K4

/-! R3 -/
/-! A call's error in a comprehension's block is an error in the air of the def. -/
namespace K4
open PySem L2 PySem.Spec PyProof.Rows
theorem thru {X : Cx} {W : WX} {pins : List (Addr × Obj)} {σ : L2.St} {H3 H1 : Hp} {s3 s1 z : Shared} {fp : List Addr} {ce : Env} {E : XK} {u : Value} {Q : Value → Shared → Prop} {acc : Value}
    (tk : L2N.Takes X W) (stk : X.stack = X.env :: X.outer) (frm : X.env.frame = some X.env.locals) (cf : ce.frame = X.env.frame) (I3 : L2.Inv X pins σ H3 s3) (ffp : ∀ b ∈ fp, FpOk X pins H3 b)
    (bb : Un (frs X.stack) fp H3 H1 s3.heap s1.heap) (os1 : s1.os = s3.os) (new : s3.heap.objs.size ≤ ce.locals) (nsC : ∃ m, s1.heap.Ns ce.locals m) (nH : H1 ce.locals = none) (nF : ce.locals ∉ frs X.stack)
    (c : L2N.CX X.prog X.w X.stack H1 s1 E u z) (hW : ∀ cls d H', E cls d H' → W cls d σ H') :
    notedBy (model X.prog X.w) X.A ce (fun x y => endX (model X.prog X.w) X.A X.xe Q acc ce (.error x) y) u z := by
  obtain ⟨a, B, H', cls, d, rfl, fl, hok, ub, na, os, ag, hE⟩ := c
  have fr0 : X.A.frames = some (X.env :: X.outer) := by rw [I3.ok.frames, stk]
  obtain ⟨m, oC, es, ep, eC, dC, sk, nf⟩ := nsC
  have BC := ub.keep _ _ eC nH nF
  have HC : H' ce.locals = none := ub.free _ _ eC nH
  have old : ∀ {b o}, s3.heap.get? b = some o → b ≠ ce.locals := fun e => Nat.ne_of_lt (Nat.lt_of_lt_of_le (Heap.lt_size e) new)
  have fl' : HandSPX.FlyingZ B (X.env :: X.outer) a (L2N.Zn cls d) z.heap := by rw [← stk]; exact fl
  refine note_end frm fr0 cf fl' ⟨_, BC⟩ ⟨m, oC, es, ep, fl.1 _ _ BC, dC, sk, nf⟩ fun g B' pB pC held gz => ?_
  obtain ⟨G, g1, g2⟩ := restrict g fun b => (B'.get? b).isSome || decide (b ∈ frs X.stack)
  have inB : ∀ {b o}, B'.get? b = some o → G.get? b = some o := fun {b o} e => by rw [g1 b (by simp [e])]; exact held.1 b o e
  have inF : ∀ {b}, b ∈ frs X.stack → G.get? b = g.get? b := fun {b} hb => g1 b (by simp [hb])
  have out : ∀ {b o}, G.get? b = some o → g.get? b = some o ∧ ((B'.get? b).isSome = true ∨ b ∈ frs X.stack) := fun {b o} e => by
    cases q : ((B'.get? b).isSome || decide (b ∈ frs X.stack)) with
    | false => rw [g2 b q] at e; cases e
    | true =>
      rw [g1 b q] at e
      exact ⟨e, by simpa [Bool.or_eq_true] using q⟩
  have frame : ∀ {b}, b ∈ frs X.stack → ∃ o, z.heap.get? b = some o ∧ (∀ vs, o.data ≠ .fields vs) ∧ b ≠ ce.locals := fun {b} hb => by
    obtain ⟨n, o, e, k⟩ := fl.2.2.1.mem hb
    exact ⟨o, e, k, fun w => by rw [w, BC] at n; cases n⟩
  have un : Un (frs X.stack) fp H3 H' s3.heap G := by
    refine ⟨fun b o e n hf hx => ?_, fun b o e n hf hx => ?_, fun b o e n hx => ?_, fun b o e hx => ?_, fun b xs e => ub.tups b xs (bb.tups b xs e), fun b o v e => ub.frzs b o v (bb.frzs b o v e), fun b ps e => ?_⟩
    · have q := ub.keep b o (bb.keep b o e n hf hx) (bb.free b o e n hx) hf
      exact inB (by rw [pB b (old e)]; exact q)
    · obtain ⟨l1, e1⟩ := bb.slot b o e n hf hx
      obtain ⟨l2, e2⟩ := ub.slot b _ e1 hf
      obtain ⟨o', e', k, ne⟩ := frame hf
      rw [e2] at e'
      obtain rfl := Option.some.inj e'
      obtain ⟨l3, e3⟩ := gz b _ ne e2 k
      exact ⟨l3, by rw [inF hf]; exact e3⟩
    · obtain ⟨o', e'⟩ := bb.there b o e hx
      exact ub.free b o' e' (bb.free b o e n hx)
    · obtain ⟨o1, e1⟩ := bb.there b o e hx
      by_cases hf : b ∈ frs X.stack
      · obtain ⟨o', e', k, ne⟩ := frame hf
        obtain ⟨l3, e3⟩ := gz b _ ne e' k
        exact ⟨_, by rw [inF hf]; exact e3⟩
      · obtain ⟨o', e'⟩ := ub.there b o1 e1 hf
        exact ⟨o', inB (by rw [pB b (old e)]; exact e')⟩
    · obtain ⟨m1, e1⟩ := bb.tbls b ps e
      obtain ⟨m2, e2⟩ := ub.tbls b _ e1
      exact ⟨m1 ++ m2, by rw [e2, Array.append_assoc]⟩
  have hokG : HOk X.prog X.w H' G := fun b o e => by
    refine (hok b o e).stay (fun c v hc hv => ?_) (fun _ q => q) (fun _ _ q => q)
    have ne : c ≠ ce.locals := fun w => by
      rcases hc with rfl | hc
      · rw [w, HC] at e; cases e
      · rw [w, HC] at hc; cases hc
    exact inB (by rw [pB c ne]; exact hv)
  have inv : L2.Inv X pins σ H' { s3 with heap := G, gens := z.gens, drawn := z.drawn, toks := z.toks } := I3.call' (ch := fp) rfl un hokG ag fun b hb => by
    obtain ⟨f0, f1, f2, f3, f4, f5⟩ := ffp b hb
    exact ⟨f3, f1, f4, f5⟩
  refine tk _ _ ⟨a, B', _, pins, σ, H', cls, d, rfl, inv, fun b o e hf => ?_, Heap.UpToSlots.of_keeps fun b o e => (out e).1, .inr (.inr (by rw [stk]; exact held)), na, os.trans os1, ag, hW _ _ _ hE⟩
  obtain ⟨e1, h1 | h1⟩ := out e
  · obtain ⟨o', e'⟩ := Option.isSome_iff_exists.mp h1
    have q := held.1 b o' e'
    rw [e1] at q
    obtain rfl := Option.some.inj q
    exact e'
  · exact absurd h1 hf
end K4

/-! R4 -/
/-! A list comprehension whose step may let a call's error out. -/
namespace K4
open PySem L2 PySem.Spec PyProof.Rows
/-- the block, its step's errors taken by xe -/
abbrev blkX (X : Cx) (s : Shared) (H : Hp) (sco : Scope) (ce : Env) (fp : List Addr) (xe : Value → Shared → Prop) : Cx := { X.blk s H sco ce fp with xe := xe }
theorem to_xe {X : Cx} {s3 s : Shared} {H3 H : Hp} {sco : Scope} {ce : Env} {fp : List Addr} {xe : Value → Shared → Prop} {pins : List (Addr × Obj)} {σ : L2.St} (I : L2.Inv (X.blk s3 H3 sco ce fp) pins σ H s) : L2.Inv (blkX X s3 H3 sco ce fp xe) pins σ H s := by
  have o := I.ok
  exact ⟨⟨o.mod, o.kind, o.glob, o.blt, o.above, o.inj, o.has, o.cab, o.hd, o.frames, o.stk, o.exf, o.bs, o.bsz, o.noex, o.exfs, o.funs, o.frf⟩, I.os, I.bare, I.base, I.loc, I.cell, I.free, I.freeC, I.pin, I.hok, I.len⟩
theorem of_xe {X : Cx} {s3 s : Shared} {H3 H : Hp} {sco : Scope} {ce : Env} {fp : List Addr} {xe : Value → Shared → Prop} {pins : List (Addr × Obj)} {σ : L2.St} (I : L2.Inv (blkX X s3 H3 sco ce fp xe) pins σ H s) : L2.Inv (X.blk s3 H3 sco ce fp) pins σ H s := by
  have o := I.ok
  exact ⟨⟨o.mod, o.kind, o.glob, o.blt, o.above, o.inj, o.has, o.cab, o.hd, o.frames, o.stk, o.exf, o.bs, o.bsz, o.noex, o.exfs, o.funs, o.frf⟩, I.os, I.bare, I.base, I.loc, I.cell, I.free, I.freeC, I.pin, I.hok, I.len⟩
theorem not_frame {X : Cx} (o : X.Ok) {b : Addr} (h1 : b ∉ X.fs) (h2 : b ≠ X.env.locals) : b ∉ frs X.stack := by
  rcases o.stk with e | ⟨e, ef⟩
  · rw [e]; exact h1
  · intro h
    rw [e] at h
    unfold frs at h
    rw [List.filterMap_cons, ef] at h
    rcases List.mem_cons.mp h with h | h
    · exact h2 h
    · exact h1 h
theorem lcX_core {X : Cx} {W : WX} {E : XK} {el tgt itr : Expr} {cds : List Expr} {sco : Scope} {ow : List (Str × Nat)} {pos : Pos} {wit : TI} {g : TG} {cdt : TT} {te : TE} {pins : List (Addr × Obj)} {s : Shared} {σ : L2.St} {H : Hp} {Q : VK} {RR : Value → Env → Result → Shared → Prop} (cm : X.calm = true) (nd : X.N.Nodup) (stk : X.stack = X.env :: X.outer) (frm : X.env.frame = some X.env.locals)
    (tk : L2N.Takes X W) (hW : ∀ cls d t H', E cls d H' → W cls d t H') (pit : PI X tgt itr wit) (bok : BlkOk X.N X.env.scope sco ow)
    (pgt : ∀ (s : Shared) (H : Hp) (C : Addr) (cl : List (Str × Addr)) (fp : List Addr), PG (X.blk s H sco (compEnvC sco cl C X.env) fp) tgt g)
    (pct : ∀ (s : Shared) (H : Hp) (C : Addr) (cl : List (Str × Addr)) (fp : List Addr), PTs (X.blk s H sco (compEnvC sco cl C X.env) fp) cds cdt)
    (pel : ∀ (s : Shared) (H : Hp) (C : Addr) (cl : List (Str × Addr)) (fp : List Addr) (xe : Value → Shared → Prop),
      (∀ (pins : List (Addr × Obj)) (t : L2.St) (H1 : Hp) (s1 : Shared) (u : Value) (z : Shared), L2.Inv (blkX X s H sco (compEnvC sco cl C X.env) fp xe) pins t H1 s1 → L2N.CX X.prog X.w X.stack H1 s1 E u z → xe u z) → PE (blkX X s H sco (compEnvC sco cl C X.env) fp xe) el te)
    (I : L2.Inv X pins σ H s) (h : tLc wit g cdt te (ow.map (·.2)) σ H Q)
    (good : ∀ (D : Addr) (ce : Env) (z : Shared) (m : Str → Option Value) (H' : Hp), L2.Inv X pins σ H' z → Q (.ref D) H' → z.heap.Ns ce.locals m → FpOk X pins H' ce.locals → RR (.ref D) ce (.ok .next) z)
    (bad : ∀ (acc : Value) (ce : Env) (x : Value) (z : Shared), endX (model X.prog X.w) X.A X.xe (fun _ _ => False) acc ce (.error x) z → RR acc ce (.error x) z) :
    wpAny (model X.prog X.w) X.A (eval itr X.env) (fun x z1 => wpAny (model X.prog X.w) X.A (pyIter x) (fun it z2 => wpAny (model X.prog X.w) X.A (newList []) (fun acc z3 => wpAny (model X.prog X.w) X.A (newFunctionEnv sco X.env.globals (cloFrom X.env.cells sco.names []) [] X.env.qual none .none (some X.env))
      (fun ce z4 => codeAny (model X.prog X.w) X.A (.compStart (.ListComp el [⟨tgt, itr, cds, 0⟩] sco pos) 0 it acc { ce with scope := relabel sco X.env }) (RR acc { ce with scope := relabel sco X.env }) z4) X.xe z3) X.xe z2) X.xe z1) X.xe s := by
  refine thn (pit.run pins s σ H _ I h) fun xv s1 q1 => thn q1 fun itv s2 q2 => ?_
  obtain ⟨it, fp, tn, J, H2, rfl, I2, T, at2, ok2, q⟩ := q2
  refine wpAny_newObj_type (newEnv_comp ?_) (by show 0 ≤ sizeLine; decide)
  have nD : H2 s2.heap.objs.size = none := I2.hok.fresh (Nat.le_refl _)
  obtain ⟨V, ⟨m0, v0⟩, turn⟩ := q s2.heap.objs.size nD
  have below : ∀ b ∈ fp, b < s2.heap.objs.size := fun b hb => by
    obtain ⟨o, e, _⟩ := T.obj _ _ at2 b hb
    exact Heap.lt_size e
  have I3 : L2.Inv X pins σ (upd H2 s2.heap.objs.size (.lst [])) { s2 with heap := s2.heap.push { cls := .type "list", data := .seq ([] : List Value).toArray } } :=
    I2.laid (t' := s2.toks) (fun b o e => Heap.get?_push_of_some _ e) (Nat.le_refl _) ⟨Nat.zero_le _, [], 0, .nil, Heap.get?_push_size _ rfl⟩
  have ok3 : ∀ b ∈ fp, FpOk X pins (upd H2 s2.heap.objs.size (.lst [])) b ∧ b < (s2.heap.push { cls := .type "list", data := .seq ([] : List Value).toArray }).objs.size := fun b hb =>
    ⟨⟨by rw [upd_ne (Nat.ne_of_lt (below b hb))]; exact (ok2 b hb).1, (ok2 b hb).2⟩, by rw [Heap.size_push]; exact Nat.lt_succ_of_lt (below b hb)⟩
  have at3 : tn 0 (s2.heap.push { cls := .type "list", data := .seq ([] : List Value).toArray }) := T.keep _ _ _ at2 fun b _ o e => Heap.get?_push_of_some _ e
  revert I3 ok3 at3 v0
  generalize upd H2 s2.heap.objs.size (.lst []) = H3
  generalize s2.heap.objs.size = D at *
  generalize s2.heap.push { cls := .type "list", data := .seq ([] : List Value).toArray } = h3
  intro v0 I3' ok3 at3
  obtain ⟨s3, hs3⟩ : ∃ s3 : Shared, s3 = { s2 with heap := h3 } := ⟨_, rfl⟩
  have I3 : L2.Inv X pins σ H3 s3 := by rw [hs3]; exact I3'
  have hh3 : s3.heap = h3 := by rw [hs3]
  rw [← hh3] at ok3 at3
  have I4 := block_start I3 bok nd ok3
  have p1 := pgt s3 H3 s3.heap.objs.size (cellsFrom (s3.heap.objs.size + 1) sco.names (cloFrom X.env.cells sco.names [])) fp
  have p2 := pct s3 H3 s3.heap.objs.size (cellsFrom (s3.heap.objs.size + 1) sco.names (cloFrom X.env.cells sco.names [])) fp
  have p3 := pel s3 H3 s3.heap.objs.size (cellsFrom (s3.heap.objs.size + 1) sco.names (cloFrom X.env.cells sco.names [])) fp
  rw [← hh3]
  have cF : (compEnvC sco (cellsFrom (s3.heap.objs.size + 1) sco.names (cloFrom X.env.cells sco.names [])) s3.heap.objs.size X.env).frame = X.env.frame := rfl
  have cL : (compEnvC sco (cellsFrom (s3.heap.objs.size + 1) sco.names (cloFrom X.env.cells sco.names [])) s3.heap.objs.size X.env).locals = s3.heap.objs.size := rfl
  show codeAny _ _ (.compStart (.ListComp el [⟨tgt, itr, cds, 0⟩] sco pos) 0 (.ref it) (.ref D) (compEnvC sco (cellsFrom (s3.heap.objs.size + 1) sco.names (cloFrom X.env.cells sco.names [])) s3.heap.objs.size X.env))
    (RR (.ref D) (compEnvC sco (cellsFrom (s3.heap.objs.size + 1) sco.names (cloFrom X.env.cells sco.names [])) s3.heap.objs.size X.env)) { s2 with heap := pushCells (s3.heap.push { cls := .type "dict", data := .dict #[] }) sco.names }
  have at4 : tn 0 (pushCells (s3.heap.push { cls := .type "dict", data := .dict #[] }) sco.names) := T.keep _ _ _ at3 fun b _ o e => pushCells_keeps _ _ _ _ (Heap.get?_push_of_some _ e)
  have none3 : ∀ b ∈ fp, H3 b = none := fun b hb => (ok3 b hb).1.1
  obtain ⟨s4, hs4⟩ : ∃ s4 : Shared, s4 = { s3 with heap := pushCells (s3.heap.push { cls := .type "dict", data := .dict #[] }) sco.names } := ⟨_, rfl⟩
  have I4' : L2.Inv (X.blk s3 H3 sco (compEnvC sco (cellsFrom (s3.heap.objs.size + 1) sco.names (cloFrom X.env.cells sco.names [])) s3.heap.objs.size X.env) fp) [] (wipe σ (ow.map (·.2))) H3 s4 := by rw [hs4]; exact I4
  have es4 : ({ s2 with heap := pushCells (s3.heap.push { cls := .type "dict", data := .dict #[] }) sco.names } : Shared) = s4 := by rw [hs4, hs3]
  rw [es4]
  have at4 : tn 0 s4.heap := by rw [hs4]; exact at4
  clear I4 hs4 es4
  revert I4' p1 p2 p3 cF cL
  generalize compEnvC sco (cellsFrom (s3.heap.objs.size + 1) sco.names (cloFrom X.env.cells sco.names [])) s3.heap.objs.size X.env = ce
  intro p1 p2 p3 cF cL I4
  have still : ∀ {t : L2.St} {G : Hp} {z : Shared}, L2.Inv (X.blk s3 H3 sco ce fp) [] t G z → (∀ b ∈ fp, G b = none) → ∀ b ∈ fp, FpOk (X.blk s3 H3 sco ce fp) [] G b := fun {t G z} J n b hb =>
    ⟨n b hb, (J.ok.exf b hb).1, J.ok.exfs b hb, .inl hb, fun x c e => (J.ok.exf b hb).2 x c e, fun p hp => by cases hp⟩
  -- what a call lets out
  have out : ∀ (pins' : List (Addr × Obj)) (t : L2.St) (H1 : Hp) (z1 : Shared) (u : Value) (z : Shared), L2.Inv (X.blk s3 H3 sco ce fp) pins' t H1 z1 → L2N.CX X.prog X.w X.stack H1 z1 E u z →
      notedBy (model X.prog X.w) X.A ce (fun x y => RR (.ref D) ce (.error x) y) u z := fun pins' t H1 z1 u z J c => by
    have nC : H1 s3.heap.objs.size = none := by rw [← cL]; exact J.free
    obtain ⟨f0, f1, f2, _⟩ := I3.fpOk (Nat.le_refl _) nC
    obtain ⟨m, hm, _⟩ := J.loc
    refine (fun w => wpAny_mono w (fun _ y k => bad _ _ _ _ k) fun x y k => bad _ _ x y k) (thru (Q := fun _ _ => False) (acc := .ref D) tk stk frm cF I3 (fun b hb => (ok3 b hb).1) J.base J.os (by rw [cL]; exact Nat.le_refl _) ⟨m, hm⟩ J.free (by rw [cL]; exact not_frame I3.ok f2 f1) c fun cls d H' => hW cls d σ H')
  have p3 := p3 (fun u z => notedBy (model X.prog X.w) X.A ce (fun x y => RR (.ref D) ce (.error x) y) u z) fun pins' t H1 z1 u z J => out pins' t H1 z1 u z (of_xe J)
  have loop : codeAny (model X.prog X.w) X.A (.compLoop (.ListComp el [⟨tgt, itr, cds, 0⟩] sco pos) 0 (.ref it) (.ref D) ce) (RR (.ref D) ce) s4 := by
    refine compLoop_any (fun n z => ∃ i G, L2.Inv (X.blk s3 H3 sco ce fp) [] (wipe σ (ow.map (·.2))) G z ∧ tn i z.heap ∧ (∀ b ∈ fp, G b = none) ∧ V i n G) ?_ m0 ⟨0, H3, I4, at4, none3, v0⟩
    rintro n s5 ⟨i, H5, I5, at5, n5, v5⟩
    rcases turn i n H5 v5 with ⟨stop, qq⟩ | ⟨go, Nx, less, step⟩
    · refine thnF (T.done (X.blk s3 H3 sco ce fp) rfl rfl rfl cm i [] s5 _ H5 (fun _ _ => False) I5 (still I5 n5) at5 stop) fun r s6 ⟨er, I6⟩ => ?_
      subst er
      have I7 : L2.Inv X pins σ H5 s6 := I3.call' (ch := fp) I6.os I6.base I6.hok I6.bare fun b hb => ⟨(ok3 b hb).1.2.2.2.1, (ok3 b hb).1.2.1, (ok3 b hb).1.2.2.2.2.1, (ok3 b hb).1.2.2.2.2.2⟩
      have nC : H5 s3.heap.objs.size = none := by rw [← cL]; exact I6.free
      obtain ⟨m, hm, _⟩ := I6.loc
      exact good D ce s6 m H5 I7 qq hm (by rw [cL]; exact I3.fpOk (Nat.le_refl _) nC)
    · refine thnF (T.item (X.blk s3 H3 sco ce fp) rfl rfl rfl cm i [] s5 _ H5 (fun _ _ => False) I5 (still I5 n5) at5 go) fun r s6 ⟨u, er, k6⟩ => ?_
      subst er
      refine thnF k6 fun _ s7 ⟨x, H7, I7, r7, y7, at7, n7⟩ => ?_
      refine thnF (p1.run _ s7 _ H7 x u _ (I7.pinned (still I7 n7) (T.obj _ _ at7)) r7 (step x H7 y7)) fun _ s8 ⟨t8, H8, I8, w8, q8⟩ => ?_
      refine thnF (p2.run _ s8 t8 H8 _ I8 q8) fun b s9 ⟨H9, I9, q9⟩ => ?_
      have fin : ∀ {z : Shared} {G : Hp}, L2.Inv (X.blk s3 H3 sco ce fp) ([] ++ pinsAt fp s7.heap) t8 G z → Nx G → ∃ m, m < n ∧ ∃ i G, L2.Inv (X.blk s3 H3 sco ce fp) [] (wipe σ (ow.map (·.2))) G z ∧ tn i z.heap ∧ (∀ b ∈ fp, G b = none) ∧ V i m G := fun {z G} J nx => by
        obtain ⟨m', lt, v'⟩ := less G nx
        have stay : ∀ b ∈ fp, ∀ o, s7.heap.get? b = some o → z.heap.get? b = some o ∧ G b = none := fun b hb o e => by
          have q := J.pin (b, o) (List.mem_append_right _ (List.mem_append_right _ (mem_pinsAt hb e)))
          exact ⟨q.1, q.2.1⟩
        refine ⟨m', lt, i + 1, G, (J.unpinned (pins := [])).weak (by rw [← w8, wipe_length]) (fun j v e => ?_), T.keep _ _ _ at7 fun b hb o e => (stay b hb o e).1, fun b hb => ?_, v'⟩
        · rw [← w8] at e
          exact (wipe_some e).1
        · obtain ⟨o, e, _⟩ := T.obj _ _ at7 b hb
          exact (stay b hb o e).2
      cases b with
      | false =>
        simp only [Bool.false_eq_true, if_false] at q9 ⊢
        exact fin I9 q9
      | true =>
        simp only [if_true] at q9 ⊢
        refine wpAny_mono (p3.run _ s9 t8 H9 _ (to_xe I9) q9) (fun y s10 ⟨yv, H10, I10, r10, acc, hD, hz, nx⟩ => ?_) fun _ _ w => w
        exact app_ok (X := X.blk s3 H3 sco ce fp) (of_xe I10) hD hz r10 fun s11 I11 => fin I11 nx
  exact codeAny_compStart_list loop (T.self X.A 0 _ _ _ at4 loop)
theorem clos_of {X : Cx} {pins : List (Addr × Obj)} {s : Shared} {σ : L2.St} {H : Hp} {sco : Scope} {ow : List (Str × Nat)} (I : L2.Inv X pins σ H s) (bok : BlkOk X.N X.env.scope sco ow) : ∀ x ∈ sco.names, x.2 = .free → ∃ c, X.env.cells.lookup x.1 = some c :=
  fun x hx e => (bok.free x hx e).elim (fun k => I.ok.has x.1 (.inl k)) fun k => I.ok.has x.1 (.inr k)
theorem pe_lcX {X : Cx} {W : WX} {E : XK} {el tgt itr : Expr} {cds : List Expr} {sco : Scope} {ow : List (Str × Nat)} {pos : Pos} {wit : TI} {g : TG} {cdt : TT} {te : TE} (cm : X.calm = true) (nd : X.N.Nodup) (stk : X.stack = X.env :: X.outer) (frm : X.env.frame = some X.env.locals)
    (tk : L2N.Takes X W) (hW : ∀ cls d t H', E cls d H' → W cls d t H') (pit : PI X tgt itr wit) (bok : BlkOk X.N X.env.scope sco ow)
    (pgt : ∀ (s : Shared) (H : Hp) (C : Addr) (cl : List (Str × Addr)) (fp : List Addr), PG (X.blk s H sco (compEnvC sco cl C X.env) fp) tgt g)
    (pct : ∀ (s : Shared) (H : Hp) (C : Addr) (cl : List (Str × Addr)) (fp : List Addr), PTs (X.blk s H sco (compEnvC sco cl C X.env) fp) cds cdt)
    (pel : ∀ (s : Shared) (H : Hp) (C : Addr) (cl : List (Str × Addr)) (fp : List Addr) (xe : Value → Shared → Prop),
      (∀ (pins : List (Addr × Obj)) (t : L2.St) (H1 : Hp) (s1 : Shared) (u : Value) (z : Shared), L2.Inv (blkX X s H sco (compEnvC sco cl C X.env) fp xe) pins t H1 s1 → L2N.CX X.prog X.w X.stack H1 s1 E u z → xe u z) → PE (blkX X s H sco (compEnvC sco cl C X.env) fp xe) el te)
    (fold : ∀ x, foldedSetIterable itr X.env x = Pure.pure x := by intro _; rfl) : PE X (.ListComp el [⟨tgt, itr, cds, 0⟩] sco pos) (tLc wit g cdt te (ow.map (·.2))) := by
  refine ⟨fun pins s σ H Q I h => ?_⟩
  rw [eval_ListComp]
  refine comp_free rfl fold (closure_ok (clos_of I bok)) bok.kind (fun x hx e => by rw [bok.uniq x hx, e]) (lcX_core (RR := fun acc ce r z => endX (model X.prog X.w) X.A X.xe (EP X pins σ Q) acc ce r z) cm nd stk frm tk hW pit bok pgt pct pel I h (fun D ce z m G J q n f => ⟨m, n, fun gg sb => ?_⟩) fun _ _ _ _ k => k)
  obtain ⟨f0, f1, f2, f3, f4, f5⟩ := f
  exact ⟨.ref D, G, J.turned (t' := z.toks) (fun b o hb e => (sb.2 b hb).trans e) f0 f1 f3 f4 f5, rfl, q⟩
end K4

/-! R5 -/
/-! name = [..] on one line, the step may let a call's error out. -/
namespace K4
open PySem L2 PySem.Spec PyProof.Rows
def endU (M : Model) (A : Around) (E : Value → Shared → Prop) (use : Value → Sem Unit) (Q : Shared → Prop) (acc : Value) (ce : Env) (r : Result) (z : Shared) : Prop :=
  match r with
  | .ok _ => wpAny M A (use acc) (fun _ y => ∃ m, y.heap.Ns ce.locals m ∧ ∀ g, Heap.SameBut ce.locals y.heap g → Q { y with heap := g }) E z
  | .error x => endX M A E (fun _ _ => False) acc ce (.error x) z
theorem comp_freeU {M : Model} {A : Around} {E : Value → Shared → Prop} {s : Shared} {env : Env} {e : Expr} {sco : Scope} {pos : Pos} {fresh begin_ : Sem Value} {c0 : Comprehension} {cs : List Comprehension} {clo : List (Str × Addr)} {use : Value → Sem Unit} {Q : Shared → Prop}
    (e1 : clausesOf e = c0 :: cs) (e2 : ∀ x, foldedSetIterable c0.iter env x = Pure.pure x) (e3 : closureFor sco env = Pure.pure clo) (fk : sco.kind = .function) (uq : ∀ x ∈ sco.names, x.2 = .local → sco.names.lookup x.1 = some .local)
    (road : wpAny M A begin_ (fun x z1 => wpAny M A (pyIter x) (fun it z2 => wpAny M A fresh (fun acc z3 => wpAny M A (newFunctionEnv sco env.globals clo [] env.qual none .none (some env))
      (fun ce z4 => codeAny M A (.compStart e 0 it acc { ce with scope := relabel sco env }) (endU M A E use Q acc { ce with scope := relabel sco env }) z4) E z3) E z2) E z1) E s) :
    wpAny M A (comprehension e sco env pos fresh false begin_ (some use)) (fun _ z => Q z) E s := by
  unfold comprehension
  rw [e3, e1]
  have pass : ∀ {α : Type} {t : Sem α} {P P' : α → Shared → Prop} {z : Shared}, wpAny M A t P E z → (∀ a y, P a y → P' a y) → wpAny M A t P' E z := fun a b => wpAny_mono a b fun _ _ w => w
  refine wpAny_bind (pass road fun x z1 r1 => ?_)
  refine wpAny_bind (wpAny_standAt (wpAny_bind (wpAny_of_eq (e2 x) (wpAny_bind (wpAny_holding (pass r1 fun it z2 r2 => ?_))))))
  refine wpAny_standIf (wpAny_bind (pass r2 fun acc z3 r3 => ?_))
  refine wpAny_bind (wpAny_pure (wpAny_bind (pass r3 fun ce z4 r4 => ?_)))
  dsimp only
  have own : ∀ x ∈ (sco.names.filter fun x => (x.2 == .local || x.2 == .cell) && x.1 != (".0" : Str)).reverse, x.2 = .local → Env.kindOf { ce with scope := relabel sco env } x.1 = some .local := by
    intro x hx hl
    exact lookup_relabel_local (uq x (List.mem_filter.mp (List.mem_reverse.mp hx)).1 hl)
  have own2 : ∀ x ∈ (sco.names.filter fun x => (x.2 == .local || x.2 == .cell) && x.1 != (".0" : Str)).reverse.drop 1 ++ (sco.names.filter fun x => (x.2 == .local || x.2 == .cell) && x.1 != (".0" : Str)).reverse.take 1,
      x.2 = .local → Env.kindOf { ce with scope := relabel sco env } x.1 = some .local := fun x hx hl => (List.mem_append.mp hx).elim (fun k => own x (List.mem_of_mem_drop k) hl) fun k => own x (List.mem_of_mem_take k) hl
  refine wpAny_holding (wpAny_bind (wpAny_attempt (wpAny_holding (wpAny_run (codeAny_mono r4 fun r z5 r5 => ?_)))))
  cases r with
  | ok f =>
    refine wpAny_bind (wpAny_rule (wpAny_bind (wpAny_holding (pass r5 fun _ z6 r6 => ?_))))
    obtain ⟨m, n6, k6⟩ := r6
    exact wpAny_bind (wpAny_comp_letGo (cenv := { ce with scope := relabel sco env }) fk _ z6 m own2 n6 fun g _ _ sb => wpAny_pure (k6 g sb))
  | error x =>
    obtain ⟨m, n5, k5⟩ := r5
    exact wpAny_bind (wpAny_holding (wpAny_comp_letGo (cenv := { ce with scope := relabel sco env }) fk _ z5 m own n5 fun g _ _ sb => wpAny_mono (k5 g sb) (fun _ _ w => w.elim) fun _ _ w => w))
end K4
namespace K4
open PySem L2 PySem.Spec PyProof.Rows
theorem ps_setLcX {X : Cx} {W : WX} {E : XK} {i : Nat} {nm : Str} {pn : Pos} {el tgt itr : Expr} {cds : List Expr} {sco : Scope} {ow : List (Str × Nat)} {pos spos : Pos} {wit : TI} {g : TG} {cdt : TT} {te : TE} (cm : X.calm = true) (nd : X.N.Nodup) (stk : X.stack = X.env :: X.outer) (frm : X.env.frame = some X.env.locals)
    (tk : L2N.Takes X W) (hW : ∀ cls d t H', E cls d H' → W cls d t H') (slot : X.N[i]? = some nm) (lcl : X.env.scope.names.lookup nm = some .local)
    (sw : swapsWith (.ListComp el [⟨tgt, itr, cds, 0⟩] sco pos) (some (.Name nm pn)) spos.line X.env = Pure.pure true) (pit : PI X tgt itr wit) (bok : BlkOk X.N X.env.scope sco ow)
    (pgt : ∀ (s : Shared) (H : Hp) (C : Addr) (cl : List (Str × Addr)) (fp : List Addr), PG (X.blk s H sco (compEnvC sco cl C X.env) fp) tgt g)
    (pct : ∀ (s : Shared) (H : Hp) (C : Addr) (cl : List (Str × Addr)) (fp : List Addr), PTs (X.blk s H sco (compEnvC sco cl C X.env) fp) cds cdt)
    (pel : ∀ (s : Shared) (H : Hp) (C : Addr) (cl : List (Str × Addr)) (fp : List Addr) (xe : Value → Shared → Prop),
      (∀ (pins : List (Addr × Obj)) (t : L2.St) (H1 : Hp) (s1 : Shared) (u : Value) (z : Shared), L2.Inv (blkX X s H sco (compEnvC sco cl C X.env) fp xe) pins t H1 s1 → L2N.CX X.prog X.w X.stack H1 s1 E u z → xe u z) → PE (blkX X s H sco (compEnvC sco cl C X.env) fp xe) el te)
    (fold : ∀ x, foldedSetIterable itr X.env x = Pure.pure x := by intro _; rfl) :
    PS X (.Assign [.Name nm pn] (.ListComp el [⟨tgt, itr, cds, 0⟩] sco pos) spos) (tAsg (tLc wit g cdt te (ow.map (·.2))) (gName i)) := by
  refine ⟨fun pins s σ H D I h => ?_⟩
  rw [exec_Assign_Name_used _ _ _ _ sw]
  refine wpAny_bind (wpAny_standAt (wpAny_bind ?_))
  have road : tLc wit g cdt te (ow.map (·.2)) σ H (fun x G => gName i x σ G D.nx) := h
  have run := comp_freeU (M := model X.prog X.w) (A := X.A) (E := X.xe) (s := s) (env := X.env) (e := .ListComp el [⟨tgt, itr, cds, 0⟩] sco pos) (pos := firstIterPos [⟨tgt, itr, cds, 0⟩] pos) (fresh := newList []) (begin_ := eval itr X.env) (use := assign (.Name nm pn) X.env) (Q := fun z => L2.SP X pins D .next z)
    rfl fold (closure_ok (clos_of I bok)) bok.kind (fun x hx e => by rw [bok.uniq x hx, e])
    (lcX_core (RR := fun acc ce r z => endU (model X.prog X.w) X.A X.xe (assign (.Name nm pn) X.env) (fun z => L2.SP X pins D .next z) acc ce r z) cm nd stk frm tk hW pit bok pgt pct pel I road (fun L ce z m G J q n f => ?_) fun _ _ _ _ k => k)
  · exact wpAny_bind (wpAny_mono run (fun _ z q => wpAny_pure (wpAny_pure q)) fun _ _ w => w)
  · show wpAny _ _ (assign (.Name nm pn) X.env (.ref L)) _ _ _
    refine wpAny_assign_Name (store_ok2 (v := V.ref L) J nd slot (.inl lcl) rfl (fun z2 J2 ⟨a, sb, ha⟩ => ?_) (.inr lcl))
    obtain ⟨f0, f1, f2, f3, f4, f5⟩ := f
    have ne : ce.locals ≠ a := ha.elim (fun w => by rw [w]; exact f1) fun w e => f4 nm a w e.symm
    exact ⟨m, n.sameBut sb ne, fun gg s2 => ⟨_, G, J2.turned (t' := z2.toks) (fun b o hb e => (s2.2 b hb).trans e) f0 f1 f3 f4 f5, q⟩⟩
end K4

/-! G69d -/


namespace K4
open PySem L2 K1
/-- the inner rules of a part that has its form -/
def innerD (d : PyData) : List PyData := match items d with
  | some (.str x :: ds) => (match wordOf x with
    | some k => ds.drop (mn k)
    | none => [])
  | _ => []
/-- the first part that does not have its form -/
def chkE : Nat → Str → PyData → Option PyData
  | 0, _, d => some d
  | n + 1, z, d => if formB z d = true then (innerD d).findSome? (chkE n z) else some d
theorem items_sq {d : PyData} {ds : List PyData} (h : items d = some ds) : ∃ t, d = sq t ds := by
  cases d with
  | tuple xs => obtain rfl := Option.some.inj h; exact ⟨true, rfl⟩
  | list xs => obtain rfl := Option.some.inj h; exact ⟨false, rfl⟩
  | _ => cases h
theorem form_own {z : Str} {d : PyData} (h : formB z d = true) : ∃ kd ds, items d = some (.str (wd kd) :: ds) ∧ kd < 9 ∧ ds.length = mn kd + ar kd ∧ ownB z kd (ds.take (mn kd)) = true ∧ innerD d = ds.drop (mn kd) := by
  unfold formB at h
  split at h
  · rename_i x ds e
    split at h
    · rename_i k ek
      rw [Bool.and_eq_true, decide_eq_true_eq] at h
      obtain ⟨hk, rfl⟩ := wordOf_some ek
      refine ⟨k, ds, e, hk, h.1, h.2, ?_⟩
      unfold innerD
      rw [e]
      dsimp only
      rw [ek]
    · cases h
  · cases h
theorem okd_sq {t : Bool} {ds : List PyData} (h : ds.length ≤ 1000) (k : ∀ d ∈ ds, okd d = true) : okd (sq t ds) = true := by
  cases t
  · show okd (.list ds) = true
    rw [okd, decide_eq_true h, okdA_iff.mpr k]; rfl
  · show okd (.tuple ds) = true
    rw [okd, decide_eq_true h, okdA_iff.mpr k]; rfl
mutual
theorem okd_wdt : ∀ d : PyData, okd d = true → wdt d = true
  | .none, _ => by simp [wdt]
  | .bool _, _ => by simp [wdt]
  | .int _, _ => by simp [wdt]
  | .str _, _ => by simp [wdt]
  | .tuple ds, h => by
    rw [okd, Bool.and_eq_true] at h
    rw [wdt, h.1, Bool.true_and]
    exact okdA_wdt ds h.2
  | .list ds, h => by
    rw [okd, Bool.and_eq_true] at h
    rw [wdt, h.1, Bool.true_and]
    exact okdA_wdt ds h.2
  | .dict _, h => by simp [okd] at h
theorem okdA_wdt : ∀ ds : List PyData, okdA ds = true → wdtA ds = true
  | [], _ => by simp [wdtA]
  | d :: ds, h => by
    rw [okdA, Bool.and_eq_true] at h
    rw [wdtA, okd_wdt d h.1, okdA_wdt ds h.2]; rfl
end
theorem wn_flat {lo hi : Int} {d : PyData} (h : wnB lo hi d = true) : flatN d = true ∧ d.depth ≤ 0 := by
  cases d with
  | int i => exact ⟨rfl, Nat.le_of_eq (by simp [PyData.depth])⟩
  | _ => cases h
theorem wns_flat {lo hi : Int} {d : PyData} {ds : List PyData} (e : items d = some ds) (h : ds.all (wnB lo hi) = true) : flatN d = true ∧ d.depth ≤ 1 := by
  obtain ⟨t, rfl⟩ := items_sq e
  have := List.all_eq_true.mp h
  exact ⟨flat_sq fun x hx => (wn_flat (this x hx)).1, depth_sq (n := 0) fun x hx => (wn_flat (this x hx)).2⟩
theorem text_str {lo hi : Int} {z y : Str} (zA : ∀ c ∈ tl z, c < 1114112) (h : textB lo hi z y = true) : PyData.strOk y = true := by
  unfold textB at h
  rw [Bool.and_eq_true, Bool.and_eq_true] at h
  exact strOk_of fun c hc => zA c (of_decide_eq_true (List.all_eq_true.mp h.2.2 c hc))
theorem own_flat {z : Str} (zA : ∀ c ∈ tl z, c < 1114112) {k : Nat} {vs : List PyData} (h : ownB z k vs = true) : ∀ d ∈ vs, flatN d = true ∧ d.depth ≤ 2 := by
  unfold ownB at h
  split at h
  · unfold sumB at h
    split at h
    · rename_i m w g
      rw [Bool.and_eq_true] at h
      cases ew : items w with
      | none => rw [ew] at h; cases h.2
      | some ws =>
        rw [ew] at h
        have h2 := h.2
        dsimp only at h2
        obtain ⟨_, h2⟩ := Bool.and_eq_true_iff.mp h2
        rw [List.all_append] at h2
        obtain ⟨hw, hg⟩ := Bool.and_eq_true_iff.mp h2
        intro d hd
        simp only [List.mem_cons, List.not_mem_nil, or_false] at hd
        rcases hd with rfl | rfl | rfl
        · exact ⟨rfl, Nat.le_trans (Nat.le_of_eq (by simp [PyData.depth])) (Nat.zero_le 2)⟩
        · have := wns_flat ew hw
          exact ⟨this.1, by omega⟩
        · have := wn_flat (List.all_eq_true.mp hg d (List.mem_singleton.mpr rfl))
          exact ⟨this.1, by omega⟩
    · cases h
  · split at h
    · unfold squareB at h
      split at h
      · rename_i r g
        rw [Bool.and_eq_true, Bool.and_eq_true] at h
        obtain ⟨h1, h2, _⟩ := h
        intro d hd
        simp only [List.mem_cons, List.not_mem_nil, or_false] at hd
        rcases hd with rfl | rfl
        · unfold rowsB at h1
          cases er : items d with
          | none => rw [er] at h1; cases h1
          | some rs =>
            rw [er] at h1
            dsimp only at h1
            rw [Bool.and_eq_true] at h1
            have hall := List.all_eq_true.mp h1.2
            have row : ∀ x ∈ rs, flatN x = true ∧ x.depth ≤ 1 := fun x hx => by
              have hr := hall x hx
              unfold rowB at hr
              cases ex : items x with
              | none => rw [ex] at hr; cases hr
              | some xs =>
                rw [ex] at hr
                dsimp only at hr
                rw [Bool.and_eq_true] at hr
                exact wns_flat ex hr.2
            obtain ⟨t, rfl⟩ := items_sq er
            exact ⟨flat_sq fun x hx => (row x hx).1, depth_sq (n := 1) fun x hx => (row x hx).2⟩
        · unfold goalsB at h2
          cases eg : items d with
          | none => rw [eg] at h2; cases h2
          | some gs =>
            rw [eg] at h2
            dsimp only at h2
            rw [Bool.and_eq_true] at h2
            have := wns_flat eg h2.1
            exact ⟨this.1, by omega⟩
      · cases h
    · split at h
      · split at h
        · rename_i d
          intro e he
          rw [List.mem_singleton.mp he]
          unfold facesB at h
          cases ef : items d with
          | none => rw [ef] at h; cases h
          | some fs =>
            rw [ef] at h
            dsimp only at h
            rw [Bool.and_eq_true] at h
            have hall := List.all_eq_true.mp h.2
            have tx : ∀ x ∈ fs, flatN x = true ∧ x.depth ≤ 0 := fun x hx => by
              have hr := hall x hx
              cases x with
              | str y => exact ⟨text_str zA hr, Nat.le_of_eq (by simp [PyData.depth])⟩
              | _ => cases hr
            obtain ⟨t, rfl⟩ := items_sq ef
            have a := flat_sq (t := t) fun x hx => (tx x hx).1
            have b := depth_sq (t := t) (n := 0) fun x hx => (tx x hx).2
            exact ⟨a, by omega⟩
        · cases h
      · intro d hd
        have := wn_flat (List.all_eq_true.mp h d hd)
        exact ⟨this.1, by omega⟩
theorem chk_flat {z : Str} (zA : ∀ c ∈ tl z, c < 1114112) : ∀ {n : Nat} {d : PyData}, chkE n z d = none → flatN d = true
  | 0, d, h => by cases h
  | n + 1, d, h => by
    unfold chkE at h
    split at h
    · rename_i hf
      obtain ⟨kd, ds, e, hk, hl, ho, hi⟩ := form_own hf
      rw [hi] at h
      obtain ⟨t, rfl⟩ := items_sq e
      refine flat_sq fun x hx => ?_
      rcases List.mem_cons.mp hx with rfl | hx
      · exact wd_str _ hk
      · rw [← List.take_append_drop (mn kd) ds] at hx
        rcases List.mem_append.mp hx with hx | hx
        · exact (own_flat zA ho x hx).1
        · exact chk_flat zA (List.findSome?_eq_none_iff.mp h x hx)
    · cases h
/-- what an error bears, told as data -/
def ErrD (K : PySem.W.Frag) (C : Addr) (f : Str) (d : PyData) (H : Hp) (E : XK) : Prop := ∀ H' dx vb, Same H H' → H dx = none → H' dx = some (.xd [(f, vb)]) → Dp K H' vb d → E (.ref C) (some dx) H'
theorem ErrD.same {K : PySem.W.Frag} {C : Addr} {f : Str} {d : PyData} {H H1 : Hp} {E : XK} (h : ErrD K C f d H E) (s : Same H H1) : ErrD K C f d H1 E := fun H' dx vb s' n e p => h H' dx vb (s.trans s') (s.free n) e p
theorem ErrD.err {K : PySem.W.Frag} {C : Addr} {f : Str} {d : PyData} {H : Hp} {E : XK} {x : V} (h : ErrD K C f d H E) (hx : Dp K H x d) : Err C f x H E := fun H' dx s e n => h H' dx x s n e (dp_keep (Same.keeps s) _ _ hx)
def spChkE (K : PySem.W.Frag) (C : Addr) (n : Nat) : Sp := fun vs H Q E => ∃ (z : Str) (v : V) (d : PyData), vs = [.str z, v] ∧ z.length ≤ 12 ∧ (∀ c ∈ tl z, c < 1114112) ∧ Dp K H v d ∧ okd d = true ∧ d.depth < n ∧
  (match chkE n z d with
  | none => ∀ H' v', Same H H' → Dp K H' v' (tupd d) → Q v' H'
  | some b => ErrD K C "rule" b H E)
theorem noneX_ok {P : Program} {w : World} {K : PySem.W.Frag} {mg : Str → Option Value} {base : Heap} {f : Addr} {fd : FuncData} {k : Nat} {ps : List Str} {sp : Sp} (no : ∀ vs H Q E, ¬ sp vs H Q E) : FnOk P w K mg base (L2N.CX P w) k f fd ps sp :=
  ⟨fun vs H Q E h => absurd h (no vs H Q E), fun A outer s H args us vs Q E _ _ _ _ h => absurd h (no vs H Q E)⟩
section
variable {P : Program} {w : World} {K : PySem.W.Frag} {mg : Str → Option Value} {base : Heap} {dO dI : Addr}
abbrev OChkE (C : Addr) (n : Nat) (P : Program) (w : World) (K : PySem.W.Frag) (mg : Str → Option Value) (base : Heap) : Prop := OwnX P w K mg base "checked_part" (n + 7) ["signs", "part"] (spChkE K C n)
theorem ok_chkG {n : Nat} {f C fI : Addr} {fd fdI : FuncData} (F : Fun K "checked_part" "checked_part" sChkPart f fd) (B : Bl mg) (TR : ErrR P K mg C fI fdI) (Ohf : OFormG P w K mg base) (Oin : OInner P w K mg base) (Oov : OOwnV P w K mg base) (Oas : OAsT 4 P w K mg base) (Ock : OChkE C n P w K mg base) :
    FnOk P w K mg base (L2N.CX P w) (n + 1 + 7) f fd ["signs", "part"] (spChkE K C (n + 1)) := by
  refine okXN F scChkPart (fun vs H Q E h => ?_) (fun cdv A outer s H vs Q E hr h => ?_)
  · obtain ⟨z, v, d, rfl, _⟩ := h
    rfl
  · obtain ⟨z, v, d, rfl, hz, zA, hv, ho, hd, k⟩ := h
    refine ⟨_, (pss_cons (ps_if (pt_not (pt_val (pe_own Ohf (hr.mono (by omega)) (pa_cons (pv 0) (pa_cons (pv 1) pa_nil))))) (pss_one (L2N.ps_raise rfl (L2N.takes_of rfl rfl rfl rfl) (pmk_oexN TR.T.oex TR.iC TR.tI (ok_badR TR.T) (hr.mono (by omega)) TR.bI rfl TR.gC (pa_cons (pv 1) pa_nil)))) pss_nil) (pss_cons (ps_setLcX (E := E) (i := 2) (ow := [("rule", 3)]) (g := gName 3) (cdt := tYes) rfl scChkPart.nd rfl rfl (L2N.takes_of rfl rfl rfl rfl) (fun _ _ _ _ h => h) rfl rfl (sw_true rfl rfl rfl (by decide +kernel)) (pi_sq (pe_own Oin (hr.mono (by omega)) (pa_cons (pv 1) pa_nil))) (blkOk_by (N := nChkPart) (sc := defScope sChkPart) (by decide +kernel)) (fun _ _ _ _ _ => (pg_name (i := 3) scChkPart.nd rfl (Or.inl rfl))) (fun _ _ _ _ _ => pts_nil) (fun _ _ _ _ _ xe px => (pe_ownX Ock (hr.mono (by omega)) px (pa_cons (pv 0) (pa_cons (pv 3) pa_nil))))) (pss_one (ps_ret (pe_tup (pa_cons (pe_ix ix_seq (pv 1) pe_int (fun _ _ => rfl)) (StX.pa_star (pe_own Oas (hr.mono (by omega)) (pa_cons (pe_own Oov (hr.mono (by omega)) (pa_cons (pv 1) pa_nil)) pa_nil)) (StX.pa_star (pv 2) pa_nil)))))))), ?_⟩
    try dsimp only [cxOf, Cx.nox, Cx.wish]
    walk_at "go"
    refine ⟨z, v, d, rfl, hz, hv, ho, fun H1 s1 => ?_⟩
    cases hb : formB z d with
    | false =>
      have e : chkE (n + 1) z d = some d := by unfold chkE; rw [hb]; rfl
      rw [e] at k
      walk_at "go"
      exact rzR ((k.err hv).same s1)
    | true =>
      have e : chkE (n + 1) z d = (innerD d).findSome? (chkE n z) := by
        show (if formB z d = true then _ else _) = _
        rw [if_pos hb]
      rw [e] at k
      obtain ⟨kd, ds, ei, hk9, hl, hown, hin⟩ := form_own hb
      rw [hin] at k
      obtain ⟨t, rfl⟩ := items_sq ei
      obtain ⟨xs0, hS, hA0⟩ := dp_sq hv
      match xs0, hA0 with
      | x0 :: xs, .cons h0 hA =>
      cases h0
      obtain ⟨hl0, hok0⟩ := okd_items ho ei
      have hok : ∀ x ∈ ds, okd x = true := fun x hx => hok0 x (List.mem_cons_of_mem _ hx)
      have hmn := mn_ar kd hk9
      have hxl := dpA_len hA
      have hdd : PyData.depthAll ds < n := by
        have h1 : (sq t (.str (wd kd) :: ds)).depth = PyData.depthAll (.str (wd kd) :: ds) + 1 := by
          cases t
          · show (PyData.list _).depth = _; rw [PyData.depth]
          · show (PyData.tuple _).depth = _; rw [PyData.depth]
        rw [h1, PyData.depthAll] at hd
        omega
      obtain ⟨hAo, hAi⟩ := dpA_cut (n := mn kd) hA
      have lto : (xs.take (mn kd)).length = mn kd := by rw [List.length_take]; omega
      have hsp : .str (wd kd) :: (xs.take (mn kd) ++ xs.drop (mn kd)) = V.str (wd kd) :: xs := by rw [List.take_append_drop]
      walk_at "go"
      refine ⟨v, kd, xs.take (mn kd), xs.drop (mn kd), rfl, hk9, by rw [hsp]; exact hS.same s1, lto, fun p H2 hp s2 hi => ?_⟩
      have s12 := s1.trans s2
      generalize hin2 : ds.drop (mn kd) = inn at *
      have hinl : inn.length ≤ 3 := by rw [← hin2, List.length_drop]; omega
      have hinm : ∀ x ∈ inn, x ∈ ds := fun x hx => by rw [← hin2] at hx; exact List.mem_of_mem_drop hx
      have hil := dpA_len hAi
      refine lc_sq hi (fun _ => rfl) (fun acc H' => DpAll K H' acc ((inn.map tupd).take acc.length) ∧ Same H2 H' ∧ ∀ x ∈ inn.take acc.length, chkE n z x = none) (fun D hD => ⟨.nil, same_new hD, fun x hx => by cases hx⟩) (fun D acc H' _ _ q => Same.keeps q.2.1) ?_ _ ?_ (fun J h => h)
      · rintro D i x acc H' hD hx la hacc ⟨ha, sm, hno⟩
        obtain ⟨di, hdi, hxd⟩ := dpA_get hAi hx
        have hmem := List.mem_of_getElem? hdi
        have hilt := (List.getElem?_eq_some_iff.mp hdi).1
        walk_at "go"
        refine ⟨z, x, di, rfl, hz, zA, dp_keep (Same.keeps (s12.trans sm)) _ _ hxd, hok di (hinm di hmem), Nat.lt_of_le_of_lt (depthA_mem (Nat.le_refl _) di (hinm di hmem)) hdd, ?_⟩
        have hsplit : inn = inn.take i ++ di :: inn.drop (i + 1) := by
          have h1 := (List.take_append_drop i inn).symm
          rw [List.drop_eq_getElem_cons hilt] at h1
          rw [List.getElem?_eq_getElem hilt] at hdi
          rw [Option.some.inj hdi] at h1
          exact h1
        rw [la] at hno
        cases ec : chkE n z di with
        | some b =>
          have e2 : inn.findSome? (chkE n z) = some b := by
            rw [hsplit, List.findSome?_append, List.findSome?_eq_none_iff.mpr hno, Option.none_or, List.findSome?_cons, ec]
          rw [e2] at k
          exact k.same (s12.trans sm)
        | none =>
          intro H4 v4 s4 d4
          refine pp_next (s4 _ _ hacc) la (line60 (by omega)) ⟨?_, same_upd (sm.trans s4) hD, ?_⟩
          · have kt : KT K H4 (upd H4 D (.lst (acc ++ [v4]))) := kt_lst (s4 _ _ hacc)
            have pt : pureA ((inn.map tupd).take acc.length) = true := pureA_iff.mpr fun y hy => by
              rw [la, ← List.map_take] at hy
              obtain ⟨u, hu, rfl⟩ := List.mem_map.mp hy
              exact tupd_pure u (chk_flat zA (hno u hu))
            have r1 := dpA_app (dpA_pure kt _ _ pt (dpA_keep (Same.keeps s4) _ _ ha)) (.cons (dp_pure kt _ _ (tupd_pure di (chk_flat zA ec)) d4) .nil)
            rw [la, ← List.map_take, take_next hdi, List.map_take] at r1
            rw [List.length_append, la]
            exact r1
          · intro u hu
            rw [List.length_append, la] at hu
            rw [show i + [v4].length = i + 1 from rfl, List.take_succ, hdi] at hu
            rcases List.mem_append.mp hu with q | q
            · exact hno u q
            · have : u = di := by simpa using q
              rw [this]; exact ec
      · rintro D acc H3 hD la hacc ⟨ha, sm, hno⟩
        rw [la, hil, List.take_length] at hno
        rw [la, hil, ← List.length_map (f := tupd), List.take_length] at ha
        rw [List.findSome?_eq_none_iff.mpr hno] at k
        have s13 := s12.trans sm
        walk_at "go"
        refine r_ixSq (hS.same s13) at0 ?_
        walk_at "go"
        refine ⟨v, kd, xs.take (mn kd), xs.drop (mn kd), rfl, hk9, by rw [hsp]; exact hS.same s13, lto, fun v' H4 s4 hv' => ?_⟩
        walk_at "go"
        obtain ⟨t', hd'⟩ := dp_of_sq hv' (dpA_keep (Same.keeps (s13.trans s4)) _ _ hAo)
        have fl := own_flat zA hown
        refine ⟨v', _, rfl, hd', flat_sq fun d hd => (fl d hd).1, okd_wdt _ (okd_sq (by rw [List.length_take]; omega) fun x hx => hok x (List.mem_of_mem_take hx)), Nat.lt_succ_of_le (depth_sq fun d hd => (fl d hd).2), fun H5 v5 s5 d5 => ?_⟩
        rw [tupd_sq] at d5
        obtain ⟨p5, os, rfl, hos, dos⟩ := dp_tuple d5
        have s35 := s4.trans s5
        refine r_starSq ⟨p5, rfl, .inr hos⟩ ?_
        walk_at "go"
        refine r_starSq ⟨D, rfl, .inl (SqL.of (s35 _ _ hacc))⟩ ?_
        walk_at "go"
        have lo : os.length = mn kd := by rw [dpA_len dos, List.length_map, List.length_take]; omega
        have lacc : acc.length = inn.length := by rw [dpA_len ha, List.length_map]
        refine ⟨small_line (by simp only [List.length_cons, List.length_append, List.length_nil]; omega), fun q hq => ?_⟩
        have s6 := same_new (o := HO.tup (V.str (wd kd) :: (os ++ (acc ++ [])))) hq
        refine k _ _ (s13.trans (s35.trans s6)) ?_
        have et : tupd (sq t (.str (wd kd) :: ds)) = .tuple (.str (wd kd) :: ((ds.take (mn kd)).map tupd ++ inn.map tupd)) := by
          rw [tupd_sq, List.map_cons, ← List.map_append, ← hin2, List.take_append_drop]
          rfl
        rw [et]
        exact .tup (SqT.of upd_same) (.cons (.str _) (dpA_app (dpA_keep (Same.keeps s6) _ _ dos) (Eq.subst (motive := fun l => DpAll K _ l (inn.map tupd)) (List.append_nil acc).symm (dpA_keep (Same.keeps (s35.trans s6)) _ _ ha))))
theorem chkG_all {f C fI : Addr} {fd fdI : FuncData} (F : Fun K "checked_part" "checked_part" sChkPart f fd) (B : Bl mg) (TR : ErrR P K mg C fI fdI) (Ohf : OFormG P w K mg base) (Oin : OInner P w K mg base) (Oov : OOwnV P w K mg base) (Oas : OAsT 4 P w K mg base)
    (m : mg "checked_part" = some (.ref f)) (b : Binds K fd ["signs", "part"] []) : ∀ n : Nat, OChkE C n P w K mg base
  | 0 => ⟨f, fd, noneX_ok fun vs H Q E h => by obtain ⟨z, v, d, _, _, _, _, _, hd, _⟩ := h; omega, m, F.kp, b⟩
  | n + 1 => ⟨f, fd, ok_chkG F B TR Ohf Oin Oov Oas (chkG_all F B TR Ohf Oin Oov Oas m b n), m, F.kp, b⟩
end
end K4

/-! L69k -/


namespace K4
open PySem L2 K1
abbrev sLListed : Stmt := top 71
abbrev nLListed : List Str := ["_law_thing", "_law_part"]
theorem scLListed : FnScope nLListed ["_law_thing"] (defScope sLListed) := ⟨rfl, rfl, rfl, by decide +kernel, rfl, by decide +kernel, by decide +kernel⟩
mutual
/-- tuples, and no lists -/
def nol : PyData → Bool
  | .tuple ds => nolA ds
  | .list _ => false
  | .dict _ => false
  | _ => true
def nolA : List PyData → Bool
  | [] => true
  | d :: ds => nol d && nolA ds
end
theorem nolA_iff : ∀ {ds : List PyData}, nolA ds = true ↔ ∀ d ∈ ds, nol d = true
  | [] => by simp [nolA]
  | d :: ds => by simp [nolA, nolA_iff]
mutual
theorem nol_pure : ∀ d : PyData, pure d = true → nol d = true
  | .none, _ => by simp [nol]
  | .bool _, _ => by simp [nol]
  | .int _, _ => by simp [nol]
  | .str _, _ => by simp [nol]
  | .tuple ds, h => by
    rw [nol]
    exact nolA_pure ds (by simpa [pure] using h)
  | .list _, h => by simp [pure] at h
  | .dict _, h => by simp [pure] at h
theorem nolA_pure : ∀ ds : List PyData, pureA ds = true → nolA ds = true
  | [], _ => by simp [nolA]
  | d :: ds, h => by
    simp only [pureA, Bool.and_eq_true] at h
    rw [nolA, nol_pure d h.1, nolA_pure ds h.2]; rfl
end
mutual
theorem dp_nol {K : PySem.W.Frag} {H H' : Hp} (k : KT K H H') : ∀ (d : PyData) (v : V), nol d = true → Dp K H v d → Dp K H' v d
  | .none, _, _, h => by cases h; exact .non
  | .bool b, _, _, h => by cases h; exact .bl b
  | .int i, _, _, h => by cases h; exact .int i
  | .str x, _, _, h => by cases h; exact .str x
  | .tuple ds, _, p, h => by
    cases h with
    | tup a b => exact .tup (k _ _ a) (dpA_nol k ds _ (by simpa [nol] using p) b)
  | .list _, _, p, _ => by simp [nol] at p
  | .dict _, _, p, _ => by simp [nol] at p
theorem dpA_nol {K : PySem.W.Frag} {H H' : Hp} (k : KT K H H') : ∀ (ds : List PyData) (vs : List V), nolA ds = true → DpAll K H vs ds → DpAll K H' vs ds
  | [], _, _, h => by cases h; exact .nil
  | d :: ds, _, p, h => by
    rw [nolA, Bool.and_eq_true] at p
    cases h with
    | cons a b => exact .cons (dp_nol k d _ p.1 a) (dpA_nol k ds _ p.2 b)
end
def spListed (K : PySem.W.Frag) (n : Nat) : Sp := fun vs H Q _ => ∃ (v : V) (d : PyData), vs = [v] ∧ Dp K H v d ∧ okd d = true ∧ nol d = true ∧ d.depth < n ∧ ∀ H' v', Same H H' → Dp K (New H H') v' (lstd d) → Q v' H'
section
variable {P : Program} {w : World} {K : PySem.W.Frag} {mg : Str → Option Value} {base : Heap}
abbrev OLL (n : Nat) (P : Program) (w : World) (K : PySem.W.Frag) (mg : Str → Option Value) (base : Heap) : Prop := Own P w K mg base "_law_listed" n ["_law_thing"] (spListed K n)
theorem ok_listed {n : Nat} {f : Addr} {fd : FuncData} (F : Fun K "_law_listed" "_law_listed" sLListed f fd) (B : Bl mg) (Oll : OLL n P w K mg base) : FnOk P w K mg base CX0 (n + 1) f fd ["_law_thing"] (spListed K (n + 1)) := by
  refine F.ok scLListed (fun vs H Q E h => ?_) (fun cdv A outer s H vs Q E hr h => ?_)
  · obtain ⟨v, d, rfl, _⟩ := h
    rfl
  · obtain ⟨v, d, rfl, hv, ho, hn, hd, k⟩ := h
    refine ⟨_, (pss_cons (ps_if (PW.pt (pw_or (pt_val (pe_callB (id := "isinstance") (r := rIsi K) call_isi (by rfl) B.isin (by decide +kernel) (pa_cons (pv 0) (pa_cons (pe_bltn (v := .ty "tuple") (by rfl) B.tuple (by decide +kernel) rfl) pa_nil)))) (pw_or1 (pt_val (pe_callB (id := "isinstance") (r := rIsi K) call_isi (by rfl) B.isin (by decide +kernel) (pa_cons (pv 0) (pa_cons (pe_bltn (v := .ty "list") (by rfl) B.list (by decide +kernel) rfl) pa_nil))))))) (pss_one (ps_ret (pe_lc (own := [("_law_part", 1)]) (g := gName 1) (tt := tYes) rfl scLListed.nd (pi_sq (pv 0)) (blkOk_by (N := nLListed) (sc := defScope sLListed) (by decide +kernel)) (fun _ _ _ _ _ => (pg_name (i := 1) scLListed.nd rfl (Or.inl rfl))) (fun _ _ _ _ _ => pts_nil) (fun _ _ _ _ _ => (pe_own Oll hr (pa_cons (pv 1) pa_nil)))))) pss_nil) (pss_one (ps_ret (pv 0)))), ?_⟩
    try dsimp only [cxOf, Cx.nox, Cx.wish]
    walk_at "go"
    cases hv with
    | int i =>
      refine r_isi (b := false) (.ty "tuple") (.base (.int _)) (kit_ty (by decide +kernel)) ?_
      walk_at "go"
      refine r_isi (b := false) (.ty "list") (.base (.int _)) (kit_ty (by decide +kernel)) ?_
      walk_at "go"
      exact k H _ (Same.refl _) (.int i)
    | str x =>
      refine r_isi (b := false) (.ty "tuple") (.base (.str _)) (kit_ty (by decide +kernel)) ?_
      walk_at "go"
      refine r_isi (b := false) (.ty "list") (.base (.str _)) (kit_ty (by decide +kernel)) ?_
      walk_at "go"
      exact k H _ (Same.refl _) (.str x)
    | non =>
      refine r_isi (b := false) (.ty "tuple") (.base .non) (kit_ty (by decide +kernel)) ?_
      walk_at "go"
      refine r_isi (b := false) (.ty "list") (.base .non) (kit_ty (by decide +kernel)) ?_
      walk_at "go"
      exact k H _ (Same.refl _) .non
    | bl x =>
      refine r_isi (b := false) (.ty "tuple") (.base (.bl _)) (kit_ty (by decide +kernel)) ?_
      walk_at "go"
      refine r_isi (b := false) (.ty "list") (.base (.bl _)) (kit_ty (by decide +kernel)) ?_
      walk_at "go"
      exact k H _ (Same.refl _) (.bl x)
    | lst => simp [nol] at hn
    | @tup a xs ds hS hA =>
      obtain ⟨hl1000, hok⟩ := okd_items ho rfl
      have hnA := nolA_iff.mp (show nolA ds = true by simpa [nol] using hn)
      have hdA : PyData.depthAll ds < n := by rw [PyData.depth] at hd; omega
      refine r_isi (b := true) (.ty "tuple") (tyxT hS) (kit_ty (by decide +kernel)) ?_
      walk_at "go"
      refine .inr ⟨⟨_, hS⟩, fun D hD => ?_⟩
      have s1 : Same H (upd H D (.lst [])) := same_new hD
      have e1 : (upd H D (.lst [])) D = some (.lst []) := upd_same
      refine lc_gen (walk_tup (K := K) (a := a) (xs := xs)) (fun _ => rfl) (fun acc H' => DpAll K (New (upd H D (.lst [])) H') acc ((ds.take acc.length).map lstd) ∧ Same H H') ⟨.nil, s1⟩ (fun acc H' _ q => Same.sqT q.2 hS) ?_ ?_
      · rintro i x acc H' hx hl hacc ⟨ha, sm⟩
        obtain ⟨di, hdi, hxd⟩ := dpA_get hA hx
        have hmem := List.mem_of_getElem? hdi
        have hil := (List.getElem?_eq_some_iff.mp hdi).1
        walk_at "go"
        refine ⟨x, di, rfl, dp_keep (Same.keeps sm) _ _ hxd, hok di hmem, hnA di hmem, Nat.lt_of_le_of_lt (depthA_mem (Nat.le_refl _) di hmem) hdA, fun H2 v2 s2 d2 => ?_⟩
        refine pp_next (s2 _ _ hacc) hl (line60 (by omega)) ⟨?_, same_upd (sm.trans s2) hD⟩
        have g0 : ∀ c, H' c = none → (upd H D (.lst [])) c = none := fun c hc => by
          by_cases q : c = D
          · rw [q, hacc] at hc; cases hc
          · rw [upd_ne q]; exact sm.free hc
        have g1 : Same (New H' H2) (New (upd H D (.lst [])) (upd H2 D (.lst (acc ++ [v2])))) := New.le g0 fun c u hc e => by
          have q : c ≠ D := fun q => by rw [q, hacc] at hc; cases hc
          rw [upd_ne q]; exact e
        have g2 : Same (New (upd H D (.lst [])) H') (New (upd H D (.lst [])) (upd H2 D (.lst (acc ++ [v2])))) := New.le (fun c h => h) fun c u hc e => by
          have q : c ≠ D := fun q => by rw [q, upd_same] at hc; cases hc
          rw [upd_ne q]; exact s2 _ _ e
        have r1 := dpA_app (dpA_keep (Same.keeps g2) _ _ ha) (.cons (dp_keep (Same.keeps g1) _ _ d2) .nil)
        rw [hl, take_next hdi] at r1
        rw [List.length_append, hl]
        exact r1
      · rintro acc H' hl hacc ⟨ha, sm⟩
        have hxl := dpA_len hA
        rw [hl, hxl, List.take_length] at ha
        walk_at "go"
        refine k _ _ sm ?_
        rw [lstd_tup]
        have g : Same (New (upd H D (.lst [])) H') (New H H') := New.le (fun c h => by
          by_cases q : c = D
          · rw [q]; exact hD
          · rw [upd_ne q] at h; exact h) fun c u _ e => e
        refine .lst (SqL.of ?_) (dpA_keep (Same.keeps g) _ _ ha)
        rw [New.at hD]
        exact hacc
theorem ll_all {f : Addr} {fd : FuncData} (F : Fun K "_law_listed" "_law_listed" sLListed f fd) (B : Bl mg) (m : mg "_law_listed" = some (.ref f)) (b : Binds K fd ["_law_thing"] []) : ∀ n : Nat, OLL n P w K mg base
  | 0 => ⟨f, fd, none_ok fun vs H Q E h => by obtain ⟨v, d, _, _, _, _, hd, _⟩ := h; omega, m, F.kp, b⟩
  | n + 1 => ⟨f, fd, ok_listed F B (ll_all F B m b n), m, F.kp, b⟩
end
end K4

/-! L11c -/


namespace K1
open PySem L2
abbrev sLPaperOf : Stmt := top 64
abbrev nLPaperOf : List Str := ["_law_bag", "_law_signs", "_law_most", "_law_told", "_law_k"]
theorem scLPaperOf : FnScope nLPaperOf ["_law_bag", "_law_signs", "_law_most"] (defScope sLPaperOf) := ⟨rfl, rfl, rfl, by decide +kernel, rfl, by decide +kernel, by decide +kernel⟩
def spPaperOf : Sp := fun vs H Q _ => ∃ (b : Addr) (z : Str) (m : Nat) (n : Nat), vs = [.ref b, .str z, .int m] ∧ IsBag H b n ∧ n + m + 1 ≤ 2 ^ 40 ∧ z.length ≤ 1000 ∧ 1 ≤ z.length ∧ m ≤ 1000 ∧
  ∀ (y : Str) H', y.length ≤ m → (∀ c ∈ y.cps.toList, c ∈ z.cps.toList) → IsBag H' b (n + m + 1) → Off b H H' → Q (.str y) H'
theorem IsBag.new {H : Hp} {b p : Addr} {n : Nat} {o : HO} (h : IsBag H b n) (hp : H p = none) : IsBag (upd H p o) b n := by
  obtain ⟨d, s, c, e, r⟩ := h
  exact ⟨d, s, c, by rw [upd_ne (ne_of_none e hp)]; exact e, r⟩
theorem IsBag.ne {H : Hp} {b p : Addr} {n : Nat} (h : IsBag H b n) (hp : H p = none) : p ≠ b := fun q => by
  obtain ⟨_, _, _, e, _⟩ := h
  rw [q, e] at hp; cases hp
section
variable {P : Program} {w : World} {K : PySem.W.Frag} {mg : Str → Option Value} {base : Heap}
theorem ok_paperOf {f : Addr} {fd : FuncData} (F : Fun K "_law_paper_of" "_law_paper_of" sLPaperOf f fd) (B : Bl mg) (Op : OPick P w K mg base) (Oo : OOneOf P w K mg base) :
    FnOk P w K mg base CX0 3 f fd ["_law_bag", "_law_signs", "_law_most"] spPaperOf := by
  refine F.ok scLPaperOf (fun vs H Q E h => ?_) (fun cdv A outer s H vs Q E hr h => ?_)
  · obtain ⟨b, z, m, n, rfl, _⟩ := h
    rfl
  · obtain ⟨b, z, m, n, rfl, hb, hn, hz, hz1, hm, k⟩ := h
    have hr1 : Room 1 _ := hr.mono (by decide)
    refine ⟨_, (pss_cons (ps_set (i := 3) scLPaperOf.nd rfl (Or.inl rfl) pe_str) (pss_cons (ps_for PassesOwn.never rfl (pi_range1 rfl B.range (pa_cons (pe_own Op (hr.mono (by omega)) (pa_cons (pv 0) (pa_cons (pe_op op_add (pv 2) pe_int) pa_nil))) pa_nil)) (pg_name (i := 4) scLPaperOf.nd rfl (Or.inl rfl)) (pss_one (ps_set (i := 3) scLPaperOf.nd rfl (Or.inl rfl) (pe_op op_add_str (pv 3) (pe_own Oo (hr.mono (by omega)) (pa_cons (pv 0) (pa_cons (pv 1) pa_nil))))))) (pss_one (ps_ret (pv 3))))), ?_⟩
    try dsimp only [cxOf, Cx.nox, Cx.wish]
    walk_at "go"
    refine ⟨_, _, n, rfl, hb, by omega, by omega, fun r H1 r0 r1 hb1 off1 => ?_⟩
    walk_at "go"
    refine ⟨by omega, by omega, fr_range (lo := 0) (n := r.toNat) (fun i σ H' => ∃ (kk : Option V) (y : Str), σ = [some (.ref b), some (.str z), some (.int m), some (.str y), kk] ∧ y.length = i ∧ (∀ c ∈ y.cps.toList, c ∈ z.cps.toList) ∧
        IsBag H' b (n + 1 + i) ∧ Off b H H') ?_ ?_ ?_⟩
    · exact ⟨none, _, rfl, rfl, (fun c hc => absurd (show c ∈ ([] : List Nat) from hc) (by simp)), hb1, off1⟩
    · rintro i σ H' hi ⟨kk, y, rfl, ly, hy, hb', off⟩
      walk_at "go"
      refine ⟨_, _, _, _, rfl, hb', by omega, .inl ⟨z, rfl, rfl, hz⟩, ?_, fun x H2 hx hb2 off2 => ?_⟩
      · intro q
        have := congrArg List.length q
        rw [List.length_map, sgn_len, List.length_nil] at this
        omega
      obtain ⟨c, hc, rfl⟩ := mem_sgn hx
      walk_at "go"
      refine ⟨_, _, rfl, rfl, ?_, ?_⟩
      · rw [ly]
        exact small_line (by show i + 1 ≤ 1000; omega)
      walk_at "go"
      refine ⟨_, _, rfl, ?_, ?_, hb2, off.trans off2⟩
      · rw [len_cps, app_cps, List.length_append, ← len_cps, ly]
        rfl
      · intro d hd
        rw [app_cps] at hd
        rcases List.mem_append.mp hd with hd | hd
        · exact hy d hd
        · have : d = c := by simpa using hd
          rw [this]; exact hc
    · rintro σ H' ⟨kk, y, rfl, ly, hy, hb', off⟩
      walk_at "go"
      exact k y H' (by omega) hy (hb'.mono (by omega)) off
end
end K1
namespace K4
open PySem L2 K1
abbrev sLSum : Stmt := top 65
abbrev nLSum : List Str := ["_law_bag", "_law_signs", "_law_modulus", "_law_weights", "_law_k"]
theorem scLSum : FnScope nLSum ["_law_bag", "_law_signs"] (defScope sLSum) := ⟨rfl, rfl, rfl, by decide +kernel, rfl, by decide +kernel, by decide +kernel⟩
theorem bag_kt {H H' : Hp} {b : Addr} {n : Nat} (h : IsBag H b n) (k : Kp b H H') : KT K H H' := fun a xs q => by
  obtain ⟨d, s, c, e, _⟩ := h
  exact Kp.sqT k e q
theorem bag_upd {H : Hp} {b D : Addr} {n : Nat} {o : HO} (h : IsBag H b n) (nD : D ≠ b) : IsBag (upd H D o) b n := by
  obtain ⟨d, s, c, e, r⟩ := h
  exact ⟨d, s, c, by rw [upd_ne nD.symm]; exact e, r⟩
theorem kp_upd' {b L : Addr} {H H' : Hp} {o : HO} (k : Kp b H H') (h : H L = none) : Kp b H (upd H' L o) := fun c u n e => by
  rw [upd_ne (ne_of_none e h)]
  exact k c u n e
theorem r_ifJ {c : TT} {ta tb : TE} {σ : L2.St} {H : Hp} {Q : VK} (A : VK) (q : ∀ Q' : VK, (∀ x H', A x H' → Q' x H') → tIf c ta tb σ H Q') (key : ∀ x H', A x H' → Q x H') : tIf c ta tb σ H Q := q Q key
/-- a thing picked off a list of numbers -/
theorem pick_of {ys : List V} {xs : List Nat} {r : Int} (e : ys = xs.map vi) (h0 : 0 ≤ r) (h1 : r < ys.length ∨ ((ys.length : Int) < 2 ∧ r = 0)) (ne : xs ≠ []) : ∃ n : Nat, atI ys r = some (vi n) ∧ n ∈ xs := by
  subst e
  rw [List.length_map] at h1
  have := List.length_pos_iff.mpr ne
  obtain ⟨j, rfl⟩ : ∃ j : Nat, r = j := ⟨r.toNat, by omega⟩
  have hj : j < xs.length := by omega
  exact ⟨xs[j], atI_nat (by rw [List.getElem?_map, List.getElem?_eq_getElem hj]; rfl), List.getElem_mem _⟩
/-- a rule has been drawn -/
def Drawn (K : PySem.W.Frag) (b : Addr) (n c : Nat) (H : Hp) (Q : VK) (P : R → Prop) : Prop := ∀ H' v r, Dp K H' v (r.data true) → P r → IsBag H' b (n + c) → Kp b H H' → Q v H'
def spSumG (K : PySem.W.Frag) : Sp := fun vs H Q _ => ∃ (b : Addr) (y : V) (n : Nat), vs = [.ref b, y] ∧ IsBag H b n ∧ n ≤ 2 ^ 39 ∧ Drawn K b n 20 H Q fun r => ∃ m ws g, r = .n0 (.sum m ws g) ∧ ∀ z, Ow.fit z (.sum m ws g)
section
variable {P : Program} {w : World} {K : PySem.W.Frag} {mg : Str → Option Value} {base : Heap} {dO dI : Addr}
theorem ok_sumG {f : Addr} {fd : FuncData} (F : Fun K "_law_sum" "_law_sum" sLSum f fd) (B : Bl mg) (Op : OPick P w K mg base) : FnOk P w K mg base CX0 2 f fd ["_law_bag", "_law_signs"] (spSumG K) := by
  refine F.ok scLSum (fun vs H Q E h => ?_) (fun cdv A outer s H vs Q E hr h => ?_)
  · obtain ⟨b, y, n, rfl, _⟩ := h
    rfl
  · obtain ⟨b, y, n, rfl, hb, hn, k⟩ := h
    refine ⟨_, (pss_cons (ps_set (i := 2) scLSum.nd rfl (Or.inl rfl) (pe_op op_add pe_int (pe_own Op (hr.mono (by omega)) (pa_cons (pv 0) (pa_cons pe_int pa_nil))))) (pss_cons (ps_set (i := 3) scLSum.nd rfl (Or.inl rfl) (pe_lst pa_nil)) (pss_cons (ps_for PassesOwn.never rfl (pi_range1 rfl B.range (pa_cons (pe_ix ix_list (pe_lst (pa_cons pe_int (pa_cons pe_int (pa_cons pe_int (pa_cons pe_int (pa_cons pe_int pa_nil)))))) (pe_own Op (hr.mono (by omega)) (pa_cons (pv 0) (pa_cons pe_int pa_nil))) (fun _ _ => rfl)) pa_nil)) (pg_name (i := 4) scLSum.nd rfl (Or.inl rfl)) (pss_one (ps_expr (pe_bm PySem.F.plainAttrs_list PySem.F.slot_list_append PySem.F.type_list_append mt_append (pv 3) (pa_cons (pe_ifExp (pt_cmpR op_eq (pe_own Op (hr.mono (by omega)) (pa_cons (pv 0) (pa_cons pe_int pa_nil))) pe_int (nomark _)) pe_int (pe_op op_add pe_int (pe_own Op (hr.mono (by omega)) (pa_cons (pv 0) (pa_cons (pe_op op_sub (pv 2) pe_int) pa_nil))))) pa_nil))))) (pss_one (ps_ret (pe_tup (pa_cons pe_str (pa_cons (pv 2) (pa_cons (pe_callTy call_tuple_of (by rfl) B.tuple (by decide +kernel) (pa_cons (pv 3) pa_nil)) (pa_cons (pe_own Op (hr.mono (by omega)) (pa_cons (pv 0) (pa_cons (pv 2) pa_nil))) pa_nil)))))))))), ?_⟩
    try dsimp only [cxOf, Cx.nox, Cx.wish]
    walk_at "go"
    refine ⟨_, _, n, rfl, hb, by omega, by decide, fun r H1 r0 r1 hb1 of1 => ?_⟩
    obtain ⟨m, hm⟩ : ∃ m : Nat, 2 + r = (m : Int) := ⟨(2 + r).toNat, by omega⟩
    walk_at "go"
    rw [hm]
    refine ⟨(by show 0 ≤ sizeLine; decide), fun D hD => ?_⟩
    have nDb := hb1.ne hD
    walk_at "go"
    refine ⟨(by show 5 ≤ sizeLine; decide), fun p hp => ?_⟩
    have hb1' := hb1.new (o := HO.lst []) hD
    have npb := hb1'.ne hp
    have nDp : D ≠ p := fun q => by rw [← q, upd_same] at hp; cases hp
    walk_at "go"
    refine ⟨_, _, n + 1, rfl, hb1'.new hp, by omega, by decide, fun r2 H2 r20 r21 hb2 of2 => ?_⟩
    obtain ⟨c, ec, hc⟩ := pick_of (xs := [1, 1, 2, 2, 3]) rfl r20 (by simpa using r21) (by decide)
    refine r_ixL (SqL.of (of2.at npb upd_same)) ec ?_
    have hc3 : 1 ≤ c ∧ c ≤ 3 := by simp only [List.mem_cons, List.not_mem_nil, or_false] at hc; omega
    have k2 : Kp b H H2 := of1.kp.trans ((Same.kp (same_new (o := HO.lst []) hD)).trans ((Same.kp (same_new hp)).trans of2.kp))
    have eD2 : H2 D = some (.lst []) := of2.at nDb (by rw [upd_ne nDp]; exact upd_same)
    have hDH : H D = none ∨ D = b := by
      cases e : H D with
      | none => exact .inl rfl
      | some o => exact .inr (by by_cases q : D = b; exact q; exact absurd (of1.at q e) (by rw [hD]; intro z; cases z))
    have hDn : H D = none := hDH.resolve_right nDb
    walk_at "go"
    refine ⟨by omega, by omega, fr_range (lo := 0) (n := c) (fun i σ H' => ∃ (o4 : Option V) (ws : List Nat), σ = [some (.ref b), some y, some (vi m), some (.ref D), o4] ∧ IsBag H' b (n + 2 + 2 * i) ∧ Kp b H H' ∧ H' D = some (.lst (ws.map vi)) ∧ ws.length = i ∧ ∀ w ∈ ws, w < m) ⟨none, [], rfl, hb2, k2, eD2, rfl, (fun w h => by cases h)⟩ ?_ ?_⟩
    · rintro i σ H3 hi ⟨o4, ws, rfl, hb3, k3, eD, lw, hw⟩
      have m2 : 2 ≤ m ∧ m ≤ 5 := by omega
      walk_at "go"
      refine ⟨tyL (SqL.of eD), ?_⟩
      refine r_cons (r_ifJ (fun x H' => ∃ wv : Nat, x = vi wv ∧ wv < m ∧ IsBag H' b (n + 2 + 2 * (i + 1)) ∧ Off b H3 H') (fun Q' h => ?_) ?_)
      · walk_at "go"
        refine ⟨_, _, n + 2 + 2 * i, rfl, hb3, by omega, by decide, fun r4 H4 r40 r41 hb4 of4 => ?_⟩
        walk_at "go"
        refine r_ite (fun h0 => ?_) (fun h0 => ?_)
        · walk_at "go"
          exact h _ _ ⟨0, rfl, by omega, hb4.mono (by omega), of4⟩
        · walk_at "go"
          refine ⟨_, _, n + 2 + 2 * i + 1, rfl, hb4, by omega, by omega, fun r5 H5 r50 r51 hb5 of5 => ?_⟩
          walk_at "go"
          obtain ⟨wv, hwv⟩ : ∃ wv : Nat, 1 + r5 = (wv : Int) := ⟨(1 + r5).toNat, by omega⟩
          rw [hwv]
          exact h _ _ ⟨wv, rfl, by omega, hb5.mono (by omega), of4.trans of5⟩
      · rintro x H' ⟨wv, rfl, hwv, hb', of'⟩
        walk_at "go"
        have eD' := of'.at nDb eD
        refine ⟨D, ws.map vi, _, rfl, rfl, eD', line60 (by rw [List.length_map]; omega), ?_⟩
        refine ⟨_, ws ++ [wv], rfl, bag_upd hb' nDb, kp_upd' (k3.trans of'.kp) hDn, by rw [upd_same, List.map_append]; rfl, by rw [List.length_append, lw]; rfl, fun w hw' => ?_⟩
        rcases List.mem_append.mp hw' with q | q
        · exact hw w q
        · rw [List.mem_singleton.mp q]; exact hwv
    · rintro σ H3 ⟨o4, ws, rfl, hb3, k3, eD, lw, hw⟩
      have m2 : 2 ≤ m ∧ m ≤ 5 := by omega
      walk_at "go"
      refine ⟨D, ws.map vi, rfl, .inl ⟨SqL.of eD, fun T hT => ?_⟩⟩
      walk_at "go"
      refine ⟨_, _, n + 2 + 2 * c, rfl, hb3.new hT, by omega, by omega, fun r4 H4 r40 r41 hb4 of4 => ?_⟩
      obtain ⟨g, hg⟩ : ∃ g : Nat, r4 = (g : Int) := ⟨r4.toNat, by omega⟩
      subst hg
      have nTb := hb3.ne hT
      have eT := of4.at nTb (upd_same (a := T) (o := HO.tup (ws.map vi)) (H := H3))
      walk_at "go"
      refine ⟨(by show 4 ≤ sizeLine; decide), fun q hq => ?_⟩
      have s5 := same_new (o := HO.tup [V.str "sum", vi m, V.ref T, vi g]) hq
      refine k _ _ (.n0 (.sum m ws g)) ?_ ⟨m, ws, g, rfl, fun z => ⟨m2.1, by omega, fun e => by rw [e] at lw; simp at lw; omega, by omega, hw, by omega⟩⟩ ((hb4.new hq).mono (by omega)) ((k3.trans (Same.kp (same_new hT))).trans (of4.kp.trans (Same.kp s5)))
      exact .tup (SqT.of upd_same) (.cons (.str _) (.cons (.int _) (.cons (.tup (SqT.of (s5 _ _ eT)) (dpA_nums.mpr rfl)) (.cons (.int _) .nil))))
end
end K4

/-! L11d -/


namespace K4
open PySem L2 K1
abbrev sLSignsOf : Stmt := top 63
abbrev nLSignsOf : List Str := ["_law_bag", "_law_most", "_law_many", "_law_every", "_law_at", "_law_told", "_law_k"]
theorem scLSignsOf : FnScope nLSignsOf ["_law_bag", "_law_most"] (defScope sLSignsOf) := ⟨rfl, rfl, rfl, by decide +kernel, rfl, by decide +kernel, by decide +kernel⟩
def al (j : Nat) : Nat := (tl K4.ALL).getD j 0
theorem al_lt : ∀ i < 36, ∀ j < 36, i < j → al i < al j := by decide +kernel
theorem al_mem : ∀ i < 36, al i ∈ tl K4.ALL := by decide +kernel
theorem all36 : (tl K4.ALL).length = 36 := by decide +kernel
/-- signs off the alphabet, by their places -/
structure Js (js : List Nat) (y : Str) (a : Nat) : Prop where
  eq : tl y = js.map al
  up : js.Pairwise (· < ·)
  lt : ∀ j ∈ js, j < a
theorem Js.next {js : List Nat} {y : Str} {a c : Nat} (h : Js js y a) (hc : a ≤ c) : Js (js ++ [c]) (y ++ one (al c)) (c + 1) := by
  refine ⟨?_, ?_, fun j hj => ?_⟩
  · rw [List.map_append, ← h.eq]
    exact K1.app_cps y _
  · rw [List.pairwise_append]
    exact ⟨h.up, by simp, fun i hi j hj => by rw [List.mem_singleton.mp hj]; have := h.lt i hi; omega⟩
  · rcases List.mem_append.mp hj with q | q
    · have := h.lt j q; omega
    · rw [List.mem_singleton.mp q]; omega
theorem Js.good {js : List Nat} {y : Str} {a : Nat} (h : Js js y a) (ha : a ≤ 36) (l2 : 2 ≤ js.length) (l12 : js.length ≤ 12) : Good y := by
  have hl : (K1.tl y).length = js.length := by
    have : (tl y).length = js.length := by rw [h.eq, List.length_map]
    exact this
  refine ⟨by omega, by omega, ?_, ?_⟩
  · have : (tl y).Pairwise (· < ·) := by
      rw [h.eq, List.pairwise_map]
      exact List.Pairwise.imp_of_mem (fun {i j} hi hj q => al_lt i (by have := h.lt i hi; omega) j (by have := h.lt j hj; omega) q) h.up
    exact this
  · intro c hc
    have hc' : c ∈ tl y := hc
    rw [h.eq] at hc'
    obtain ⟨j, hj, rfl⟩ := List.mem_map.mp hc'
    exact al_mem j (by have := h.lt j hj; omega)
theorem ix_all {j : Nat} (hj : j < 36) {Q : VK} {H : Hp} (q : Q (.str (one (al j))) H) : rIxS (.str K4.ALL) (.int (j : Int)) H Q :=
  r_ixS (small_line (by decide +kernel)) (atI_nat (getD_at (xs := tl K4.ALL) (d := 0) (by rw [all36]; exact hj))) q
def spSigns (x : V → Prop) : Sp := fun vs H Q _ => ∃ (b : Addr) (y : List V) (n : Nat), vs = .ref b :: y ∧ (∀ v ∈ y, x v) ∧ y.length ≤ 1 ∧ IsBag H b n ∧ n ≤ 2 ^ 39 ∧ ∀ H' z, Good z → IsBag H' b (n + 40) → Kp b H H' → Q (.str z) H'
def spSignsOf : Sp := fun vs H Q _ => ∃ (b : Addr) (n : Nat), vs = [.ref b, .int 4] ∧ IsBag H b n ∧ n ≤ 2 ^ 39 ∧ ∀ H' z, Good z → (tl z).length ≤ 4 → IsBag H' b (n + 40) → Kp b H H' → Q (.str z) H'
def spWideSigns : Sp := fun vs H Q _ => ∃ (b : Addr) (n : Nat), vs = [.ref b] ∧ IsBag H b n ∧ n ≤ 2 ^ 39 ∧ ∀ H' z, Good z → IsBag H' b (n + 40) → Kp b H H' → Q (.str z) H'
section
variable {P : Program} {w : World} {K : PySem.W.Frag} {mg : Str → Option Value} {base : Heap} {dO dI : Addr}
/-- a number picked off a list that has just been written -/
theorem pick_new {H : Hp} {Q : VK} {b : Addr} {n i : Nat} {m : Int} {σ : L2.St} {ys : List V} {xs : List Nat} (hb : IsBag H b n) (e : ys = xs.map vi) (em : m = (ys.length : Int)) (hv : ∀ (H : Hp) (Q : VK), Q (.ref b) H → tVar i σ H Q) (hl : ys.length ≤ 1000) (ne : 2 ≤ xs.length) (hn : n ≤ 2 ^ 40)
    (k : ∀ (c : Nat) H', c ∈ xs → IsBag H' b (n + 1) → Kp b H H' → Q (vi c) H') : ys.length ≤ sizeLine ∧ ∀ p, H p = none → tCall spPick [] E0 (tCons (tVar i) (tCons (tC (V.int m)) tNil)) σ (upd H p (.lst ys)) (fun y H1 => rIxL K (.ref p) y H1 Q) := by
  refine ⟨small_line hl, fun p hp => ?_⟩
  refine r_call (r_cons (hv _ _ ?_))
  walk_at "go"
  refine ⟨b, _, n, rfl, hb.new hp, hn, by omega, fun r H2 r0 r1 hb2 of2 => ?_⟩
  have npb := hb.ne hp
  obtain ⟨c, ec, hc⟩ := pick_of (ys := ys) (xs := xs) e r0 (by rw [← em]; rcases r1 with q | q; exact .inl (by omega); exact .inr q) (fun q => by rw [q] at ne; simp at ne)
  exact r_ixL (SqL.of (of2.at npb upd_same)) ec (k c H2 hc hb2 ((Same.kp (same_new hp)).trans of2.kp))
theorem ok_signsOf {f : Addr} {fd : FuncData} (F : Fun K "_law_signs_of" "_law_signs_of" sLSignsOf f fd) (B : Bl mg) (Op : OPick P w K mg base) : FnOk P w K mg base CX0 2 f fd ["_law_bag", "_law_most"] spSignsOf := by
  refine F.ok scLSignsOf (fun vs H Q E h => ?_) (fun cdv A outer s H vs Q E hr h => ?_)
  · obtain ⟨b, n, rfl, _⟩ := h
    rfl
  · obtain ⟨b, n, rfl, hb, hn, k⟩ := h
    refine ⟨_, (pss_cons (ps_set (i := 2) scLSignsOf.nd rfl (Or.inl rfl) (pe_callB (call_min2 rfl) (by rfl) B.min (by decide +kernel) (pa_cons (pv 1) (pa_cons (pe_ix ix_list (pe_lst (pa_cons pe_int (pa_cons pe_int (pa_cons pe_int (pa_cons pe_int (pa_cons pe_int (pa_cons pe_int pa_nil))))))) (pe_own Op (hr.mono (by omega)) (pa_cons (pv 0) (pa_cons pe_int pa_nil))) (fun _ _ => rfl)) pa_nil)))) (pss_cons (ps_set (i := 3) scLSignsOf.nd rfl (Or.inl rfl) pe_str) (pss_cons (ps_set (i := 4) scLSignsOf.nd rfl (Or.inl rfl) (pe_ix ix_list (pe_lst (pa_cons pe_int (pa_cons pe_int (pa_cons pe_int (pa_cons pe_int (pa_cons pe_int (pa_cons pe_int (pa_cons pe_int (pa_cons pe_int pa_nil))))))))) (pe_own Op (hr.mono (by omega)) (pa_cons (pv 0) (pa_cons pe_int pa_nil))) (fun _ _ => rfl))) (pss_cons (ps_set (i := 5) scLSignsOf.nd rfl (Or.inl rfl) (pe_ix ix_str (pv 3) (pv 4) (fun _ _ => rfl))) (pss_cons (ps_for PassesOwn.never rfl (pi_range1 rfl B.range (pa_cons (pe_op op_sub (pv 2) pe_int) pa_nil)) (pg_name (i := 6) scLSignsOf.nd rfl (Or.inl rfl)) (pss_cons (ps_set (i := 4) scLSignsOf.nd rfl (Or.inl rfl) (pe_op op_add (pe_op op_add (pv 4) pe_int) (pe_ix ix_list (pe_lst (pa_cons pe_int (pa_cons pe_int (pa_cons pe_int (pa_cons pe_int pa_nil))))) (pe_own Op (hr.mono (by omega)) (pa_cons (pv 0) (pa_cons pe_int pa_nil))) (fun _ _ => rfl)))) (pss_one (ps_set (i := 5) scLSignsOf.nd rfl (Or.inl rfl) (pe_op op_add_str (pv 5) (pe_ix ix_str (pv 3) (pv 4) (fun _ _ => rfl))))))) (pss_one (ps_ret (pv 5)))))))), ?_⟩
    try dsimp only [cxOf, Cx.nox, Cx.wish]
    walk_at "go"
    refine pick_new (xs := [2, 2, 2, 3, 3, 4]) hb rfl rfl (fun _ _ q => ⟨_, rfl, q⟩) (by decide) (by decide) (by omega) (fun many H1 hm hb1 k1 => ?_)
    have hm24 : 2 ≤ many ∧ many ≤ 4 := by simp only [List.mem_cons, List.not_mem_nil, or_false] at hm; omega
    walk_at "go"
    refine ⟨_, _, rfl, ?_⟩
    walk_at "go"
    have hmin : (if (many : Int) < 4 then (many : Int) else 4) = (many : Int) := by
      by_cases q : (many : Int) < 4
      · rw [if_pos q]
      · rw [if_neg q]; omega
    rw [hmin]
    refine pick_new (xs := [0, 0, 0, 1, 8, 9, 10, 20]) hb1 rfl rfl (fun _ _ q => ⟨_, rfl, q⟩) (by decide) (by decide) (by omega) (fun a H2 ha hb2 k2 => ?_)
    have ha20 : a ≤ 20 := by simp only [List.mem_cons, List.not_mem_nil, or_false] at ha; omega
    walk_at "go"
    refine ix_all (by omega) ?_
    walk_at "go"
    rw [show ((many : Int) - 1) = ((many - 1 : Nat) : Int) by omega]
    refine ⟨by omega, by omega, fr_range (lo := 0) (n := many - 1) (fun i σ H' => ∃ (o6 : Option V) (js : List Nat) (y : Str) (c : Nat), σ = [some (.ref b), some (.int 4), some (vi many), some (.str K4.ALL), some (vi c), some (.str y), o6] ∧ Js js y (c + 1) ∧ js.length = i + 1 ∧ c ≤ a + 2 * i ∧
      IsBag H' b (n + 2 + i) ∧ Kp b H H') ⟨none, [a], one (al a), a, rfl, ⟨rfl, by simp, fun j hj => by rw [List.mem_singleton.mp hj]; omega⟩, rfl, by omega, hb2, k1.trans k2⟩ ?_ ?_⟩
    · rintro i σ H3 hi ⟨o6, js, y, c, rfl, hJ, hjl, hc, hb3, k3⟩
      walk_at "go"
      refine pick_new (xs := [0, 0, 0, 1]) hb3 rfl rfl (fun _ _ q => ⟨_, rfl, q⟩) (by decide) (by decide) (by omega) (fun d H4 hd hb4 k4 => ?_)
      have hd1 : d ≤ 1 := by simp only [List.mem_cons, List.not_mem_nil, or_false] at hd; omega
      walk_at "go"
      have e1 : ((c : Int) + 1 + (d : Int)) = ((c + 1 + d : Nat) : Int) := by omega
      rw [e1]
      refine ix_all (by omega) ?_
      have hyl : y.length = js.length := by rw [len_tl y, hJ.eq, List.length_map]
      refine ⟨y, _, rfl, rfl, small_line (by show y.length + 1 ≤ 1000; omega), ?_⟩
      walk_at "go"
      exact ⟨some (.int (0 + (i : Int))), js ++ [c + 1 + d], _, c + 1 + d, rfl, hJ.next (by omega), by rw [List.length_append, hjl]; rfl, by omega, hb4, k3.trans k4⟩
    · rintro σ H3 ⟨o6, js, y, c, rfl, hJ, hjl, hc, hb3, k3⟩
      walk_at "go"
      exact k H3 y (hJ.good (by omega) (by omega) (by omega)) (by rw [hJ.eq, List.length_map]; omega) (hb3.mono (by omega)) k3
end
end K4

/-! L11e -/


namespace K4
open PySem L2 K1
abbrev sLGoalsOf : Stmt := top 67
abbrev nLGoalsOf : List Str := ["_law_bag", "_law_many", "_law_first", "_law_z"]
theorem scLGoalsOf : FnScope nLGoalsOf ["_law_bag", "_law_many"] (defScope sLGoalsOf) := ⟨rfl, rfl, rfl, by decide +kernel, rfl, by decide +kernel, by decide +kernel⟩
def spGoals (K : PySem.W.Frag) : Sp := fun vs H Q _ => ∃ (b : Addr) (n many : Nat), vs = [.ref b, vi many] ∧ IsBag H b n ∧ n ≤ 2 ^ 39 ∧ 1 ≤ many ∧ many ≤ 60 ∧
  ∀ H' T gs, H' T = some (.tup (gs.map vi)) → gs ≠ [] → gs.Pairwise (· < ·) → (∀ g ∈ gs, g < many) → IsBag H' b (n + 70) → Kp b H H' → Q (.ref T) H'
section
variable {P : Program} {w : World} {K : PySem.W.Frag} {mg : Str → Option Value} {base : Heap} {dO dI : Addr}
theorem ok_goalsOf {f : Addr} {fd : FuncData} (F : Fun K "_law_goals" "_law_goals" sLGoalsOf f fd) (B : Bl mg) (Op : OPick P w K mg base) : FnOk P w K mg base CX0 2 f fd ["_law_bag", "_law_many"] (spGoals K) := by
  refine F.ok scLGoalsOf (fun vs H Q E h => ?_) (fun cdv A outer s H vs Q E hr h => ?_)
  · obtain ⟨b, n, many, rfl, _⟩ := h
    rfl
  · obtain ⟨b, n, many, rfl, hb, hn, m1, m60, k⟩ := h
    refine ⟨_, (pss_cons (ps_set (i := 2) scLGoalsOf.nd rfl (Or.inr rfl) (pe_own Op (hr.mono (by omega)) (pa_cons (pv 0) (pa_cons (pv 1) pa_nil)))) (pss_cons (ps_if (pt_cmpR op_gt (pe_own Op (hr.mono (by omega)) (pa_cons (pv 0) (pa_cons pe_int pa_nil))) pe_int (nomark _)) (pss_one (ps_ret (pe_tup (pa_cons (pv 2) pa_nil)))) pss_nil) (pss_one (ps_ret (pe_callTy call_tuple_of (by rfl) B.tuple (by decide +kernel) (pa_cons (pe_lc (own := [("_law_z", 3)]) (g := gName 3) rfl scLGoalsOf.nd (pi_range1 rfl B.range (pa_cons (pv 1) pa_nil)) (blkOk_by (N := nLGoalsOf) (sc := defScope sLGoalsOf) (by decide +kernel)) (fun _ _ _ _ _ => (pg_name (i := 3) scLGoalsOf.nd rfl (Or.inl rfl))) (fun _ _ _ _ _ => (pts_one (PW.pt (pw_or (pt_cmpR op_eq (pv 3) (pv 2) (nomark _)) (pw_or1 (pt_cmpR op_eq (pe_own Op (hr.mono (by omega)) (pa_cons (pv 0) (pa_cons pe_int pa_nil))) pe_int (nomark _))))))) (fun _ _ _ _ _ => (pv 3))) pa_nil)))))), ?_⟩
    try dsimp only [cxOf, Cx.nox, Cx.wish]
    walk_at "go"
    refine ⟨b, _, n, rfl, hb, by omega, by omega, fun r1 H1 r10 r11 hb1 of1 => ?_⟩
    obtain ⟨a, rfl⟩ : ∃ a : Nat, r1 = (a : Int) := ⟨r1.toNat, by omega⟩
    have ha : a < many := by omega
    walk_at "go"
    refine ⟨b, _, n + 1, rfl, hb1, by omega, by decide, fun r2 H2 _ _ hb2 of2 => ?_⟩
    walk_at "go"
    have k2 := of1.kp.trans of2.kp
    refine r_iteN' (fun h0 => ?_) (fun h0 => ?_)
    · walk_at "go"
      refine ⟨(by show 1 ≤ sizeLine; decide), fun T hT => ?_⟩
      exact k _ T [a] upd_same (by simp) (by simp) (fun g hg => by rw [List.mem_singleton.mp hg]; exact ha) ((hb2.new hT).mono (by omega)) (k2.trans (Same.kp (same_new hT)))
    · walk_at "go"
      refine ⟨by omega, by omega, fun D hD => ?_⟩
      have nDb := hb2.ne hD
      have hDn : H D = none := by
        cases e : H D with
        | none => rfl
        | some o => exact absurd (k2 D o nDb e) (by rw [hD]; intro z; cases z)
      refine lc_it (walk_rng (lo := 0) (n := many)) (fun i H' => ∃ gs : List Nat, H' D = some (.lst (gs.map vi)) ∧ gs.Pairwise (· < ·) ∧ (∀ g ∈ gs, g < i) ∧ (a < i → a ∈ gs) ∧ gs.length ≤ i ∧ IsBag H' b (n + 2 + i) ∧ Kp b H H') ⟨[], upd_same, .nil, (fun g h => by cases h), (fun h => absurd h (Nat.not_lt_zero a)), Nat.le_refl _, hb2.new hD, k2.trans (Same.kp (same_new hD))⟩ (fun _ _ _ _ => trivial) ?_ ?_
      · rintro i x H3 H3' hi ⟨gs, eD, up, lt, ma, gl, hb3, k3⟩ ⟨rfl, hx⟩
        rw [List.length_map, List.length_range] at hi
        rw [List.getElem?_map, List.getElem?_range hi] at hx
        obtain rfl := Option.some.inj hx
        refine ⟨rfl, ?_⟩
        have stay : ∀ H', IsBag H' b (n + 2 + i + 1) → Kp b H3' H' → ∃ acc, H' D = some (.lst acc) ∧ acc.length < sizeLine ∧ ∃ gs : List Nat, (upd H' D (.lst (acc ++ [vi i]))) D = some (.lst (gs.map vi)) ∧ gs.Pairwise (· < ·) ∧ (∀ g ∈ gs, g < i + 1) ∧ (a < i + 1 → a ∈ gs) ∧ gs.length ≤ i + 1 ∧
            IsBag (upd H' D (.lst (acc ++ [vi i]))) b (n + 2 + (i + 1)) ∧ Kp b H (upd H' D (.lst (acc ++ [vi i]))) := fun H' hb' k' => by
          refine ⟨gs.map vi, k' _ _ nDb eD, line60 (by rw [List.length_map]; omega), gs ++ [i], by rw [upd_same, List.map_append]; rfl, ?_, ?_, ?_, by rw [List.length_append, List.length_singleton]; omega, bag_upd hb' nDb, kp_upd' (k3.trans k') hDn⟩
          · rw [List.pairwise_append]
            exact ⟨up, by simp, fun u hu v hv => by rw [List.mem_singleton.mp hv]; exact lt u hu⟩
          · intro g hg
            rcases List.mem_append.mp hg with q | q
            · have := lt g q; omega
            · rw [List.mem_singleton.mp q]; omega
          · intro q
            by_cases e : a = i
            · rw [e]; simp
            · exact List.mem_append_left _ (ma (by omega))
        dsimp only
        rw [Int.zero_add]
        walk_at "go"
        refine r_iteN' (fun h1 => ?_) (fun h1 => ?_)
        · walk_at "go"
          exact stay _ (hb3.mono (by omega)) (Kp.refl _ _)
        · walk_at "go"
          refine ⟨b, _, n + 2 + i, rfl, hb3, by omega, by decide, fun r4 H4 _ _ hb4 of4 => ?_⟩
          walk_at "go"
          refine r_iteN' (fun h2 => ?_) (fun h2 => ?_)
          · walk_at "go"
            exact stay _ hb4 of4.kp
          · walk_at "go"
            refine ⟨gs, of4.kp _ _ nDb eD, up, (fun g hg => by have := lt g hg; omega), (fun q => ma ?_), by omega, hb4, k3.trans of4.kp⟩
            have : ¬ (i = a) := fun e => h1 (by rw [e])
            omega
      · rintro H3 ⟨gs, eD, up, lt, ma, gl, hb3, k3⟩
        rw [List.length_map, List.length_range] at *
        walk_at "go"
        refine ⟨D, gs.map vi, rfl, .inl ⟨SqL.of eD, fun T hT => ?_⟩⟩
        have hm := ma ha
        exact k _ T gs upd_same (fun q => by rw [q] at hm; cases hm) up lt ((hb3.new hT).mono (by omega)) (k3.trans (Same.kp (same_new hT)))
end
end K4

/-! L11f -/


namespace K4
open PySem L2 K1
abbrev sLFacesOf : Stmt := top 68
abbrev nLFacesOf : List Str := ["_law_bag", "_law_signs", "_law_told", "_law_k", "_law_face"]
theorem scLFacesOf : FnScope nLFacesOf ["_law_bag", "_law_signs"] (defScope sLFacesOf) := ⟨rfl, rfl, rfl, by decide +kernel, rfl, by decide +kernel, by decide +kernel⟩
theorem tl_app (x y : Str) : tl (x ++ y) = tl x ++ tl y := K1.app_cps x y
theorem tl_cut_to {x : Str} (j : Nat) : tl (cutS x none (some (j : Int))) = (tl x).take j := by
  have hl := len_tl x
  unfold cutS
  rw [HT.sIx_none, HT.sIx_nat]
  show ((tl x).drop 0).take (min j x.length - 0) = _
  rw [List.drop_zero, Nat.sub_zero]
  by_cases h : j ≤ x.length
  · rw [Nat.min_eq_left h]
  · rw [Nat.min_eq_right (by omega), List.take_of_length_le (by omega), List.take_of_length_le (by omega)]
theorem tl_cut_from {x : Str} (i : Nat) : tl (cutS x (some (i : Int)) none) = (tl x).drop i := by
  have hl := len_tl x
  unfold cutS
  rw [HT.sIx_none, HT.sIx_nat]
  show ((tl x).drop (min i x.length)).take (x.length - min i x.length) = _
  by_cases h : i ≤ x.length
  · rw [Nat.min_eq_left h, List.take_of_length_le (by rw [List.length_drop]; omega)]
  · rw [Nat.min_eq_right (by omega)]
    have e1 : (tl x).drop i = [] := List.drop_eq_nil_of_le (by omega)
    have e2 : (tl x).drop x.length = [] := List.drop_eq_nil_of_le (by omega)
    rw [e1, e2]; simp
/-- a mixed row of signs, put together -/
theorem mixed_join {z : Str} {ys : List Str} (h : ys.Perm (sgn z)) : (tl (Txt.join "" ys)).length = (tl z).length ∧ (∀ c ∈ tl (Txt.join "" ys), c ∈ tl z) ∧ (ys.map (·.length)).sum = (tl z).length ∧ ys.length = (tl z).length := by
  have hs : sgn z = (tl z).map one := K1.sgn_one z
  rw [hs] at h
  obtain ⟨l, rfl⟩ := K1.ones (zs := ys) fun y hy => by
    obtain ⟨c, _, rfl⟩ := List.mem_map.mp (h.mem_iff.mp hy)
    exact ⟨c, rfl⟩
  have hll : l.length = (tl z).length := by have := h.length_eq; simpa using this
  rw [tl_join1]
  refine ⟨hll, fun c hc => ?_, ?_, by rw [List.length_map]; exact hll⟩
  · obtain ⟨d, hd, e⟩ := List.mem_map.mp (h.mem_iff.mp (List.mem_map.mpr ⟨c, hc, rfl⟩))
    rw [← K1.one_inj e]; exact hd
  · rw [List.map_map, ← hll]
    clear hll h hs
    induction l with
    | nil => rfl
    | cons c l ih => rw [List.map_cons, List.sum_cons, List.length_cons, ih]; show 1 + l.length = _; omega
abbrev OMixed (P : Program) (w : World) (K : PySem.W.Frag) (mg : Str → Option Value) (base : Heap) : Prop := Own P w K mg base "_law_mixed" 2 ["_law_bag", "_law_row"] spMixed
def spFacesG (K : PySem.W.Frag) : Sp := fun vs H Q _ => ∃ (b : Addr) (z : Str) (n : Nat), vs = [.ref b, .str z] ∧ IsBag H b n ∧ n ≤ 2 ^ 39 ∧ Good z ∧ ∀ H' T fs, H' T = some (.tup (fs.map V.str)) → Ow.fit (tl z) (.faces fs) → IsBag H' b (n + 100) → Kp b H H' → Q (.ref T) H'
section
variable {P : Program} {w : World} {K : PySem.W.Frag} {mg : Str → Option Value} {base : Heap} {dO dI : Addr}
theorem ok_facesOf {f : Addr} {fd : FuncData} (F : Fun K "_law_faces" "_law_faces" sLFacesOf f fd) (B : Bl mg) (Op : OPick P w K mg base) (Omx : OMixed P w K mg base) : FnOk P w K mg base CX0 3 f fd ["_law_bag", "_law_signs"] (spFacesG K) := by
  refine F.ok scLFacesOf (fun vs H Q E h => ?_) (fun cdv A outer s H vs Q E hr h => ?_)
  · obtain ⟨b, z, n, rfl, _⟩ := h
    rfl
  · obtain ⟨b, z, n, rfl, hb, hn, gz, k⟩ := h
    refine ⟨_, (pss_cons (ps_set (i := 2) scLFacesOf.nd rfl (Or.inl rfl) (pe_lst pa_nil)) (pss_cons (ps_for PassesOwn.never rfl (pi_range1 rfl B.range (pa_cons (pe_op op_add pe_int (pe_own Op (hr.mono (by omega)) (pa_cons (pv 0) (pa_cons pe_int pa_nil)))) pa_nil)) (pg_name (i := 3) scLFacesOf.nd rfl (Or.inl rfl)) (pss_cons (ps_set (i := 4) scLFacesOf.nd rfl (Or.inl rfl) (pe_m1 PySem.F.slot_str_join PySem.F.type_str_join mt_join pe_str (pe_own Omx (hr.mono (by omega)) (pa_cons (pv 0) (pa_cons (pv 1) pa_nil))))) (pss_one (ps_expr (pe_bm PySem.F.plainAttrs_list PySem.F.slot_list_append PySem.F.type_list_append mt_append (pv 2) (pa_cons (pe_ifExp (pt_cmpR op_gt (pe_own Op (hr.mono (by omega)) (pa_cons (pv 0) (pa_cons pe_int pa_nil))) pe_int (nomark _)) (pv 4) (pe_op op_add_str (pe_op op_add_str (pe_slice sl_str (pv 4) po_none (po_some pe_int)) (pe_slice sl_str (pv 4) po_none (po_some pe_int))) (pe_slice sl_str (pv 4) (po_some pe_int) po_none))) pa_nil)))))) (pss_one (ps_ret (pe_callTy call_tuple_of (by rfl) B.tuple (by decide +kernel) (pa_cons (pv 2) pa_nil)))))), ?_⟩
    try dsimp only [cxOf, Cx.nox, Cx.wish]
    have z2 : 2 ≤ (tl z).length := gz.lo
    have z12 : (tl z).length ≤ 12 := gz.hi
    have lz := len_tl z
    have e0 : ("" : Str).length = 0 := by decide +kernel
    walk_at "go"
    refine ⟨(by show 0 ≤ sizeLine; decide), fun D hD => ?_⟩
    have nDb := hb.ne hD
    walk_at "go"
    refine ⟨b, _, n, rfl, hb.new hD, by omega, by decide, fun r1 H1 r10 r11 hb1 of1 => ?_⟩
    obtain ⟨cnt, hcnt⟩ : ∃ cnt : Nat, 1 + r1 = (cnt : Int) := ⟨(1 + r1).toNat, by omega⟩
    have c12 : 1 ≤ cnt ∧ cnt ≤ 2 := by omega
    walk_at "go"
    rw [hcnt]
    refine ⟨by omega, by omega, fr_range (lo := 0) (n := cnt) (fun i σ H' => ∃ (o3 o4 : Option V) (fs : List Str), σ = [some (.ref b), some (.str z), some (.ref D), o3, o4] ∧ IsBag H' b (n + 1 + 20 * i) ∧ Kp b H H' ∧ H' D = some (.lst (fs.map V.str)) ∧ fs.length = i ∧ ∀ f ∈ fs, (tl f).length = (tl z).length ∧ ∀ c ∈ tl f, c ∈ tl z)
      ⟨none, none, [], rfl, hb1, (Same.kp (same_new hD)).trans of1.kp, of1.at nDb upd_same, rfl, (fun f h => by cases h)⟩ ?_ ?_⟩
    · rintro i σ H3 hi ⟨o3, o4, fs, rfl, hb3, k3, eD, lf, hf⟩
      walk_at "go"
      refine ⟨b, z, n + 1 + 20 * i, rfl, hb3, by omega, by omega, fun ys H4 p hperm hb4 k4 hp4 e4 np4 => ?_⟩
      obtain ⟨j1, j2, j3, j4⟩ := mixed_join hperm
      refine ⟨_, p, ys, rfl, rfl, .inl (SqL.of e4), by rw [e0, j3]; omega, ?_⟩
      generalize Txt.join (Str.ofString "") ys = fc at j1 j2 ⊢
      have lfc := len_tl fc
      walk_at "go"
      have eD4 := k4 _ _ nDb eD
      refine ⟨tyL (SqL.of eD4), ?_⟩
      refine r_cons (r_ifJ (fun x H' => ∃ y : Str, x = .str y ∧ ((tl y).length = (tl z).length ∧ ∀ c ∈ tl y, c ∈ tl z) ∧ IsBag H' b (n + 1 + 20 * (i + 1)) ∧ Off b H4 H') (fun Q' h => ?_) ?_)
      · walk_at "go"
        refine ⟨b, _, _, rfl, hb4, by omega, by decide, fun r5 H5 _ _ hb5 of5 => ?_⟩
        walk_at "go"
        refine r_iteN' (fun h0 => ?_) (fun h0 => ?_)
        · walk_at "go"
          exact h _ _ ⟨fc, rfl, ⟨j1, j2⟩, hb5.mono (by omega), of5⟩
        · walk_at "go"
          have t1 : tl (cutS fc none (some 1)) = (tl fc).take 1 := tl_cut_to 1
          have t2 : tl (cutS fc (some 2) none) = (tl fc).drop 2 := tl_cut_from 2
          have g1 := len_tl (cutS fc none (some 1))
          have g2 := len_tl (cutS fc (some 2) none)
          rw [t1, List.length_take] at g1
          rw [t2, List.length_drop] at g2
          refine ⟨small_line (by omega), ?_⟩
          walk_at "go"
          refine ⟨small_line (by omega), ?_⟩
          walk_at "go"
          refine ⟨_, _, rfl, rfl, small_line (by omega), ?_⟩
          walk_at "go"
          refine ⟨small_line (by omega), ?_⟩
          walk_at "go"
          have g3 := len_tl (cutS fc none (some 1) ++ cutS fc none (some 1))
          rw [tl_app, List.length_append, t1, List.length_take] at g3
          refine ⟨_, _, rfl, rfl, small_line (by omega), ?_⟩
          refine h _ _ ⟨_, rfl, ⟨?_, fun c hc => ?_⟩, hb5.mono (by omega), of5⟩
          · rw [tl_app, tl_app, List.length_append, List.length_append, t1, t2, List.length_take, List.length_drop]; omega
          · rw [tl_app, tl_app, t1, t2] at hc
            rcases List.mem_append.mp hc with q | q
            · rcases List.mem_append.mp q with q | q
              · exact j2 c (List.mem_of_mem_take q)
              · exact j2 c (List.mem_of_mem_take q)
            · exact j2 c (List.mem_of_mem_drop q)
      · rintro x H5 ⟨y, rfl, hy, hb5, of5⟩
        walk_at "go"
        have eD5 := of5.at nDb eD4
        have hDH : H D = none := hD
        refine ⟨D, fs.map V.str, _, rfl, rfl, eD5, line60 (by rw [List.length_map]; omega), ?_⟩
        refine ⟨_, _, fs ++ [y], rfl, bag_upd hb5 nDb, kp_upd' (k3.trans (k4.trans of5.kp)) hDH, by rw [upd_same, List.map_append]; rfl, by rw [List.length_append, lf]; rfl, fun f hf' => ?_⟩
        rcases List.mem_append.mp hf' with q | q
        · exact hf f q
        · rw [List.mem_singleton.mp q]; exact hy
    · rintro σ H3 ⟨o3, o4, fs, rfl, hb3, k3, eD, lf, hf⟩
      walk_at "go"
      refine ⟨D, fs.map V.str, rfl, .inl ⟨SqL.of eD, fun T hT => ?_⟩⟩
      exact k _ T fs upd_same ⟨fun e => by rw [e] at lf; simp at lf; omega, by omega, hf⟩ ((hb3.new hT).mono (by omega)) (k3.trans (Same.kp (same_new hT)))
end
end K4

/-! L11k -/


namespace K1
open PySem L2
def spMixedL : Sp := fun vs H Q _ => ∃ (b R : Addr) (zs : List V) (n : Nat), vs = [.ref b, .ref R] ∧ IsBag H b n ∧ n + zs.length ≤ 2 ^ 40 ∧ H R = some (.lst zs) ∧ R ≠ b ∧ zs.length ≤ 1000 ∧
  ∀ (ys : List V) H' p, ys.Perm zs → IsBag H' b (n + zs.length) → Kp b H H' → H p = none → H' p = some (.lst ys) → p ≠ b → Q (.ref p) H'
section
variable {P : Program} {w : World} {K : PySem.W.Frag} {mg : Str → Option Value} {base : Heap}
theorem ok_mixedL {f : Addr} {fd : FuncData} (F : Fun K "_law_mixed" "_law_mixed" sMixed f fd) (B : Bl mg) (Op : OPick P w K mg base) : FnOk P w K mg base CX0 2 f fd ["_law_bag", "_law_row"] spMixedL := by
  refine F.ok scMixed (fun vs H Q E h => ?_) (fun cdv A outer s H vs Q E hr h => ?_)
  · obtain ⟨b, R, zs, n, rfl, _⟩ := h
    rfl
  · obtain ⟨b, R, zs, n, rfl, hb, hn, eR, nRb, hz, k⟩ := h
    refine ⟨_, pss_cons (ps_set (i := 2) scMixed.nd rfl (Or.inl rfl) (pe_callTy call_list_of (by rfl) B.list (by decide +kernel) (pa_cons (pv 1) pa_nil)))
      (pss_cons (ps_set (i := 3) scMixed.nd rfl (Or.inl rfl) (pe_lst pa_nil))
      (pss_cons (ps_for PassesOwn.never rfl (pi_range1 rfl B.range (pa_cons (pe_callB call_len (by rfl) B.len PySem.boot_len (pa_cons (pv 1) pa_nil)) pa_nil)) (pg_name (i := 4) scMixed.nd rfl (Or.inl rfl))
        (pss_one (ps_expr (pe_bm PySem.F.plainAttrs_list PySem.F.slot_list_append PySem.F.type_list_append mt_append (pv 3) (pa_cons
          (pe_bm PySem.F.plainAttrs_list PySem.F.slot_list_pop PySem.F.type_list_pop mt_popAt (pv 2) (pa_cons
            (pe_own Op hr (pa_cons (pv 0) (pa_cons (pe_callB call_len (by rfl) B.len PySem.boot_len (pa_cons (pv 2) pa_nil)) pa_nil))) pa_nil)) pa_nil)))))
      (pss_one (ps_ret (pv 3))))), ?_⟩
    try dsimp only [cxOf, Cx.nox, Cx.wish]
    walk_at "go"
    refine ⟨R, _, rfl, .inl (SqL.of eR), fun L hL => ?_⟩
    walk_at "go"
    refine ⟨Nat.zero_le _, fun T hT => ?_⟩
    have nLb : L ≠ b := fun q => by obtain ⟨_, _, _, e, _⟩ := hb; rw [q, e] at hL; cases hL
    have nTL : T ≠ L := fun q => by rw [q, upd_same] at hT; cases hT
    rw [upd_ne nTL] at hT
    have nTb : T ≠ b := fun q => by obtain ⟨_, _, _, e, _⟩ := hb; rw [q, e] at hT; cases hT
    walk_at "go"
    have sLT : Same H (upd (upd H L (.lst zs)) T (.lst [])) := Same.trans (same_new (o := HO.lst zs) hL) (same_new (by rw [upd_ne nTL]; exact hT))
    refine ⟨_, _, rfl, lenL (SqL.of (sLT _ _ eR)), ?_⟩
    walk_at "go"
    refine ⟨by omega, by omega, fr_range (lo := 0) (n := zs.length) (fun i σ H' => ∃ (kk : Option V) (xs ys : List V), σ = [some (.ref b), some (.ref R), some (.ref L), some (.ref T), kk] ∧ H' L = some (.lst xs) ∧ H' T = some (.lst ys) ∧
        (ys ++ xs).Perm zs ∧ ys.length = i ∧ IsBag H' b (n + i) ∧ Kp b H H') ?_ ?_ ?_⟩
    · refine ⟨none, zs, [], rfl, ?_, upd_same, List.Perm.refl _, rfl, ?_, ?_⟩
      · rw [upd_ne nTL.symm, upd_same]
      · obtain ⟨d, s, c, e, r⟩ := hb
        exact ⟨d, s, c, by rw [upd_ne nTb.symm, upd_ne nLb.symm]; exact e, r⟩
      · exact Same.kp sLT
    · rintro i σ H' hi ⟨kk, xs, ys, rfl, eL, eT, pm, ly, hb', kp⟩
      have lxs : xs.length = zs.length - i := by
        have := pm.length_eq
        rw [List.length_append] at this
        omega
      walk_at "go"
      refine ⟨tyL (SqL.of eT), ?_⟩
      walk_at "go"
      refine ⟨tyL (SqL.of eL), ?_⟩
      walk_at "go"
      refine ⟨_, _, rfl, lenL (SqL.of eL), ?_⟩
      walk_at "go"
      refine ⟨_, _, _, rfl, hb', by omega, by omega, fun r H2 r0 r1 hb2 off => ?_⟩
      have hr1 : r < xs.length := by omega
      have hj : r.toNat < xs.length := by omega
      walk_at "go"
      have eL2 := off.at nLb eL
      have eT2 := off.at nTb eT
      refine ⟨L, xs, r, r.toNat, xs[r.toNat], rfl, rfl, eL2, by omega, by omega, seqIx r0 hr1, by simp [hj], ?_⟩
      walk_at "go"
      refine ⟨T, ys, _, rfl, rfl, by rw [upd_ne nTL]; exact eT2, small1000 (by omega), ?_⟩
      walk_at "go"
      refine ⟨some (.int (0 + i)), xs.eraseIdx r.toNat, ys ++ [xs[r.toNat]], rfl, ?_, ?_, ?_, by simp [ly], ?_, ?_⟩
      · rw [upd_ne nTL.symm, upd_same]
      · rw [upd_same]
      · refine List.Perm.trans ?_ pm
        rw [List.append_assoc]
        exact (List.Perm.append_left ys (erase_perm hj))
      · obtain ⟨d, s, c, e, q⟩ := hb2
        exact ⟨d, s, c, by rw [upd_ne nTb.symm, upd_ne nLb.symm]; exact e, q⟩
      · intro c o hc e
        have n1 : c ≠ L := fun q => by rw [q, hL] at e; cases e
        have n2 : c ≠ T := fun q => by rw [q, hT] at e; cases e
        rw [upd_ne n2, upd_ne n1]
        exact off.at hc (kp c o hc e)
    · rintro σ H' ⟨kk, xs, ys, rfl, eL, eT, pm, ly, hb', kp⟩
      walk_at "go"
      have lx : xs = [] := by
        have := pm.length_eq
        rw [List.length_append] at this
        exact List.eq_nil_of_length_eq_zero (by omega)
      subst lx
      rw [List.append_nil] at pm
      exact k ys H' T pm hb' kp hT eT nTb

end
end K1

/-! L11l -/


namespace K4
open PySem L2 K1
abbrev sLRowsOf : Stmt := top 66
abbrev nLRowsOf : List Str := ["_law_bag", "_law_signs", "_law_many", "_law_columns", "_law_sign", "_law_z", "_law_column"]
theorem scLRowsOf : FnScope nLRowsOf ["_law_bag", "_law_signs", "_law_many"] (defScope sLRowsOf) := ⟨rfl, rfl, rfl, by decide +kernel, rfl, by decide +kernel, by decide +kernel⟩
abbrev scRA : Scope := { kind := ScopeKind.function, names := [(".0", NameKind.local), ("_law_z", NameKind.cell), ("tuple", NameKind.globalImplicit), ("_law_columns", NameKind.cell)], isGenerator := false, isCoroutine := false }
abbrev scRB : Scope := { kind := ScopeKind.function, names := [(".0", NameKind.local), ("_law_z", NameKind.local), ("tuple", NameKind.globalImplicit), ("_law_bag", NameKind.cell), ("_law_many", NameKind.cell), ("_law_signs", NameKind.cell)], isGenerator := false, isCoroutine := false }
def rowD (r : List Nat) : PyData := .tuple (r.map pn)
theorem rowD_pure (rs : List (List Nat)) : pureA (rs.map rowD) = true := pureA_iff.mpr fun y hy => by obtain ⟨r, _, rfl⟩ := List.mem_map.mp hy; exact pure_nums r
theorem nums_list {m : Nat} : ∀ {ys : List V}, (∀ y ∈ ys, ∃ k : Nat, k < m ∧ y = vi k) → ∃ l : List Nat, ys = l.map vi ∧ ∀ x ∈ l, x < m
  | [], _ => ⟨[], rfl, fun x h => by cases h⟩
  | y :: ys, h => by
    obtain ⟨k, hk, rfl⟩ := h y (List.mem_cons_self ..)
    obtain ⟨l, rfl, hl⟩ := nums_list (ys := ys) fun z hz => h z (List.mem_cons_of_mem _ hz)
    exact ⟨k :: l, rfl, fun x hx => by
      rcases List.mem_cons.mp hx with rfl | q
      · exact hk
      · exact hl x q⟩
theorem perm_rg {m : Nat} {ys : List V} (h : ys.Perm (rgV 0 (m : Int))) : ∃ l : List Nat, ys = l.map vi ∧ l.length = m ∧ ∀ x ∈ l, x < m := by
  obtain ⟨l, rfl, hl⟩ := nums_list (m := m) (ys := ys) fun y hy => by
    obtain ⟨i, hi, rfl⟩ := List.mem_map.mp (h.mem_iff.mp hy)
    exact ⟨i, by have := List.mem_range.mp hi; omega, by show V.int (0 + (i : Int)) = _; rw [Int.zero_add]⟩
  have := h.length_eq
  rw [List.length_map, rgV_length] at this
  exact ⟨l, rfl, by omega, hl⟩
def spRowsG (K : PySem.W.Frag) : Sp := fun vs H Q _ => ∃ (b : Addr) (z : Str) (n many : Nat), vs = [.ref b, .str z, vi many] ∧ IsBag H b n ∧ n ≤ 2 ^ 39 ∧ Good z ∧ 1 ≤ many ∧ many ≤ 7 ∧
  ∀ (H' : Hp) (T : Addr) (rows : List (List Nat)), Dp K H' (.ref T) (.tuple (rows.map rowD)) → rows.length = many → (∀ r ∈ rows, r.length = (tl z).length ∧ ∀ x ∈ r, x < many) → IsBag H' b (n + 200) → Kp b H H' → Q (.ref T) H'
abbrev OMixedL (P : Program) (w : World) (K : PySem.W.Frag) (mg : Str → Option Value) (base : Heap) : Prop := Own P w K mg base "_law_mixed" 2 ["_law_bag", "_law_row"] spMixedL
section
variable {P : Program} {w : World} {K : PySem.W.Frag} {mg : Str → Option Value} {base : Heap} {dO dI : Addr}
theorem ok_rowsOf {f : Addr} {fd : FuncData} (F : Fun K "_law_rows" "_law_rows" sLRowsOf f fd) (B : Bl mg) (Op : OPick P w K mg base) (OmxL : OMixedL P w K mg base) : FnOk P w K mg base CX0 3 f fd ["_law_bag", "_law_signs", "_law_many"] (spRowsG K) := by
  refine F.ok scLRowsOf (fun vs H Q E h => ?_) (fun cdv A outer s H vs Q E hr h => ?_)
  · obtain ⟨b, z, n, many, rfl, _⟩ := h
    rfl
  · obtain ⟨b, z, n, many, rfl, hb, hn, gz, m1, m7, k⟩ := h
    refine ⟨_, (pss_cons (ps_if (pt_cmpR op_eq (pe_own Op (hr.mono (by omega)) (pa_cons (pv 0) (pa_cons pe_int pa_nil))) pe_int (nomark _)) (pss_cons (ps_set (i := 3) scLRowsOf.nd rfl (Or.inr rfl) (pe_lc (own := [("_law_sign", 4)]) (g := gName 4) (tt := tYes) rfl scLRowsOf.nd (pi_str (pv 1)) (blkOk_by (N := nLRowsOf) (sc := defScope sLRowsOf) (by decide +kernel)) (fun _ _ _ _ _ => (pg_name (i := 4) scLRowsOf.nd rfl (Or.inl rfl))) (fun _ _ _ _ _ => pts_nil) (fun _ _ _ _ _ => (pe_own OmxL (hr.mono (by omega)) (pa_cons (pv 0) (pa_cons (pe_listRg rfl rfl B.list (prg_1 rfl B.range (pv 2))) pa_nil)))))) (pss_one (ps_ret (pe_callTy call_tuple_of (by rfl) B.tuple (by decide +kernel) (pa_cons (pe_lc (own := [("_law_z", 5)]) (g := gName 5) (tt := tYes) rfl scLRowsOf.nd (pi_range1 rfl B.range (pa_cons (pv 2) pa_nil)) (blkOk_by (N := nLRowsOf) (sc := defScope sLRowsOf) (by decide +kernel)) (fun _ _ _ _ _ => (pg_name (i := 5) scLRowsOf.nd rfl (Or.inr rfl))) (fun _ _ _ _ _ => pts_nil) (fun _ _ _ _ _ => (pe_callTy (T := "tuple") (r := rTupOf K) call_tupOf (by rfl) B.tuple (by decide +kernel) (pa_cons (pe_lc (own := [("_law_column", 6)]) (g := gName 6) (tt := tYes) (wi := iList K (tVar 3)) rfl scLRowsOf.nd (pi_list (pv 3)) (blkOk_by (N := nLRowsOf) (sc := scRA) (by decide +kernel)) (fun _ _ _ _ _ => (pg_name (i := 6) scLRowsOf.nd rfl (Or.inl rfl))) (fun _ _ _ _ _ => pts_nil) (fun _ _ _ _ _ => (pe_ix (r := rIxL K) ix_list (pv 6) (pv 5) (fun _ _ => rfl)))) pa_nil)))) pa_nil))))) pss_nil) (pss_one (ps_ret (pe_callTy call_tuple_of (by rfl) B.tuple (by decide +kernel) (pa_cons (pe_lc (own := [("_law_z", 5)]) (g := gName 5) (tt := tYes) rfl scLRowsOf.nd (pi_range1 rfl B.range (pa_cons (pv 2) pa_nil)) (blkOk_by (N := nLRowsOf) (sc := defScope sLRowsOf) (by decide +kernel)) (fun _ _ _ _ _ => (pg_name (i := 5) scLRowsOf.nd rfl (Or.inl rfl))) (fun _ _ _ _ _ => pts_nil) (fun _ _ _ _ _ => (pe_callTy (T := "tuple") (r := rTupOf K) call_tupOf (by rfl) B.tuple (by decide +kernel) (pa_cons (pe_lc (own := [("_law_sign", 4)]) (g := gName 4) (tt := tYes) rfl scLRowsOf.nd (pi_str (pv 1)) (blkOk_by (N := nLRowsOf) (sc := scRB) (by decide +kernel)) (fun _ _ _ _ _ => (pg_name (i := 4) scLRowsOf.nd rfl (Or.inl rfl))) (fun _ _ _ _ _ => pts_nil) (fun _ _ _ _ _ => (pe_own Op (hr.mono (by omega)) (pa_cons (pv 0) (pa_cons (pv 2) pa_nil))))) pa_nil)))) pa_nil))))), ?_⟩
    try dsimp only [cxOf, Cx.nox, Cx.wish]
    have z2 : 2 ≤ (tl z).length := gz.lo
    have z12 : (tl z).length ≤ 12 := gz.hi
    have lz := len_tl z
    walk_at "go"
    refine ⟨b, _, n, rfl, hb, by omega, by decide, fun r1 H1 _ _ hb1 of1 => ?_⟩
    have k1 := of1.kp
    walk_at "go"
    refine r_iteN' (fun h0 => ?_) (fun h0 => ?_)
    · walk_at "go"
      intro D hD
      have nDb := hb1.ne hD
      refine lc_gen walk_sgn (fun _ => rfl) (fun acc H' => ∃ cs : List (Addr × List Nat), acc = cs.map (fun c => V.ref c.1) ∧ (∀ c ∈ cs, c.1 ≠ b ∧ c.1 ≠ D ∧ H' c.1 = some (.lst (c.2.map vi)) ∧ c.2.length = many ∧ ∀ x ∈ c.2, x < many) ∧ IsBag H' b (n + 1 + 8 * acc.length) ∧ Kp b H1 H')
        ⟨[], rfl, (fun r h => by cases h), hb1.new hD, Same.kp (same_new hD)⟩ (fun _ _ _ _ => trivial) ?_ ?_
      · rintro i x acc H3 hx la hacc ⟨cs, rfl, hcs, hb3, k3⟩
        rw [la] at hb3
        have hi : i < 12 := by
          have := (List.getElem?_eq_some_iff.mp hx).1
          rw [List.length_map, sgn_len] at this
          omega
        walk_at "go"
        refine ⟨RgOk.of_le (by decide) (by omega) (by decide) (by omega), fun R hR => ?_⟩
        walk_at "go"
        have hb3' := hb3.new (o := HO.lst (rgV 0 (many : Int))) hR
        refine ⟨b, R, rgV 0 (many : Int), _, rfl, hb3', by rw [rgV_length]; omega, upd_same, hb3.ne hR, by rw [rgV_length]; omega, fun ys H4 p pm hb4 k4 hp4 e4 np => ?_⟩
        rw [rgV_length] at hb4
        obtain ⟨l, rfl, ll, hl⟩ := perm_rg pm
        have s3 := same_new (o := HO.lst (rgV 0 (many : Int))) hR
        have eD4 := k4 _ _ nDb (s3 _ _ hacc)
        have npD : p ≠ D := fun q => by rw [q, s3 _ _ hacc] at hp4; cases hp4
        refine pp_next eD4 la (line60 (by omega)) ⟨cs ++ [(p, l)], by rw [List.map_append]; rfl, fun c hc => ?_, ?_, kp_upd' ((k3.trans (Same.kp s3)).trans k4) hD⟩
        · rcases List.mem_append.mp hc with q | q
          · obtain ⟨c1, c2, c3, c4⟩ := hcs c q
            exact ⟨c1, c2, by rw [upd_ne c2]; exact k4 _ _ c1 (s3 _ _ c3), c4⟩
          · rw [List.mem_singleton.mp q]
            exact ⟨np, npD, by rw [upd_ne npD]; exact e4, ll, hl⟩
        · rw [List.length_append, la]
          exact bag_upd (hb4.mono (by show _ ≤ n + 1 + 8 * (i + 1); omega)) nDb
      · rintro acc H3 la hacc ⟨cs, rfl, hcs, hb3, k3⟩
        rw [List.length_map, List.length_map, sgn_len] at la
        rw [List.length_map] at hb3
        walk_at "go"
        refine ⟨by omega, by omega, fun D2 hD2 => ?_⟩
        have nDD2 : D ≠ D2 := fun q => by rw [q, hD2] at hacc; cases hacc
        refine lc_gen (walk_rng (lo := 0) (n := many)) (fun _ => rfl) (fun acc H' => ∃ rows : List (List Nat), DpAll K H' acc (rows.map rowD) ∧ (∀ r ∈ rows, r.length = (tl z).length ∧ ∀ x ∈ r, x < many) ∧ Same H3 H') ⟨[], .nil, (fun r h => by cases h), same_new hD2⟩ (fun _ _ _ _ => trivial) ?_ ?_
        · rintro i y acc2 H4 hy la2 hacc2 ⟨rows, hA, hrw, s4⟩
          have hic : i < many := by have := (List.getElem?_eq_some_iff.mp hy).1; rw [List.length_map, List.length_range] at this; exact this
          have hyi : y = V.int (0 + (i : Int)) := by
            rw [List.getElem?_map, List.getElem?_range hic] at hy
            exact (Option.some.inj hy).symm
          have eD4 := s4 _ _ hacc
          have nc : ∀ c ∈ cs, H4 c.1 = some (.lst (c.2.map vi)) := fun c hc => s4 _ _ (hcs c hc).2.2.1
          walk_at "go"
          refine ⟨⟨_, SqL.of eD4⟩, fun D3 hD3 => ?_⟩
          refine lc_gen (walk_list (K := K) (a := D) (xs := cs.map (fun c => V.ref c.1))) (fun _ => rfl) (fun acc3 H' => ∃ ns : List Nat, acc3 = ns.map vi ∧ (∀ y ∈ ns, y < many) ∧ Same H4 H') ⟨[], rfl, (fun r h => by cases h), same_new hD3⟩ (fun acc3 H' _ q => SqL.of (q.choose_spec.2.2 _ _ eD4)) ?_ ?_
          · rintro j v acc3 H5 hv la3 hacc3 ⟨ns, rfl, hns, s5⟩
            rw [List.getElem?_map] at hv
            cases ec : cs[j]? with
            | none => rw [ec] at hv; cases hv
            | some c =>
              rw [ec] at hv
              obtain rfl := Option.some.inj hv
              have hc := List.mem_of_getElem? ec
              have hjl := (List.getElem?_eq_some_iff.mp ec).1
              obtain ⟨c1, c2, c3, c4, c5⟩ := hcs c hc
              subst hyi
              walk_at "go"
              rw [Int.zero_add]
              refine r_ixL (SqL.of (s5 _ _ (nc c hc))) (atI_nat (j := i) (v := vi (c.2.getD i 0)) (by rw [List.getElem?_map, getD_at (xs := c.2) (i := i) (d := 0) (by omega)]; rfl)) ?_
              refine pp_next hacc3 la3 (line60 (by omega)) ⟨ns ++ [c.2.getD i 0], by rw [List.map_append]; rfl, fun x hx => ?_, same_upd s5 hD3⟩
              rcases List.mem_append.mp hx with q | q
              · exact hns x q
              · rw [List.mem_singleton.mp q]; exact c5 _ (getD_mem (by omega))
          · rintro acc3 H5 la3 hacc3 ⟨ns, rfl, hns, s5⟩
            rw [List.length_map, List.length_map] at la3
            walk_at "go"
            refine ⟨D3, ns.map vi, rfl, .inl ⟨SqL.of hacc3, fun T2 hT2 => ?_⟩⟩
            have s6 := same_new (o := HO.tup (ns.map vi)) hT2
            have s46 := s5.trans s6
            have e6 := s46 _ _ hacc2
            refine pp_next e6 la2 (line60 (by omega)) ⟨rows ++ [ns], ?_, fun r hr' => ?_, same_upd (s4.trans s46) hD2⟩
            · have kt : KT K (upd H5 T2 (.tup (ns.map vi))) (upd (upd H5 T2 (.tup (ns.map vi))) D2 (.lst (acc2 ++ [V.ref T2]))) := kt_lst e6
              rw [List.map_append]
              exact dpA_app (dpA_pure kt _ _ (rowD_pure rows) (dpA_keep (Same.keeps s46) _ _ hA)) (.cons (dp_pure kt _ _ (pure_nums ns) (.tup (SqT.of upd_same) (dpA_nums.mpr rfl))) .nil)
            · rcases List.mem_append.mp hr' with q | q
              · exact hrw r q
              · rw [List.mem_singleton.mp q]
                exact ⟨by omega, hns⟩
        · rintro acc2 H4 la2 hacc2 ⟨rows, hA, hrw, s4⟩
          rw [List.length_map, List.length_range] at la2
          walk_at "go"
          refine ⟨D2, acc2, rfl, .inl ⟨SqL.of hacc2, fun T hT => ?_⟩⟩
          have s5 := same_new (o := HO.tup acc2) hT
          have l8 : 8 * (List.map (fun c : Addr × List Nat => V.ref c.1) cs).length ≤ 96 := by rw [List.length_map]; omega
          refine k _ T rows (.tup (SqT.of upd_same) (dpA_keep (Same.keeps s5) _ _ hA)) (by have := dpA_len hA; rw [List.length_map] at this; omega) hrw (((hb3.same (s4.trans s5))).mono (by rw [List.length_map] at l8; omega)) ((k1.trans k3).trans (Same.kp (s4.trans s5)))
    · walk_at "go"
      refine ⟨by omega, by omega, fun D hD => ?_⟩
      have nDb := hb1.ne hD
      refine lc_gen (walk_rng (lo := 0) (n := many)) (fun _ => rfl) (fun acc H' => ∃ rows : List (List Nat), DpAll K H' acc (rows.map rowD) ∧ (∀ r ∈ rows, r.length = (tl z).length ∧ ∀ x ∈ r, x < many) ∧ IsBag H' b (n + 1 + 12 * acc.length) ∧ Kp b H1 H') ⟨[], .nil, (fun r h => by cases h), hb1.new hD, Same.kp (same_new hD)⟩ (fun _ _ _ _ => trivial) ?_ ?_
      · rintro i x acc H3 hx la hacc ⟨rows, hA, hrw, hb3, k3⟩
        rw [la] at hb3
        have hic : i < many := by have := (List.getElem?_eq_some_iff.mp hx).1; rw [List.length_map, List.length_range] at this; exact this
        walk_at "go"
        intro D2 hD2
        have nD2b := hb3.ne hD2
        have nDD2 : D ≠ D2 := fun q => by rw [q, hD2] at hacc; cases hacc
        refine lc_gen walk_sgn (fun _ => rfl) (fun acc2 H' => ∃ ns : List Nat, acc2 = ns.map vi ∧ (∀ y ∈ ns, y < many) ∧ IsBag H' b (n + 1 + 12 * i + acc2.length) ∧ Kp b H3 H') ⟨[], rfl, (fun c h => by cases h), hb3.new hD2, Same.kp (same_new hD2)⟩ (fun _ _ _ _ => trivial) ?_ ?_
        · rintro j y acc2 H4 hy la2 hacc2 ⟨ns, rfl, hns, hb4, k4⟩
          rw [la2] at hb4
          have hj : j < 12 := by
            have := (List.getElem?_eq_some_iff.mp hy).1
            rw [List.length_map, sgn_len] at this
            omega
          walk_at "go"
          refine ⟨b, _, _, rfl, hb4, by omega, by omega, fun r5 H5 r50 r51 hb5 of5 => ?_⟩
          obtain ⟨g, rfl⟩ : ∃ g : Nat, r5 = (g : Int) := ⟨r5.toNat, by omega⟩
          refine pp_next (of5.at nD2b hacc2) la2 (line60 (by omega)) ⟨ns ++ [g], by rw [List.map_append]; rfl, fun y hy => ?_, ?_, kp_upd' (k4.trans of5.kp) hD2⟩
          · rcases List.mem_append.mp hy with q | q
            · exact hns y q
            · rw [List.mem_singleton.mp q]; omega
          · rw [List.length_append, la2]
            exact bag_upd hb5 nD2b
        · rintro acc2 H4 la2 hacc2 ⟨ns, rfl, hns, hb4, k4⟩
          rw [List.length_map, List.length_map, sgn_len] at la2
          rw [List.length_map, la2] at hb4
          walk_at "go"
          refine ⟨D2, ns.map vi, rfl, .inl ⟨SqL.of hacc2, fun T2 hT2 => ?_⟩⟩
          have s5 := same_new (o := HO.tup (ns.map vi)) hT2
          have e4 := k4 _ _ nDb hacc
          refine pp_next (s5 _ _ e4) la (line60 (by omega)) ⟨rows ++ [ns], ?_, fun r hr' => ?_, ?_, ?_⟩
          · have kt : KT K (upd H4 T2 (.tup (ns.map vi))) (upd (upd H4 T2 (.tup (ns.map vi))) D (.lst (acc ++ [V.ref T2]))) := kt_lst (s5 _ _ e4)
            have q1 : DpAll K (upd H4 T2 (.tup (ns.map vi))) acc (rows.map rowD) := dpA_keep (Same.keeps s5) _ _ (dpA_pure (bag_kt hb3 k4) _ _ (rowD_pure rows) hA)
            rw [List.map_append]
            exact dpA_app (dpA_pure kt _ _ (rowD_pure rows) q1) (.cons (dp_pure kt _ _ (pure_nums ns) (.tup (SqT.of upd_same) (dpA_nums.mpr rfl))) .nil)
          · rcases List.mem_append.mp hr' with q | q
            · exact hrw r q
            · rw [List.mem_singleton.mp q]
              exact ⟨by omega, hns⟩
          · rw [List.length_append, la]
            exact bag_upd ((hb4.new hT2).mono (by show _ ≤ n + 1 + 12 * (i + 1); omega)) nDb
          · exact kp_upd' ((k3.trans k4).trans (Same.kp s5)) hD
      · rintro acc H3 la hacc ⟨rows, hA, hrw, hb3, k3⟩
        rw [List.length_map, List.length_range] at la
        rw [la] at hb3
        walk_at "go"
        refine ⟨D, acc, rfl, .inl ⟨SqL.of hacc, fun T hT => ?_⟩⟩
        have s4 := same_new (o := HO.tup acc) hT
        refine k _ T rows (.tup (SqT.of upd_same) (dpA_keep (Same.keeps s4) _ _ hA)) (by have := dpA_len hA; rw [List.length_map] at this; omega) hrw ((hb3.new hT).mono (by omega)) ((k1.trans k3).trans (Same.kp s4))
end
end K4

/-! L11m -/


namespace K4
open PySem L2 K1
abbrev sLRuleOf : Stmt := top 69
abbrev nLRuleOf : List Str := ["_law_bag", "_law_signs", "_law_deep", "_law_way", "_law_many"]
theorem scLRuleOf : FnScope nLRuleOf ["_law_bag", "_law_signs", "_law_deep"] (defScope sLRuleOf) := ⟨rfl, rfl, rfl, by decide +kernel, rfl, by decide +kernel, by decide +kernel⟩
section
variable {K : PySem.W.Frag} {H : Hp} {q : Addr} {o : Ow} {vs : List V} {v v2 : V} {r r2 : R}
theorem dp_n0 (hq : H q = none) (hv : DpAll K H vs (o.data true)) : Dp K (upd H q (.tup (.str o.word :: vs))) (.ref q) ((R.n0 o).data true) :=
  .tup (SqT.of upd_same) (.cons (.str _) (dpA_keep (Same.keeps (same_new hq)) _ _ hv))
theorem dp_n1 (hq : H q = none) (hv : DpAll K H vs (o.data true)) (hr : Dp K H v (r.data true)) : Dp K (upd H q (.tup (.str o.word :: (vs ++ [v])))) (.ref q) ((R.n1 o r).data true) :=
  .tup (SqT.of upd_same) (.cons (.str _) (dpA_keep (Same.keeps (same_new hq)) _ _ (dpA_app hv (.cons hr .nil))))
theorem dp_n2 (hq : H q = none) (hv : DpAll K H vs (o.data true)) (hr : Dp K H v (r.data true)) (hr2 : Dp K H v2 (r2.data true)) : Dp K (upd H q (.tup (.str o.word :: (vs ++ [v, v2])))) (.ref q) ((R.n2 o r r2).data true) :=
  .tup (SqT.of upd_same) (.cons (.str _) (dpA_keep (Same.keeps (same_new hq)) _ _ (dpA_app hv (.cons hr (.cons hr2 .nil)))))
end
theorem dp_bag {K : PySem.W.Frag} {H H' : Hp} {b : Addr} {n : Nat} {v : V} {r : R} (h : Dp K H v (r.data true)) (hb : IsBag H b n) (k : Kp b H H') : Dp K H' v (r.data true) := dp_pure (bag_kt hb k) _ _ r.pure h
def cRO : Nat → Nat
  | 0 => 400
  | d + 1 => 800 + 2 * cRO d
def pRO : Nat → Nat
  | 0 => 1
  | d + 1 => 1 + 2 * pRO d
theorem cRO_lo : ∀ d, 400 ≤ cRO d
  | 0 => Nat.le_refl _
  | d + 1 => by have := cRO_lo d; show 400 ≤ 800 + 2 * cRO d; omega
theorem pRO_lo : ∀ d, 1 ≤ pRO d
  | 0 => Nat.le_refl _
  | d + 1 => by have := pRO_lo d; show 1 ≤ 1 + 2 * pRO d; omega
def spRuleOf (K : PySem.W.Frag) (m : Nat) : Sp := fun vs H Q _ => ∃ (b : Addr) (z : Str) (n d : Nat), vs = [.ref b, .str z, vi d] ∧ d < m ∧ IsBag H b n ∧ n + cRO d ≤ 2 ^ 38 ∧ Good z ∧ Drawn K b n (cRO d) H Q fun r => r.fit (tl z) ∧ r.parts ≤ pRO d
section
variable {P : Program} {w : World} {K : PySem.W.Frag} {mg : Str → Option Value} {base : Heap} {dO dI : Addr}
abbrev OSumG (P : Program) (w : World) (K : PySem.W.Frag) (mg : Str → Option Value) (base : Heap) : Prop := Own P w K mg base "_law_sum" 2 ["_law_bag", "_law_signs"] (spSumG K)
abbrev ORowsG (P : Program) (w : World) (K : PySem.W.Frag) (mg : Str → Option Value) (base : Heap) : Prop := Own P w K mg base "_law_rows" 3 ["_law_bag", "_law_signs", "_law_many"] (spRowsG K)
abbrev OGoals (P : Program) (w : World) (K : PySem.W.Frag) (mg : Str → Option Value) (base : Heap) : Prop := Own P w K mg base "_law_goals" 2 ["_law_bag", "_law_many"] (spGoals K)
abbrev OFacesG (P : Program) (w : World) (K : PySem.W.Frag) (mg : Str → Option Value) (base : Heap) : Prop := Own P w K mg base "_law_faces" 3 ["_law_bag", "_law_signs"] (spFacesG K)
abbrev ORuleOf (m : Nat) (P : Program) (w : World) (K : PySem.W.Frag) (mg : Str → Option Value) (base : Heap) : Prop := Own P w K mg base "_law_rule_of" (m + 3) ["_law_bag", "_law_signs", "_law_deep"] (spRuleOf K m)
theorem ok_ruleOf {m : Nat} {f : Addr} {fd : FuncData} (F : Fun K "_law_rule_of" "_law_rule_of" sLRuleOf f fd) (B : Bl mg) (Op : OPick P w K mg base) (Osm : OSumG P w K mg base) (Oro : ORowsG P w K mg base) (Ogo : OGoals P w K mg base) (Ofo : OFacesG P w K mg base) (Oru : ORuleOf m P w K mg base) :
    FnOk P w K mg base CX0 (m + 1 + 3) f fd ["_law_bag", "_law_signs", "_law_deep"] (spRuleOf K (m + 1)) := by
  refine F.ok scLRuleOf (fun vs H Q E h => ?_) (fun cdv A outer s H vs Q E hr h => ?_)
  · obtain ⟨b, z, n, d, rfl, _⟩ := h
    rfl
  · obtain ⟨b, z, n, d, rfl, hdm, hb, hn, gz, k⟩ := h
    have c0 := cRO_lo d
    have p0 := pRO_lo d
    refine ⟨_, (pss_cons (ps_set (i := 3) scLRuleOf.nd rfl (Or.inl rfl) (pe_own Op (hr.mono (by omega)) (pa_cons (pv 0) (pa_cons (pe_ifExp (pt_cmpR op_lt (pv 2) pe_int (nomark _)) pe_int pe_int) pa_nil)))) (pss_cons (ps_if (pt_cmpR op_lt (pv 3) pe_int (nomark _)) (pss_one (ps_ret (pe_own Osm (hr.mono (by omega)) (pa_cons (pv 0) (pa_cons (pv 1) pa_nil))))) pss_nil) (pss_cons (ps_if (pt_cmpR op_lt (pv 3) pe_int (nomark _)) (pss_cons (ps_set (i := 4) scLRuleOf.nd rfl (Or.inl rfl) (pe_op op_add pe_int (pe_own Op (hr.mono (by omega)) (pa_cons (pv 0) (pa_cons pe_int pa_nil))))) (pss_one (ps_ret (pe_tup (pa_cons pe_str (pa_cons (pe_own Oro (hr.mono (by omega)) (pa_cons (pv 0) (pa_cons (pv 1) (pa_cons (pv 4) pa_nil)))) (pa_cons (pe_own Ogo (hr.mono (by omega)) (pa_cons (pv 0) (pa_cons (pv 4) pa_nil))) pa_nil))))))) pss_nil) (pss_cons (ps_if (pt_cmpR op_eq (pv 3) pe_int (nomark _)) (pss_one (ps_ret (pe_ifExp (pt_cmpR op_gt (pe_own Op (hr.mono (by omega)) (pa_cons (pv 0) (pa_cons pe_int pa_nil))) pe_int (nomark _)) (pe_own Osm (hr.mono (by omega)) (pa_cons (pv 0) (pa_cons (pv 1) pa_nil))) (pe_tup (pa_cons pe_str pa_nil))))) pss_nil) (pss_cons (ps_if (pt_cmpR op_eq (pv 3) pe_int (nomark _)) (pss_one (ps_ret (pe_tup (pa_cons pe_str (pa_cons (pe_own Ofo (hr.mono (by omega)) (pa_cons (pv 0) (pa_cons (pv 1) pa_nil))) (pa_cons (pe_own Oru hr (pa_cons (pv 0) (pa_cons (pv 1) (pa_cons (pe_op op_sub (pv 2) pe_int) pa_nil)))) pa_nil)))))) pss_nil) (pss_cons (ps_if (pt_cmpR op_eq (pv 3) pe_int (nomark _)) (pss_one (ps_ret (pe_tup (pa_cons pe_str (pa_cons (pe_own Oru hr (pa_cons (pv 0) (pa_cons (pv 1) (pa_cons (pe_op op_sub (pv 2) pe_int) pa_nil)))) pa_nil))))) pss_nil) (pss_cons (ps_if (pt_cmpR op_eq (pv 3) pe_int (nomark _)) (pss_one (ps_ret (pe_tup (pa_cons pe_str (pa_cons (pe_own Op (hr.mono (by omega)) (pa_cons (pv 0) (pa_cons pe_int pa_nil))) (pa_cons (pe_own Op (hr.mono (by omega)) (pa_cons (pv 0) (pa_cons pe_int pa_nil))) (pa_cons (pe_own Oru hr (pa_cons (pv 0) (pa_cons (pv 1) (pa_cons (pe_op op_sub (pv 2) pe_int) pa_nil)))) pa_nil))))))) pss_nil) (pss_cons (ps_if (pt_cmpR op_eq (pv 3) pe_int (nomark _)) (pss_one (ps_ret (pe_tup (pa_cons pe_str (pa_cons (pe_own Oru hr (pa_cons (pv 0) (pa_cons (pv 1) (pa_cons (pe_op op_sub (pv 2) pe_int) pa_nil)))) (pa_cons (pe_own Oru hr (pa_cons (pv 0) (pa_cons (pv 1) (pa_cons (pe_op op_sub (pv 2) pe_int) pa_nil)))) pa_nil)))))) pss_nil) (pss_cons (ps_if (pt_cmpR op_eq (pv 3) pe_int (nomark _)) (pss_one (ps_ret (pe_tup (pa_cons pe_str (pa_cons (pe_own Oru hr (pa_cons (pv 0) (pa_cons (pv 1) (pa_cons (pe_op op_sub (pv 2) pe_int) pa_nil)))) (pa_cons (pe_own Oru hr (pa_cons (pv 0) (pa_cons (pv 1) (pa_cons (pe_op op_sub (pv 2) pe_int) pa_nil)))) pa_nil)))))) pss_nil) (pss_one (ps_ret (pe_tup (pa_cons pe_str (pa_cons (pe_own Oru hr (pa_cons (pv 0) (pa_cons (pv 1) (pa_cons (pe_op op_sub (pv 2) pe_int) pa_nil)))) pa_nil)))))))))))))), ?_⟩
    try dsimp only [cxOf, Cx.nox, Cx.wish]
    refine r_seq (r_asg (r_call (r_cons ⟨_, rfl, r_cons (r_ifJ (fun x H' => H' = H ∧ ∃ wm : Nat, x = vi wm ∧ (wm = 6 ∧ d = 0 ∨ wm = 12 ∧ 1 ≤ d)) (fun Q' h => ?_) ?_)⟩)))
    · walk_at "go"
      refine r_iteN' (fun h0 => ?_) (fun h0 => ?_)
      · walk_at "go"
        exact h _ _ ⟨rfl, 6, rfl, .inl ⟨rfl, by omega⟩⟩
      · walk_at "go"
        exact h _ _ ⟨rfl, 12, rfl, .inr ⟨rfl, by omega⟩⟩
    rintro x H0 ⟨e0, wm, rfl, hw⟩
    rw [e0]
    clear e0
    walk_at "go"
    refine ⟨b, _, n, rfl, hb, by omega, by omega, fun r1 H1 r10 r11 hb1 of1 => ?_⟩
    obtain ⟨wy, rfl⟩ : ∃ wy : Nat, r1 = (wy : Int) := ⟨r1.toNat, by omega⟩
    have hwy : wy < wm := by omega
    have k1 := of1.kp
    have e1 : 1 ≤ d → ((d : Int) - 1) = ((d - 1 : Nat) : Int) := fun h => by omega
    have leaf : ∀ (H2 : Hp) (n2 : Nat), IsBag H2 b n2 → n2 ≤ n + 2 → Kp b H H2 → spSumG K [.ref b, .str z] H2 Q E0 := fun H2 n2 hb2 ln k2 =>
      ⟨b, _, n2, rfl, hb2, by omega, fun H3 v r dv hr hb3 k3 => by
        obtain ⟨m, ws, g, rfl, hf⟩ := hr
        exact k H3 v _ dv ⟨⟨hf _, rfl⟩, by show 1 ≤ _; omega⟩ (hb3.mono (by omega)) (k2.trans k3)⟩
    walk_at "go"
    refine r_iteN' (fun h3 => ?_) (fun h3 => ?_)
    · walk_at "go"
      exact leaf _ _ hb1 (by omega) k1
    walk_at "go"
    refine r_iteN' (fun h5 => ?_) (fun h5 => ?_)
    · walk_at "go"
      refine ⟨b, _, n + 1, rfl, hb1, by omega, by decide, fun r2 H2 r20 r21 hb2 of2 => ?_⟩
      obtain ⟨many, hm⟩ : ∃ many : Nat, 2 + r2 = (many : Int) := ⟨(2 + r2).toNat, by omega⟩
      have m23 : 2 ≤ many ∧ many ≤ 3 := by omega
      walk_at "go"
      rw [hm]
      refine ⟨b, z, _, many, rfl, hb2, by omega, gz, by omega, by omega, fun H3 T rows dT lr hrw hb3 k3 => ?_⟩
      walk_at "go"
      refine ⟨b, _, many, rfl, hb3, by omega, by omega, by omega, fun H4 G gs eG gne gup glt hb4 k4 => ?_⟩
      walk_at "go"
      refine ⟨(by show 3 ≤ sizeLine; decide), fun q hq => ?_⟩
      have dT4 := dp_pure (bag_kt hb3 k4) _ _ (show pure (PyData.tuple (rows.map rowD)) = true by rw [K4.pure]; exact rowD_pure rows) dT
      refine k _ _ (.n0 (.square rows gs)) (dp_n0 (o := .square rows gs) (vs := [V.ref T, V.ref G]) hq (.cons dT4 (.cons (.tup (SqT.of eG) (dpA_nums.mpr rfl)) .nil))) ⟨⟨⟨fun e => by rw [e] at lr; simp at lr; omega, by omega, by rw [lr]; exact hrw, gne, gup, by rw [lr]; exact glt⟩, rfl⟩, by show 1 ≤ _; omega⟩
        ((hb4.new hq).mono (by omega)) (k1.trans (of2.kp.trans (k3.trans (k4.trans (Same.kp (same_new hq))))))
    walk_at "go"
    refine r_iteN' (fun h6 => ?_) (fun h6 => ?_)
    · walk_at "go"
      refine ⟨b, _, n + 1, rfl, hb1, by omega, by decide, fun r2 H2 r20 r21 hb2 of2 => ?_⟩
      walk_at "go"
      refine r_iteN' (fun h7 => ?_) (fun h7 => ?_)
      · walk_at "go"
        exact leaf _ _ hb2 (by omega) (k1.trans of2.kp)
      · walk_at "go"
        refine ⟨(by show 1 ≤ sizeLine; decide), fun q hq => ?_⟩
        exact k _ _ (.n0 .any) (dp_n0 (o := .any) (vs := []) hq .nil) ⟨⟨trivial, rfl⟩, by show 1 ≤ _; omega⟩ ((hb2.new hq).mono (by omega)) (k1.trans (of2.kp.trans (Same.kp (same_new hq))))
    have n5 : wy ≠ 5 := fun e => h6 (by rw [e]; rfl)
    have hd1 : 1 ≤ d := by omega
    obtain ⟨cS, pS⟩ : cRO d = 800 + 2 * cRO (d - 1) ∧ pRO d = 1 + 2 * pRO (d - 1) := by
      obtain ⟨e, rfl⟩ : ∃ e, d = e + 1 := ⟨d - 1, by omega⟩
      exact ⟨rfl, rfl⟩
    have c1 := cRO_lo (d - 1)
    have p1 := pRO_lo (d - 1)
    have inner : ∀ (H2 : Hp) (n2 : Nat) {Q2 : VK}, IsBag H2 b n2 → n2 ≤ n + 300 + cRO (d - 1) → (∀ (H' : Hp) (v : V) (r : R), Dp K H' v (r.data true) → r.fit (tl z) → r.parts ≤ pRO (d - 1) → IsBag H' b (n2 + cRO (d - 1)) → Kp b H2 H' → Q2 v H') → spRuleOf K m [.ref b, .str z, .int ((d : Int) - 1)] H2 Q2 E0 := fun H2 n2 Q2 hb2 ln kk =>
      ⟨b, z, n2, d - 1, by rw [e1 (by omega)], by omega, hb2, by omega, gz, fun H3 v r dv hr hb3 k3 => kk H3 v r dv hr.1 hr.2 hb3 k3⟩
    have fin : ∀ (H2 : Hp) (v : V) (r : R) (n2 : Nat), Dp K H2 v (r.data true) → r.fit (tl z) → r.parts ≤ 1 + 2 * pRO (d - 1) → IsBag H2 b n2 → n2 ≤ n + 300 + 2 * cRO (d - 1) → Kp b H1 H2 → Q v H2 := fun H2 v r n2 dv hf hp hb2 ln k2 =>
      k H2 v r dv ⟨hf, by omega⟩ (hb2.mono (by omega)) (k1.trans k2)
    walk_at "go"
    refine r_iteN' (fun h7 => ?_) (fun h7 => ?_)
    · walk_at "go"
      refine ⟨b, z, _, rfl, hb1, by omega, gz, fun H2 T fs eT hfs hb2 k2 => ?_⟩
      walk_at "go"
      refine inner _ _ hb2 (by omega) (fun H3 v r dv hf hp hb3 k3 => ?_)
      have nTb : T ≠ b := fun e => by obtain ⟨_, _, _, eb, _⟩ := hb2; rw [e, eb] at eT; cases eT
      walk_at "go"
      refine ⟨(by show 3 ≤ sizeLine; decide), fun q hq => ?_⟩
      exact fin _ _ (.n1 (.faces fs) r) _ (dp_n1 (o := .faces fs) (vs := [V.ref T]) hq (.cons (.tup (SqT.of (k3 _ _ nTb eT)) (dpA_strs.mpr rfl)) .nil) dv) ⟨hfs, rfl, hf⟩ (by show r.parts + 1 ≤ _; omega) (hb3.new hq) (by omega) (k2.trans (k3.trans (Same.kp (same_new hq))))
    walk_at "go"
    refine r_iteN' (fun h8 => ?_) (fun h8 => ?_)
    · walk_at "go"
      refine inner _ _ hb1 (by omega) (fun H3 v r dv hf hp hb3 k3 => ?_)
      walk_at "go"
      refine ⟨(by show 2 ≤ sizeLine; decide), fun q hq => ?_⟩
      exact fin _ _ (.n1 .back r) _ (dp_n1 (o := .back) (vs := []) hq .nil dv) ⟨trivial, rfl, hf⟩ (by show r.parts + 1 ≤ _; omega) (hb3.new hq) (by omega) (k3.trans (Same.kp (same_new hq)))
    walk_at "go"
    refine r_iteN' (fun h9 => ?_) (fun h9 => ?_)
    · walk_at "go"
      refine ⟨b, _, n + 1, rfl, hb1, by omega, by decide, fun r2 H2 r20 r21 hb2 of2 => ?_⟩
      obtain ⟨x, rfl⟩ : ∃ x : Nat, r2 = (x : Int) := ⟨r2.toNat, by omega⟩
      walk_at "go"
      refine ⟨b, _, n + 1 + 1, rfl, hb2, by omega, by decide, fun r3 H3 r30 r31 hb3 of3 => ?_⟩
      obtain ⟨y, rfl⟩ : ∃ y : Nat, r3 = (y : Int) := ⟨r3.toNat, by omega⟩
      walk_at "go"
      refine inner _ _ hb3 (by omega) (fun H4 v r dv hf hp hb4 k4 => ?_)
      walk_at "go"
      refine ⟨(by show 4 ≤ sizeLine; decide), fun q hq => ?_⟩
      exact fin _ _ (.n1 (.cut x y) r) _ (dp_n1 (o := .cut x y) (vs := [vi x, vi y]) hq (.cons (.int _) (.cons (.int _) .nil)) dv) ⟨⟨by omega, by omega⟩, rfl, hf⟩ (by show r.parts + 1 ≤ _; omega) (hb4.new hq) (by omega) (of2.kp.trans (of3.kp.trans (k4.trans (Same.kp (same_new hq)))))
    walk_at "go"
    refine r_iteN' (fun h10 => ?_) (fun h10 => ?_)
    · walk_at "go"
      refine inner _ _ hb1 (by omega) (fun H3 v r dv hf hp hb3 k3 => ?_)
      walk_at "go"
      refine inner _ _ hb3 (by omega) (fun H4 v2 r2 dv2 hf2 hp2 hb4 k4 => ?_)
      walk_at "go"
      refine ⟨(by show 3 ≤ sizeLine; decide), fun q hq => ?_⟩
      exact fin _ _ (.n2 .both r r2) _ (dp_n2 (o := .both) (vs := []) hq .nil (dp_bag dv hb3 k4) dv2) ⟨trivial, rfl, hf, hf2⟩ (by show r.parts + r2.parts + 1 ≤ _; omega) (hb4.new hq) (by omega) (k3.trans (k4.trans (Same.kp (same_new hq))))
    walk_at "go"
    refine r_iteN' (fun h11 => ?_) (fun h11 => ?_)
    · walk_at "go"
      refine inner _ _ hb1 (by omega) (fun H3 v r dv hf hp hb3 k3 => ?_)
      walk_at "go"
      refine inner _ _ hb3 (by omega) (fun H4 v2 r2 dv2 hf2 hp2 hb4 k4 => ?_)
      walk_at "go"
      refine ⟨(by show 3 ≤ sizeLine; decide), fun q hq => ?_⟩
      exact fin _ _ (.n2 .either r r2) _ (dp_n2 (o := .either) (vs := []) hq .nil (dp_bag dv hb3 k4) dv2) ⟨trivial, rfl, hf, hf2⟩ (by show r.parts + r2.parts + 1 ≤ _; omega) (hb4.new hq) (by omega) (k3.trans (k4.trans (Same.kp (same_new hq))))
    · walk_at "go"
      refine inner _ _ hb1 (by omega) (fun H3 v r dv hf hp hb3 k3 => ?_)
      walk_at "go"
      refine ⟨(by show 2 ≤ sizeLine; decide), fun q hq => ?_⟩
      exact fin _ _ (.n1 .not r) _ (dp_n1 (o := .not) (vs := []) hq .nil dv) ⟨trivial, rfl, hf⟩ (by show r.parts + 1 ≤ _; omega) (hb3.new hq) (by omega) (k3.trans (Same.kp (same_new hq)))
theorem ro_all {f : Addr} {fd : FuncData} (F : Fun K "_law_rule_of" "_law_rule_of" sLRuleOf f fd) (B : Bl mg) (Op : OPick P w K mg base) (Osm : OSumG P w K mg base) (Oro : ORowsG P w K mg base) (Ogo : OGoals P w K mg base) (Ofo : OFacesG P w K mg base)
    (m : mg "_law_rule_of" = some (.ref f)) (bb : Binds K fd ["_law_bag", "_law_signs", "_law_deep"] []) : ∀ n : Nat, ORuleOf n P w K mg base
  | 0 => ⟨f, fd, none_ok fun vs H Q E h => by obtain ⟨b, z, n, d, _, hd, _⟩ := h; omega, m, F.kp, bb⟩
  | n + 1 => ⟨f, fd, ok_ruleOf F B Op Osm Oro Ogo Ofo (ro_all F B Op Osm Oro Ogo Ofo m bb n), m, F.kp, bb⟩
end
end K4

/-! L69a -/


namespace K4
open PySem L2 K1
abbrev sLNoList : Stmt := top 72
abbrev nLNoList : List Str := ["_law_thing", "_law_part"]
theorem scLNoList : FnScope nLNoList ["_law_thing"] (defScope sLNoList) := ⟨rfl, rfl, rfl, by decide +kernel, rfl, by decide +kernel, by decide +kernel⟩
abbrev sLSame : Stmt := top 73
abbrev nLSame : List Str := ["_law_told", "_law_wanted"]
theorem scLSame : FnScope nLSame ["_law_told", "_law_wanted"] (defScope sLSame) := ⟨rfl, rfl, rfl, by decide +kernel, rfl, by decide +kernel, by decide +kernel⟩
def spNoList (K : PySem.W.Frag) (n : Nat) : Sp := fun vs H Q _ => ∃ (v : V) (d : PyData), vs = [v] ∧ Dp K H v d ∧ pure d = true ∧ wide d = true ∧ d.depth < n ∧ ∀ H', Same H H' → Q (.bl true) H'
def spSame (K : PySem.W.Frag) : Sp := fun vs H Q _ => ∃ (a b : V) (ns : List Nat), vs = [a, b] ∧ Dp K H a (.tuple (ns.map pn)) ∧ Dp K H b (.tuple (ns.map pn)) ∧ ns.length ≤ 1000 ∧ ∀ H', Same H H' → Q (.bl true) H'
section
variable {P : Program} {w : World} {K : PySem.W.Frag} {mg : Str → Option Value} {base : Heap} {dO dI : Addr}
abbrev ONL (n : Nat) (P : Program) (w : World) (K : PySem.W.Frag) (mg : Str → Option Value) (base : Heap) : Prop := Own P w K mg base "_law_no_list" n ["_law_thing"] (spNoList K n)
theorem ok_noList {n : Nat} {f : Addr} {fd : FuncData} (F : Fun K "_law_no_list" "_law_no_list" sLNoList f fd) (B : Bl mg) (Onl : ONL n P w K mg base) : FnOk P w K mg base CX0 (n + 1) f fd ["_law_thing"] (spNoList K (n + 1)) := by
  refine F.ok scLNoList (fun vs H Q E h => ?_) (fun cdv A outer s H vs Q E hr h => ?_)
  · obtain ⟨v, d, rfl, _⟩ := h
    rfl
  · obtain ⟨v, d, rfl, hv, hp, hw, hd, k⟩ := h
    refine ⟨_, (pss_cons (ps_if (pt_val (pe_callB (id := "isinstance") (r := rIsi K) call_isi (by rfl) B.isin (by decide +kernel) (pa_cons (pv 0) (pa_cons (pe_bltn (v := .ty "tuple") (by rfl) B.tuple (by decide +kernel) rfl) pa_nil)))) (pss_one (ps_ret (pe_callB (cr_all rfl) (by rfl) B.all (by decide +kernel) (pa_cons (pe_lc (own := [("_law_part", 1)]) (g := gName 1) (tt := tYes) rfl scLNoList.nd (pi_tup (pv 0)) (blkOk_by (N := nLNoList) (sc := defScope sLNoList) (by decide +kernel)) (fun _ _ _ _ _ => (pg_name (i := 1) scLNoList.nd rfl (Or.inl rfl))) (fun _ _ _ _ _ => pts_nil) (fun _ _ _ _ _ => (pe_own Onl hr (pa_cons (pv 1) pa_nil)))) pa_nil)))) pss_nil) (pss_one (ps_ret (pe_and (pe_not (pe_callB (id := "isinstance") (r := rIsi K) call_isi (by rfl) B.isin (by decide +kernel) (pa_cons (pv 0) (pa_cons (pe_bltn (v := .ty "list") (by rfl) B.list (by decide +kernel) rfl) pa_nil)))) (pe_one (pe_not (pe_callB (id := "isinstance") (r := rIsi K) call_isi (by rfl) B.isin (by decide +kernel) (pa_cons (pv 0) (pa_cons (pe_bltn (v := .ty "bool") (by rfl) B.bool (by decide +kernel) rfl) pa_nil))))))))), ?_⟩
    try dsimp only [cxOf, Cx.nox, Cx.wish]
    walk_at "go"
    cases hv with
    | int i =>
      refine r_isi (b := false) (.ty "tuple") (.base (.int _)) (kit_ty (by decide +kernel)) ?_
      walk_at "go"
      refine r_isi (b := false) (.ty "list") (.base (.int _)) (kit_ty (by decide +kernel)) ?_
      walk_at "go"
      refine r_isi (b := false) (.ty "bool") (.base (.int _)) (kit_ty (by decide +kernel)) ?_
      walk_at "go"
      exact k H (Same.refl _)
    | str x =>
      refine r_isi (b := false) (.ty "tuple") (.base (.str _)) (kit_ty (by decide +kernel)) ?_
      walk_at "go"
      refine r_isi (b := false) (.ty "list") (.base (.str _)) (kit_ty (by decide +kernel)) ?_
      walk_at "go"
      refine r_isi (b := false) (.ty "bool") (.base (.str _)) (kit_ty (by decide +kernel)) ?_
      walk_at "go"
      exact k H (Same.refl _)
    | non =>
      refine r_isi (b := false) (.ty "tuple") (.base .non) (kit_ty (by decide +kernel)) ?_
      walk_at "go"
      refine r_isi (b := false) (.ty "list") (.base .non) (kit_ty (by decide +kernel)) ?_
      walk_at "go"
      refine r_isi (b := false) (.ty "bool") (.base .non) (kit_ty (by decide +kernel)) ?_
      walk_at "go"
      exact k H (Same.refl _)
    | bl => simp [pure] at hp
    | lst => simp [pure] at hp
    | @tup a xs ds hS hA =>
      have hpA : pureA ds = true := by simpa [pure] using hp
      have hwA : ds.length ≤ 1000 ∧ wideA ds = true := by simpa [wide] using hw
      have hdA : PyData.depthAll ds < n := by rw [PyData.depth] at hd; omega
      refine r_isi (b := true) (.ty "tuple") (tyxT hS) (kit_ty (by decide +kernel)) ?_
      walk_at "go"
      refine ⟨⟨_, hS⟩, fun D hD => ?_⟩
      refine lc_gen (walk_tup (K := K) (a := a) (xs := xs)) (fun _ => rfl) (fun acc H' => acc = (List.replicate acc.length true).map V.bl ∧ Same H H') ⟨rfl, same_new hD⟩ (fun acc H' _ q => Same.sqT q.2 hS) ?_ ?_
      · rintro i x acc H' hx hl hacc ⟨ha, sm⟩
        obtain ⟨di, hdi, hxd⟩ := dpA_get hA hx
        have hmem := List.mem_of_getElem? hdi
        have hil := (List.getElem?_eq_some_iff.mp hdi).1
        walk_at "go"
        refine ⟨x, di, rfl, dp_keep (Same.keeps sm) _ _ hxd, pureA_iff.mp hpA di hmem, wideA_iff.mp hwA.2 di hmem, Nat.lt_of_le_of_lt (depthA_mem (Nat.le_refl _) di hmem) hdA, fun H2 s2 => ?_⟩
        refine pp_next (s2 _ _ hacc) hl (line60 (by omega)) ⟨?_, same_upd (sm.trans s2) hD⟩
        rw [List.length_append]
        show acc ++ [V.bl true] = (List.replicate (acc.length + 1) true).map V.bl
        rw [List.replicate_succ', List.map_append, ← ha]
        rfl
      · rintro acc H' hl hacc ⟨ha, sm⟩
        walk_at "go"
        rw [ha] at hacc
        refine r_all (SqL.of hacc) ?_
        have e : (List.replicate acc.length true).all id = true := List.all_eq_true.mpr fun b hb => by rw [(List.mem_replicate.mp hb).2]; rfl
        rw [e]
        exact k _ sm
theorem nl_all {f : Addr} {fd : FuncData} (F : Fun K "_law_no_list" "_law_no_list" sLNoList f fd) (B : Bl mg) (m : mg "_law_no_list" = some (.ref f)) (b : Binds K fd ["_law_thing"] []) : ∀ n : Nat, ONL n P w K mg base
  | 0 => ⟨f, fd, none_ok fun vs H Q E h => by obtain ⟨v, d, _, _, _, _, hd, _⟩ := h; omega, m, F.kp, b⟩
  | n + 1 => ⟨f, fd, ok_noList F B (nl_all F B m b n), m, F.kp, b⟩
theorem ok_same {f : Addr} {fd : FuncData} (F : Fun K "_law_same_tuple" "_law_same_tuple" sLSame f fd) (B : Bl mg) (Onl : ONL 3 P w K mg base) : FnOk P w K mg base CX0 4 f fd ["_law_told", "_law_wanted"] (spSame K) := by
  refine F.ok scLSame (fun vs H Q E h => ?_) (fun cdv A outer s H vs Q E hr h => ?_)
  · obtain ⟨a, b, ns, rfl, _⟩ := h
    rfl
  · obtain ⟨a, b, ns, rfl, ha, hb, hl, k⟩ := h
    refine ⟨_, (pss_one (ps_ret (pe_and (pe_callB (id := "isinstance") (r := rIsi K) call_isi (by rfl) B.isin (by decide +kernel) (pa_cons (pv 0) (pa_cons (pe_bltn (v := .ty "tuple") (by rfl) B.tuple (by decide +kernel) rfl) pa_nil))) (pe_and (pe_cmpR (op_eqD hr.units) (pv 0) (pv 1) (nomark _)) (pe_one (pe_own Onl (hr.mono (by omega)) (pa_cons (pv 0) pa_nil))))))), ?_⟩
    try dsimp only [cxOf, Cx.nox, Cx.wish]
    walk_at "go"
    have hT : TyX K H a (.type "tuple") := by
      cases ha with
      | tup h _ => exact tyxT h
    refine r_isi (b := true) (.ty "tuple") hT (kit_ty (by decide +kernel)) ?_
    walk_at "go"
    have fl : flatN (PyData.tuple (ns.map pn)) = true := flat_sq (t := true) fun d hd => (mem_map_pn hd).1
    have dl : (PyData.tuple (ns.map pn)).depth ≤ 1 := depth_sq (t := true) (n := 0) fun d hd => (mem_map_pn hd).2
    have sh : SeqAt.shaped (PyData.tuple (ns.map pn)) = true := shaped_of fl (by omega)
    refine ⟨_, _, ha, hb, sh, sh, ?_⟩
    rw [SeqAt.eqv_refl _ (canLay_flat _ fl)]
    walk_at "go"
    exact ⟨a, _, rfl, ha, by rw [K4.pure]; exact pureA_iff.mpr fun d hd => by obtain ⟨n, _, rfl⟩ := List.mem_map.mp hd; rfl, wide_nums hl, by omega, fun H1 s1 => k H1 s1⟩
end
end K4

/-! L69b -/


namespace K4
open PySem L2 K1
abbrev sLLarge : Stmt := top 74
abbrev nLLarge : List Str := ["_law_bag", "_law_large", "_law_long"]
theorem scLLarge : FnScope nLLarge ["_law_bag"] (defScope sLLarge) := ⟨rfl, rfl, rfl, by decide +kernel, rfl, by decide +kernel, by decide +kernel⟩
abbrev sLRulesOf : Stmt := top 75
abbrev nLRulesOf : List Str := ["_law_bag", "_law_signs", "_law_told", "_law_k"]
theorem scLRulesOf : FnScope nLRulesOf ["_law_bag", "_law_signs"] (defScope sLRulesOf) := ⟨rfl, rfl, rfl, by decide +kernel, rfl, by decide +kernel, by decide +kernel⟩
def rLarge (g : Nat) : R := .n2 .both (.n0 (.sum 59 [1, 2] 3)) (.n0 (.sum 60 [7] g))
def rLong (g : Nat) : R := .n0 (.sum 60 [59, 1, 0, 7, 30, 2, 5, 11] g)
theorem fit_large {g : Nat} (h : g < 60) (z : List Nat) : (rLarge g).fit z := by
  refine ⟨trivial, rfl, ⟨⟨by decide, by decide, by decide, by decide, by decide, by decide⟩, rfl⟩, ⟨⟨by decide, by decide, by decide, by decide, by decide, h⟩, rfl⟩⟩
theorem fit_long {g : Nat} (h : g < 60) (z : List Nat) : (rLong g).fit z := ⟨⟨by decide, by decide, by decide, by decide, by decide, h⟩, rfl⟩
def spLarge (K : PySem.W.Frag) : Sp := fun vs H Q _ => ∃ (b : Addr) (n : Nat), vs = [.ref b] ∧ IsBag H b n ∧ n + 3 ≤ 2 ^ 40 ∧ Drawn K b n 3 H Q fun r => (∀ z, r.fit z) ∧ r.parts ≤ 7
section
variable {P : Program} {w : World} {K : PySem.W.Frag} {mg : Str → Option Value} {base : Heap} {dO dI : Addr}
theorem dp_tup {H : Hp} {p : Addr} {vs : List V} {ds : List PyData} (hp : H p = none) (h : DpAll K H vs ds) : Dp K (upd H p (.tup vs)) (.ref p) (.tuple ds) :=
  .tup (SqT.of upd_same) (dpA_keep (Same.keeps (same_new hp)) _ _ h)
theorem ok_large {f : Addr} {fd : FuncData} (F : Fun K "_law_large_rule" "_law_large_rule" sLLarge f fd) (B : Bl mg) (Op : OPick P w K mg base) (Oo : OOneOf P w K mg base) : FnOk P w K mg base CX0 3 f fd ["_law_bag"] (spLarge K) := by
  refine F.ok scLLarge (fun vs H Q E h => ?_) (fun cdv A outer s H vs Q E hr h => ?_)
  · obtain ⟨b, n, rfl, _⟩ := h
    rfl
  · obtain ⟨b, n, rfl, hb, hn, k⟩ := h
    refine ⟨_, (pss_cons (ps_set (i := 1) scLLarge.nd rfl (Or.inl rfl) (pe_tup (pa_cons pe_str (pa_cons (pe_tup (pa_cons pe_str (pa_cons pe_int (pa_cons (pe_tup (pa_cons pe_int (pa_cons pe_int pa_nil))) (pa_cons pe_int pa_nil))))) (pa_cons (pe_tup (pa_cons pe_str (pa_cons pe_int (pa_cons (pe_tup (pa_cons pe_int pa_nil)) (pa_cons (pe_own Op (hr.mono (by omega)) (pa_cons (pv 0) (pa_cons pe_int pa_nil))) pa_nil))))) pa_nil))))) (pss_cons (ps_set (i := 2) scLLarge.nd rfl (Or.inl rfl) (pe_tup (pa_cons pe_str (pa_cons pe_int (pa_cons (pe_tup (pa_cons pe_int (pa_cons pe_int (pa_cons pe_int (pa_cons pe_int (pa_cons pe_int (pa_cons pe_int (pa_cons pe_int (pa_cons pe_int pa_nil))))))))) (pa_cons (pe_own Op (hr.mono (by omega)) (pa_cons (pv 0) (pa_cons pe_int pa_nil))) pa_nil)))))) (pss_one (ps_ret (pe_own Oo (hr.mono (by omega)) (pa_cons (pv 0) (pa_cons (pe_lst (pa_cons (pv 1) (pa_cons (pv 2) (pa_cons (pe_tup (pa_cons pe_str (pa_cons pe_int (pa_cons pe_int (pa_cons (pv 2) pa_nil))))) (pa_cons (pe_tup (pa_cons pe_str (pa_cons (pv 1) pa_nil))) (pa_cons (pe_tup (pa_cons pe_str (pa_cons (pv 1) (pa_cons (pe_tup (pa_cons pe_str (pa_cons (pv 2) pa_nil))) pa_nil)))) pa_nil)))))) pa_nil))))))), ?_⟩
    try dsimp only [cxOf, Cx.nox, Cx.wish]
    walk_at "go"
    refine ⟨small_line (by simp), fun p1 hp1 => ?_⟩
    have s1 := same_new (o := HO.tup [V.int 1, V.int 2]) hp1
    have d1 := dp_tup (K := K) hp1 (show DpAll K H [V.int 1, V.int 2] [.int 1, .int 2] from .cons (.int _) (.cons (.int _) .nil))
    generalize upd H p1 (HO.tup [V.int 1, V.int 2]) = H1 at s1 d1 ⊢
    walk_at "go"
    refine ⟨small_line (by simp), fun p2 hp2 => ?_⟩
    have s2 := same_new (o := HO.tup [V.str "sum", V.int 59, V.ref p1, V.int 3]) hp2
    have d2 := dp_tup (K := K) hp2 (show DpAll K H1 [V.str "sum", V.int 59, V.ref p1, V.int 3] ([.str "sum", .int 59, .tuple [.int 1, .int 2], .int 3]) from .cons (.str _) (.cons (.int _) (.cons d1 (.cons (.int _) .nil))))
    generalize upd H1 p2 (HO.tup [V.str "sum", V.int 59, V.ref p1, V.int 3]) = H2 at s2 d2 ⊢
    walk_at "go"
    refine ⟨small_line (by simp), fun p3 hp3 => ?_⟩
    have s3 := same_new (o := HO.tup [V.int 7]) hp3
    have d3 := dp_tup (K := K) hp3 (show DpAll K H2 [V.int 7] [.int 7] from .cons (.int _) .nil)
    generalize upd H2 p3 (HO.tup [V.int 7]) = H3 at s3 d3 ⊢
    walk_at "go"
    have s13 := s1.trans (s2.trans s3)
    have d2 := dp_keep (Same.keeps s3) _ _ d2
    refine ⟨b, 60, n, rfl, hb.same s13, by omega, by decide, fun r4 H4 r40 r41 hb4 of4 => ?_⟩
    obtain ⟨g, rfl⟩ : ∃ g : Nat, r4 = (g : Int) := ⟨r4.toNat, by omega⟩
    have k4 : Kp b H H4 := (Same.kp s13).trans of4.kp
    have kt4 := bag_kt (K := K) (hb.same s13) of4.kp
    have d2 := dp_pure kt4 _ _ rfl d2
    have d3 := dp_pure kt4 _ _ rfl d3
    walk_at "go"
    refine ⟨small_line (by simp), fun p5 hp5 => ?_⟩
    have s5 := same_new (o := HO.tup [V.str "sum", V.int 60, V.ref p3, V.int (g : Int)]) hp5
    have d5 := dp_tup (K := K) hp5 (show DpAll K H4 [V.str "sum", V.int 60, V.ref p3, V.int (g : Int)] ([.str "sum", .int 60, .tuple [.int 7], .int (g : Int)]) from .cons (.str _) (.cons (.int _) (.cons d3 (.cons (.int _) .nil))))
    generalize upd H4 p5 (HO.tup [V.str "sum", V.int 60, V.ref p3, V.int (g : Int)]) = H5 at s5 d5 ⊢
    walk_at "go"
    have d2 := dp_keep (Same.keeps s5) _ _ d2
    refine ⟨small_line (by simp), fun p6 hp6 => ?_⟩
    have s6 := same_new (o := HO.tup [V.str "both", V.ref p2, V.ref p5]) hp6
    have d6 := dp_tup (K := K) hp6 (show DpAll K H5 [V.str "both", V.ref p2, V.ref p5] [.str "both", _, _] from .cons (.str _) (.cons d2 (.cons d5 .nil)))
    generalize upd H5 p6 (HO.tup [V.str "both", V.ref p2, V.ref p5]) = H6 at s6 d6 ⊢
    have dL : Dp K H6 (.ref p6) ((rLarge g).data true) := d6
    clear d6 d5 d3 d2 d1
    have s56 := s5.trans s6
    have hb6 := hb4.same s56
    have k6 := k4.trans (Same.kp s56)
    walk_at "go"
    refine ⟨small_line (by simp), fun p7 hp7 => ?_⟩
    have s7 := same_new (o := HO.tup [V.int 59, V.int 1, V.int 0, V.int 7, V.int 30, V.int 2, V.int 5, V.int 11]) hp7
    have d7 := dp_tup (K := K) hp7 (show DpAll K H6 [V.int 59, V.int 1, V.int 0, V.int 7, V.int 30, V.int 2, V.int 5, V.int 11] [.int 59, .int 1, .int 0, .int 7, .int 30, .int 2, .int 5, .int 11] from .cons (.int _) (.cons (.int _) (.cons (.int _) (.cons (.int _) (.cons (.int _) (.cons (.int _) (.cons (.int _) (.cons (.int _) .nil))))))))
    generalize upd H6 p7 (HO.tup [V.int 59, V.int 1, V.int 0, V.int 7, V.int 30, V.int 2, V.int 5, V.int 11]) = H7 at s7 d7 ⊢
    walk_at "go"
    refine ⟨b, 60, _, rfl, hb6.same s7, by omega, by decide, fun r8 H8 r80 r81 hb8 of8 => ?_⟩
    obtain ⟨g2, rfl⟩ : ∃ g : Nat, r8 = (g : Int) := ⟨r8.toNat, by omega⟩
    have k8 : Kp b H H8 := k6.trans ((Same.kp s7).trans of8.kp)
    have kt8 := bag_kt (K := K) (hb6.same s7) of8.kp
    have d7 := dp_pure kt8 _ _ rfl d7
    have dL := dp_pure kt8 _ _ (R.pure _) (dp_keep (Same.keeps s7) _ _ dL)
    walk_at "go"
    refine ⟨small_line (by simp), fun p9 hp9 => ?_⟩
    have s9 := same_new (o := HO.tup [V.str "sum", V.int 60, V.ref p7, V.int (g2 : Int)]) hp9
    have d9 := dp_tup (K := K) hp9 (show DpAll K H8 [V.str "sum", V.int 60, V.ref p7, V.int (g2 : Int)] ([.str "sum", .int 60, _, .int (g2 : Int)]) from .cons (.str _) (.cons (.int _) (.cons d7 (.cons (.int _) .nil))))
    generalize upd H8 p9 (HO.tup [V.str "sum", V.int 60, V.ref p7, V.int (g2 : Int)]) = H9 at s9 d9 ⊢
    have dG : Dp K H9 (.ref p9) ((rLong g2).data true) := d9
    clear d9 d7
    have dL := dp_keep (Same.keeps s9) _ _ dL
    walk_at "go"
    refine ⟨small_line (by simp), fun p10 hp10 => ?_⟩
    have s10 := same_new (o := HO.tup [V.str "cut", V.int 3, V.int 3, V.ref p9]) hp10
    have d10 : Dp K (upd H9 p10 (HO.tup [V.str "cut", V.int 3, V.int 3, V.ref p9])) (.ref p10) ((R.n1 (.cut 3 3) (rLong g2)).data true) := dp_n1 (o := .cut 3 3) (vs := [vi 3, vi 3]) hp10 (.cons (.int _) (.cons (.int _) .nil)) dG
    have dL := dp_keep (Same.keeps s10) _ _ dL
    have dG := dp_keep (Same.keeps s10) _ _ dG
    generalize upd H9 p10 (HO.tup [V.str "cut", V.int 3, V.int 3, V.ref p9]) = H10 at s10 d10 dL dG ⊢
    walk_at "go"
    refine ⟨small_line (by simp), fun p11 hp11 => ?_⟩
    have s11 := same_new (o := HO.tup [V.str "back", V.ref p6]) hp11
    have d11 : Dp K (upd H10 p11 (HO.tup [V.str "back", V.ref p6])) (.ref p11) ((R.n1 .back (rLarge g)).data true) := dp_n1 (o := .back) (vs := []) hp11 .nil dL
    have dL := dp_keep (Same.keeps s11) _ _ dL
    have dG := dp_keep (Same.keeps s11) _ _ dG
    generalize upd H10 p11 (HO.tup [V.str "back", V.ref p6]) = H11 at s11 d11 dL dG ⊢
    walk_at "go"
    have d10 := dp_keep (Same.keeps s11) _ _ d10
    refine ⟨small_line (by simp), fun p12 hp12 => ?_⟩
    have s12 := same_new (o := HO.tup [V.str "not", V.ref p9]) hp12
    have d12 : Dp K (upd H11 p12 (HO.tup [V.str "not", V.ref p9])) (.ref p12) ((R.n1 .not (rLong g2)).data true) := dp_n1 (o := .not) (vs := []) hp12 .nil dG
    have dL := dp_keep (Same.keeps s12) _ _ dL
    have dG := dp_keep (Same.keeps s12) _ _ dG
    generalize upd H11 p12 (HO.tup [V.str "not", V.ref p9]) = H12 at s12 d12 dL dG ⊢
    walk_at "go"
    have d10 := dp_keep (Same.keeps s12) _ _ d10
    have d11 := dp_keep (Same.keeps s12) _ _ d11
    refine ⟨small_line (by simp), fun p13 hp13 => ?_⟩
    have s13 := same_new (o := HO.tup [V.str "either", V.ref p6, V.ref p12]) hp13
    have d13 : Dp K (upd H12 p13 (HO.tup [V.str "either", V.ref p6, V.ref p12])) (.ref p13) ((R.n2 .either (rLarge g) (.n1 .not (rLong g2))).data true) := dp_n2 (o := .either) (vs := []) hp13 .nil dL d12
    have dL := dp_keep (Same.keeps s13) _ _ dL
    have dG := dp_keep (Same.keeps s13) _ _ dG
    generalize upd H12 p13 (HO.tup [V.str "either", V.ref p6, V.ref p12]) = H13 at s13 d13 dL dG ⊢
    walk_at "go"
    have d10 := dp_keep (Same.keeps s13) _ _ d10
    have d11 := dp_keep (Same.keeps s13) _ _ d11
    have s913 := s9.trans (s10.trans (s11.trans (s12.trans s13)))
    refine ⟨(by show 5 ≤ sizeLine; decide), fun D hD => ?_⟩
    have hbD := hb8.same s913
    have nDb := hbD.ne hD
    have sD := same_new (o := HO.lst [V.ref p6, V.ref p9, V.ref p10, V.ref p11, V.ref p13]) hD
    walk_at "go"
    refine ⟨b, .ref D, _, _, rfl, hbD.new hD, by omega, .inr ⟨D, rfl, SqL.of upd_same, nDb, by show 5 ≤ 1000; decide⟩, by simp, fun v H15 hv hb15 of15 => ?_⟩
    have kt := bag_kt (K := K) (hbD.new (o := HO.lst [V.ref p6, V.ref p9, V.ref p10, V.ref p11, V.ref p13]) hD) of15.kp
    have fin : ∀ r : R, Dp K H13 v (r.data true) → (∀ z, r.fit z) → r.parts ≤ 7 → Q v H15 := fun r dv hf hp =>
      k H15 v r (dp_pure kt _ _ r.pure (dp_keep (Same.keeps sD) _ _ dv)) ⟨hf, hp⟩ hb15 (k8.trans ((Same.kp (s913.trans sD)).trans of15.kp))
    have fL := fun z => fit_large (g := g) (by omega) z
    have fG := fun z => fit_long (g := g2) (by omega) z
    simp only [List.mem_cons, List.not_mem_nil, or_false] at hv
    rcases hv with rfl | rfl | rfl | rfl | rfl
    · exact fin _ dL fL (by show 3 ≤ 7; decide)
    · exact fin _ dG fG (by show 1 ≤ 7; decide)
    · exact fin _ d10 (fun z => ⟨⟨by decide, by decide⟩, rfl, fG z⟩) (by show 2 ≤ 7; decide)
    · exact fin _ d11 (fun z => ⟨trivial, rfl, fL z⟩) (by show 4 ≤ 7; decide)
    · exact fin _ d13 (fun z => ⟨trivial, rfl, fL z, trivial, rfl, fG z⟩) (by show 6 ≤ 7; decide)
abbrev OLarge (P : Program) (w : World) (K : PySem.W.Frag) (mg : Str → Option Value) (base : Heap) : Prop := Own P w K mg base "_law_large_rule" 3 ["_law_bag"] (spLarge K)
def spRulesOf (K : PySem.W.Frag) : Sp := fun vs H Q _ => ∃ (b : Addr) (z : Str) (n : Nat), vs = [.ref b, .str z] ∧ IsBag H b n ∧ n + 30000 ≤ 2 ^ 38 ∧ Good z ∧
  ∀ H' L vs (rs : List R), H L = none → H' L = some (.lst vs) → DpAll K H' vs (rs.map (R.data true)) → (∀ r ∈ rs, r.fit (tl z) ∧ r.parts ≤ 7) → 1 ≤ rs.length → rs.length ≤ 5 → IsBag H' b (n + 30000) → Kp b H H' → Q (.ref L) H'
theorem ok_rulesOf {f : Addr} {fd : FuncData} (F : Fun K "_law_rules_of" "_law_rules_of" sLRulesOf f fd) (B : Bl mg) (Op : OPick P w K mg base) (Ola : OLarge P w K mg base) (Oru : ORuleOf 3 P w K mg base) : FnOk P w K mg base CX0 7 f fd ["_law_bag", "_law_signs"] (spRulesOf K) := by
  refine F.ok scLRulesOf (fun vs H Q E h => ?_) (fun cdv A outer s H vs Q E hr h => ?_)
  · obtain ⟨b, z, n, rfl, _⟩ := h
    rfl
  · obtain ⟨b, z, n, rfl, hb, hn, gz, k⟩ := h
    refine ⟨_, (pss_cons (ps_set (i := 2) scLRulesOf.nd rfl (Or.inl rfl) (pe_lst pa_nil)) (pss_cons (ps_for PassesOwn.never rfl (pi_range1 rfl B.range (pa_cons (pe_ix ix_list (pe_lst (pa_cons pe_int (pa_cons pe_int (pa_cons pe_int (pa_cons pe_int (pa_cons pe_int (pa_cons pe_int pa_nil))))))) (pe_own Op (hr.mono (by omega)) (pa_cons (pv 0) (pa_cons pe_int pa_nil))) (fun _ _ => rfl)) pa_nil)) (pg_name (i := 3) scLRulesOf.nd rfl (Or.inl rfl)) (pss_one (ps_if (pt_cmpR op_eq (pe_own Op (hr.mono (by omega)) (pa_cons (pv 0) (pa_cons pe_int pa_nil))) pe_int (nomark _)) (pss_one (ps_expr (pe_bm PySem.F.plainAttrs_list PySem.F.slot_list_append PySem.F.type_list_append mt_append (pv 2) (pa_cons (pe_own Ola (hr.mono (by omega)) (pa_cons (pv 0) pa_nil)) pa_nil)))) (pss_one (ps_expr (pe_bm PySem.F.plainAttrs_list PySem.F.slot_list_append PySem.F.type_list_append mt_append (pv 2) (pa_cons (pe_own Oru (hr.mono (by omega)) (pa_cons (pv 0) (pa_cons (pv 1) (pa_cons (pe_own Op (hr.mono (by omega)) (pa_cons (pv 0) (pa_cons pe_int pa_nil))) pa_nil)))) pa_nil))))))) (pss_one (ps_ret (pv 2))))), ?_⟩
    try dsimp only [cxOf, Cx.nox, Cx.wish]
    walk_at "go"
    refine ⟨(by show 0 ≤ sizeLine; decide), fun L hL => ?_⟩
    have nLb := hb.ne hL
    have sL := same_new (o := HO.lst []) hL
    have hbL := hb.new (o := HO.lst []) hL
    have eL : (upd H L (.lst [])) L = some (.lst []) := upd_same
    generalize upd H L (.lst []) = H1 at sL hbL eL ⊢
    walk_at "go"
    refine pick_new (xs := [1, 2, 2, 3, 4, 5]) hbL rfl rfl (fun _ _ q => ⟨_, rfl, q⟩) (by decide) (by decide) (by omega) (fun m H2 hm hb2 k2 => ?_)
    have hm15 : 1 ≤ m ∧ m ≤ 5 := by simp only [List.mem_cons, List.not_mem_nil, or_false] at hm; omega
    have eL2 := k2 _ _ nLb eL
    walk_at "go"
    refine ⟨by omega, by omega, fr_range (lo := 0) (n := m) (fun i σ H' => ∃ (o4 : Option V) (vs : List V) (rs : List R), σ = [some (.ref b), some (.str z), some (.ref L), o4] ∧ H' L = some (.lst vs) ∧ DpAll K H' vs (rs.map (R.data true)) ∧ (∀ r ∈ rs, r.fit (tl z) ∧ r.parts ≤ 7) ∧ rs.length = i ∧ IsBag H' b (n + 1 + 5000 * i) ∧ Kp b H H')
      ⟨none, [], [], rfl, eL2, .nil, (fun r h => by cases h), rfl, hb2.mono (by omega), (Same.kp sL).trans k2⟩ ?_ ?_⟩
    · rintro i σ H3 hi ⟨o4, vs, rs, rfl, e3, dA, hrs, hl, hb3, k3⟩
      have vl : vs.length = i := by have := dpA_len dA; rw [List.length_map, hl] at this; exact this
      have add : ∀ (H5 : Hp) (v : V) (r : R) (H6 : Hp), Dp K H6 v (r.data true) → r.fit (tl z) ∧ r.parts ≤ 7 → IsBag H6 b (n + 1 + 5000 * (i + 1)) → Kp b H3 H6 → ∃ (o4 : Option V) (vs2 : List V) (rs : List R), [some (V.ref b), some (.str z), some (.ref L), some (vi i)] = [some (.ref b), some (.str z), some (.ref L), o4] ∧ (upd H6 L (.lst (vs ++ [v]))) L = some (.lst vs2) ∧ DpAll K (upd H6 L (.lst (vs ++ [v]))) vs2 (rs.map (R.data true)) ∧ (∀ r ∈ rs, r.fit (tl z) ∧ r.parts ≤ 7) ∧ rs.length = i + 1 ∧ IsBag (upd H6 L (.lst (vs ++ [v]))) b (n + 1 + 5000 * (i + 1)) ∧ Kp b H (upd H6 L (.lst (vs ++ [v]))) := by
        intro H5 v r H6 dv hr hb6 k6
        have e6 := k6 _ _ nLb e3
        refine ⟨_, vs ++ [v], rs ++ [r], rfl, upd_same, ?_, fun x hx => ?_, by rw [List.length_append, hl]; rfl, bag_upd hb6 nLb, kp_upd' (k3.trans k6) hL⟩
        · rw [List.map_append]
          exact dpA_app (dpA_pure (KT.trans (bag_kt hb3 k6) (kt_lst e6)) _ _ (pureA_iff.mpr fun y hy => by obtain ⟨u, _, rfl⟩ := List.mem_map.mp hy; exact u.pure) dA) (.cons (dp_pure (kt_lst e6) _ _ r.pure dv) .nil)
        · rcases List.mem_append.mp hx with q | q
          · exact hrs x q
          · rw [List.mem_singleton.mp q]; exact hr
      walk_at "go"
      refine ⟨b, 8, _, rfl, hb3, by omega, by decide, fun r1 H4 _ _ hb4 of4 => ?_⟩
      have e4 := of4.kp _ _ nLb e3
      rw [show ((0 : Int) + (i : Int)) = (i : Int) by omega]
      walk_at "go"
      refine r_iteN' (fun h0 => ?_) (fun h0 => ?_)
      · walk_at "go"
        refine ⟨tyL (SqL.of e4), ?_⟩
        walk_at "go"
        refine ⟨b, _, rfl, hb4, by omega, fun H5 v r dv hr hb5 k5 => ?_⟩
        walk_at "go"
        refine ⟨L, vs, v, rfl, rfl, k5 _ _ nLb e4, line60 (by omega), ?_⟩
        exact add H4 v r H5 dv ⟨hr.1 _, hr.2⟩ (hb5.mono (by omega)) (of4.kp.trans k5)
      · walk_at "go"
        refine ⟨tyL (SqL.of e4), ?_⟩
        walk_at "go"
        refine ⟨b, 3, _, rfl, hb4, by omega, by decide, fun r2 H5 r20 r21 hb5 of5 => ?_⟩
        obtain ⟨d, rfl⟩ : ∃ d : Nat, r2 = (d : Int) := ⟨r2.toNat, by omega⟩
        have cd : cRO d ≤ 4000 := (show ∀ d < 3, cRO d ≤ 4000 by decide) d (by omega)
        have pd : pRO d ≤ 7 := (show ∀ d < 3, pRO d ≤ 7 by decide) d (by omega)
        walk_at "go"
        refine ⟨b, z, _, d, rfl, by omega, hb5, by omega, gz, fun H6 v r dv hr hb6 k6 => ?_⟩
        walk_at "go"
        have k46 := of5.kp.trans k6
        refine ⟨L, vs, v, rfl, rfl, k46 _ _ nLb e4, line60 (by omega), ?_⟩
        exact add H4 v r H6 dv ⟨hr.1, by have := hr.2; omega⟩ (hb6.mono (by omega)) (of4.kp.trans k46)
    · rintro σ H3 ⟨o4, vs, rs, rfl, e3, dA, hrs, hl, hb3, k3⟩
      walk_at "go"
      exact k _ L vs rs hL e3 dA hrs (by omega) (by omega) (hb3.mono (by omega)) k3
end
end K4

/-! E69 -/

namespace K1
open PySem L2 PyProof.Rows PySem.W PySem.Calls
theorem jp0 {M : Model} {A : Around} {E : Value → Shared → Prop} {s : Shared} {out : Str} {x : Sem Value} {rest : List (Sem Value)} {Q : Value → Shared → Prop} {n m : Nat} (ho : out.length ≤ n) (hs : n + m ≤ sizeLine)
    (h : wpAny M A x (fun v s₁ => match v with | .str y _ => y.length ≤ m ∧ ∀ o : Str, o.length ≤ n + m → wpAny M A (joinParts o rest) Q E s₁ | _ => False) E s) : wpAny M A (joinParts out (x :: rest)) Q E s := by
  refine joinParts_cons (wpAny_mono h (fun v s₁ h₁ => ?_) fun _ _ e => e)
  cases v <;> first
    | exact h₁.elim
    | (rename_i y _
       have e : (out ++ y).length ≤ n + m := by
         have := h₁.1
         rw [strLen_append]; omega
       exact ⟨Nat.le_trans e hs, h₁.2 _ e⟩)
theorem jp1 {M : Model} {A : Around} {E : Value → Shared → Prop} {s : Shared} {env : Env} {out : Str} {e : Expr} {es : List Expr} {Q : Value → Shared → Prop} {n m : Nat} (ho : out.length ≤ n) (hs : n + m ≤ sizeLine)
    (h : wpAny M A (eval e env) (fun v s₁ => match v with | .str y _ => y.length ≤ m ∧ ∀ o : Str, o.length ≤ n + m → wpAny M A (joinParts o (evalEach es env)) Q E s₁ | _ => False) E s) : wpAny M A (joinParts out (evalEach (e :: es) env)) Q E s := joinParts_consE (jp0 ho hs h)
theorem jpN {M : Model} {A : Around} {E : Value → Shared → Prop} {s : Shared} {env : Env} {out : Str} {Q : Value → Shared → Prop} {n : Nat} (ho : out.length ≤ n) (hs : n ≤ sizeLine) (h : Q (.str out s.toks) { s with toks := s.toks + 1 }) : wpAny M A (joinParts out (evalEach [] env)) Q E s := joinParts_nilE (joinParts_nil h (Nat.le_trans ho hs))
abbrev sBadM : Stmt := inClass (top 7) 0
/-- what is known of the class of the errors, and of its __init__ -/
structure BadFM (P : Program) (K : Frag) (mg : Str → Option Value) (f : Addr) (fd : FuncData) (C : Addr) : Prop where
  ex : ∃ (oc : Value) (od : Option Addr) (kV doc pm : Value) (an : Option Addr) (ct : Value) (osl : Array (Option Value)) (cda cc : Addr) (ccl : Value) (cdd : Option Addr) (vs : Array Value) (ccs : Array (Option Value)) (file : Str) (tf : Tok) (cl : Value) (cld : Option Addr) (csl : Array (Option Value)),
    fd = ksFn "__init__" "TooMany.__init__" (defArgs sBadM) (defBody sBadM) (defScope sBadM) .none kV doc pm an (.ref cda) ct cc ∧ K.lookup f = some ⟨oc, od, .func fd, osl⟩ ∧ codeIn K (.ref cda) "TooMany.__init__" = true ∧
    K.lookup cda = some ⟨ccl, cdd, .fields vs, ccs⟩ ∧ vs[2]? = some (.str file tf) ∧ (P.main.file == file) = true ∧ K.lookup cc = some ⟨cl, cld, .cell (some (.ref C)), csl⟩
  sup : (List.lookup (PySem.Str.ofString "super") P.main.scope.names).isSome = false
  any : nsIn K cStatics "thirdparty.any" = some none
  mgS : mg "super" = none
  oex : OexC K C
  sin : ks_superIn K C C "__init__" = some (some (.builtin "ValueError.__init__"))
  subC : mroIn K C (.ref C) = some true
  subV : subIn K (.ref C) (.type "ValueError") = some true
  fi : findIn K (.ref C) "what" = some none
def spBadM (C : Addr) : Sp := fun vs H Q _ => ∃ (a : Addr) (x : Str), vs = [.ref a, .str x] ∧ x.length ≤ 100 ∧ H a = some (exo a C none) ∧ ∀ dx, H dx = none → dx ≠ a → Q .non (upd (upd H dx (exd dx [("what", .str x)])) a (exo a C (some dx)))
section
variable {P : Program} {w : World} {K : PySem.W.Frag} {mg : Str → Option Value} {base : Heap}
theorem ok_badM {f C : Addr} {fd : FuncData} (F : BadFM P K mg f fd C) : FnOk P w K mg base CX0 1 f fd ["self", "what"] (spBadM C) := by
  refine ⟨fun vs H Q E h => ?_, fun A outer s H args us vs Q E hr en hb hv hsp => ?_⟩
  · obtain ⟨a, x, rfl, _⟩ := h
    rfl
  obtain ⟨a, x, rfl, hxl, ha, k⟩ := hsp
  obtain ⟨oc, od, kV, doc, pm, an, ct, osl, cda, cc, ccl, cdd, vs, ccs, file, tf, cl, cld, csl, rfl, lk, hcd, lcd, hvs, hfile, lcc⟩ := F.ex
  obtain ⟨nm, q, N, bs, bm, sn, sub, ab, col, dd, k0, k1, k2, k3, k5, hC, hbm⟩ := F.oex.cls
  cases hv with
  | cons h1 t1 =>
  cases t1 with
  | cons h2 t2 =>
  cases t2 with
  | nil =>
  rename_i u1 u2
  have e1 : u1 = .ref a := h1
  subst e1
  obtain ⟨tk, rfl⟩ : ∃ t, u2 = .str x t := h2
  have hda := hr.dp
  have kb : ∀ b o, base.get? b = some o → s.heap.get? b = some o := fun b o e => (en.bs b o e).1
  have X : K.In s.heap := en.mod.kin.keeps kb
  have hcl : clsIn K C = some { name := nm, bases := bs, mro := .ref C :: bm, ns := N, qualname := q, hasDict := true, slotNames := sn, subclasses := sub, abstract := ab, collection := col } := by unfold clsIn; rw [hC]
  obtain ⟨t0, ho⟩ := exo_at en.hok ha
  have nb : ∀ {b o}, base.get? b = some o → b ≠ a := fun e z => by rw [z] at e; have := (en.bs _ _ e).2; rw [ha] at this; cases this
  have aL : a ≠ s.heap.objs.size := Nat.ne_of_lt (Heap.lt_size ho)
  refine ks_codeAny_call_defAt (by omega) (X f _ lk) rfl (en.mod.nolimit.keeps kb) (codeRec_of X hcd) rfl hb (by show ∀ x ∈ (defScope sBadM).names, x.2 ≠ .cell; decide +kernel) ?_ (fun h₀ hns kp => ?_) (by rfl) (by rfl) (by rfl)
  · intro x hx
    rcases List.mem_cons.mp hx with rfl | hx
    · rfl
    · obtain rfl := List.mem_singleton.mp hx
      rfl
  have X0 : K.In h₀ := X.keeps kp
  refine ks_wpAt_execs_cons ?_
  refine ks_wpAt_Expr_any (ks_wpAt_MethodCall ?_ rfl) rfl rfl
  refine ks_wpAt_super_base rfl rfl rfl rfl (X0 f _ lk) rfl rfl rfl (X0 cda _ lcd) rfl hvs hfile F.sup ?_
  obtain ⟨mb, hb1, hb2⟩ := en.mod.blt
  have kb0 : ∀ b o, base.get? b = some o → h₀.get? b = some o := fun b o e => kp b o (kb b o e)
  show wpAny _ _ (loadGlobal _ "super") _ _ _
  refine loadGlobal_builtin (en.mod.glob.keeps kb0) F.mgS (hb1.keeps kb0) ((hb2 "super" (by decide)).trans (by decide +kernel)) ⟨rfl, ?_⟩
  refine wpAny_loadName_free rfl rfl rfl ⟨_, X0 cc _ lcc, rfl⟩ ?_
  refine wpAny_loadName_local rfl rfl hns rfl ?_
  refine ks_wpAny_isType_cls (X0 C _ hC) rfl ⟨rfl, ?_⟩
  refine ks_wpAny_call_super (X0 C _ hC) rfl (kp _ _ ho) rfl (by intro c h; cases h) (looks_mroIn X0 F.subC) (fun h1 hso kp1 => ?_)
  have X1 : K.In h1 := X0.keeps kp1
  have ho1 := kp1 _ _ (kp _ _ ho)
  have I1 : InstAt h1 a _ C none := ⟨ho1, rfl, rfl, trivial⟩
  refine kxs_getMethod kxs_ValueError hso (looks_opaque X1 F.any) (fun A Q E s k q => wpAny_bind (looks_clsIn X1 hcl A _ E s k (wpAny_pure q))) rfl X1 (by have := F.sin; unfold ks_superIn at this; rw [hcl] at this; exact this) (Looks.andThen I1.type (looks_subIn X1 F.subV)) (ks_ne X1 I1 hcl) rfl ?_
  have kp2 : ∀ b o, h₀.get? b = some o → (h1.push (kxs_mw "ValueError.__init__" a)).get? b = some o := fun b o e => Heap.get?_push_of_some _ (kp1 b o e)
  have hu : (h1.push (kxs_mw "ValueError.__init__" a)).get? h1.objs.size = some (kxs_mw "ValueError.__init__" a) := Heap.get?_push_at rfl rfl
  have hu1 : h1.get? h1.objs.size = none := by
    cases e : h1.get? h1.objs.size with
    | none => rfl
    | some o => exact absurd (Heap.lt_size e) (Nat.lt_irrefl _)
  have hC2 := kp2 _ _ (X0 C _ hC)
  have ho2 := kp2 _ _ (kp _ _ ho)
  revert kp2 hu hC2 ho2
  generalize h1.push (kxs_mw "ValueError.__init__" a) = hp2
  intro kp2 hu hC2 ho2
  refine kxs_callWith1 (h₀ := h1) (L := h1.objs.size + 1) (news := [(h1.objs.size, kxs_mw "ValueError.__init__" a)]) (x := a) (i := "ValueError.__init__") (fun p hp => ?_) (by simp) ?_ rfl rfl
  · obtain rfl := List.mem_singleton.mp hp
    exact ⟨hu, by simp, hu1⟩
  refine spliced_cons ?_
  have hns2 : hp2.Ns s.heap.objs.size (fun q => List.lookup q ([PySem.Str.ofString "self", PySem.Str.ofString "what"].zip [Value.ref a, .str x tk]).reverse) := by
    obtain ⟨o, es, ep, e, r⟩ := hns
    exact ⟨o, es, ep, kp2 _ _ e, r⟩
  rw [if_neg Bool.false_ne_true]
  refine JoinedStr_many ?_
  refine jp0 (n := 0) (m := 100) (by decide) (by decide) ?_
  refine Constant_str ?_
  refine ⟨by decide +kernel, fun o1 hh1 => ?_⟩
  refine jp0 (m := 100) hh1 (by decide) ?_
  refine FormattedValue_plain ?_
  refine wpAny_Name (wpAny_loadName_local rfl rfl hns2 rfl ?_) rfl
  refine formatField_str (fun t9 tk9 => ?_) (Nat.le_trans hxl (by decide))
  refine ⟨hxl, fun o2 hh2 => ?_⟩
  refine jpN hh2 (by decide) ?_
  refine spliced_nil ?_
  refine ⟨hu, ?_⟩
  refine call_mw hC2 ho2 hu (by show 1 ≤ sizeLine; decide) (fun h3 t1 kp3 ho3 => ?_)
  have kp3' : ∀ b o, b ≠ a → s.heap.get? b = some o → h3.get? b = some o := fun b o nb e => kp3 b o nb (kp2 b o (kp b o e))
  have hns3 : h3.Ns s.heap.objs.size (fun q => List.lookup q ([PySem.Str.ofString "self", PySem.Str.ofString "what"].zip [Value.ref a, .str x tk]).reverse) := by
    obtain ⟨o, es, ep, e, r⟩ := hns
    exact ⟨o, es, ep, kp3 _ _ aL.symm (kp2 _ _ e), r⟩
  have X3 : K.In h3 := fun b o e => kp3' b o (nb (en.mod.kin b o e)) (X b o e)
  dsimp only
  refine ks_wpAt_execs_cons ?_
  refine ks_wpAt_Assign_Attr ?_ rfl
  refine wpAt_of_wpAny ?_
  refine wpAny_Name (wpAny_loadName_local rfl rfl hns3 rfl ?_) rfl
  refine wpAny_Name (wpAny_loadName_local rfl rfl hns3 rfl ?_) rfl
  refine set_plain (ox := HandSPX.excO C t1) (od := none) X3 ⟨ho3, rfl, rfl, trivial⟩ F.oex.sa ?_
  refine HandSPX.exc_osa X3 ho3 hcl hbm rfl F.fi (fun h4 tk4 dx kp4 dn dne hx hn => ?_)
  refine wpAt_of_wpAny (wpAny_execs_nil ?_)
  have kp4' : ∀ b o, b ≠ a → s.heap.get? b = some o → h4.get? b = some o := fun b o nb e => kp4 b o nb (kp3' b o nb e)
  have dn' : h3.objs.size ≤ dx := dn
  have dnS : s.heap.objs.size ≤ dx := by
    rcases Nat.lt_or_ge dx s.heap.objs.size with q | q
    · exact absurd q (by
        have q0 : s.heap.objs.size < h3.objs.size := by
          obtain ⟨o, es, ep, e, r⟩ := hns3
          exact Heap.lt_size e
        omega)
    · exact q
  have hnd : H dx = none := HOk.fresh en.hok dnS
  have nd : ∀ {b o}, s.heap.get? b = some o → b ≠ dx := fun e => Nat.ne_of_lt (Nat.lt_of_lt_of_le (Heap.lt_size e) dnS)
  have na : ∀ {b}, H b = none → b ≠ a := fun e z => by rw [z, ha] at e; cases e
  show CR CX0 outer P w H s Q E (.ok (.ret .none)) _
  refine ⟨.non, upd (upd H dx (exd dx [("what", .str x)])) a (exo a C (some dx)), rfl, en.bare, ⟨?_, ?_, ?_, ?_, ?_, ?_, ?_⟩, ?_, rfl, k dx hnd dne⟩
  · exact fun b o e n _ _ => kp4' b o (na n) e
  · exact fun b o e n _ _ => ⟨o.slots, kp4' b o (na n) e⟩
  · exact fun b o e n _ => by rw [upd_ne (na n), upd_ne (nd e)]; exact n
  · intro b o e _
    by_cases z : b = a
    · rw [z]; exact ⟨_, hx⟩
    · exact ⟨o, kp4' b o z e⟩
  · intro b xs e
    rw [upd_ne (at_ne ha e exo_tup), upd_ne (ne_of_none e hnd)]; exact e
  · intro b o v e
    rw [upd_ne (at_ne ha e exo_frz), upd_ne (ne_of_none e hnd)]; exact e
  · intro b ps e
    refine ⟨#[], ?_⟩
    rw [upd_ne (at_ne ha e (by intro z; cases z)), upd_ne (ne_of_none e hnd), Array.append_empty]; exact e
  · intro b o e
    by_cases z : b = a
    · subst z
      rw [upd_same] at e
      obtain rfl := Option.some.inj e
      exact ⟨⟨t1, hx⟩, ⟨_, hx⟩, fun h1 h2 ⟨t, e⟩ k => ⟨t, k _ e⟩⟩
    · rw [upd_ne z] at e
      by_cases z2 : b = dx
      · subst z2
        rw [upd_same] at e
        obtain rfl := Option.some.inj e
        refine ⟨⟨_, hn, fun g => ?_⟩, by obtain ⟨o, _, _, e, _⟩ := hn; exact ⟨o, e⟩, fun h1 h2 ⟨mA, ⟨o, es, ep, e, r⟩, q⟩ k => ⟨mA, ⟨o, es, ep, k _ e, r⟩, q⟩⟩
        by_cases z3 : g = "what"
        · subst z3
          rw [if_pos rfl]
          exact ⟨tk, rfl⟩
        · rw [if_neg z3, List.lookup_cons, beq_false_of_ne z3]
          exact trivial
      · rw [upd_ne z2] at e
        refine ObjOk.stay (en.hok b o e) (fun c u hc hu => ?_) (fun c hc => ?_) (fun c xs hc => ?_)
        · refine kp4' c u ?_ hu
          rcases hc with rfl | hc
          · exact z
          · exact at_ne ha hc (by intro z; cases z)
        · rw [upd_ne (at_ne ha hc (by intro z; cases z)), upd_ne (ne_of_none hc hnd)]; exact hc
        · rw [upd_ne (at_ne ha hc exo_tup), upd_ne (ne_of_none hc hnd)]; exact hc
end
structure ErrM (P : Program) (K : Frag) (mg : Str → Option Value) (C fI : Addr) (fdI : FuncData) : Prop where
  T : BadFM P K mg fI fdI C
  gC : mg "TooMany" = some (.ref C)
  iC : findIn K (.ref C) "__init__" = some (some (.ref fI))
  tI : typeIn K (.ref fI) = some (.type "function")
  bI : Binds K fdI ["self", "what"] []

end K1

/-! G69e -/


namespace K4
open PySem L2 K1
theorem depth_num (n : Nat) : (pn n).depth = 0 := by simp [pn, PyData.depth]
theorem all_nums {lo : Int} {m : Int} {ns : List Nat} (h : ∀ n ∈ ns, lo ≤ (n : Int) ∧ (n : Int) ≤ m) : (ns.map pn).all (wnB lo m) = true := by
  rw [List.all_map]
  refine List.all_eq_true.mpr fun n hn => ?_
  show (decide (lo ≤ (n : Int)) && decide ((n : Int) ≤ m)) = true
  rw [decide_eq_true (h n hn).1, decide_eq_true (h n hn).2]; rfl
theorem items_of (t : Bool) (ds : List PyData) : items (sq t ds) = some ds := by cases t <;> rfl
theorem nat_nums (ns : List Nat) : (ns.map pn).map natD = ns := by
  rw [List.map_map]
  have : (natD ∘ pn) = id := by funext n; show natD (.int (n : Int)) = n; exact Int.toNat_natCast n
  rw [this, List.map_id]
theorem Ow.own {z : Str} {o : Ow} (h : o.fit (tl z)) (t : Bool) : ownB z o.kind (o.data t) = true := by
  have lz := len_tl z
  cases o with
  | sum m ws g =>
    obtain ⟨h1, h2, h3, h4, h5, h6⟩ := h
    have lp := List.length_pos_iff.mpr h3
    show sumB [pn m, sq t (ws.map pn), pn g] = true
    show sumB [.int (m : Int), sq t (ws.map pn), pn g] = true
    rw [sumB_int, items_of, decide_eq_true (by omega), decide_eq_true (by omega)]
    dsimp only
    rw [List.length_map, decide_eq_true (by omega), decide_eq_true (by omega)]
    have e : ws.map pn ++ [pn g] = (ws ++ [g]).map pn := by simp
    rw [e, all_nums fun n hn => ?_]
    · rfl
    · rcases List.mem_append.mp hn with q | q
      · have := h5 n q; omega
      · rw [List.mem_singleton.mp q]; omega
  | square rows gs =>
    obtain ⟨h1, h2, h3, h4, h5, h6⟩ := h
    have lp := List.length_pos_iff.mpr h1
    have lg := List.length_pos_iff.mpr h4
    have eS : ∀ ds, sizeD (sq t ds) = ds.length := fun ds => by unfold sizeD; rw [items_of]
    have hr : rowsB z.length 60 (sq t (rows.map fun r => sq t (r.map pn))) = true := by
      unfold rowsB
      rw [items_of]
      dsimp only
      rw [List.length_map, decide_eq_true (by omega), decide_eq_true (by omega), List.all_map, Bool.true_and, Bool.true_and]
      refine List.all_eq_true.mpr fun r hr => ?_
      show rowB z.length rows.length (sq t (r.map pn)) = true
      unfold rowB
      rw [items_of]
      dsimp only
      rw [List.length_map, decide_eq_true (by rw [(h3 r hr).1, lz]), all_nums fun n hn => by have := (h3 r hr).2 n hn; omega]
      rfl
    have hg : goalsB rows.length (sq t (gs.map pn)) = true := by
      unfold goalsB
      rw [items_of]
      dsimp only
      rw [all_nums fun n hn => by have := h6 n hn; omega, nat_nums, asc_true h5]
      rfl
    show (rowsB z.length 60 (sq t (rows.map fun r => sq t (r.map pn))) && (goalsB (sizeD (sq t (rows.map fun r => sq t (r.map pn)))) (sq t (gs.map pn)) && decide (0 < sizeD (sq t (gs.map pn))))) = true
    rw [hr, eS, eS, List.length_map, List.length_map, hg, decide_eq_true lg]
    rfl
  | faces fs =>
    obtain ⟨h1, h2, h3⟩ := h
    have lp := List.length_pos_iff.mpr h1
    show facesB z (sq t (fs.map PyData.str)) = true
    unfold facesB
    rw [items_of]
    dsimp only
    rw [List.length_map, decide_eq_true (by omega), decide_eq_true (by omega), List.all_map]
    simp only [Bool.true_and]
    refine List.all_eq_true.mpr fun f hf => ?_
    show textB z.length z.length z f = true
    have lf := len_tl f
    have q := h3 f hf
    unfold textB
    rw [decide_eq_true (by omega), decide_eq_true (by omega), Bool.true_and, Bool.true_and]
    exact List.all_eq_true.mpr fun c hc => decide_eq_true (q.2 c hc)
  | cut a b =>
    show [pn a, pn b].all (wnB 0 3) = true
    have := all_nums (lo := 0) (m := 3) (ns := [a, b]) fun n hn => by
      simp only [List.mem_cons, List.not_mem_nil, or_false] at hn
      rcases hn with rfl | rfl
      · have := h.1; omega
      · have := h.2; omega
    exact this
  | any => rfl
  | back => rfl
  | not => rfl
  | both => rfl
  | either => rfl
theorem R.form {z : Str} {r : R} (h : r.fit (tl z)) (t : Bool) : formB z (r.data t) = true ∧ innerD (r.data t) = r.inner.map (R.data t) := by
  obtain ⟨h1, h2⟩ := R.fit_ow h
  have hk := r.ow.kind_lt
  have lo := r.ow.data_len t
  rw [r.data_eq]
  unfold formB innerD
  rw [items_of]
  dsimp only
  rw [show wordOf r.ow.word = some r.ow.kind from wordOf_wd _ hk]
  dsimp only
  have e1 : (r.ow.data t ++ r.inner.map (R.data t)).take (mn r.ow.kind) = r.ow.data t := by rw [← lo, List.take_left]
  have e2 : (r.ow.data t ++ r.inner.map (R.data t)).drop (mn r.ow.kind) = r.inner.map (R.data t) := by rw [← lo, List.drop_left]
  rw [e1, e2, Ow.own h1, List.length_append, lo, List.length_map, h2, decide_eq_true rfl]
  exact ⟨rfl, rfl⟩
theorem R.chk {z : Str} {t : Bool} : ∀ {n : Nat} {r : R}, r.fit (tl z) → r.depth ≤ n → chkE n z (r.data t) = none
  | 0, r, _, hd => by have := R.depth_pos r; omega
  | n + 1, r, h, hd => by
    obtain ⟨h1, h2⟩ := R.form h t
    show (if formB z (r.data t) = true then _ else _) = _
    rw [if_pos h1, h2]
    refine List.findSome?_eq_none_iff.mpr fun x hx => ?_
    obtain ⟨i, hi, rfl⟩ := List.mem_map.mp hx
    exact R.chk (R.fit_in h i hi) (by have := R.in_depth i hi; omega)
theorem R.tup (t : Bool) : ∀ r : R, tupd (r.data t) = r.data true
  | .n0 o => by
    show tupd (sq t (.str o.word :: o.data t)) = _
    rw [tupd_sq, List.map_cons, o.tup t]; simp [tupd]; rfl
  | .n1 o a => by
    show tupd (sq t (.str o.word :: (o.data t ++ [a.data t]))) = _
    rw [tupd_sq, List.map_cons, List.map_append, o.tup t, List.map_cons, R.tup t a]; simp [tupd]; rfl
  | .n2 o a b => by
    show tupd (sq t (.str o.word :: (o.data t ++ [a.data t, b.data t]))) = _
    rw [tupd_sq, List.map_cons, List.map_append, o.tup t, List.map_cons, R.tup t a, List.map_cons, R.tup t b]; simp [tupd]; rfl
theorem okd_num (n : Nat) : okd (pn n) = true := by simp [pn, okd]
theorem okd_nums {t : Bool} {ns : List Nat} (h : ns.length ≤ 1000) : okd (sq t (ns.map pn)) = true := okd_sq (by rw [List.length_map]; exact h) fun d hd => by obtain ⟨n, _, rfl⟩ := List.mem_map.mp hd; exact okd_num n
theorem Ow.okd {o : Ow} (h : o.ok) (t : Bool) : ∀ d ∈ o.data t, K4.okd d = true := by
  cases o with
  | sum m ws g =>
    intro d hd
    simp only [Ow.data, List.mem_cons, List.not_mem_nil, or_false] at hd
    rcases hd with rfl | rfl | rfl
    · exact okd_num _
    · exact okd_nums (by have := h.2.2.1.2.1; omega)
    · exact okd_num _
  | square rows gs =>
    intro d hd
    simp only [Ow.data, List.mem_cons, List.not_mem_nil, or_false] at hd
    rcases hd with rfl | rfl
    · exact okd_sq (by rw [List.length_map]; have := h.2.1; omega) fun d hd => by obtain ⟨r, hr, rfl⟩ := List.mem_map.mp hd; exact okd_nums (by have := (h.2.2.1 r hr).2.1; omega)
    · exact okd_nums (by have := h.2.2.2.2.1; omega)
  | faces fs =>
    intro d hd
    simp only [Ow.data, List.mem_cons, List.not_mem_nil, or_false] at hd
    subst hd
    exact okd_sq (by rw [List.length_map]; have := h.2.1; omega) fun d hd => by
      obtain ⟨f, hf, rfl⟩ := List.mem_map.mp hd
      have := (h.2.2 f hf).2.1
      have l := len_tl f
      rw [K4.okd, decide_eq_true_eq]; omega
  | cut a b =>
    intro d hd
    simp only [Ow.data, List.mem_cons, List.not_mem_nil, or_false] at hd
    rcases hd with rfl | rfl <;> exact okd_num _
  | _ => intro d hd; simp [Ow.data] at hd
theorem okd_word : ∀ i < 9, okd (.str (wd i)) = true := by decide +kernel
theorem R.okd (t : Bool) : ∀ {r : R}, r.ok → K4.okd (r.data t) = true
  | .n0 o, h => okd_sq (by have := mn_le o.kind; rw [List.length_cons, Ow.data_len]; omega) fun d hd => by
      simp only [List.mem_cons] at hd
      rcases hd with rfl | hd
      · exact okd_word _ o.kind_lt
      · exact Ow.okd h.1 t d hd
  | .n1 o a, h => okd_sq (by have := mn_le o.kind; rw [List.length_cons, List.length_append, Ow.data_len]; simp only [List.length_cons, List.length_nil]; omega) fun d hd => by
      simp only [List.mem_cons, List.mem_append, List.not_mem_nil, or_false] at hd
      rcases hd with rfl | hd | rfl
      · exact okd_word _ o.kind_lt
      · exact Ow.okd h.1 t d hd
      · exact R.okd t h.2.2
  | .n2 o a b, h => okd_sq (by have := mn_le o.kind; rw [List.length_cons, List.length_append, Ow.data_len]; simp only [List.length_cons, List.length_nil]; omega) fun d hd => by
      simp only [List.mem_cons, List.mem_append, List.not_mem_nil, or_false] at hd
      rcases hd with rfl | hd | rfl | rfl
      · exact okd_word _ o.kind_lt
      · exact Ow.okd h.1 t d hd
      · exact R.okd t h.2.2.1
      · exact R.okd t h.2.2.2
end K4

/-! G69f -/


namespace K1
open PySem L2 PyProof.Rows
theorem rzM {C : Addr} {x : Str} {H1 : Hp} {E : XK} (hx : x.length ≤ 100) (er : Err C "what" (.str x) H1 E) : [V.str x].length ≤ 1000 ∧ ∀ a : Addr, H1 a = none → spBadM C (V.ref a :: ([V.str x] ++ [])) (upd H1 a (exo a C none))
      (fun v H2 => v = V.non ∧ ∃ d fs, H2 a = some (exo a C (some d)) ∧ H2 d = some (exd d fs) ∧ H1 d = none ∧ E (Value.ref C) (some d) (upd (del H2 a) d (HO.xd fs))) fun x x_1 x_2 => False := by
  refine ⟨(by show 1 ≤ 1000; decide), fun a ha => ⟨a, x, rfl, hx, upd_same, fun dx hdx ne => ?_⟩⟩
  rw [upd_ne ne] at hdx
  refine ⟨rfl, dx, [("what", .str x)], upd_same, by rw [upd_ne ne, upd_same], hdx, ?_⟩
  refine er _ _ (fun c o e => ?_) upd_same hdx
  have n1 : c ≠ dx := ne_of_none e hdx
  have n2 : c ≠ a := ne_of_none e ha
  rw [upd_ne n1, del_ne n2, upd_ne n2, upd_ne n1, upd_ne n2]
  exact e
end K1
namespace K4
open PySem L2 K1
/-- a rule as it is handed in: good, of too many parts, or with a bad part -/
inductive Rl where
  | ok (r : R) (t : Bool)
  | many (r : R) (t : Bool)
  | bad (d b : PyData)
def Rl.data : Rl → PyData
  | .ok r t => r.data t
  | .many r t => r.data t
  | .bad d _ => d
def Rl.fits (z : Str) : Rl → Prop
  | .ok r _ => r.fit (tl z) ∧ r.ok ∧ r.parts ≤ 40
  | .many r _ => r.fit (tl z) ∧ r.ok ∧ r.depth ≤ 56 ∧ 40 < r.parts
  | .bad d b => okd d = true ∧ d.depth < 60 ∧ chkE 60 z d = some b
/-- what comes of it -/
def Rl.out (K : PySem.W.Frag) (CR CM : Addr) (H : Hp) (E : XK) (Q : R → Prop) : Rl → Prop
  | .ok r _ => Q r
  | .many _ _ => Err CM "what" (.str "rule") H E
  | .bad _ b => ErrD K CR "rule" b H E
def spChkRG (K : PySem.W.Frag) (CR CM : Addr) : Sp := fun vs H Q E => ∃ (z : Str) (v : V) (l : Rl), vs = [.str z, v] ∧ z.length ≤ 12 ∧ (∀ c ∈ tl z, c < 1114112) ∧ Dp K H v l.data ∧ l.fits z ∧
  l.out K CR CM H E fun r => ∀ H' v', Same H H' → Dp K H' v' (r.data true) → Q v' H'
def spCheckG (K : PySem.W.Frag) (CS CR CM : Addr) : Sp := fun vs H Q E => ∃ x v : V, vs = [x, v] ∧
  ((Bads K H x ∧ Err CS "signs" x H E) ∨ (∃ (z : Str) (l : Rl), x = .str z ∧ z.length ≤ 12 ∧ signsB z = true ∧ Dp K H v l.data ∧ l.fits z ∧ l.out K CR CM H E fun r => ∀ H' v', Same H H' → Dp K H' v' (r.data true) → Q v' H'))
theorem Rl.out_same {K : PySem.W.Frag} {CR CM : Addr} {H H1 : Hp} {E : XK} {Q Q1 : R → Prop} (s : Same H H1) (q : ∀ r, Q r → Q1 r) : ∀ {l : Rl}, l.out K CR CM H E Q → l.out K CR CM H1 E Q1
  | .ok r _, h => q r h
  | .many _ _, h => Err.same h s
  | .bad _ _, h => ErrD.same h s
theorem signs_low {z : Str} (h : signsB z = true) : ∀ c ∈ tl z, c < 1114112 := by
  unfold signsB textB at h
  rw [Bool.and_eq_true, Bool.and_eq_true, Bool.and_eq_true] at h
  intro c hc
  exact all_lt c (of_decide_eq_true (List.all_eq_true.mp h.1.2.2 c hc))
section
variable {P : Program} {w : World} {K : PySem.W.Frag} {mg : Str → Option Value} {base : Heap} {dO dI : Addr}
theorem ok_chkRG {f CR CM fM : Addr} {fd fdM : FuncData} (F : Fun K "checked_rule" "checked_rule" sChkRule f fd) (B : Bl mg) (G : G11 K w mg dO dI) (TM : ErrM P K mg CM fM fdM) (Ock : OChkE CR 60 P w K mg base) (Ocp : OCount 57 P w K mg base) : FnOk P w K mg base (L2N.CX P w) 68 f fd ["signs", "rule"] (spChkRG K CR CM) := by
  refine okXN F scChkRule (fun vs H Q E h => ?_) (fun cdv A outer s H vs Q E hr h => ?_)
  · obtain ⟨z, v, l, rfl, _⟩ := h
    rfl
  · obtain ⟨z, v, l, rfl, hz, zA, hv, hf, k⟩ := h
    refine ⟨_, (pss_cons (ps_set (i := 2) scChkRule.nd rfl (Or.inl rfl) (pe_ownX Ock (hr.mono (by omega)) (L2N.passes_call (E := E) (L2N.takes_of rfl rfl rfl rfl) (fun _ _ _ _ h => h)) (pa_cons (pv 0) (pa_cons (pv 1) pa_nil)))) (pss_cons (ps_if (pt_cmpR op_gt (pe_own Ocp (hr.mono (by omega)) (pa_cons (pv 2) pa_nil)) (pe_gI G.MOST_PARTS) (nomark _)) (pss_one (L2N.ps_raise rfl (L2N.takes_of rfl rfl rfl rfl) (pmk_oexN TM.T.oex TM.iC TM.tI (ok_badM TM.T) (hr.mono (by omega)) TM.bI rfl TM.gC (pa_cons pe_str pa_nil)))) pss_nil) (pss_one (ps_ret (pv 2))))), ?_⟩
    try dsimp only [cxOf, Cx.nox, Cx.wish]
    walk_at "go"
    cases l with
    | ok r t =>
      obtain ⟨h1, h2, h3⟩ := hf
      have hd := r.depth_le
      have hdd := (R.flat t h2).2
      refine ⟨z, v, r.data t, rfl, hz, zA, hv, R.okd t h2, by omega, ?_⟩
      rw [R.chk h1 (by omega), R.tup]
      intro H1 v1 s1 d1
      walk_at "go"
      refine ⟨v1, r, rfl, RAt.of d1, by omega, fun H2 s2 => ?_⟩
      walk_at "go"
      refine r_no (by omega) ?_
      walk_at "go"
      exact k H2 v1 (s1.trans s2) (dp_keep (Same.keeps s2) _ _ d1)
    | many r t =>
      obtain ⟨h1, h2, h3, h4⟩ := hf
      have hdd := (R.flat t h2).2
      refine ⟨z, v, r.data t, rfl, hz, zA, hv, R.okd t h2, by omega, ?_⟩
      rw [R.chk h1 (by omega), R.tup]
      intro H1 v1 s1 d1
      walk_at "go"
      refine ⟨v1, r, rfl, RAt.of d1, by omega, fun H2 s2 => ?_⟩
      walk_at "go"
      refine r_yes (by omega) ?_
      walk_at "go"
      exact rzM (by decide +kernel) (Err.same k (s1.trans s2))
    | bad d b =>
      obtain ⟨h1, h2, h3⟩ := hf
      refine ⟨z, v, d, rfl, hz, zA, hv, h1, h2, ?_⟩
      rw [h3]
      exact k
abbrev OChkRG (CR CM : Addr) (P : Program) (w : World) (K : PySem.W.Frag) (mg : Str → Option Value) (base : Heap) : Prop := OwnX P w K mg base "checked_rule" 68 ["signs", "rule"] (spChkRG K CR CM)
theorem ok_checkG {f CS CR CM : Addr} {fd : FuncData} (F : Fun K "check_rule" "check_rule" sCheckRule f fd) (Ors : OReqS CS P w K mg base) (Ocr : OChkRG CR CM P w K mg base) : FnOk P w K mg base (L2N.CX P w) 69 f fd ["signs", "rule"] (spCheckG K CS CR CM) := by
  refine okXN F scCheckRule (fun vs H Q E h => ?_) (fun cdv A outer s H vs Q E hr h => ?_)
  · obtain ⟨x, v, rfl, _⟩ := h
    rfl
  · obtain ⟨x, v, rfl, h⟩ := h
    refine ⟨_, (pss_cons (ps_expr (pe_ownX Ors (hr.mono (by omega)) (L2N.passes_call (E := E) (L2N.takes_of rfl rfl rfl rfl) (fun _ _ _ _ h => h)) (pa_cons (pv 0) pa_nil))) (pss_one (ps_ret (pe_ownX Ocr (hr.mono (by omega)) (L2N.passes_call (E := E) (L2N.takes_of rfl rfl rfl rfl) (fun _ _ _ _ h => h)) (pa_cons (pv 0) (pa_cons (pv 1) pa_nil)))))), ?_⟩
    try dsimp only [cxOf, Cx.nox, Cx.wish]
    walk_at "go"
    rcases h with ⟨hb, er⟩ | ⟨z, l, rfl, hz, hs, hv, hf, k⟩
    · exact .inr ⟨hb, er⟩
    · refine .inl ⟨z, rfl, by omega, hs, fun H1 s1 => ?_⟩
      walk_at "go"
      exact ⟨z, v, l, rfl, hz, signs_low hs, dp_keep (Same.keeps s1) _ _ hv, hf, Rl.out_same s1 (fun r q H' v' s' d' => q H' v' (s1.trans s') d') k⟩
abbrev OCheckG (CS CR CM : Addr) (P : Program) (w : World) (K : PySem.W.Frag) (mg : Str → Option Value) (base : Heap) : Prop := OwnX P w K mg base "check_rule" 69 ["signs", "rule"] (spCheckG K CS CR CM)
end
end K4

/-! G69g -/


namespace K4
open PySem L2 K1
abbrev sSigOf : Stmt := top 56
abbrev nSigOf : List Str := ["signs", "rules", "paper", "told", "rule"]
theorem scSigOf : FnScope nSigOf ["signs", "rules", "paper"] (defScope sSigOf) := ⟨rfl, rfl, rfl, by decide +kernel, rfl, by decide +kernel, by decide +kernel⟩
def Rl.isOk : Rl → Bool
  | .ok _ _ => true
  | _ => false
def Rl.rule : Rl → R
  | .ok r _ => r
  | .many r _ => r
  | .bad _ _ => .n0 .any
def firstNo (ls : List Rl) : Option Rl := ls.find? fun l => !l.isOk
def sigD (z : Str) (p : Str) (l : Rl) : Nat := if ev (tl z) l.rule (tl p) = true then 1 else 0
theorem firstNo_split {ls : List Rl} {i : Nat} {l : Rl} (h : ls[i]? = some l) (hp : ∀ y ∈ ls.take i, y.isOk = true) (hl : l.isOk = false) : firstNo ls = some l := by
  obtain ⟨hi, he⟩ := List.getElem?_eq_some_iff.mp h
  have h1 := (List.take_append_drop i ls).symm
  rw [List.drop_eq_getElem_cons hi, he] at h1
  unfold firstNo
  rw [h1, List.find?_append, List.find?_eq_none.mpr fun y hy => by rw [hp y hy]; simp, Option.none_or, List.find?_cons, hl]
  rfl
theorem firstNo_none {ls : List Rl} (hp : ∀ y ∈ ls, y.isOk = true) : firstNo ls = none := List.find?_eq_none.mpr fun y hy => by rw [hp y hy]; simp
/-- the rules, checked one by one -/
def Checked (K : PySem.W.Frag) (H : Hp) (z : Str) (xs : List V) (ls : List Rl) : Prop := DpAll K H xs (ls.map Rl.data) ∧ ls.length ≤ 1000 ∧ ∀ l ∈ ls, l.fits z
def spSig (K : PySem.W.Frag) (CS CR CM CP : Addr) : Sp := fun vs H Q E => ∃ (x rv y : V) (xs : List V) (ls : List Rl), vs = [x, rv, y] ∧ Sq K H rv xs ∧
  (((∀ H', Same H H' → Bads K H' x) ∧ xs ≠ [] ∧ Err CS "signs" x H E) ∨ (∃ z : Str, x = .str z ∧ z.length ≤ 12 ∧ (tl z).Nodup ∧ signsB z = true ∧ Checked K H z xs ls ∧
    (match firstNo ls with
    | some l => l.out K CR CM H E fun _ => False
    | none => ((∀ H', Same H H' → BadP K H' z y) ∧ Err CP "paper" y H E) ∨
      (∃ p : Str, y = .str p ∧ Pp (tl z) (tl p) ∧ ∀ H' v, Same H H' → Dp K H' v (.tuple ((ls.map (sigD z p)).map pn)) → Q v H'))))
section
variable {P : Program} {w : World} {K : PySem.W.Frag} {mg : Str → Option Value} {base : Heap} {dO dI : Addr}
theorem ok_sigOf {f CS CR CM CP : Addr} {fd : FuncData} (F : Fun K "signature_of" "signature_of" sSigOf f fd) (B : Bl mg) (Ock : OCheckG CS CR CM P w K mg base) (Orp : OReqP CP P w K mg base) (Ofi : OFinds 40 P w K mg base) :
    FnOk P w K mg base (L2N.CX P w) 70 f fd ["signs", "rules", "paper"] (spSig K CS CR CM CP) := by
  refine okXN F scSigOf (fun vs H Q E h => ?_) (fun cdv A outer s H vs Q E hr h => ?_)
  · obtain ⟨x, rv, y, xs, ls, rfl, _⟩ := h
    rfl
  · obtain ⟨x, rv, y, xs, ls, rfl, hS, h⟩ := h
    refine ⟨_, (pss_cons (ps_setLcX (E := E) (i := 3) (ow := [("rule", 4)]) (g := gName 4) (cdt := tYes) rfl scSigOf.nd rfl rfl (L2N.takes_of rfl rfl rfl rfl) (fun _ _ _ _ h => h) rfl rfl (sw_true rfl rfl rfl (by decide +kernel)) (pi_sq (pv 1)) (blkOk_by (N := nSigOf) (sc := defScope sSigOf) (by decide +kernel)) (fun _ _ _ _ _ => (pg_name (i := 4) scSigOf.nd rfl (Or.inl rfl))) (fun _ _ _ _ _ => pts_nil) (fun _ _ _ _ _ xe px => (pe_ownX Ock (hr.mono (by omega)) px (pa_cons (pv 0) (pa_cons (pv 4) pa_nil))))) (pss_cons (ps_expr (pe_ownX Orp (hr.mono (by omega)) (L2N.passes_call (E := E) (L2N.takes_of rfl rfl rfl rfl) (fun _ _ _ _ h => h)) (pa_cons (pv 0) (pa_cons (pv 2) pa_nil)))) (pss_one (ps_ret (pe_callTy call_tuple_of (by rfl) B.tuple (by decide +kernel) (pa_cons (pe_lc (own := [("rule", 4)]) (g := gName 4) (tt := tYes) rfl scSigOf.nd (pi_list (pv 3)) (blkOk_by (N := nSigOf) (sc := defScope sSigOf) (by decide +kernel)) (fun _ _ _ _ _ => (pg_name (i := 4) scSigOf.nd rfl (Or.inl rfl))) (fun _ _ _ _ _ => pts_nil) (fun _ _ _ _ _ => (pe_ifExp (pt_val (pe_own Ofi (hr.mono (by omega)) (pa_cons (pv 0) (pa_cons (pv 4) (pa_cons (pv 2) pa_nil))))) pe_int pe_int))) pa_nil)))))), ?_⟩
    try dsimp only [cxOf, Cx.nox, Cx.wish]
    walk_at "go"
    rcases h with ⟨hb, hne, er⟩ | ⟨z, rfl, hz, nd, hs, ⟨hA, hl, hf⟩, k⟩
    · refine lc_sq hS (fun _ => rfl) (fun acc H' => acc = [] ∧ Same H H') (fun D hD => ⟨rfl, same_new hD⟩) (fun D acc H' _ _ q => Same.keeps q.2) ?_ _ ?_ (fun J h => h)
      · rintro D i v acc H' hD hx la hacc ⟨rfl, sm⟩
        walk_at "go"
        exact ⟨x, v, rfl, .inl ⟨hb H' sm, er.same sm⟩⟩
      · rintro D acc H' hD la hacc ⟨rfl, sm⟩
        exact absurd (List.eq_nil_of_length_eq_zero la.symm) hne
    · have lz := len_tl z
      have hxl : xs.length = ls.length := by have := dpA_len hA; rw [List.length_map] at this; exact this
      refine lc_sq hS (fun _ => rfl) (fun acc H' => DpAll K H' acc ((ls.take acc.length).map fun l => l.rule.data true) ∧ Same H H' ∧ ∀ l ∈ ls.take acc.length, l.isOk = true) (fun D hD => ⟨.nil, same_new hD, fun l q => by cases q⟩) (fun D acc H' _ _ q => Same.keeps q.2.1) ?_ _ ?_ (fun J h => h)
      · rintro D i v acc H' hD hx la hacc ⟨ha, sm, hok⟩
        obtain ⟨d, hdi, hxd⟩ := dpA_get hA hx
        rw [List.getElem?_map] at hdi
        cases hli : ls[i]? with
        | none => rw [hli] at hdi; cases hdi
        | some l =>
        rw [hli] at hdi
        obtain rfl := Option.some.inj hdi
        have hmem := List.mem_of_getElem? hli
        have hil := (List.getElem?_eq_some_iff.mp hli).1
        rw [la] at hok
        walk_at "go"
        refine ⟨.str z, v, rfl, .inr ⟨z, l, rfl, hz, hs, dp_keep (Same.keeps sm) _ _ hxd, hf l hmem, ?_⟩⟩
        cases l with
        | ok r t =>
          intro H4 v4 s4 d4
          refine pp_next (s4 _ _ hacc) la (line60 (by omega)) ⟨?_, same_upd (sm.trans s4) hD, ?_⟩
          · have kt : KT K H4 (upd H4 D (.lst (acc ++ [v4]))) := kt_lst (s4 _ _ hacc)
            have pt : pureA ((ls.take acc.length).map fun l => l.rule.data true) = true := pureA_iff.mpr fun y hy => by
              obtain ⟨u, hu, rfl⟩ := List.mem_map.mp hy
              exact R.pure _
            have r1 := dpA_app (dpA_pure kt _ _ pt (dpA_keep (Same.keeps s4) _ _ ha)) (.cons (dp_pure kt _ _ r.pure d4) .nil)
            rw [la] at r1
            have e2 := take_next (f := fun l : Rl => l.rule.data true) hli
            rw [List.length_append, la]
            exact Eq.subst (motive := fun q => DpAll K _ (acc ++ [v4]) q) e2 r1
          · intro u hu
            rw [List.length_append, la] at hu
            rw [show i + [v4].length = i + 1 from rfl, List.take_succ, hli] at hu
            rcases List.mem_append.mp hu with q | q
            · exact hok u q
            · have : u = .ok r t := by simpa using q
              rw [this]; rfl
        | many r t =>
          rw [firstNo_split hli hok rfl] at k
          exact Err.same k sm
        | bad d b =>
          rw [firstNo_split hli hok rfl] at k
          exact ErrD.same k sm
      · rintro D acc H3 hD la hacc ⟨ha, sm, hok⟩
        rw [la, hxl, List.take_length] at hok
        rw [la, hxl, List.take_length] at ha
        rw [firstNo_none hok] at k
        walk_at "go"
        refine ⟨z, y, rfl, ?_⟩
        rcases k with ⟨hb, er⟩ | ⟨p, rfl, hp, k⟩
        · exact .inr ⟨hb H3 sm, er.same sm⟩
        refine .inl ⟨p, rfl, by have := hp.le; have := len_tl p; omega, pp_text hp, fun H4 s4 => ?_⟩
        have e4 := s4 _ _ hacc
        have ha4 := dpA_keep (Same.keeps s4) _ _ ha
        walk_at "go"
        have hdep : ∀ l ∈ ls, ∃ r t, l = .ok r t ∧ r.fit (tl z) ∧ r.parts ≤ 40 := fun l hl => by
          have h1 := hok l hl
          have h2 := hf l hl
          cases l with
          | ok r t => exact ⟨r, t, rfl, h2.1, h2.2.2⟩
          | many r t => cases h1
          | bad d b => cases h1
        refine ⟨⟨_, SqL.of e4⟩, fun D1 hD1 => ?_⟩
        refine lc_gen (walk_list (K := K) (a := D) (xs := acc)) (fun _ => rfl) (fun acc1 H' => acc1 = ((ls.map (sigD z p)).take acc1.length).map vi ∧ Same H4 H') ⟨rfl, same_new hD1⟩ (fun acc1 H' _ q => q.2.seq (SqL.of e4)) ?_ ?_
        · rintro i v acc1 H' hx l1 hacc1 ⟨ha1, sm1⟩
          obtain ⟨d, hdi, hxd⟩ := dpA_get ha4 hx
          rw [List.getElem?_map] at hdi
          cases hli : ls[i]? with
          | none => rw [hli] at hdi; cases hdi
          | some l =>
          rw [hli] at hdi
          obtain rfl := Option.some.inj hdi
          have hil := (List.getElem?_eq_some_iff.mp hli).1
          obtain ⟨r, t, rfl, hrf, hrp⟩ := hdep l (List.mem_of_getElem? hli)
          have hrd := r.depth_le
          have sg : sigD z p (.ok r t) = if ev (tl z) r (tl p) = true then 1 else 0 := rfl
          walk_at "go"
          refine ⟨z, v, r, p, rfl, hz, nd, RAt.of (dp_keep (Same.keeps sm1) _ _ hxd), hrf, hp, by omega, fun H5 s5 => ?_⟩
          have fin : ∀ u : Nat, sigD z p (.ok r t) = u → ∃ acc, H5 D1 = some (.lst acc) ∧ acc.length < sizeLine ∧ PP D1 (fun acc1 H' => acc1 = ((ls.map (sigD z p)).take acc1.length).map vi ∧ Same H4 H') (i + 1) (upd H5 D1 (.lst (acc ++ [vi u]))) := fun u hu =>
            pp_next (s5 _ _ hacc1) l1 (line60 (by omega)) ⟨acc_next (f := vi) (a := u) ha1 l1 (by rw [List.getElem?_map, hli]; exact congrArg some hu), same_upd (sm1.trans s5) hD1⟩
          cases he : ev (tl z) r (tl p)
          · walk_at "go"
            exact fin 0 (by rw [sg, he]; rfl)
          · walk_at "go"
            exact fin 1 (by rw [sg, he]; rfl)
        · rintro acc1 H5 l1 hacc1 ⟨ha1, sm1⟩
          have lacc : acc.length = ls.length := by rw [la, hxl]
          rw [l1, lacc, ← List.length_map (f := sigD z p), List.take_length] at ha1
          walk_at "go"
          refine ⟨D1, acc1, rfl, .inl ⟨SqL.of hacc1, fun T hT => ?_⟩⟩
          refine k _ _ (sm.trans (s4.trans (sm1.trans (same_new hT)))) (.tup (SqT.of upd_same) (dpA_nums.mpr ha1))
abbrev OSigOf (CS CR CM CP : Addr) (P : Program) (w : World) (K : PySem.W.Frag) (mg : Str → Option Value) (base : Heap) : Prop := OwnX P w K mg base "signature_of" 70 ["signs", "rules", "paper"] (spSig K CS CR CM CP)
end
end K4

/-! Zm -/
/-! zip of a tuple and a list; enumerate of a tuple. -/
namespace K4
open PySem L2 PySem.Spec PyProof.Rows
/-- the tuple at a and the list at b as they stand at each turn, the items in new pairs -/
def ItzM (K : PySem.W.Frag) (a b : Addr) : It :=
  ⟨fun i H => ∃ (xs ys : List V) (x y : V), SqT K H a xs ∧ SqL K H b ys ∧ xs[i]? = some x ∧ ys[i]? = some y,
    fun i H v H' => ∃ T x y, v = .ref T ∧ H T = none ∧ H' = upd H T (.tup [x, y]) ∧ (∀ xs, SqT K H a xs → xs[i]? = some x) ∧ ∀ ys, SqL K H b ys → ys[i]? = some y,
    fun i H => ∃ xs ys : List V, SqT K H a xs ∧ SqL K H b ys ∧ xs.length = ys.length ∧ i = xs.length⟩
theorem turn_zipM {P : Program} {w : World} {K : PySem.W.Frag} {elts : List Expr} {kk : Nat} {tpos : Pos} {a b z TI TO i1 i2 : Addr} (S : ZipSep2 z TI TO i1 i2 [i1, a] [i2, b]) (n1 : a ≠ i1) (n2 : b ≠ i2) :
    Turn P w K (.Tuple elts kk tpos) (ItzM K a b) [z, TI, TO, i1, i2] z (fun i h => IsZip h z TI TO .none ∧ IsTupOf2 h TI (.ref i1) (.ref i2) ∧ (∃ x y, IsTupOf2 h TO x y) ∧ h.IsTupleIter i1 a i ∧ h.IsListIter i2 b i) where
  mem := by simp
  obj := fun i h st c hc => by
    obtain ⟨hz, hTI, ⟨x, y, hTO⟩, ⟨o1, e1, _, d1⟩, ⟨o2, e2, _, d2⟩⟩ := st
    have e' : c = z ∨ c = TI ∨ c = TO ∨ c = i1 ∨ c = i2 := by simpa using hc
    rcases e' with q | q | q | q | q
    · rw [q]; exact ⟨_, hz, fun v q => nomatch q⟩
    · rw [q]; exact ⟨_, hTI, fun v q => nomatch q⟩
    · rw [q]; exact ⟨_, hTO, fun v q => nomatch q⟩
    · rw [q]; exact ⟨o1, e1, fun v q => by rw [d1] at q; cases q⟩
    · rw [q]; exact ⟨o2, e2, fun v q => by rw [d2] at q; cases q⟩
  keep := fun i h h' st k => by
    obtain ⟨hz, hTI, ⟨x, y, hTO⟩, h1, h2⟩ := st
    exact ⟨k z (by simp) _ hz, k TI (by simp) _ hTI, ⟨x, y, k TO (by simp) _ hTO⟩, h1.at fun o q => k i1 (by simp) o q, h2.at fun o q => k i2 (by simp) o q⟩
  item := by
    intro X hP hw hK hc i pins s σ H E I hf st hg
    subst hP hw hK
    obtain ⟨hz, hTI, ⟨x0, y0, hTO⟩, h1, h2⟩ := st
    obtain ⟨xs, ys, x, y, hqx, hqy, hx, hy⟩ := hg
    obtain ⟨its, rv, p, _⟩ := I.tuple hqx
    obtain ⟨its2, rv2, p2, _⟩ := I.list hqy
    obtain ⟨u, hu, ru⟩ := rv.get hx
    obtain ⟨u2, hu2, ru2⟩ := rv2.get hy
    have hzl : z < s.heap.objs.size := Heap.lt_size hz
    have hh : X.A.in1.handled = none := I.ok.hd hc
    have l1 : i < its.toArray.size := by
      have := (List.getElem?_eq_some_iff.mp hu).1
      simpa using this
    have l2 : i < its2.toArray.size := by
      have := (List.getElem?_eq_some_iff.mp hu2).1
      simpa using this
    refine wpAny_pyNext_zipD2_item S (Draws.tuple hh i1 a n1 its.toArray) (Draws.list hh i2 b n2 its2.toArray) hz hTI hTO ⟨h1, p⟩ ⟨h2, p2.isList⟩ l1 l2 fun x1 x2 h' tk hx1 hx2 z' TO' h1' h2' hT hsz hk => ?_
    have ex1 : x1 = u := Option.some.inj (hx1.symm.trans (by simpa using hu))
    have ex2 : x2 = u2 := Option.some.inj (hx2.symm.trans (by simpa using hu2))
    subst ex1 ex2
    refine ⟨_, rfl, wpAny_letOwnedTupleGo_zip (s := { s with heap := h', toks := tk }) z' fun h'' z'' sb => ?_⟩
    have hT2 : h''.get? s.heap.objs.size = some { cls := .type "tuple", data := .seq #[x1, x2] } := (sb.2 _ (Nat.ne_of_gt hzl)).trans hT
    have new : ObjOk X.prog X.w (upd H s.heap.objs.size (.tup [x, y])) h'' s.heap.objs.size (.tup [x, y]) :=
      ⟨by show 2 ≤ sizeLine; decide, [x1, x2], .cons ru (.cons ru2 .nil), ⟨_, hT2, rfl, _, rfl⟩⟩
    have I1 : L2.Inv X pins σ (upd H s.heap.objs.size (.tup [x, y])) { s with heap := h'', toks := tk } :=
      I.turnedNew (t' := tk) (ch := [z, TI, TO, i1, i2]) (fun c o hb q => (sb.2 c (fun q' => hb (by simp [q']))).trans (hk c o (fun q' => hb (by simp [q'])) (fun q' => hb (by simp [q'])) (fun q' => hb (by simp [q'])) (fun q' => hb (by simp [q'])) q)) hf (Nat.le_refl _) new
    refine ⟨.ref s.heap.objs.size, _, I1, rfl, ⟨_, x, y, rfl, I.hok.fresh (Nat.le_refl _), rfl, fun l hl => by rw [I.tuple_inj hl hqx]; exact hx, fun l hl => by rw [I.list_inj hl hqy]; exact hy⟩, ⟨z'', ?_, ⟨x1, x2, ?_⟩, ?_, ?_⟩, fun c hcm => ?_⟩
    · exact (sb.2 _ S.TIz).trans (hk _ _ S.TIz S.TITO S.TIi1 S.TIi2 hTI)
    · exact (sb.2 _ S.TOz).trans TO'
    · exact h1'.1.at fun o q => (sb.2 _ (Ne.symm S.zi1)).trans q
    · exact h2'.1.at fun o q => (sb.2 _ (Ne.symm S.zi2)).trans q
    · have hlt : c < s.heap.objs.size := by
        have e' : c = z ∨ c = TI ∨ c = TO ∨ c = i1 ∨ c = i2 := by simpa using hcm
        rcases e' with q | q | q | q | q
        · rw [q]; exact hzl
        · rw [q]; exact Heap.lt_size hTI
        · rw [q]; exact Heap.lt_size hTO
        · rw [q]; obtain ⟨_, e1, _⟩ := h1; exact Heap.lt_size e1
        · rw [q]; obtain ⟨_, e2, _⟩ := h2; exact Heap.lt_size e2
      rw [upd_ne (Nat.ne_of_lt hlt)]
      exact (hf c hcm).1
  done := by
    intro X hP hw hK hc i pins s σ H E I hf st hg
    subst hP hw hK
    obtain ⟨hz, hTI, ⟨x0, y0, hTO⟩, h1, h2⟩ := st
    obtain ⟨xs, ys, hqx, hqy, hend, hi⟩ := hg
    obtain ⟨its, rv, p, _⟩ := I.tuple hqx
    obtain ⟨its2, rv2, p2, _⟩ := I.list hqy
    have l1 := rv.length
    have l2 := rv2.length
    have hh : X.A.in1.handled = none := I.ok.hd hc
    have e1 : i = its.toArray.size := by simp; omega
    have e2 : i = its2.toArray.size := by simp; omega
    refine wpAny_pyNext_zipD2_end S (Draws.tuple hh i1 a n1 its.toArray) (Draws.list hh i2 b n2 its2.toArray) hz hTI hTO ⟨h1, p⟩ ⟨h2, p2.isList⟩ (Nat.le_of_eq e1) (Nat.le_of_eq e2) (.inl e1) fun h' tk hk => ⟨rfl, I.turnedL (t' := tk) (ch := [z, TI, TO, i1, i2]) (fun c o hb q =>
      hk c o (fun q' => hb (by simp [q'])) (fun q' => hb (by simp [q'])) (fun q' => hb (by simp [q'])) (fun q' => hb (by simp [q'])) q) hf⟩
  self := fun A i s Q E st h => wpAny_pyIter_zip st.1 h
def ZipIt (K : PySem.W.Frag) (vs : List V) (R : It → Hp → Prop) (H1 : Hp) : Prop := ∃ a b xs ys, vs = [.ref a, .ref b] ∧ SqT K H1 a xs ∧ ((SqT K H1 b ys ∧ R (RZ.ItzT K a b) H1) ∨ (SqL K H1 b ys ∧ R (ItzM K a b) H1))
def iZipM (K : PySem.W.Frag) (ta : TA) : TI := fun σ H R => ta σ H fun vs H1 => ZipIt K vs R H1
theorem pi_zipM {X : Cx} {e e2 : Expr} {ta : TA} {p pos tpos : Pos} {elts : List Expr} {kk : Nat} (hg : Gl X "zip") (hm : X.mg "zip" = none) (ha : PA X [e, e2] ta)
    (hs : starEach [e, e2] X.env = (false, eval e X.env) :: starEach [e2] X.env := by rfl) (hpl : (backTo pos (starEach [e2] X.env)).any (·.1) = false := by rfl) :
    PI X (.Tuple elts kk tpos) (.Call (.Name "zip" p) [e, e2] [] pos) (iZipM X.K ta) := by
  refine ⟨fun pins s σ H R I h => ?_⟩
  refine Call_ (ld_blt I hg hm PyProof.Rows.boot_zip (PyProof.Rows.callWith_type1 (thn (ha.run pos pins s σ H _ I h) fun us s1 ⟨vs, H1, I1, r1, q1⟩ => ?_) hs hpl))
  obtain ⟨a, b, xs, ys, ex, hqx, q1⟩ := q1
  subst ex
  cases r1 with
  | cons r rr =>
    cases rr with
    | cons r' rr =>
      cases rr
      cases r
      cases r'
      have fresh5 : ∀ c, c ∈ [s1.heap.objs.size + 4, s1.heap.objs.size + 2, s1.heap.objs.size + 3, s1.heap.objs.size, s1.heap.objs.size + 1] → FpOk X pins H1 c := fun c hcm => by
        have e' : c = s1.heap.objs.size + 4 ∨ c = s1.heap.objs.size + 2 ∨ c = s1.heap.objs.size + 3 ∨ c = s1.heap.objs.size ∨ c = s1.heap.objs.size + 1 := by simpa using hcm
        have hle : s1.heap.objs.size ≤ c := by
          rcases e' with z | z | z | z | z
          · rw [z]; exact Nat.le_add_right _ _
          · rw [z]; exact Nat.le_add_right _ _
          · rw [z]; exact Nat.le_add_right _ _
          · rw [z]; exact Nat.le_refl _
          · rw [z]; exact Nat.le_add_right _ _
        exact I1.fpOk hle (I1.hok.fresh hle)
      obtain ⟨its, rv, p1, _⟩ := I1.tuple hqx
      obtain ⟨o1, ho1, _⟩ := id p1
      rcases q1 with ⟨hqy, q⟩ | ⟨hqy, q⟩
      · obtain ⟨its2, rv2, p2, _⟩ := I1.tuple hqy
        obtain ⟨o2, ho2, _⟩ := id p2
        refine RZ.call_zipT (show s1.heap.IsTuple a its.toArray from p1) (show s1.heap.IsTuple b its2.toArray from p2) fun h' hz hTI hTO h1 h2 hsz hk => wpAny_pyIter_zip hz ?_
        have I2 : L2.Inv X pins σ H1 { s1 with heap := h' } := I1.kept (t' := s1.toks) hk
        exact ⟨s1.heap.objs.size + 4, [s1.heap.objs.size + 4, s1.heap.objs.size + 2, s1.heap.objs.size + 3, s1.heap.objs.size, s1.heap.objs.size + 1], _, _, H1, rfl, I2, RZ.turn_zipT (PySem.W.ktu_apart s1.heap.objs.size a b (Heap.lt_size ho1) (Heap.lt_size ho2)), ⟨hz, hTI, ⟨_, _, hTO⟩, h1, h2⟩, fresh5, q⟩
      · obtain ⟨its2, rv2, p2, _⟩ := I1.list hqy
        have lt2 := p2.lt
        refine zip_begins2 (begins_tuple a its.toArray) (begins_list b its2.toArray) p1 p2.isList fun h' hz hTI hTO h1 h2 hsz hk => wpAny_pyIter_zip hz ?_
        have I2 : L2.Inv X pins σ H1 { s1 with heap := h' } := I1.kept (t' := s1.toks) hk
        have la : a < s1.heap.objs.size := Heap.lt_size ho1
        have S : ZipSep2 (s1.heap.objs.size + 4) (s1.heap.objs.size + 2) (s1.heap.objs.size + 3) s1.heap.objs.size (s1.heap.objs.size + 1) [s1.heap.objs.size, a] [s1.heap.objs.size + 1, b] :=
          zip_sep2 (fp1 := [a]) (fp2 := [b]) (fun c hc => by rw [List.mem_singleton.mp hc]; exact la) (fun c hc => by rw [List.mem_singleton.mp hc]; exact lt2)
        exact ⟨s1.heap.objs.size + 4, [s1.heap.objs.size + 4, s1.heap.objs.size + 2, s1.heap.objs.size + 3, s1.heap.objs.size, s1.heap.objs.size + 1], _, _, H1, rfl, I2, turn_zipM S (Nat.ne_of_lt la) (Nat.ne_of_lt (Nat.lt_succ_of_lt lt2)), ⟨hz, hTI, ⟨_, _, hTO⟩, ⟨_, h1, rfl, rfl⟩, ⟨_, h2, rfl, rfl⟩⟩, fresh5, q⟩
/-! ### enumerate(tuple) -/
theorem enum_newT {v : Value} {o : Obj} {HH : Heap → Prop} (B : Begins v o HH) :
    Meets (Builtin.«enumerate.__new__» ⟨[.type "enumerate", v], []⟩) (fun _ R s => HH s.heap ∧
      R (.ok (.ret (.ref (s.heap.push o).objs.size))) { s with heap := (s.heap.push o).push { cls := .type "enumerate", data := .fields #[.none, .bool false, .ref s.heap.objs.size, rawInt 0, .none, .none] } }) :=
  .of_wp fun prog w A R s h => by
    obtain ⟨hp, g, d, tk, os⟩ := s; obtain ⟨h1, h⟩ := h
    have hsub := sub_enumerate
    have q1 : ∀ {A' : Around} {E : Value → Shared → Prop} {Q : Value → Shared → Prop}, Q (.ref hp.objs.size) ⟨hp.push o, g, d, tk, os⟩ → wpAny (model prog w) A' (pyIter v) Q E ⟨hp, g, d, tk, os⟩ :=
      fun q => B.iter prog w _ _ ⟨hp, g, d, tk, os⟩ _ h1 q
    wp_walk using q1
    refine wpAny_stack_any fun st => wpAny_pure ?_
    split
    · rename_i c _ _ _ _ _
      cases (c == Value.type "enumerate")
      · wp_walk using q1
        exact ⟨_, rfl, h⟩
      · wp_walk using q1
        exact ⟨_, rfl, h⟩
    · wp_walk using q1
      exact ⟨_, rfl, h⟩
theorem call_enumT {prog : Program} {w : World} {A : Around} {E : Value → Shared → Prop} {s : Shared} {l : Addr} {items : Array Value} {Q : Value → Shared → Prop} (hL : s.heap.IsTuple l items)
    (h : ∀ h', IsEnum h' (s.heap.objs.size + 1) s.heap.objs.size 0 .none → h'.IsTupleIter s.heap.objs.size l 0 → h'.objs.size = s.heap.objs.size + 2 →
      (∀ b o, s.heap.get? b = some o → h'.get? b = some o) → Q (.ref (s.heap.objs.size + 1)) { s with heap := h' }) :
    wpAny (model prog w) A (call (.type "enumerate") [.ref l]) Q E s := by
  refine callType_new F.called_enumerate (by decide) (F.typeCall_enumerate_1 _) (F.newCall_enumerate_1 _) (fun obj => F.args_object_init_2 obj _) F.entry_enumerate_new
    (enum_newT (begins_tuple l items)) ⟨hL, ?_⟩
  have hz : (s.heap.push { cls := .type "tuple_iterator", data := .fields #[.ref l, .int 0 0] }).objs.size = s.heap.objs.size + 1 := Heap.size_push ..
  show _ ∧ _
  rw [hz]
  have he : IsEnum ((s.heap.push { cls := .type "tuple_iterator", data := .fields #[.ref l, .int 0 0] }).push
      { cls := .type "enumerate", data := .fields #[.none, .bool false, .ref s.heap.objs.size, rawInt 0, .none, .none] }) (s.heap.objs.size + 1) s.heap.objs.size 0 .none := by
    have := Heap.get?_push_size (s.heap.push { cls := .type "tuple_iterator", data := .fields #[.ref l, .int 0 0] })
      (o := { cls := .type "enumerate", data := .fields #[.none, .bool false, .ref s.heap.objs.size, rawInt 0, .none, .none] }) rfl
    rw [hz] at this; exact this
  refine ⟨⟨_, he, rfl⟩, h _ he ⟨_, Heap.get?_push_of_some _ (Heap.get?_push_size _ rfl), rfl, rfl⟩ (by rw [Heap.size_push, hz]) fun b o x => Heap.get?_push_of_some _ (Heap.get?_push_of_some _ x)⟩
/-- the tuple at a, each item in a new pair -/
def IteT (K : PySem.W.Frag) (a : Addr) : It :=
  ⟨fun i H => ∃ (xs : List V) (x : V), SqT K H a xs ∧ xs[i]? = some x, fun i H v H' => ∃ T x, v = .ref T ∧ H T = none ∧ H' = upd H T (.tup [.int (i : Nat), x]) ∧ ∀ xs, SqT K H a xs → xs[i]? = some x, fun i H => ∃ xs : List V, SqT K H a xs ∧ i = xs.length⟩
theorem turn_enumT {P : Program} {w : World} {K : PySem.W.Frag} {elts : List Expr} {kk : Nat} {tpos : Pos} {a e it : Addr} (hne : e ≠ it) (ha : a ≠ it) (hae : e ≠ a) :
    Turn P w K (.Tuple elts kk tpos) (IteT K a) [e, it] e (fun i h => (∃ old, IsEnum h e it ((i : Nat) : Int) old) ∧ h.IsTupleIter it a i) where
  mem := by simp
  obj := fun i h st b hb => by
    obtain ⟨⟨old, he⟩, ⟨o, ho, hc, hd⟩⟩ := st
    have e' : b = e ∨ b = it := by simpa using hb
    rcases e' with z | z
    · rw [z]; exact ⟨_, he, fun v q => nomatch q⟩
    · rw [z]; exact ⟨o, ho, fun v q => by rw [hd] at q; cases q⟩
  keep := fun i h h' st k => let ⟨⟨old, he⟩, hi⟩ := st; ⟨⟨old, k e (by simp) _ he⟩, hi.at fun o q => k it (by simp) o q⟩
  item := by
    intro X hP hw hK hc i pins s σ H E I hf st hg
    subst hP hw hK
    obtain ⟨⟨old, he⟩, hit⟩ := st
    obtain ⟨xs, x, hq, hx⟩ := hg
    obtain ⟨its, rv, p, hz⟩ := I.tuple hq
    obtain ⟨u, hu, ru⟩ := rv.get hx
    have hel : e < s.heap.objs.size := Heap.lt_size he
    have hil : it < s.heap.objs.size := by obtain ⟨_, q, _⟩ := hit; exact Heap.lt_size q
    have hh : X.A.in1.handled = none := I.ok.hd hc
    have l1 : i < its.toArray.size := by
      have := (List.getElem?_eq_some_iff.mp hu).1
      simpa using this
    refine wpAny_pyNext_enum_itemC (Draws.tuple hh it a ha its.toArray) he ⟨hit, p⟩ l1 hne (by simp [hne, hae]) fun x1 h' tk hx1 ho hit' hT hsz hk => ?_
    have ex1 : x1 = u := Option.some.inj (hx1.symm.trans (by simpa using hu))
    subst ex1
    refine ⟨_, rfl, wpAny_letOwnedTupleGo_enum (s := { s with heap := h', toks := tk + 1 }) ho fun h'' he' sb => ?_⟩
    have hT2 : h''.get? s.heap.objs.size = some { cls := .type "tuple", data := .seq #[.int i tk, x1] } := (sb.2 _ (Nat.ne_of_gt hel)).trans hT
    have new : ObjOk X.prog X.w (upd H s.heap.objs.size (.tup [.int (i : Nat), x])) h'' s.heap.objs.size (.tup [.int (i : Nat), x]) :=
      ⟨by show 2 ≤ sizeLine; decide, [.int i tk, x1], .cons ⟨_, rfl⟩ (.cons ru .nil), ⟨_, hT2, rfl, _, rfl⟩⟩
    have I1 : L2.Inv X pins σ (upd H s.heap.objs.size (.tup [.int (i : Nat), x])) { s with heap := h'', toks := tk + 1 } :=
      I.turnedNew (t' := tk + 1) (ch := [e, it]) (fun b ob hb q => (sb.2 b (fun z => hb (by simp [z]))).trans (hk b ob (fun z => hb (by simp [z])) (fun z => hb (by simp [z])) q)) hf (Nat.le_refl _) new
    refine ⟨.ref s.heap.objs.size, _, I1, rfl, ⟨_, x, rfl, I.hok.fresh (Nat.le_refl _), rfl, fun ys hy => by rw [I.tuple_inj hy hq]; exact hx⟩, ⟨⟨x1, ?_⟩, hit'.1.at fun o q => (sb.2 it (Ne.symm hne)).trans q⟩, fun b hb => ?_⟩
    · have e1 : ((i + 1 : Nat) : Int) = (i : Int) + 1 := by omega
      rw [e1]; exact he'
    · have hb' : b < s.heap.objs.size := by
        have e' : b = e ∨ b = it := by simpa using hb
        rcases e' with z | z
        · rw [z]; exact hel
        · rw [z]; exact hil
      rw [upd_ne (Nat.ne_of_lt hb')]
      exact (hf b hb).1
  done := by
    intro X hP hw hK hc i pins s σ H E I hf st hg
    subst hP hw hK
    obtain ⟨⟨old, he⟩, hit⟩ := st
    obtain ⟨xs, hq, hx⟩ := hg
    obtain ⟨its, rv, p, hz⟩ := I.tuple hq
    have hh : X.A.in1.handled = none := I.ok.hd hc
    have hl := rv.length
    have e1 : i = its.toArray.size := by simp; omega
    subst e1
    refine wpAny_pyNext_enum_endD (Draws.tuple hh it a ha its.toArray) he ⟨hit, p⟩ fun h' hx => ⟨rfl, I.turnedL (t' := s.toks) (ch := [e, it]) (fun b o hb q => hx b o (fun z => hb (by simp [z])) q) hf⟩
  self := fun A i s Q E st h => let ⟨⟨_, he⟩, _⟩ := st; wpAny_pyIter_enum he h
def EnIt (K : PySem.W.Frag) (vs : List V) (R : It → Hp → Prop) (H1 : Hp) : Prop := ∃ a xs, vs = [.ref a] ∧ ((SqL K H1 a xs ∧ R (Ite K a) H1) ∨ (SqT K H1 a xs ∧ R (IteT K a) H1))
def iEnumA (K : PySem.W.Frag) (ta : TA) : TI := fun σ H R => ta σ H fun vs H1 => EnIt K vs R H1
theorem pi_enumA {X : Cx} {e : Expr} {ta : TA} {p pos tpos : Pos} {elts : List Expr} {kk : Nat} (hg : Gl X "enumerate") (hm : X.mg "enumerate" = none) (ha : PA X [e] ta) (hs : starEach [e] X.env = [(false, eval e X.env)] := by rfl) :
    PI X (.Tuple elts kk tpos) (.Call (.Name "enumerate" p) [e] [] pos) (iEnumA X.K ta) := by
  refine ⟨fun pins s σ H R I h => ?_⟩
  obtain h := h
  refine Call_ (ld_blt I hg hm boot_enumerate (PyProof.Rows.callWith_type1 (thn (ha.run pos pins s σ H _ I h) fun us s1 ⟨vs, H1, I1, r1, q1⟩ => ?_) hs rfl))
  obtain ⟨a, xs, ex, q1⟩ := q1
  subst ex
  cases r1 with
  | cons r rr =>
    cases rr
    cases r
    have fr : ∀ b ∈ [s1.heap.objs.size + 1, s1.heap.objs.size], FpOk X pins H1 b := fun b hb => by
      have e' : b = s1.heap.objs.size + 1 ∨ b = s1.heap.objs.size := by simpa using hb
      have hle : s1.heap.objs.size ≤ b := by
        rcases e' with z | z
        · rw [z]; exact Nat.le_succ _
        · rw [z]; exact Nat.le_refl _
      exact I1.fpOk hle (I1.hok.fresh hle)
    rcases q1 with ⟨hq, q⟩ | ⟨hq, q⟩
    · obtain ⟨its, rv, p', hz⟩ := I1.list hq
      refine call_enumerate_list p'.isList fun h' he hit hsz hk => wpAny_pyIter_enum he ?_
      have I2 : L2.Inv X pins σ H1 { s1 with heap := h' } := I1.kept (t' := s1.toks) hk
      exact ⟨s1.heap.objs.size + 1, [s1.heap.objs.size + 1, s1.heap.objs.size], _, _, H1, rfl, I2, turn_enum a _ _, ⟨⟨_, he⟩, hit, Nat.succ_ne_self _⟩, fr, q⟩
    · obtain ⟨its, rv, p', hz⟩ := I1.tuple hq
      obtain ⟨o1, ho1, _⟩ := id p'
      have la : a < s1.heap.objs.size := Heap.lt_size ho1
      refine call_enumT (show s1.heap.IsTuple a its.toArray from p') fun h' he hit hsz hk => wpAny_pyIter_enum he ?_
      have I2 : L2.Inv X pins σ H1 { s1 with heap := h' } := I1.kept (t' := s1.toks) hk
      exact ⟨s1.heap.objs.size + 1, [s1.heap.objs.size + 1, s1.heap.objs.size], _, _, H1, rfl, I2, turn_enumT (Nat.succ_ne_self _) (Nat.ne_of_lt la) (Nat.ne_of_gt (Nat.lt_succ_of_lt la)), ⟨⟨_, he⟩, hit⟩, fr, q⟩
end K4

/-! Zl -/
/-! Comprehensions over zip and enumerate. -/
namespace K4
open PySem L2 K1 PyProof.Rows
section
variable {K : PySem.W.Frag} {a b : Addr} {xs ys : List V}
theorem walk_zipT (hl : xs.length = ys.length) : Walk (RZ.ItzT K a b) xs.length (fun H => SqT K H a xs ∧ SqT K H b ys) (YPair (fun i => xs[i]?) (fun i => ys[i]?)) := by
  refine ⟨fun i _ hi q => ?_, fun _ q => ⟨xs, ys, q.1, q.2, by omega⟩, fun i H v H' _ q y => ?_⟩
  · have h2 : i < ys.length := by omega
    exact ⟨xs, ys, xs[i], ys[i], q.1, q.2, by simp [hi], by simp [h2]⟩
  · obtain ⟨T, x, z, h1, h2, h3, h4, h5⟩ := y
    exact ⟨T, x, z, h1, h2, h3, h4 xs q.1, h5 ys q.2⟩
theorem walk_zipM (hl : xs.length = ys.length) : Walk (ItzM K a b) xs.length (fun H => SqT K H a xs ∧ SqL K H b ys) (YPair (fun i => xs[i]?) (fun i => ys[i]?)) := by
  refine ⟨fun i _ hi q => ?_, fun _ q => ⟨xs, ys, q.1, q.2, hl, rfl⟩, fun i H v H' _ q y => ?_⟩
  · have h2 : i < ys.length := by omega
    exact ⟨xs, ys, xs[i], ys[i], q.1, q.2, by simp [hi], by simp [h2]⟩
  · obtain ⟨T, x, z, h1, h2, h3, h4, h5⟩ := y
    exact ⟨T, x, z, h1, h2, h3, h4 xs q.1, h5 ys q.2⟩
theorem walk_enumL : Walk (Ite K a) xs.length (fun H => SqL K H a xs) (YPair (fun i => some (.int (i : Nat))) (fun i => xs[i]?)) := by
  refine ⟨fun i _ hi q => ⟨xs, xs[i], q, by simp [hi]⟩, fun _ q => ⟨xs, q, by simp⟩, fun i H v H' _ q y => ?_⟩
  obtain ⟨T, x, h1, h2, h3, h4⟩ := y
  exact ⟨T, _, x, h1, h2, h3, rfl, h4 xs q⟩
theorem walk_enumT : Walk (IteT K a) xs.length (fun H => SqT K H a xs) (YPair (fun i => some (.int (i : Nat))) (fun i => xs[i]?)) := by
  refine ⟨fun i _ hi q => ⟨xs, xs[i], q, by simp [hi]⟩, fun _ q => ⟨xs, q, rfl⟩, fun i H v H' _ q y => ?_⟩
  obtain ⟨T, x, h1, h2, h3, h4⟩ := y
  exact ⟨T, _, x, h1, h2, h3, rfl, h4 xs q⟩
end
theorem zip_sq {K : PySem.W.Frag} {R : It → Hp → Prop} {H : Hp} {a : Addr} {v : V} {xs ys : List V} (hx : ∀ H, SqT K H a xs) (h : Sq K H v ys) (hl : xs.length = ys.length)
    (key : ∀ J G, Walk J xs.length G (YPair (fun i => xs[i]?) (fun i => ys[i]?)) → (∀ H', Keeps K H H' → G H') → R J H) : ZipIt K [.ref a, v] R H := by
  obtain ⟨b, rfl, h | h⟩ := h
  · exact ⟨a, b, xs, ys, rfl, hx H, .inr ⟨h, key _ _ (walk_zipM hl) fun H' k => ⟨hx H', k.1 _ _ h⟩⟩⟩
  · exact ⟨a, b, xs, ys, rfl, hx H, .inl ⟨h, key _ _ (walk_zipT hl) fun H' k => ⟨hx H', k.2 _ _ h⟩⟩⟩
theorem en_sq {K : PySem.W.Frag} {R : It → Hp → Prop} {H : Hp} {v : V} {xs : List V} (h : Sq K H v xs)
    (key : ∀ J G, Walk J xs.length G (YPair (fun i => some (.int (i : Nat))) (fun i => xs[i]?)) → (∀ H', Keeps K H H' → G H') → R J H) : EnIt K [v] R H := by
  obtain ⟨a, rfl, h | h⟩ := h
  · exact ⟨a, xs, rfl, .inl ⟨h, key _ _ walk_enumL fun H' k => k.1 _ _ h⟩⟩
  · exact ⟨a, xs, rfl, .inr ⟨h, key _ _ walk_enumT fun H' k => k.2 _ _ h⟩⟩
end K4

/-! G69h -/


namespace K4
open PySem L2 K1
abbrev sFitting : Stmt := top 57
abbrev nFitting : List Str := ["signs", "rules", "seen", "told", "paper", "_", "rule", "number", "one", "flag"]
theorem scFitting : FnScope nFitting ["signs", "rules", "seen"] (defScope sFitting) := ⟨rfl, rfl, rfl, by decide +kernel, rfl, by decide +kernel, by decide +kernel⟩
abbrev scFitI : Scope := { kind := ScopeKind.function, names := [(".0", NameKind.local), ("number", NameKind.local), ("rule", NameKind.cell), ("all", NameKind.globalImplicit), ("seen", NameKind.cell), ("signs", NameKind.cell)], isGenerator := false, isCoroutine := false }
section
variable {K : PySem.W.Frag} {σ : L2.St} {H : Hp} {vs : List Nat} {te : TE} {tt : TT} {g : TG} {xs : List V} {v : V}
/-- a comprehension over a list or a tuple, with any target and any test -/
theorem lc_sqI {R : It → Hp → Prop} (h : Sq K H v xs) (Pv : Addr → Nat → Hp → Prop) (h0 : ∀ D, H D = none → Pv D 0 (upd H D (.lst []))) (hG : ∀ D i H', H D = none → Pv D i H' → Keeps K H H')
    (hs : ∀ D i x H', H D = none → xs[i]? = some x → Pv D i H' → g x (wipe σ vs) H' fun σ2 H2 => wipe σ2 vs = wipe σ vs ∧ tt σ2 H2 fun b H3 =>
      if b = true then te σ2 H3 fun y H4 => ∃ acc, H4 D = some (.lst acc) ∧ acc.length < sizeLine ∧ Pv D (i + 1) (upd H4 D (.lst (acc ++ [y]))) else Pv D (i + 1) H3)
    (Qe : Addr → Hp → Prop) (hd : ∀ D H', H D = none → Pv D xs.length H' → Qe D H')
    (hR : ∀ J, (∀ D, H D = none → ∃ W : Nat → Nat → Hp → Prop, (∃ m, W 0 m (upd H D (.lst []))) ∧ ∀ i m H, W i m H →
      (It.stop J i H ∧ Qe D H) ∨ (It.go J i H ∧ ∃ Nx : Hp → Prop, (∀ H', Nx H' → ∃ m', m' < m ∧ W (i + 1) m' H') ∧ ∀ x H', It.yld J i H x H' → g x (wipe σ vs) H' fun σ2 H2 => wipe σ2 vs = wipe σ vs ∧ tt σ2 H2 fun b H3 =>
        if b = true then te σ2 H3 fun y H4 => ∃ acc, H4 D = some (.lst acc) ∧ acc.length < sizeLine ∧ Nx (upd H4 D (.lst (acc ++ [y]))) else Nx H3)) → R J H) :
    SqIt K v R H := by
  obtain ⟨a, rfl, h | h⟩ := h
  · refine ⟨a, rfl, .inl ⟨⟨xs, h⟩, hR _ fun D hD => lc_it (walk_list (K := K) (a := a) (xs := xs)) (Pv D) (h0 D hD) (fun i H' _ p => (hG D i H' hD p).1 _ _ h) ?_ (fun H' p => hd D H' hD p)⟩⟩
    rintro i x H1 H2 hi p ⟨rfl, hx⟩
    exact hs D i x _ hD hx p
  · refine ⟨a, rfl, .inr ⟨⟨xs, h⟩, hR _ fun D hD => lc_it (walk_tup (K := K) (a := a) (xs := xs)) (Pv D) (h0 D hD) (fun i H' _ p => (hG D i H' hD p).2 _ _ h) ?_ (fun H' p => hd D H' hD p)⟩⟩
    rintro i x H1 H2 hi p ⟨rfl, hx⟩
    exact hs D i x _ hD hx p
end
/-- a paper that was tried, with its flag -/
inductive Sn where
  | good (p : Str) (f : Int)
  | odd (y : V) (f : Int)
def Sn.val : Sn → V
  | .good p _ => .str p
  | .odd y _ => y
def Sn.flag : Sn → Int
  | .good _ f => f
  | .odd _ f => f
def Sn.isOk : Sn → Bool
  | .good _ _ => true
  | .odd _ _ => false
def Sn.fits (K : PySem.W.Frag) (H : Hp) (z : Str) : Sn → Prop
  | .good p _ => Pp (tl z) (tl p)
  | .odd y _ => ∀ H', Same H H' → BadP K H' z y
def PairsAt (K : PySem.W.Frag) (H : Hp) : List V → List Sn → Prop
  | [], [] => True
  | v :: vs, s :: ss => Sq K H v [s.val, .int s.flag] ∧ PairsAt K H vs ss
  | _, _ => False
theorem PairsAt.len {K : PySem.W.Frag} {H : Hp} : ∀ {vs : List V} {ss : List Sn}, PairsAt K H vs ss → vs.length = ss.length
  | [], [], _ => rfl
  | _ :: _, _ :: _, h => congrArg Nat.succ h.2.len
theorem PairsAt.get {K : PySem.W.Frag} {H : Hp} : ∀ {vs : List V} {ss : List Sn} {i : Nat} {v : V}, PairsAt K H vs ss → vs[i]? = some v → ∃ s, ss[i]? = some s ∧ Sq K H v [s.val, .int s.flag]
  | v :: vs, s :: ss, 0, u, h, e => by obtain rfl := Option.some.inj e; exact ⟨s, rfl, h.1⟩
  | v :: vs, s :: ss, i + 1, u, h, e => PairsAt.get (vs := vs) (ss := ss) (i := i) h.2 e
  | [], [], _, _, _, e => by cases e
theorem PairsAt.same {K : PySem.W.Frag} {H H' : Hp} (s : Same H H') : ∀ {vs : List V} {ss : List Sn}, PairsAt K H vs ss → PairsAt K H' vs ss
  | [], [], _ => trivial
  | _ :: _, _ :: _, h => ⟨h.1.same s, h.2.same s⟩
def firstOdd (ss : List Sn) : Option Sn := ss.find? fun s => !s.isOk
theorem firstOdd_split {ls : List Sn} {i : Nat} {l : Sn} (h : ls[i]? = some l) (hp : ∀ y ∈ ls.take i, y.isOk = true) (hl : l.isOk = false) : firstOdd ls = some l := by
  obtain ⟨hi, he⟩ := List.getElem?_eq_some_iff.mp h
  have h1 := (List.take_append_drop i ls).symm
  rw [List.drop_eq_getElem_cons hi, he] at h1
  unfold firstOdd
  rw [h1, List.find?_append, List.find?_eq_none.mpr fun y hy => by rw [hp y hy]; simp, Option.none_or, List.find?_cons, hl]
  rfl
theorem firstOdd_none {ls : List Sn} (hp : ∀ y ∈ ls, y.isOk = true) : firstOdd ls = none := List.find?_eq_none.mpr fun y hy => by rw [hp y hy]; simp
def cmpS (z : Str) (r : R) : Sn → Bool
  | .good p f => ev (tl z) r (tl p) == decide (f = 1)
  | .odd _ _ => true
/-- does a rule say of these papers what was seen? -/
def fitsB (z : Str) (ss : List Sn) (l : Rl) : Bool := ss.all (cmpS z l.rule)
theorem bl_eq (a b : Bool) : decide (V.bl a = V.bl b) = (a == b) := by cases a <;> cases b <;> rfl
theorem int_eq1 (f : Int) : decide (V.int f = V.int 1) = decide (f = 1) := decide_eq_decide.mpr ⟨fun h => V.int.inj h, fun h => by rw [h]⟩
def fitN (z : Str) (ss : List Sn) (ls : List Rl) : List Nat := (List.range ls.length).filter fun i => fitsB z ss (ls.getD i (.bad .none .none))
theorem filt_range (f : Nat → Bool) (i : Nat) : (List.range (i + 1)).filter f = (List.range i).filter f ++ (if f i = true then [i] else []) := by
  rw [List.range_succ, List.filter_append]
  cases h : f i <;> simp [h]
def spFit (K : PySem.W.Frag) (CS CR CM CP : Addr) : Sp := fun vs H Q E => ∃ (x rv sv : V) (xs ps : List V) (ls : List Rl) (ss : List Sn), vs = [x, rv, sv] ∧ Sq K H rv xs ∧ Sq K H sv ps ∧ PairsAt K H ps ss ∧ ss.length ≤ 1000 ∧
  (((∀ H', Same H H' → Bads K H' x) ∧ xs ≠ [] ∧ Err CS "signs" x H E) ∨ (∃ z : Str, x = .str z ∧ z.length ≤ 12 ∧ (tl z).Nodup ∧ signsB z = true ∧ Checked K H z xs ls ∧ (∀ s ∈ ss, s.fits K H z) ∧
    (match firstNo ls with
    | some l => l.out K CR CM H E fun _ => False
    | none => (match firstOdd ss with
      | some s => Err CP "paper" s.val H E
      | none => ∀ H' v, Same H H' → Dp K H' v (.tuple ((fitN z ss ls).map pn)) → Q v H'))))
section
variable {P : Program} {w : World} {K : PySem.W.Frag} {mg : Str → Option Value} {base : Heap} {dO dI : Addr}
theorem ok_fitting {f CS CR CM CP : Addr} {fd : FuncData} (F : Fun K "fitting" "fitting" sFitting f fd) (B : Bl mg) (BZ : mg "enumerate" = none) (Ock : OCheckG CS CR CM P w K mg base) (Orp : OReqP CP P w K mg base) (Ofi : OFinds 40 P w K mg base) :
    FnOk P w K mg base (L2N.CX P w) 70 f fd ["signs", "rules", "seen"] (spFit K CS CR CM CP) := by
  refine okXN F scFitting (fun vs H Q E h => ?_) (fun cdv A outer s H vs Q E hr h => ?_)
  · obtain ⟨x, rv, sv, xs, ps, ls, ss, rfl, _⟩ := h
    rfl
  · obtain ⟨x, rv, sv, xs, ps, ls, ss, rfl, hS, hSs, hP, hsl, h⟩ := h
    refine ⟨_, (pss_cons (ps_setLcX (E := E) (i := 3) (ow := [("rule", 6)]) (g := gName 6) (cdt := tYes) rfl scFitting.nd rfl rfl (L2N.takes_of rfl rfl rfl rfl) (fun _ _ _ _ h => h) rfl rfl (sw_true rfl rfl rfl (by decide +kernel)) (pi_sq (pv 1)) (blkOk_by (N := nFitting) (sc := defScope sFitting) (by decide +kernel)) (fun _ _ _ _ _ => (pg_name (i := 6) scFitting.nd rfl (Or.inl rfl))) (fun _ _ _ _ _ => pts_nil) (fun _ _ _ _ _ xe px => (pe_ownX Ock (hr.mono (by omega)) px (pa_cons (pv 0) (pa_cons (pv 6) pa_nil))))) (pss_cons (ps_for (passes_of rfl) rfl (pi_sq (pv 2)) (pg_sq rfl (pgs_cons (pg_name (i := 4) scFitting.nd rfl (Or.inl rfl)) (pgs_cons (pg_name (i := 5) scFitting.nd rfl (Or.inl rfl)) pgs_nil))) (pss_one (ps_expr (pe_ownX Orp (hr.mono (by omega)) (L2N.passes_call (E := E) (L2N.takes_of rfl rfl rfl rfl) (fun _ _ _ _ h => h)) (pa_cons (pv 0) (pa_cons (pv 4) pa_nil)))))) (pss_one (ps_ret (pe_callTy call_tuple_of (by rfl) B.tuple (by decide +kernel) (pa_cons (pe_lc (own := [("number", 7), ("rule", 6)]) (g := gTup K 2 (gCons (gName 7) (gCons (gName 6) gNil))) rfl scFitting.nd (pi_enumA rfl BZ (pa_cons (pv 3) pa_nil)) (blkOk_by (N := nFitting) (sc := defScope sFitting) (by decide +kernel)) (fun _ _ _ _ _ => (pg_tup rfl (pgs_cons (pg_name (i := 7) scFitting.nd rfl (Or.inl rfl)) (pgs_cons (pg_name (i := 6) scFitting.nd rfl (Or.inr rfl)) pgs_nil)))) (fun _ _ _ _ _ => (pts_one (pt_val (pe_callB (id := "all") (r := rAll K) (cr_all rfl) (by rfl) B.all (by decide +kernel) (pa_cons (pe_lc (own := [("one", 8), ("flag", 9)]) (g := gSq K 2 (gCons (gName 8) (gCons (gName 9) gNil))) (tt := tYes) (wi := iSq K (tVar 2)) rfl scFitting.nd (pi_sq (pv 2)) (blkOk_by (N := nFitting) (sc := scFitI) (by decide +kernel)) (fun _ _ _ _ _ => (pg_sq rfl (pgs_cons (pg_name (i := 8) scFitting.nd rfl (Or.inl rfl)) (pgs_cons (pg_name (i := 9) scFitting.nd rfl (Or.inl rfl)) pgs_nil)))) (fun _ _ _ _ _ => pts_nil) (fun _ _ _ _ _ => (pe_cmpR op_eq (pe_own Ofi (hr.mono (by omega)) (pa_cons (pv 0) (pa_cons (pv 6) (pa_cons (pv 8) pa_nil)))) (pe_cmpR op_eq (pv 9) pe_int (nomark _)) (nomark _)))) pa_nil))))) (fun _ _ _ _ _ => (pv 7))) pa_nil)))))), ?_⟩
    try dsimp only [cxOf, Cx.nox, Cx.wish]
    walk_at "go"
    rcases h with ⟨hb, hne, er⟩ | ⟨z, rfl, hz, nd, hs, ⟨hA, hl, hf⟩, hfs, k⟩
    · refine lc_sq hS (fun _ => rfl) (fun acc H' => acc = [] ∧ Same H H') (fun D hD => ⟨rfl, same_new hD⟩) (fun D acc H' _ _ q => Same.keeps q.2) ?_ _ ?_ (fun J h => h)
      · rintro D i v acc H' hD hx la hacc ⟨rfl, sm⟩
        walk_at "go"
        exact ⟨x, v, rfl, .inl ⟨hb H' sm, er.same sm⟩⟩
      · rintro D acc H' hD la hacc ⟨rfl, sm⟩
        exact absurd (List.eq_nil_of_length_eq_zero la.symm) hne
    · have lz := len_tl z
      have hxl : xs.length = ls.length := by have := dpA_len hA; rw [List.length_map] at this; exact this
      refine lc_sq hS (fun _ => rfl) (fun acc H' => DpAll K H' acc ((ls.take acc.length).map fun l => l.rule.data true) ∧ Same H H' ∧ ∀ l ∈ ls.take acc.length, l.isOk = true) (fun D hD => ⟨.nil, same_new hD, fun l q => by cases q⟩) (fun D acc H' _ _ q => Same.keeps q.2.1) ?_ _ ?_ (fun J h => h)
      · rintro D i v acc H' hD hx la hacc ⟨ha, sm, hok⟩
        obtain ⟨d, hdi, hxd⟩ := dpA_get hA hx
        rw [List.getElem?_map] at hdi
        cases hli : ls[i]? with
        | none => rw [hli] at hdi; cases hdi
        | some l =>
        rw [hli] at hdi
        obtain rfl := Option.some.inj hdi
        have hmem := List.mem_of_getElem? hli
        have hil := (List.getElem?_eq_some_iff.mp hli).1
        rw [la] at hok
        walk_at "go"
        refine ⟨.str z, v, rfl, .inr ⟨z, l, rfl, hz, hs, dp_keep (Same.keeps sm) _ _ hxd, hf l hmem, ?_⟩⟩
        cases l with
        | ok r t =>
          intro H4 v4 s4 d4
          refine pp_next (s4 _ _ hacc) la (line60 (by omega)) ⟨?_, same_upd (sm.trans s4) hD, ?_⟩
          · have kt : KT K H4 (upd H4 D (.lst (acc ++ [v4]))) := kt_lst (s4 _ _ hacc)
            have pt : pureA ((ls.take acc.length).map fun l => l.rule.data true) = true := pureA_iff.mpr fun y hy => by
              obtain ⟨u, hu, rfl⟩ := List.mem_map.mp hy
              exact R.pure _
            have r1 := dpA_app (dpA_pure kt _ _ pt (dpA_keep (Same.keeps s4) _ _ ha)) (.cons (dp_pure kt _ _ r.pure d4) .nil)
            rw [la] at r1
            have e2 := take_next (f := fun l : Rl => l.rule.data true) hli
            rw [List.length_append, la]
            exact Eq.subst (motive := fun q => DpAll K _ (acc ++ [v4]) q) e2 r1
          · intro u hu
            rw [List.length_append, la] at hu
            rw [show i + [v4].length = i + 1 from rfl, List.take_succ, hli] at hu
            rcases List.mem_append.mp hu with q | q
            · exact hok u q
            · have : u = .ok r t := by simpa using q
              rw [this]; rfl
        | many r t =>
          rw [firstNo_split hli hok rfl] at k
          exact Err.same k sm
        | bad d b =>
          rw [firstNo_split hli hok rfl] at k
          exact ErrD.same k sm
      · rintro D acc H3 hD la hacc ⟨ha, sm, hok⟩
        rw [la, hxl, List.take_length] at hok
        rw [la, hxl, List.take_length] at ha
        rw [firstNo_none hok] at k
        walk_at "go"
        refine fr_sq (hSs.same sm) (fun i σ H' => ∃ o4 o5 : Option V, σ = [some (.str z), some rv, some sv, some (.ref D), o4, o5, none, none, none, none] ∧ Same H3 H' ∧ ∀ s ∈ ss.take i, s.isOk = true) ⟨none, none, rfl, Same.refl _, fun s hs => by cases hs⟩ (fun i σ H' _ ⟨_, _, _, s', _⟩ => fun a zs e => ⟨fun q => s'.seq q, fun q => Same.sqT s' q⟩) ?_ ?_ (fun J h => h)
        · rintro i v σ H4 hx ⟨o4, o5, rfl, s4, hok4⟩
          obtain ⟨s, hsi, hp⟩ := hP.get hx
          have hmem := List.mem_of_getElem? hsi
          refine r_gSq (hp.same (sm.trans s4)) rfl ?_
          walk_at "go"
          refine ⟨z, s.val, rfl, ?_⟩
          cases s with
          | good p f =>
            have hp2 : Pp (tl z) (tl p) := hfs _ hmem
            refine .inl ⟨p, rfl, by have := hp2.le; have := len_tl p; omega, pp_text hp2, fun H5 s5 => ⟨_, _, rfl, s4.trans s5, fun u hu => ?_⟩⟩
            rw [List.take_succ, hsi] at hu
            rcases List.mem_append.mp hu with q | q
            · exact hok4 u q
            · have : u = .good p f := by simpa using q
              rw [this]; rfl
          | odd y f =>
            rw [firstOdd_split hsi hok4 rfl] at k
            exact .inr ⟨hfs _ hmem H4 (sm.trans s4), Err.same k (sm.trans s4)⟩
        · rintro σ H4 ⟨o4, o5, rfl, s4, hok4⟩
          rw [hP.len, List.take_length] at hok4
          rw [firstOdd_none hok4] at k
          have e4 := s4 _ _ hacc
          have ha4 := dpA_keep (Same.keeps s4) _ _ ha
          have sm4 := sm.trans s4
          walk_at "go"
          refine en_sq (v := .ref D) ⟨D, rfl, .inl (SqL.of e4)⟩ (fun J G wk hG => ?_)
          intro D1 hD1
          have lacc : acc.length = ls.length := by rw [la, hxl]
          have fsucc := fun i : Nat => filt_range (fun i => fitsB z ss (ls.getD i (.bad .none .none))) i
          refine lc_it wk (fun i H' => H' D1 = some (.lst (((List.range i).filter fun i => fitsB z ss (ls.getD i (.bad .none .none))).map vi)) ∧ Same H4 H') ⟨upd_same, same_new hD1⟩ (fun i H' _ q => hG H' (Same.keeps q.2)) ?_ ?_
          · rintro i v H5 H6 hi ⟨eD1, s5⟩ ⟨T, a, b, rfl, hT, rfl, ha1, hb1⟩
            obtain rfl := Option.some.inj ha1
            have sT := same_new (o := HO.tup [V.int (i : Nat), b]) hT
            have eT : (upd H5 T (HO.tup [V.int (i : Nat), b])) T = some (HO.tup [V.int (i : Nat), b]) := upd_same
            have eD6 := sT _ _ eD1
            have s6 := s5.trans sT
            revert eT eD6 s6
            generalize upd H5 T (HO.tup [V.int (i : Nat), b]) = H6
            intro eT eD6 s6
            obtain ⟨d, hdi, hxd⟩ := dpA_get ha4 hb1
            rw [List.getElem?_map] at hdi
            cases hli : ls[i]? with
            | none => rw [hli] at hdi; cases hdi
            | some l =>
            rw [hli] at hdi
            obtain rfl := Option.some.inj hdi
            have hmem := List.mem_of_getElem? hli
            have egd : ls.getD i (.bad .none .none) = l := by rw [List.getD_eq_getElem?_getD, hli]; rfl
            have fs := fsucc i
            rw [egd] at fs
            have hil := (List.getElem?_eq_some_iff.mp hli).1
            have hlo : ∃ r t, l = .ok r t ∧ r.fit (tl z) ∧ r.parts ≤ 40 := by
              have h1 := hok l hmem
              have h2 := hf l hmem
              cases l with
              | ok r t => exact ⟨r, t, rfl, h2.1, h2.2.2⟩
              | many r t => cases h1
              | bad d b => cases h1
            obtain ⟨r, t, rfl, hrf, hrp⟩ := hlo
            have hrd := r.depth_le
            refine ⟨T, [.int (i : Nat), b], rfl, SqT.of eT, rfl, ?_⟩
            refine r_gcons ?_
            unfold gName
            refine r_gcons ?_
            refine r_gnil ⟨rfl, ?_⟩
            walk_at "go"
            refine lc_sqI (hSs.same (sm4.trans s6)) (fun D2 j H' => H' D2 = some (.lst ((((ss.map (cmpS z r)).take j).map V.bl))) ∧ Same H6 H') (fun D2 hD2 => ⟨upd_same, same_new hD2⟩) (fun D2 j H' _ q => Same.keeps q.2) ?_ _ ?_ (fun J h => h)
            · rintro D2 j x H7 hD2 hx ⟨eD2, s7⟩
              obtain ⟨s, hsi, hp⟩ := hP.get hx
              have hsm := List.mem_of_getElem? hsi
              have hjl := (List.getElem?_eq_some_iff.mp hsi).1
              have hso := hok4 s hsm
              cases s with
              | odd y f => cases hso
              | good p f =>
              have hp2 : Pp (tl z) (tl p) := hfs _ hsm
              refine r_gSq (hp.same (sm4.trans (s6.trans s7))) rfl ?_
              walk_at "go"
              refine ⟨rfl, ?_⟩
              unfold tYes
              dsimp only
              rw [if_pos rfl]
              walk_at "go"
              refine ⟨z, b, r, p, rfl, hz, nd, RAt.of (dp_keep (Same.keeps (s6.trans s7)) _ _ hxd), hrf, hp2, by omega, fun H8 s8 => ?_⟩
              walk_at "go"
              rw [int_eq1, bl_eq]
              refine ⟨_, s8 _ _ eD2, line60 (by rw [List.length_map, List.length_take, List.length_map]; omega), ?_, same_upd (s7.trans s8) hD2⟩
              rw [upd_same, List.take_succ, List.getElem?_map, hsi, List.map_append]
              rfl
            · rintro D2 H7 hD2 ⟨eD2, s7⟩
              rw [hP.len, ← List.length_map (f := cmpS z r), List.take_length] at eD2
              walk_at "go"
              refine r_all (SqL.of eD2) ?_
              have eall : (ss.map (cmpS z r)).all id = fitsB z ss (.ok r t) := by rw [List.all_map]; rfl
              rw [eall]
              have eD7 := s7 _ _ eD6
              cases hfb : fitsB z ss (.ok r t)
              · rw [hfb] at fs
                walk_at "go"
                rw [fs]
                simp only [Bool.false_eq_true, if_false, List.append_nil]
                exact ⟨eD7, s6.trans s7⟩
              · rw [hfb] at fs
                walk_at "go"
                refine ⟨_, eD7, line60 ?_, ?_, same_upd (s6.trans s7) hD1⟩
                · rw [List.length_map]
                  have := List.length_filter_le (fun i => fitsB z ss (ls.getD i (.bad .none .none))) (List.range i)
                  rw [List.length_range] at this
                  omega
                · rw [upd_same, fs, List.map_append]; rfl
          · rintro H5 ⟨eD1, s5⟩
            rw [lacc] at eD1
            walk_at "go"
            refine ⟨D1, _, rfl, .inl ⟨SqL.of eD1, fun T hT => ?_⟩⟩
            exact k _ _ (sm4.trans (s5.trans (same_new hT))) (.tup (SqT.of upd_same) (dpA_nums.mpr rfl))
abbrev OFitting (CS CR CM CP : Addr) (P : Program) (w : World) (K : PySem.W.Frag) (mg : Str → Option Value) (base : Heap) : Prop := OwnX P w K mg base "fitting" 70 ["signs", "rules", "seen"] (spFit K CS CR CM CP)
end
end K4

/-! L69c -/


namespace K4
open PySem L2 K1
abbrev sLLonger : Stmt := top 76
abbrev nLLonger : List Str := ["_law_bag", "_law_signs", "_law_paper"]
theorem scLLonger : FnScope nLLonger ["_law_bag", "_law_signs"] (defScope sLLonger) := ⟨rfl, rfl, rfl, by decide +kernel, rfl, by decide +kernel, by decide +kernel⟩
abbrev sLFlagsOf : Stmt := top 77
abbrev nLFlagsOf : List Str := ["_law_signs", "_law_rules", "_law_paper", "_law_rule"]
theorem scLFlagsOf : FnScope nLFlagsOf ["_law_signs", "_law_rules", "_law_paper"] (defScope sLFlagsOf) := ⟨rfl, rfl, rfl, by decide +kernel, rfl, by decide +kernel, by decide +kernel⟩
abbrev sLFit : Stmt := top 78
abbrev nLFit : List Str := ["_law_signs", "_law_rules", "_law_seen", "_law_shown", "_law_paper", "_law_flag", "_law_r", "_law_flags"]
theorem scLFit : FnScope nLFit ["_law_signs", "_law_rules", "_law_seen"] (defScope sLFit) := ⟨rfl, rfl, rfl, by decide +kernel, rfl, by decide +kernel, by decide +kernel⟩
theorem fold_app : ∀ (l : List (Array Nat)) (a : Array Nat), (l.foldl (· ++ ·) a).toList = a.toList ++ (l.map Array.toList).flatten
  | [], a => by simp
  | b :: l, a => by rw [List.foldl_cons, fold_app l]; simp
theorem tl_rep (z : Str) (n : Nat) : tl (repS z n) = (List.replicate n (tl z)).flatten := by
  show ((List.replicate n z.cps).foldl (· ++ ·) #[]).toList = _
  rw [fold_app, List.map_replicate]
  rfl
theorem rep_mem {z : Str} {n : Nat} {c : Nat} (h : c ∈ tl (repS z n)) : c ∈ tl z := by
  rw [tl_rep] at h
  obtain ⟨l, hl, hc⟩ := List.mem_flatten.mp h
  rw [(List.mem_replicate.mp hl).2] at hc
  exact hc
theorem rep_len (z : Str) (n : Nat) : (tl (repS z n)).length = n * (tl z).length := by
  rw [tl_rep]
  simp
theorem app_lenS (x y : Str) : (x ++ y).length = x.length + y.length := by
  rw [len_tl (x ++ y)]
  show ((x ++ y).cps.toList).length = _
  rw [app_cps, List.length_append]
  rfl
theorem good_nd {z : Str} (g : Good z) : (tl z).Nodup := List.Pairwise.imp Nat.ne_of_lt (show (tl z).Pairwise (· < ·) from g.up)
/-- a sign picked -/
theorem one_sign {K : PySem.W.Frag} {z : Str} {b : Addr} {n : Nat} {H : Hp} {Q : VK} (gz : Good z) (hb : IsBag H b n) (hn : n ≤ 2 ^ 40) (k : ∀ c H', c ∈ tl z → IsBag H' b (n + 1) → Off b H H' → Q (.str (one c)) H') : spOneOf K [.ref b, .str z] H Q E0 := by
  have z2 : 2 ≤ (K1.tl z).length := gz.lo
  have z12 : (K1.tl z).length ≤ 12 := gz.hi
  have lz : z.length = (K1.tl z).length := K1.len_tl' z
  refine ⟨b, _, _, n, rfl, hb, hn, .inl ⟨z, rfl, rfl, by omega⟩, ?_, fun x H2 hx hb2 of2 => ?_⟩
  · intro q
    have := congrArg List.length q
    rw [List.length_map, sgn_len, List.length_nil] at this
    omega
  · obtain ⟨c, hc, rfl⟩ := mem_sgn hx
    exact k c H2 hc hb2 of2
def spLonger (K : PySem.W.Frag) : Sp := fun vs H Q _ => ∃ (b : Addr) (z : Str) (n : Nat), vs = [.ref b, .str z] ∧ IsBag H b n ∧ n + 10 ≤ 2 ^ 40 ∧ Good z ∧ ∀ H' p, Pp (tl z) (tl p) → IsBag H' b (n + 10) → Kp b H H' → Q (.str p) H'
def sigR (z p : Str) (r : R) : Nat := if ev (tl z) r (tl p) = true then 1 else 0
def spFlags (K : PySem.W.Frag) : Sp := fun vs H Q _ => ∃ (z : Str) (L : Addr) (vl : List V) (rs : List R) (p : Str), vs = [.str z, .ref L, .str p] ∧ Good z ∧ SqL K H L vl ∧ DpAll K H vl (rs.map (R.data true)) ∧ (∀ r ∈ rs, r.fit (tl z) ∧ r.depth ≤ 41) ∧ rs.length ≤ 1000 ∧ Pp (tl z) (tl p) ∧
  ∀ H' T, Same H H' → H' T = some (.tup ((rs.map (sigR z p)).map vi)) → Q (.ref T) H'
section
variable {P : Program} {w : World} {K : PySem.W.Frag} {mg : Str → Option Value} {base : Heap} {dO dI : Addr}
abbrev OPaperOf (P : Program) (w : World) (K : PySem.W.Frag) (mg : Str → Option Value) (base : Heap) : Prop := Own P w K mg base "_law_paper_of" 3 ["_law_bag", "_law_signs", "_law_most"] spPaperOf
theorem ok_longer {f : Addr} {fd : FuncData} (F : Fun K "_law_longer_paper" "_law_longer_paper" sLLonger f fd) (B : Bl mg) (Op : OPick P w K mg base) (Oo : OOneOf P w K mg base) (Opo : OPaperOf P w K mg base) : FnOk P w K mg base CX0 4 f fd ["_law_bag", "_law_signs"] (spLonger K) := by
  refine F.ok scLLonger (fun vs H Q E h => ?_) (fun cdv A outer s H vs Q E hr h => ?_)
  · obtain ⟨b, z, n, rfl, _⟩ := h
    rfl
  · obtain ⟨b, z, n, rfl, hb, hn, gz, k⟩ := h
    refine ⟨_, (pss_cons (ps_set (i := 2) scLLonger.nd rfl (Or.inl rfl) (pe_own Opo (hr.mono (by omega)) (pa_cons (pv 0) (pa_cons (pv 1) (pa_cons pe_int pa_nil))))) (pss_cons (ps_if (pt_cmpR op_gt (pe_own Op (hr.mono (by omega)) (pa_cons (pv 0) (pa_cons pe_int pa_nil))) pe_int (nomark _)) (pss_one (ps_ret (pv 2))) pss_nil) (pss_one (ps_ret (pe_op op_mul_str (pe_op op_add_str (pv 2) (pe_own Oo (hr.mono (by omega)) (pa_cons (pv 0) (pa_cons (pv 1) pa_nil)))) (pe_op op_add pe_int (pe_own Op (hr.mono (by omega)) (pa_cons (pv 0) (pa_cons pe_int pa_nil))))))))), ?_⟩
    try dsimp only [cxOf, Cx.nox, Cx.wish]
    have z2 : 2 ≤ (tl z).length := gz.lo
    have z12 : (tl z).length ≤ 12 := gz.hi
    have lz := len_tl z
    walk_at "go"
    refine ⟨b, z, 5, n, rfl, hb, by omega, by omega, by omega, by decide, fun p H1 hp5 hpc hb1 of1 => ?_⟩
    have lp := len_tl p
    walk_at "go"
    refine ⟨b, 4, _, rfl, hb1, by omega, by decide, fun r1 H2 _ _ hb2 of2 => ?_⟩
    walk_at "go"
    refine r_iteN' (fun h0 => ?_) (fun h0 => ?_)
    · walk_at "go"
      exact k _ p ⟨by omega, hpc⟩ (hb2.mono (by omega)) (of1.kp.trans of2.kp)
    · walk_at "go"
      refine one_sign gz hb2 (by omega) (fun c H3 hc hb3 of3 => ?_)
      have ap := app_lenS p (one c)
      have l1 : (one c).length = 1 := rfl
      refine ⟨_, _, rfl, rfl, small_line (by omega), ?_⟩
      walk_at "go"
      refine ⟨b, 10, _, rfl, hb3, by omega, by decide, fun r4 H4 r40 r41 hb4 of4 => ?_⟩
      obtain ⟨m, rfl⟩ : ∃ m : Nat, r4 = (m : Int) := ⟨r4.toNat, by omega⟩
      walk_at "go"
      have em : (1 + (m : Int)).toNat = 1 + m := by omega
      have hm : m < 10 := by omega
      have h1 : (p ++ one c).length * (1 + m) ≤ 6 * 10 := Nat.mul_le_mul (by omega) (by omega)
      refine ⟨_, _, rfl, rfl, by omega, by omega, by omega, small_line (by rw [em]; omega), ?_⟩
      rw [em]
      refine k _ _ ⟨?_, fun d hd => ?_⟩ (hb4.mono (by omega)) (of1.kp.trans (of2.kp.trans (of3.kp.trans of4.kp)))
      · rw [rep_len, ← len_tl, Nat.mul_comm]
        omega
      · have hd := rep_mem hd
        rw [tl_app] at hd
        rcases List.mem_append.mp hd with q | q
        · exact hpc d q
        · have : d = c := by simpa using (show d ∈ [c] from q)
          rw [this]; exact hc
theorem ok_flags {f : Addr} {fd : FuncData} (F : Fun K "_law_flags_of" "_law_flags_of" sLFlagsOf f fd) (B : Bl mg) (Olj : OJudged 41 P w K mg base) : FnOk P w K mg base CX0 43 f fd ["_law_signs", "_law_rules", "_law_paper"] (spFlags K) := by
  refine F.ok scLFlagsOf (fun vs H Q E h => ?_) (fun cdv A outer s H vs Q E hr h => ?_)
  · obtain ⟨z, L, vl, rs, p, rfl, _⟩ := h
    rfl
  · obtain ⟨z, L, vl, rs, p, rfl, gz, hS, hA, hrs, hl, hp, k⟩ := h
    refine ⟨_, (pss_one (ps_ret (pe_callTy call_tuple_of (by rfl) B.tuple (by decide +kernel) (pa_cons (pe_lc (own := [("_law_rule", 3)]) (g := gName 3) (tt := tYes) rfl scLFlagsOf.nd (pi_list (pv 1)) (blkOk_by (N := nLFlagsOf) (sc := defScope sLFlagsOf) (by decide +kernel)) (fun _ _ _ _ _ => (pg_name (i := 3) scLFlagsOf.nd rfl (Or.inl rfl))) (fun _ _ _ _ _ => pts_nil) (fun _ _ _ _ _ => (pe_ifExp (pt_val (pe_own Olj (hr.mono (by omega)) (pa_cons (pv 0) (pa_cons (pv 3) (pa_cons (pv 2) pa_nil))))) pe_int pe_int))) pa_nil)))), ?_⟩
    try dsimp only [cxOf, Cx.nox, Cx.wish]
    have z12 : (tl z).length ≤ 12 := gz.hi
    have lz := len_tl z
    walk_at "go"
    refine ⟨⟨_, hS⟩, fun D hD => ?_⟩
    have hvl : vl.length = rs.length := by have := dpA_len hA; rw [List.length_map] at this; exact this
    refine lc_gen (walk_list (K := K) (a := L) (xs := vl)) (fun _ => rfl) (fun acc H' => acc = ((rs.map (sigR z p)).take acc.length).map vi ∧ Same H H') ⟨rfl, same_new hD⟩ (fun acc H' _ q => q.2.seq hS) ?_ ?_
    · rintro i x acc H' hx la hacc ⟨ha, sm⟩
      obtain ⟨d, hdi, hxd⟩ := dpA_get hA hx
      rw [List.getElem?_map] at hdi
      cases hri : rs[i]? with
      | none => rw [hri] at hdi; cases hdi
      | some r =>
      rw [hri] at hdi
      obtain rfl := Option.some.inj hdi
      have hil := (List.getElem?_eq_some_iff.mp hri).1
      obtain ⟨hrf, hrd⟩ := hrs r (List.mem_of_getElem? hri)
      walk_at "go"
      refine ⟨z, x, r, p, rfl, by omega, good_nd gz, RAt.of (dp_keep (Same.keeps sm) _ _ hxd), hrf, hp, hrd, fun H5 s5 => ?_⟩
      have fin : ∀ u : Nat, sigR z p r = u → ∃ acc, H5 D = some (.lst acc) ∧ acc.length < sizeLine ∧ PP D (fun acc H' => acc = ((rs.map (sigR z p)).take acc.length).map vi ∧ Same H H') (i + 1) (upd H5 D (.lst (acc ++ [vi u]))) := fun u hu =>
        pp_next (s5 _ _ hacc) la (line60 (by omega)) ⟨acc_next (f := vi) (a := u) ha la (by rw [List.getElem?_map, hri]; exact congrArg some hu), same_upd (sm.trans s5) hD⟩
      cases he : ev (tl z) r (tl p)
      · walk_at "go"
        exact fin 0 (by unfold sigR; rw [he]; rfl)
      · walk_at "go"
        exact fin 1 (by unfold sigR; rw [he]; rfl)
    · rintro acc H5 la hacc ⟨ha, sm⟩
      rw [la, hvl, ← List.length_map (f := sigR z p), List.take_length] at ha
      walk_at "go"
      refine ⟨D, acc, rfl, .inl ⟨SqL.of hacc, fun T hT => ?_⟩⟩
      exact k _ T (sm.trans (same_new hT)) (by rw [upd_same, ha])
abbrev OFlags (P : Program) (w : World) (K : PySem.W.Frag) (mg : Str → Option Value) (base : Heap) : Prop := Own P w K mg base "_law_flags_of" 43 ["_law_signs", "_law_rules", "_law_paper"] (spFlags K)
end
end K4

/-! L69d -/


namespace K4
open PySem L2 K1
abbrev scLFitI : Scope := { kind := ScopeKind.function, names := [(".0", NameKind.local), ("_law_r", NameKind.cell), ("all", NameKind.globalImplicit), ("_law_shown", NameKind.cell)], isGenerator := false, isCoroutine := false }
def Sn.pap : Sn → Str
  | .good p _ => p
  | .odd _ _ => ""
def fitR (z : Str) (ss : List Sn) (rs : List R) : List Nat := (List.range rs.length).filter fun i => ss.all (cmpS z (rs.getD i (.n0 .any)))
def Shown (z : Str) (rs : List R) (H : Hp) : List V → List Sn → Prop
  | [], [] => True
  | v :: vs, s :: ss => (∃ T F : Addr, v = .ref T ∧ H T = some (.tup [.ref F, .int s.flag]) ∧ H F = some (.tup ((rs.map (sigR z s.pap)).map vi))) ∧ Shown z rs H vs ss
  | _, _ => False
theorem Shown.same {z : Str} {rs : List R} {H H' : Hp} (m : Same H H') : ∀ {vs : List V} {ss : List Sn}, Shown z rs H vs ss → Shown z rs H' vs ss
  | [], [], _ => trivial
  | _ :: _, _ :: _, h => by
    obtain ⟨⟨T, F, e, h1, h2⟩, h3⟩ := h
    exact ⟨⟨T, F, e, m _ _ h1, m _ _ h2⟩, Shown.same m h3⟩
theorem Shown.len {z : Str} {rs : List R} {H : Hp} : ∀ {vs : List V} {ss : List Sn}, Shown z rs H vs ss → vs.length = ss.length
  | [], [], _ => rfl
  | _ :: _, _ :: _, h => congrArg Nat.succ (Shown.len h.2)
theorem Shown.get {z : Str} {rs : List R} {H : Hp} : ∀ {vs : List V} {ss : List Sn} {i : Nat} {v : V}, Shown z rs H vs ss → vs[i]? = some v → ∃ s, ss[i]? = some s ∧ ∃ T F : Addr, v = .ref T ∧ H T = some (.tup [.ref F, .int s.flag]) ∧ H F = some (.tup ((rs.map (sigR z s.pap)).map vi))
  | v :: vs, s :: ss, 0, u, h, e => by obtain rfl := Option.some.inj e; exact ⟨s, rfl, h.1⟩
  | v :: vs, s :: ss, i + 1, u, h, e => Shown.get (vs := vs) (ss := ss) (i := i) h.2 e
  | [], [], _, _, _, e => by cases e
theorem Shown.snoc {z : Str} {rs : List R} {H : Hp} {v : V} {s : Sn} (h1 : ∃ T F : Addr, v = .ref T ∧ H T = some (.tup [.ref F, .int s.flag]) ∧ H F = some (.tup ((rs.map (sigR z s.pap)).map vi))) : ∀ {vs : List V} {ss : List Sn}, Shown z rs H vs ss → Shown z rs H (vs ++ [v]) (ss ++ [s])
  | [], [], _ => ⟨h1, trivial⟩
  | _ :: _, _ :: _, h => ⟨h.1, Shown.snoc h1 h.2⟩
theorem Shown.upd {z : Str} {rs : List R} {H : Hp} {D : Addr} {acc : List V} {o : HO} (hD : H D = some (.lst acc)) : ∀ {vs : List V} {ss : List Sn}, Shown z rs H vs ss → Shown z rs (upd H D o) vs ss
  | [], [], _ => trivial
  | _ :: _, _ :: _, h => by
    obtain ⟨⟨T, F, e, h1, h2⟩, h3⟩ := h
    have n1 : T ≠ D := fun q => by rw [q, hD] at h1; cases h1
    have n2 : F ≠ D := fun q => by rw [q, hD] at h2; cases h2
    exact ⟨⟨T, F, e, by rw [upd_ne n1]; exact h1, by rw [upd_ne n2]; exact h2⟩, Shown.upd hD h3⟩
/-- a flag is 0 or 1 -/
def Sn.bin (s : Sn) : Prop := s.flag = 0 ∨ s.flag = 1
theorem sig_cmp {z : Str} {r : R} {p : Str} {f : Int} (h : f = 0 ∨ f = 1) : decide (vi (sigR z p r) = V.int f) = cmpS z r (.good p f) := by
  show _ = (ev (tl z) r (tl p) == decide (f = 1))
  unfold sigR
  rcases h with rfl | rfl <;> cases ev (tl z) r (tl p) <;> decide
def spLFit (K : PySem.W.Frag) : Sp := fun vs H Q _ => ∃ (z : Str) (L S : Addr) (vl ps : List V) (rs : List R) (ss : List Sn), vs = [.str z, .ref L, .ref S] ∧ Good z ∧ SqL K H L vl ∧ DpAll K H vl (rs.map (R.data true)) ∧ (∀ r ∈ rs, r.fit (tl z) ∧ r.depth ≤ 41) ∧ rs.length ≤ 100 ∧
  SqL K H S ps ∧ PairsAt K H ps ss ∧ (∀ s ∈ ss, s.isOk = true ∧ Pp (tl z) (tl s.pap) ∧ s.bin) ∧ ss.length ≤ 100 ∧ ∀ H' T, Same H H' → H' T = some (.tup ((fitR z ss rs).map vi)) → Q (.ref T) H'
section
variable {P : Program} {w : World} {K : PySem.W.Frag} {mg : Str → Option Value} {base : Heap} {dO dI : Addr}
theorem ok_lfit {f : Addr} {fd : FuncData} (F : Fun K "_law_fit" "_law_fit" sLFit f fd) (B : Bl mg) (Ofl : OFlags P w K mg base) : FnOk P w K mg base CX0 44 f fd ["_law_signs", "_law_rules", "_law_seen"] (spLFit K) := by
  refine F.ok scLFit (fun vs H Q E h => ?_) (fun cdv A outer s H vs Q E hr h => ?_)
  · obtain ⟨z, L, S, vl, ps, rs, ss, rfl, _⟩ := h
    rfl
  · obtain ⟨z, L, S, vl, ps, rs, ss, rfl, gz, hS, hA, hrs, hrl, hSs, hP, hok, hsl, k⟩ := h
    refine ⟨_, (pss_cons (ps_set (i := 3) scLFit.nd rfl (Or.inr rfl) (pe_lc (own := [("_law_paper", 4), ("_law_flag", 5)]) (g := gSq K 2 (gCons (gName 4) (gCons (gName 5) gNil))) (tt := tYes) rfl scLFit.nd (pi_list (pv 2)) (blkOk_by (N := nLFit) (sc := defScope sLFit) (by decide +kernel)) (fun _ _ _ _ _ => (pg_sq rfl (pgs_cons (pg_name (i := 4) scLFit.nd rfl (Or.inl rfl)) (pgs_cons (pg_name (i := 5) scLFit.nd rfl (Or.inl rfl)) pgs_nil)))) (fun _ _ _ _ _ => pts_nil) (fun _ _ _ _ _ => (pe_tup (pa_cons (pe_own Ofl (hr.mono (by omega)) (pa_cons (pv 0) (pa_cons (pv 1) (pa_cons (pv 4) pa_nil)))) (pa_cons (pv 5) pa_nil)))))) (pss_one (ps_ret (pe_callTy call_tuple_of (by rfl) B.tuple (by decide +kernel) (pa_cons (pe_lc (own := [("_law_r", 6)]) (g := gName 6) rfl scLFit.nd (pi_range1 rfl B.range (pa_cons (pe_callB call_len (by rfl) B.len PySem.boot_len (pa_cons (pv 1) pa_nil)) pa_nil)) (blkOk_by (N := nLFit) (sc := defScope sLFit) (by decide +kernel)) (fun _ _ _ _ _ => (pg_name (i := 6) scLFit.nd rfl (Or.inr rfl))) (fun _ _ _ _ _ => (pts_one (pt_val (pe_callB (id := "all") (r := rAll K) (cr_all rfl) (by rfl) B.all (by decide +kernel) (pa_cons (pe_lc (own := [("_law_flags", 7), ("_law_flag", 5)]) (g := gTup K 2 (gCons (gName 7) (gCons (gName 5) gNil))) (tt := tYes) (wi := iList K (tVar 3)) rfl scLFit.nd (pi_list (pv 3)) (blkOk_by (N := nLFit) (sc := scLFitI) (by decide +kernel)) (fun _ _ _ _ _ => (pg_tup rfl (pgs_cons (pg_name (i := 7) scLFit.nd rfl (Or.inl rfl)) (pgs_cons (pg_name (i := 5) scLFit.nd rfl (Or.inl rfl)) pgs_nil)))) (fun _ _ _ _ _ => pts_nil) (fun _ _ _ _ _ => (pe_cmpR op_eq (pe_ix (r := rIxT K) ix_tup (pv 7) (pv 6) (fun _ _ => rfl)) (pv 5) (nomark _)))) pa_nil))))) (fun _ _ _ _ _ => (pv 6))) pa_nil))))), ?_⟩
    try dsimp only [cxOf, Cx.nox, Cx.wish]
    walk_at "go"
    have hpl := hP.len
    refine ⟨⟨_, hSs⟩, fun D hD => ?_⟩
    refine lc_it (walk_list (K := K) (a := S) (xs := ps)) (fun i H' => ∃ ts : List V, H' D = some (.lst ts) ∧ Shown z rs H' ts (ss.take i) ∧ Same H H') ⟨[], upd_same, trivial, same_new hD⟩ (fun i H' _ ⟨_, _, _, sm⟩ => sm.seq hSs) ?_ ?_
    · rintro i x H1 H1' hi ⟨ts, eD, hts, sm⟩ ⟨rfl, hx⟩
      obtain ⟨s, hsi, hp⟩ := hP.get hx
      have hmem := List.mem_of_getElem? hsi
      obtain ⟨hso, hsp, hsb⟩ := hok s hmem
      cases s with
      | odd y f => cases hso
      | good p f =>
      refine r_gSq (hp.same sm) rfl ?_
      walk_at "go"
      refine ⟨rfl, ?_⟩
      unfold tYes
      dsimp only
      rw [if_pos rfl]
      walk_at "go"
      refine ⟨z, L, vl, rs, p, rfl, gz, sm.seq hS, dpA_keep (Same.keeps sm) _ _ hA, hrs, by omega, hsp, fun H2 F s2 eF => ?_⟩
      walk_at "go"
      refine ⟨(by show 2 ≤ sizeLine; decide), fun T hT => ?_⟩
      have s3 := same_new (o := HO.tup [V.ref F, V.int f]) hT
      have eD3 := s3 _ _ (s2 _ _ eD)
      have sm3 := sm.trans (s2.trans s3)
      have hsl2 := Shown.len hts
      refine ⟨ts, eD3, line60 (by rw [hsl2, List.length_take]; omega), ts ++ [V.ref T], upd_same, ?_, same_upd sm3 hD⟩
      rw [List.take_succ, hsi]
      have nTD : T ≠ D := (ne_of_none (s2 _ _ eD) hT).symm
      have nFD : F ≠ D := fun q => by
        rw [q] at eF
        rw [s2 _ _ eD] at eF
        cases eF
      exact Shown.snoc ⟨T, F, rfl, by rw [upd_ne nTD]; exact upd_same, by rw [upd_ne nFD]; exact s3 _ _ eF⟩ (Shown.upd eD3 (Shown.same (s2.trans s3) hts))
    · rintro H1 ⟨ts, eD, hts, sm⟩
      rw [hpl, List.take_length] at hts
      walk_at "go"
      refine ⟨_, _, rfl, lenL (sm.seq hS), ?_⟩
      have hvl : vl.length = rs.length := by have := dpA_len hA; rw [List.length_map] at this; exact this
      rw [hvl]
      walk_at "go"
      refine ⟨by omega, by omega, fun D1 hD1 => ?_⟩
      refine lc_it (walk_rng (lo := 0) (n := rs.length)) (fun i H' => H' D1 = some (.lst (((List.range i).filter fun i => ss.all (cmpS z (rs.getD i (.n0 .any)))).map vi)) ∧ Same H1 H') ⟨upd_same, same_new hD1⟩ (fun _ _ _ _ => trivial) ?_ ?_
      · rintro i x H2 H2' hi ⟨eD1, s2⟩ ⟨rfl, hx⟩
        rw [List.length_map, List.length_range] at hi
        rw [List.getElem?_map, List.getElem?_range hi] at hx
        obtain rfl := Option.some.inj hx
        have fs := filt_range (fun i => ss.all (cmpS z (rs.getD i (.n0 .any)))) i
        have hri : rs[i]? = some (rs.getD i (.n0 .any)) := getD_at hi
        revert fs hri
        generalize rs.getD i (.n0 .any) = r
        intro fs hri
        refine ⟨rfl, ?_⟩
        dsimp only
        rw [Int.zero_add]
        walk_at "go"
        refine ⟨⟨_, SqL.of (s2 _ _ eD)⟩, fun D2 hD2 => ?_⟩
        refine lc_it (walk_list (K := K) (a := D) (xs := ts)) (fun j H' => H' D2 = some (.lst (((ss.map (cmpS z r)).take j).map V.bl)) ∧ Same H2' H') ⟨upd_same, same_new hD2⟩ (fun j H' _ q => SqL.of (q.2 _ _ (s2 _ _ eD))) ?_ ?_
        · rintro j y H3 H3' hj ⟨eD2, s3⟩ ⟨rfl, hy⟩
          obtain ⟨s, hsi, T, F, rfl, eT, eF⟩ := Shown.get hts hy
          obtain ⟨hso, hsp, hsb⟩ := hok s (List.mem_of_getElem? hsi)
          have hjl := (List.getElem?_eq_some_iff.mp hsi).1
          cases s with
          | odd y f => cases hso
          | good p f =>
          have s13 := s2.trans s3
          refine ⟨T, _, rfl, SqT.of (s13 _ _ eT), rfl, ?_⟩
          walk_at "go"
          refine ⟨rfl, ?_⟩
          unfold tYes
          dsimp only
          rw [if_pos rfl]
          walk_at "go"
          refine r_ixT (SqT.of (s13 _ _ eF)) (atI_nat (j := i) (v := vi (sigR z p r)) (by rw [List.getElem?_map, List.getElem?_map, hri]; rfl)) ?_
          walk_at "go"
          rw [show decide (vi (sigR z p r) = V.int (Sn.good p f).flag) = cmpS z r (.good p f) from sig_cmp hsb]
          refine ⟨_, eD2, line60 (by rw [List.length_map, List.length_take, List.length_map]; omega), ?_, same_upd s3 hD2⟩
          rw [upd_same, List.take_succ, List.getElem?_map, hsi, List.map_append]
          rfl
        · rintro H3 ⟨eD2, s3⟩
          rw [Shown.len hts, ← List.length_map (f := cmpS z r), List.take_length] at eD2
          walk_at "go"
          refine r_all (SqL.of eD2) ?_
          have eall : (ss.map (cmpS z r)).all id = ss.all (cmpS z r) := by rw [List.all_map]; rfl
          rw [eall]
          have eD3 := s3 _ _ eD1
          cases hfb : ss.all (cmpS z r)
          · rw [hfb] at fs
            walk_at "go"
            rw [fs]
            simp only [Bool.false_eq_true, if_false, List.append_nil]
            exact ⟨eD3, s2.trans s3⟩
          · rw [hfb] at fs
            walk_at "go"
            refine ⟨_, eD3, line60 ?_, ?_, same_upd (s2.trans s3) hD1⟩
            · rw [List.length_map]
              have := List.length_filter_le (fun i => ss.all (cmpS z (rs.getD i (.n0 .any)))) (List.range i)
              rw [List.length_range] at this
              omega
            · rw [upd_same, fs, List.map_append]; rfl
      · rintro H2 ⟨eD1, s2⟩
        rw [List.length_map, List.length_range] at eD1
        walk_at "go"
        refine ⟨D1, _, rfl, .inl ⟨SqL.of eD1, fun T hT => ?_⟩⟩
        exact k _ T (sm.trans (s2.trans (same_new hT))) upd_same
abbrev OLFit (P : Program) (w : World) (K : PySem.W.Frag) (mg : Str → Option Value) (base : Heap) : Prop := Own P w K mg base "_law_fit" 44 ["_law_signs", "_law_rules", "_law_seen"] (spLFit K)
end
end K4

/-! L69e -/


namespace K4
open PySem L2 K1
theorem gD0 {l : List Nat} {k : Nat} (h : k < l.length) : l.getD k 0 = l[k] := by
  rw [List.getD_eq_getElem?_getD, List.getElem?_eq_getElem h]
  rfl
theorem asc_of {l : List Nat} (h : l.Pairwise (· < ·)) : ascL l = true := by
  unfold ascL
  rw [List.all_eq_true]
  intro k hk
  have hk : k < l.length - 1 := List.mem_range.mp hk
  have h1 : k < l.length := by omega
  have h2 : k + 1 < l.length := by omega
  rw [decide_eq_true_eq, gD0 h1, gD0 h2]
  exact List.pairwise_iff_getElem.mp h k (k + 1) h1 h2 (by omega)
theorem good_signs {z : Str} (g : Good z) : signsB z = true := by
  have e := len_tl z
  have h1 : 2 ≤ (tl z).length := g.lo
  have h2 : (tl z).length ≤ 12 := g.hi
  have h3 : ((tl z).all fun c => decide (c ∈ tl ALL)) = true := by
    rw [List.all_eq_true]
    intro c hc
    exact decide_eq_true (g.all c hc)
  unfold signsB textB
  rw [h3, asc_of g.up, decide_eq_true (show (2 : Int) ≤ z.length by omega), decide_eq_true (show (z.length : Int) ≤ 12 by omega)]
  rfl
theorem good_ok {z : Str} (g : Good z) {r : R} (h : r.fit (tl z)) : r.ok := R.fit_ok g.lo g.hi g.all h
/-- a list at the top: its parts made lists -/
def spListedL (K : PySem.W.Frag) (n : Nat) : Sp := fun vs H Q _ => ∃ (a : Addr) (xs : List V) (ds : List PyData), vs = [.ref a] ∧ SqL K H a xs ∧ DpAll K H xs ds ∧ (∀ d ∈ ds, okd d = true) ∧ (∀ d ∈ ds, nol d = true) ∧ (∀ d ∈ ds, d.depth < n) ∧ ds.length ≤ 1000 ∧ ∀ H' p vs', Same H H' → H p = none → H' p = some (.lst vs') → DpAll K (New (upd H p (.lst [])) H') vs' (ds.map lstd) → Q (.ref p) H'
/-- signature_of of good rules and a good paper -/
def spSigC (K : PySem.W.Frag) : Sp := fun vs H Q _ => ∃ (z p : Str) (rv : V) (xs : List V) (rs : List R) (t : Bool), vs = [.str z, rv, .str p] ∧ Good z ∧ Sq K H rv xs ∧ DpAll K H xs (rs.map (R.data t)) ∧ (∀ r ∈ rs, r.fit (tl z) ∧ r.parts ≤ 40) ∧ rs.length ≤ 1000 ∧ Pp (tl z) (tl p) ∧
  ∀ H' v, Same H H' → Dp K H' v (.tuple ((rs.map (sigR z p)).map pn)) → Q v H'
/-- a pair of a paper and its flag, as data -/
def Sn.data (t : Bool) (s : Sn) : PyData := sq t [.str s.pap, .int s.flag]
theorem PairsAt.of {K : PySem.W.Frag} {H : Hp} {t : Bool} : ∀ {vs : List V} {ss : List Sn}, (∀ s ∈ ss, s.isOk = true) → DpAll K H vs (ss.map (Sn.data t)) → PairsAt K H vs ss
  | [], [], _, _ => trivial
  | v :: vs, s :: ss, ho, h => by
    cases h with
    | cons a b =>
      have h1 := ho s (List.mem_cons_self ..)
      cases s with
      | odd y f => cases h1
      | good p f =>
      obtain ⟨xs, hS, hA⟩ := dp_sq (show Dp K H v (sq t [.str p, .int f]) from a)
      cases hA with
      | cons a1 hA =>
      cases hA with
      | cons a2 hA =>
      cases hA
      cases a1
      cases a2
      exact ⟨hS, PairsAt.of (fun s hs => ho s (List.mem_cons_of_mem _ hs)) b⟩
  | [], _ :: _, _, h => by cases h
  | _ :: _, [], _, h => by cases h
def spFitC (K : PySem.W.Frag) : Sp := fun vs H Q _ => ∃ (z : Str) (rv sv : V) (xs ps : List V) (rs : List R) (ss : List Sn) (t : Bool), vs = [.str z, rv, sv] ∧ Good z ∧ Sq K H rv xs ∧ DpAll K H xs (rs.map (R.data t)) ∧ (∀ r ∈ rs, r.fit (tl z) ∧ r.parts ≤ 40) ∧ rs.length ≤ 1000 ∧
  Sq K H sv ps ∧ PairsAt K H ps ss ∧ (∀ s ∈ ss, s.isOk = true ∧ Pp (tl z) (tl s.pap)) ∧ ss.length ≤ 1000 ∧ ∀ H' v, Same H H' → Dp K H' v (.tuple ((fitR z ss rs).map pn)) → Q v H'
theorem fitN_ok {z : Str} {ss : List Sn} {rs : List R} {t : Bool} : fitN z ss (rs.map fun r => Rl.ok r t) = fitR z ss rs := by
  unfold fitN fitR
  rw [List.length_map]
  congr 1
  funext i
  unfold fitsB
  rw [List.getD_eq_getElem?_getD, List.getD_eq_getElem?_getD, List.getElem?_map]
  cases rs[i]? <;> rfl
section
variable {P : Program} {w : World} {K : PySem.W.Frag} {mg : Str → Option Value} {base : Heap}
theorem ok_listedL {n : Nat} {f : Addr} {fd : FuncData} (F : Fun K "_law_listed" "_law_listed" sLListed f fd) (B : Bl mg) (Oll : OLL n P w K mg base) : FnOk P w K mg base CX0 (n + 1) f fd ["_law_thing"] (spListedL K n) := by
  refine F.ok scLListed (fun vs H Q E h => ?_) (fun cdv A outer s H vs Q E hr h => ?_)
  · obtain ⟨a, xs, ds, rfl, _⟩ := h
    rfl
  · obtain ⟨a, xs, ds, rfl, hS, hA, hp, hn, hd, hl1000, k⟩ := h
    refine ⟨_, (pss_cons (ps_if (PW.pt (pw_or (pt_val (pe_callB (id := "isinstance") (r := rIsi K) call_isi (by rfl) B.isin (by decide +kernel) (pa_cons (pv 0) (pa_cons (pe_bltn (v := .ty "tuple") (by rfl) B.tuple (by decide +kernel) rfl) pa_nil)))) (pw_or1 (pt_val (pe_callB (id := "isinstance") (r := rIsi K) call_isi (by rfl) B.isin (by decide +kernel) (pa_cons (pv 0) (pa_cons (pe_bltn (v := .ty "list") (by rfl) B.list (by decide +kernel) rfl) pa_nil))))))) (pss_one (ps_ret (pe_lc (own := [("_law_part", 1)]) (g := gName 1) (tt := tYes) rfl scLListed.nd (pi_list (pv 0)) (blkOk_by (N := nLListed) (sc := defScope sLListed) (by decide +kernel)) (fun _ _ _ _ _ => (pg_name (i := 1) scLListed.nd rfl (Or.inl rfl))) (fun _ _ _ _ _ => pts_nil) (fun _ _ _ _ _ => (pe_own Oll hr (pa_cons (pv 1) pa_nil)))))) pss_nil) (pss_one (ps_ret (pv 0)))), ?_⟩
    try dsimp only [cxOf, Cx.nox, Cx.wish]
    walk_at "go"
    refine r_isi (b := false) (.ty "tuple") (tyxL hS) (kit_ty (by decide +kernel)) ?_
    walk_at "go"
    refine r_isi (b := true) (.ty "list") (tyxL hS) (kit_ty (by decide +kernel)) ?_
    walk_at "go"
    refine ⟨⟨_, hS⟩, fun D hD => ?_⟩
    have s1 : Same H (upd H D (.lst [])) := same_new hD
    have e1 : (upd H D (.lst [])) D = some (.lst []) := upd_same
    refine lc_gen (walk_list (K := K) (a := a) (xs := xs)) (fun _ => rfl) (fun acc H' => DpAll K (New (upd H D (.lst [])) H') acc ((ds.take acc.length).map lstd) ∧ Same H H') ⟨.nil, s1⟩ (fun acc H' _ q => q.2.seq hS) ?_ ?_
    · rintro i x acc H' hx hl hacc ⟨ha, sm⟩
      obtain ⟨di, hdi, hxd⟩ := dpA_get hA hx
      have hmem := List.mem_of_getElem? hdi
      have hil := (List.getElem?_eq_some_iff.mp hdi).1
      walk_at "go"
      refine ⟨x, di, rfl, dp_keep (Same.keeps sm) _ _ hxd, hp di hmem, hn di hmem, hd di hmem, fun H2 v2 s2 d2 => ?_⟩
      refine pp_next (s2 _ _ hacc) hl (line60 (by omega)) ⟨?_, same_upd (sm.trans s2) hD⟩
      have g0 : ∀ c, H' c = none → (upd H D (.lst [])) c = none := fun c hc => by
        by_cases q : c = D
        · rw [q, hacc] at hc; cases hc
        · rw [upd_ne q]; exact sm.free hc
      have g1 : Same (New H' H2) (New (upd H D (.lst [])) (upd H2 D (.lst (acc ++ [v2])))) := New.le g0 fun c u hc e => by
        have q : c ≠ D := fun q => by rw [q, hacc] at hc; cases hc
        rw [upd_ne q]; exact e
      have g2 : Same (New (upd H D (.lst [])) H') (New (upd H D (.lst [])) (upd H2 D (.lst (acc ++ [v2])))) := New.le (fun c h => h) fun c u hc e => by
        have q : c ≠ D := fun q => by rw [q, upd_same] at hc; cases hc
        rw [upd_ne q]; exact s2 _ _ e
      have r1 := dpA_app (dpA_keep (Same.keeps g2) _ _ ha) (.cons (dp_keep (Same.keeps g1) _ _ d2) .nil)
      rw [hl, take_next hdi] at r1
      rw [List.length_append, hl]
      exact r1
    · rintro acc H' hl hacc ⟨ha, sm⟩
      have hxl := dpA_len hA
      rw [hl, hxl, List.take_length] at ha
      walk_at "go"
      exact k _ D acc sm hD hacc ha
theorem sig_calm {f CS CR CM CP : Addr} {fd : FuncData} (F : FnOk P w K mg base (L2N.CX P w) 70 f fd ["signs", "rules", "paper"] (spSig K CS CR CM CP)) : FnOk P w K mg base CX0 70 f fd ["signs", "rules", "paper"] (spSigC K) :=
  K4.FnOk.calm F fun vs H Q E h => by
    obtain ⟨z, p, rv, xs, rs, t, rfl, gz, hS, hA, hf, hl, hp, k⟩ := h
    have z12 : (tl z).length ≤ 12 := gz.hi
    have lz := len_tl z
    have hn : firstNo (rs.map fun r => Rl.ok r t) = none := firstNo_none fun y hy => by obtain ⟨r, _, rfl⟩ := List.mem_map.mp hy; rfl
    refine ⟨_, _, _, xs, rs.map fun r => Rl.ok r t, rfl, hS, .inr ⟨z, rfl, by omega, good_nd gz, good_signs gz, ⟨by rw [List.map_map]; exact hA, by rw [List.length_map]; exact hl, fun l hl => ?_⟩, ?_⟩⟩
    · obtain ⟨r, hr, rfl⟩ := List.mem_map.mp hl
      exact ⟨(hf r hr).1, good_ok gz (hf r hr).1, (hf r hr).2⟩
    · rw [hn]
      refine .inr ⟨p, rfl, hp, fun H' v s d => k H' v s ?_⟩
      have e : (rs.map fun r => Rl.ok r t).map (sigD z p) = rs.map (sigR z p) := by rw [List.map_map]; rfl
      rw [e] at d
      exact d
abbrev OSigC (P : Program) (w : World) (K : PySem.W.Frag) (mg : Str → Option Value) (base : Heap) : Prop := Own P w K mg base "signature_of" 70 ["signs", "rules", "paper"] (spSigC K)
theorem fit_calm {f CS CR CM CP : Addr} {fd : FuncData} (F : FnOk P w K mg base (L2N.CX P w) 70 f fd ["signs", "rules", "seen"] (spFit K CS CR CM CP)) : FnOk P w K mg base CX0 70 f fd ["signs", "rules", "seen"] (spFitC K) :=
  K4.FnOk.calm F fun vs H Q E h => by
    obtain ⟨z, rv, sv, xs, ps, rs, ss, t, rfl, gz, hS, hA, hf, hl, hSs, hP, hs, hsl, k⟩ := h
    have z12 : (tl z).length ≤ 12 := gz.hi
    have lz := len_tl z
    have hn : firstNo (rs.map fun r => Rl.ok r t) = none := firstNo_none fun y hy => by obtain ⟨r, _, rfl⟩ := List.mem_map.mp hy; rfl
    have hno : firstOdd ss = none := firstOdd_none fun s h => (hs s h).1
    refine ⟨_, _, _, xs, ps, rs.map fun r => Rl.ok r t, ss, rfl, hS, hSs, hP, hsl, .inr ⟨z, rfl, by omega, good_nd gz, good_signs gz, ⟨by rw [List.map_map]; exact hA, by rw [List.length_map]; exact hl, fun l hl => ?_⟩, fun s h => ?_, ?_⟩⟩
    · obtain ⟨r, hr, rfl⟩ := List.mem_map.mp hl
      exact ⟨(hf r hr).1, good_ok gz (hf r hr).1, (hf r hr).2⟩
    · obtain ⟨h1, h2⟩ := hs s h
      cases s with
      | odd y f => cases h1
      | good p f => exact h2
    · rw [hn, hno, fitN_ok]
      exact k
abbrev OFitC (P : Program) (w : World) (K : PySem.W.Frag) (mg : Str → Option Value) (base : Heap) : Prop := Own P w K mg base "fitting" 70 ["signs", "rules", "seen"] (spFitC K)
end
end K4

/-! L69f -/


namespace K4
open PySem L2 K1

abbrev sLTold : Stmt := top 79
abbrev nLTold : List Str := ["_law_script", "_law_bag", "_law_signs", "_law_rules", "_law_bits", "_law_hidden", "_law_seen", "_law_k", "_law_paper", "_law_flag", "_law_other", "_law_row", "_law_passed", "_law_pairs", "_law_due", "_law_fresh"]
theorem scLTold : FnScope nLTold ["_law_script"] (defScope sLTold) := ⟨rfl, rfl, rfl, by decide +kernel, rfl, by decide +kernel, by decide +kernel⟩
def spTold (K : PySem.W.Frag) : Sp := fun vs H Q _ => ∃ (a : Addr) (ns : List Int), vs = [.ref a] ∧ SqL K H a (ns.map V.int) ∧ ns.length ≤ 63 ∧ ∀ H', Same H H' → Q (.bl true) H'
theorem same_kp {H H1 H2 : Hp} {b : Addr} (s : Same H H1) (hb : H b = none) (k : Kp b H1 H2) : Same H H2 := fun c o e => k c o (ne_of_none e hb) (s _ _ e)
theorem bag_ne {H : Hp} {b c : Addr} {n : Nat} (h : IsBag H b n) (e : H c = none) : b ≠ c := fun q => by
  obtain ⟨d, s, x, e2, _⟩ := h
  rw [q, e] at e2; cases e2
theorem Sn.lst (s : Sn) : lstd (s.data true) = s.data false := by
  show lstd (.tuple [.str s.pap, .int s.flag]) = .list [.str s.pap, .int s.flag]
  rw [lstd_tup]
  simp [lstd]
theorem Sn.pure (s : Sn) : K4.pure (s.data true) = true := by
  show K4.pure (.tuple [.str s.pap, .int s.flag]) = true
  simp [K4.pure, pureA]
theorem pp_len {z p : Str} (h : Pp (tl z) (tl p)) : p.length ≤ 1000 := by
  have := h.le
  have := len_tl p
  omega
theorem Sn.okd {s : Sn} (l : s.pap.length ≤ 1000) : K4.okd (s.data true) = true := okd_sq (t := true) (by show 2 ≤ 1000; decide) fun d hd => by
  rcases List.mem_cons.mp hd with rfl | hd
  · rw [K4.okd, decide_eq_true l]
  · rw [List.mem_singleton.mp hd]; simp [K4.okd]
theorem Sn.flat (t : Bool) {s : Sn} (ok : PyData.strOk s.pap = true) : flatN (s.data t) = true ∧ (s.data t).depth ≤ 1 := by
  have h : ∀ d ∈ [PyData.str s.pap, PyData.int s.flag], flatN d = true ∧ d.depth ≤ 0 := fun d hd => by
    rcases List.mem_cons.mp hd with rfl | hd
    · exact ⟨by simpa [flatN] using ok, by simp [PyData.depth]⟩
    · rw [List.mem_singleton.mp hd]; exact ⟨by simp [flatN], by simp [PyData.depth]⟩
  exact ⟨flat_sq (t := t) fun d hd => (h d hd).1, depth_sq (t := t) (n := 0) fun d hd => (h d hd).2⟩
theorem dpA_rev {K : PySem.W.Frag} {H : Hp} : ∀ {vs : List V} {ds : List PyData}, DpAll K H vs ds → DpAll K H vs.reverse ds.reverse
  | _, _, .nil => .nil
  | _, _, .cons a b => by
    rw [List.reverse_cons, List.reverse_cons]
    exact dpA_app (dpA_rev b) (.cons a .nil)
theorem pp_str {z p : Str} (gz : Good z) (h : Pp (tl z) (tl p)) : PyData.strOk p = true := strOk_of fun c hc => all_lt c (gz.all c (h.all c hc))
theorem fitR_len {z : Str} {ss : List Sn} {rs : List R} : (fitR z ss rs).length ≤ rs.length := by
  unfold fitR
  have := List.length_filter_le (fun i => ss.all (cmpS z (rs.getD i (.n0 .any)))) (List.range rs.length)
  rw [List.length_range] at this
  exact this
/-- what is new keeps, whatever becomes of the list at the top -/
theorem new_kp {K : PySem.W.Frag} {H H1 H2 : Hp} {p : Addr} {o : HO} {vs : List V} {ds : List PyData} (h : DpAll K (New (upd H p o) H1) vs ds) (k : Kp p H1 H2) : DpAll K H2 vs ds :=
  dpA_keep (Same.keeps fun c u e => by
    unfold New at e
    cases q : upd H p o c with
    | some _ => rw [q] at e; cases e
    | none =>
      rw [q] at e
      have n : c ≠ p := fun z => by rw [z, upd_same] at q; cases q
      exact k c u n e) _ _ h
theorem new2 {K : PySem.W.Frag} {H H1 H2 : Hp} {p : Addr} {o : HO} {vs : List V} {ds : List PyData} (h : DpAll K (New (upd H p o) H1) vs ds) (k : ∀ c u, c ≠ p → H c = none → H1 c = some u → H2 c = some u) : DpAll K H2 vs ds :=
  dpA_keep (Same.keeps fun c u e => by
    unfold New at e
    cases q : upd H p o c with
    | some _ => rw [q] at e; cases e
    | none =>
      rw [q] at e
      have n : c ≠ p := fun z => by rw [z, upd_same] at q; cases q
      rw [upd_ne n] at q
      exact k c u n q e) _ _ h
section
variable {P : Program} {w : World} {K : PySem.W.Frag} {mg : Str → Option Value} {base : Heap}
abbrev OBagOf (P : Program) (w : World) (K : PySem.W.Frag) (mg : Str → Option Value) (base : Heap) : Prop := Own P w K mg base "_law_bag_of" 1 ["_law_script", "_law_at"] (spBagOf K)
abbrev OSignsOf (P : Program) (w : World) (K : PySem.W.Frag) (mg : Str → Option Value) (base : Heap) : Prop := Own P w K mg base "_law_signs_of" 2 ["_law_bag", "_law_most"] spSignsOf
abbrev ORulesOf (P : Program) (w : World) (K : PySem.W.Frag) (mg : Str → Option Value) (base : Heap) : Prop := Own P w K mg base "_law_rules_of" 7 ["_law_bag", "_law_signs"] (spRulesOf K)
abbrev OLonger (P : Program) (w : World) (K : PySem.W.Frag) (mg : Str → Option Value) (base : Heap) : Prop := Own P w K mg base "_law_longer_paper" 4 ["_law_bag", "_law_signs"] (spLonger K)
abbrev OSame (P : Program) (w : World) (K : PySem.W.Frag) (mg : Str → Option Value) (base : Heap) : Prop := Own P w K mg base "_law_same_tuple" 4 ["_law_told", "_law_wanted"] (spSame K)
abbrev OLLL (n : Nat) (P : Program) (w : World) (K : PySem.W.Frag) (mg : Str → Option Value) (base : Heap) : Prop := Own P w K mg base "_law_listed" (n + 1) ["_law_thing"] (spListedL K n)
theorem ok_told {f : Addr} {fd : FuncData} (F : Fun K "_law_told_well" "_law_told_well" sLTold f fd) (B : Bl mg) (Ob : OBagOf P w K mg base) (Oso : OSignsOf P w K mg base) (Oru : ORulesOf P w K mg base) (Op : OPick P w K mg base) (Olg : OLonger P w K mg base) (Olj : OJudged 41 P w K mg base)
    (Osm : OSame P w K mg base) (Osg : OSigC P w K mg base) (Oft : OFitC P w K mg base) (Ofl : OFlags P w K mg base) (Olf : OLFit P w K mg base) (Oll : OLLL 46 P w K mg base) : FnOk P w K mg base CX0 71 f fd ["_law_script"] (spTold K) := by
  refine F.ok scLTold (fun vs H Q E h => ?_) (fun cdv A outer s H vs Q E hr h => ?_)
  · obtain ⟨a, ns, rfl, _⟩ := h
    rfl
  · obtain ⟨a, ns, rfl, hS, hlen, k⟩ := h
    refine ⟨_, (pss_cons (ps_set (i := 1) scLTold.nd rfl (Or.inl rfl) (pe_own Ob (hr.mono (by omega)) (pa_cons (pv 0) (pa_cons pe_int pa_nil)))) (pss_cons (ps_set (i := 2) scLTold.nd rfl (Or.inl rfl) (pe_own Oso (hr.mono (by omega)) (pa_cons (pv 1) (pa_cons pe_int pa_nil)))) (pss_cons (ps_set (i := 3) scLTold.nd rfl (Or.inl rfl) (pe_own Oru (hr.mono (by omega)) (pa_cons (pe_own Ob (hr.mono (by omega)) (pa_cons (pv 0) (pa_cons pe_int pa_nil))) (pa_cons (pv 2) pa_nil)))) (pss_cons (ps_set (i := 4) scLTold.nd rfl (Or.inl rfl) (pe_own Ob (hr.mono (by omega)) (pa_cons (pv 0) (pa_cons pe_int pa_nil)))) (pss_cons (ps_set (i := 5) scLTold.nd rfl (Or.inl rfl) (pe_own Op (hr.mono (by omega)) (pa_cons (pv 4) (pa_cons (pe_callB call_len (by rfl) B.len PySem.boot_len (pa_cons (pv 3) pa_nil)) pa_nil)))) (pss_cons (ps_set (i := 6) scLTold.nd rfl (Or.inl rfl) (pe_lst pa_nil)) (pss_cons (ps_for PassesOwn.never rfl (pi_range1 rfl B.range (pa_cons (pe_ix ix_list (pe_lst (pa_cons pe_int (pa_cons pe_int (pa_cons pe_int (pa_cons pe_int (pa_cons pe_int (pa_cons pe_int pa_nil))))))) (pe_own Op (hr.mono (by omega)) (pa_cons (pv 4) (pa_cons pe_int pa_nil))) (fun _ _ => rfl)) pa_nil)) (pg_name (i := 7) scLTold.nd rfl (Or.inl rfl)) (pss_cons (ps_set (i := 8) scLTold.nd rfl (Or.inl rfl) (pe_own Olg (hr.mono (by omega)) (pa_cons (pv 4) (pa_cons (pv 2) pa_nil)))) (pss_cons (ps_set (i := 9) scLTold.nd rfl (Or.inl rfl) (pe_ifExp (pt_val (pe_own Olj (hr.mono (by omega)) (pa_cons (pv 2) (pa_cons (pe_ix ix_list (pv 3) (pv 5) (fun _ _ => rfl)) (pa_cons (pv 8) pa_nil))))) pe_int pe_int)) (pss_one (ps_expr (pe_bm PySem.F.plainAttrs_list PySem.F.slot_list_append PySem.F.type_list_append mt_append (pv 6) (pa_cons (pe_tup (pa_cons (pv 8) (pa_cons (pe_ifExp (pt_cmpR op_eq (pe_own Op (hr.mono (by omega)) (pa_cons (pv 4) (pa_cons pe_int pa_nil))) pe_int (nomark _)) (pe_op op_sub pe_int (pv 9)) (pv 9)) pa_nil))) pa_nil))))))) (pss_cons (ps_set (i := 10) scLTold.nd rfl (Or.inl rfl) (pe_revL (pv 3))) (pss_cons (ps_set (i := 8) scLTold.nd rfl (Or.inl rfl) (pe_own Olg (hr.mono (by omega)) (pa_cons (pv 4) (pa_cons (pv 2) pa_nil)))) (pss_cons (ps_for PassesOwn.never rfl (pi_list (pe_lst (pa_cons (pv 3) (pa_cons (pv 10) (pa_cons (pv 3) pa_nil))))) (pg_name (i := 11) scLTold.nd rfl (Or.inl rfl)) (pss_cons (ps_if (pt_not (pt_val (pe_own Osm (hr.mono (by omega)) (pa_cons (pe_own Osg (hr.mono (by omega)) (pa_cons (pv 2) (pa_cons (pe_callTy call_tuple_of (by rfl) B.tuple (by decide +kernel) (pa_cons (pv 11) pa_nil)) (pa_cons (pv 8) pa_nil)))) (pa_cons (pe_own Ofl (hr.mono (by omega)) (pa_cons (pv 2) (pa_cons (pv 11) (pa_cons (pv 8) pa_nil)))) pa_nil))))) (pss_one (ps_ret pe_bl)) pss_nil) (pss_one (ps_if (pt_not (pt_val (pe_own Osm (hr.mono (by omega)) (pa_cons (pe_own Oft (hr.mono (by omega)) (pa_cons (pv 2) (pa_cons (pe_callTy call_tuple_of (by rfl) B.tuple (by decide +kernel) (pa_cons (pv 11) pa_nil)) (pa_cons (pe_callTy call_tuple_of (by rfl) B.tuple (by decide +kernel) (pa_cons (pv 6) pa_nil)) pa_nil)))) (pa_cons (pe_own Olf (hr.mono (by omega)) (pa_cons (pv 2) (pa_cons (pv 11) (pa_cons (pv 6) pa_nil)))) pa_nil))))) (pss_one (ps_ret pe_bl)) pss_nil)))) (pss_cons (ps_set (i := 12) scLTold.nd rfl (Or.inl rfl) (pe_own Oll (hr.mono (by omega)) (pa_cons (pv 3) pa_nil))) (pss_cons (ps_set (i := 13) scLTold.nd rfl (Or.inl rfl) (pe_own Oll (hr.mono (by omega)) (pa_cons (pv 6) pa_nil))) (pss_cons (ps_set (i := 14) scLTold.nd rfl (Or.inl rfl) (pe_own Olf (hr.mono (by omega)) (pa_cons (pv 2) (pa_cons (pv 3) (pa_cons (pv 6) pa_nil))))) (pss_cons (ps_if (PW.pt (pw_or (pt_not (pt_val (pe_own Osm (hr.mono (by omega)) (pa_cons (pe_own Oft (hr.mono (by omega)) (pa_cons (pv 2) (pa_cons (pv 12) (pa_cons (pv 13) pa_nil)))) (pa_cons (pv 14) pa_nil))))) (pw_or (pt_cmpR (op_neD hr.units) (pv 12) (pe_own Oll (hr.mono (by omega)) (pa_cons (pv 3) pa_nil)) (nomark _)) (pw_or1 (pt_cmpR (op_neD hr.units) (pv 13) (pe_own Oll (hr.mono (by omega)) (pa_cons (pv 6) pa_nil)) (nomark _)))))) (pss_one (ps_ret pe_bl)) pss_nil) (pss_cons (ps_if (pt_not (pt_val (pe_own Osm (hr.mono (by omega)) (pa_cons (pe_own Osg (hr.mono (by omega)) (pa_cons (pv 2) (pa_cons (pv 12) (pa_cons (pv 8) pa_nil)))) (pa_cons (pe_own Ofl (hr.mono (by omega)) (pa_cons (pv 2) (pa_cons (pv 3) (pa_cons (pv 8) pa_nil)))) pa_nil))))) (pss_one (ps_ret pe_bl)) pss_nil) (pss_cons (ps_expr (pe_bm PySem.F.plainAttrs_list PySem.F.slot_list_append PySem.F.type_list_append mt_append (pv 13) (pa_cons (pe_lst (pa_cons (pv 8) (pa_cons pe_int pa_nil))) pa_nil))) (pss_cons (ps_asg (pe_lst (pa_cons pe_str (pa_cons (pe_ix ix_list (pv 12) pe_int (fun _ _ => rfl)) pa_nil))) (pg_sub (pv 12) pe_int set_list)) (pss_cons (ps_set (i := 15) scLTold.nd rfl (Or.inl rfl) (pe_op op_cat (pe_lst (pa_cons (pe_tup (pa_cons pe_str (pa_cons (pe_ix ix_list (pv 3) pe_int (fun _ _ => rfl)) pa_nil))) pa_nil)) (pe_slice sl_list (pv 3) (po_some pe_int) po_none))) (pss_one (ps_ret (pe_own Osm (hr.mono (by omega)) (pa_cons (pe_own Oft (hr.mono (by omega)) (pa_cons (pv 2) (pa_cons (pv 12) (pa_cons (pv 13) pa_nil)))) (pa_cons (pe_own Olf (hr.mono (by omega)) (pa_cons (pv 2) (pa_cons (pv 15) (pa_cons (pe_op op_cat (pv 6) (pe_lst (pa_cons (pe_tup (pa_cons (pv 8) (pa_cons pe_int pa_nil))) pa_nil))) pa_nil)))) pa_nil))))))))))))))))))))))), ?_⟩
    try dsimp only [cxOf, Cx.nox, Cx.wish]
    walk_at "go"
    refine ⟨a, ns, 0, rfl, hS, hlen, Int.le_refl 0, by decide, fun H1 b0 s1 hb0 hb1 => ?_⟩
    walk_at "go"
    refine ⟨b0, 0, rfl, hb1, by decide, fun H2 z gz z4 hb2 k2 => ?_⟩
    have sm2 : Same H H2 := same_kp s1 hb0 k2
    clear hb2 k2 hb1 s1
    have z2 : 2 ≤ (tl z).length := gz.lo
    have z12 : (tl z).length ≤ 12 := gz.hi
    have lz := len_tl z
    walk_at "go"
    refine ⟨a, ns, 1, rfl, sm2.seq hS, hlen, by decide, by decide, fun H3 b1 s3 hb1 bg3 => ?_⟩
    have sm3 := sm2.trans s3
    have hb1H : H b1 = none := sm2.free hb1
    walk_at "go"
    refine ⟨b1, z, 0, rfl, bg3, by decide, gz, fun H4 L vl rs hL eL dA hrs l1 l5 bg4 k4 => ?_⟩
    have sm4 : Same H H4 := same_kp sm3 hb1H k4
    clear k4 bg4 bg3 hb1H sm3 s3 sm2
    walk_at "go"
    refine ⟨a, ns, 2, rfl, sm4.seq hS, hlen, by decide, by decide, fun H5 b s5 hb5 bg5 => ?_⟩
    have eL5 := s5 _ _ eL
    have vll : vl.length = rs.length := by have := dpA_len dA; rw [List.length_map] at this; exact this
    walk_at "go"
    refine ⟨_, _, rfl, lenL (SqL.of eL5), ?_⟩
    walk_at "go"
    refine ⟨b, _, 0, rfl, bg5, by decide, by omega, fun hd H6 hd0 hd1 bg6 of6 => ?_⟩
    obtain ⟨hd, rfl⟩ : ∃ d : Nat, hd = (d : Int) := ⟨hd.toNat, by omega⟩
    have hdl : hd < rs.length := by omega
    have s6 := same_kp s5 hb5 of6.kp
    clear of6 bg5 s5 eL5 hd0 hd1
    walk_at "go"
    refine ⟨(by show 0 ≤ sizeLine; decide), fun S hS0 => ?_⟩
    have nSb := bg6.ne hS0
    have hS4 := s6.free hS0
    have bg7 := bg6.new (o := HO.lst []) hS0
    have s7 := s6.trans (same_new (o := HO.lst []) hS0)
    have eS7 : (upd H6 S (.lst [])) S = some (.lst []) := upd_same
    revert bg7 s7 eS7
    generalize upd H6 S (.lst []) = H7
    intro bg7 s7 eS7
    clear bg6 s6 hS0 H6
    walk_at "go"
    refine pick_new (xs := [0, 1, 2, 3, 4, 6]) bg7 rfl rfl (fun _ _ q => ⟨_, rfl, q⟩) (by decide) (by decide) (by omega) (fun m H8 hm bg8 k8 => ?_)
    have hm6 : m ≤ 6 := by simp only [List.mem_cons, List.not_mem_nil, or_false] at hm; omega
    have eS8 := k8 _ _ nSb eS7
    have s8 := same_kp s7 hb5 k8
    walk_at "go"
    refine ⟨by omega, by omega, fr_range (lo := 0) (n := m) (fun i σ H' => ∃ (o7 o8 o9 : Option V) (ps : List V) (ss : List Sn), σ = [some (.ref a), some (.ref b0), some (.str z), some (.ref L), some (.ref b), some (vi hd), some (.ref S), o7, o8, o9, none, none, none, none, none, none] ∧ H' S = some (.lst ps) ∧ DpAll K H' ps (ss.map (Sn.data true)) ∧ (∀ s ∈ ss, s.isOk = true ∧ Pp (tl z) (tl s.pap) ∧ s.bin) ∧ ss.length = i ∧ IsBag H' b (2 + 20 * i) ∧ Same H4 H')
      ⟨none, none, none, [], [], rfl, eS8, .nil, (fun r h => by cases h), rfl, bg8.mono (by omega), s8⟩ ?_ ?_⟩
    · rintro i σ H9 hi ⟨o7, o8, o9, ps, ss, rfl, eS9, dS, hss, hl, bg9, s9⟩
      have psl : ps.length = i := by have := dpA_len dS; rw [List.length_map, hl] at this; exact this
      have add : ∀ (p : Str) (f g : Int) (H5 H6 : Hp) (T : Addr), Pp (tl z) (tl p) → (f = 0 ∨ f = 1) → IsBag H5 b (2 + 20 * (i + 1)) → Kp b H9 H5 → Same H5 H6 → H5 T = none → H6 T = some (.tup [.str p, .int f]) → ∃ (o7 o8 o9 : Option V) (ps2 : List V) (ss : List Sn), [some (V.ref a), some (.ref b0), some (.str z), some (.ref L), some (.ref b), some (vi hd), some (.ref S), some (.int (0 + (i : Int))), some (.str p), some (.int g), none, none, none, none, none, none] = [some (.ref a), some (.ref b0), some (.str z), some (.ref L), some (.ref b), some (vi hd), some (.ref S), o7, o8, o9, none, none, none, none, none, none] ∧ (upd H6 S (.lst (ps ++ [.ref T]))) S = some (.lst ps2) ∧ DpAll K (upd H6 S (.lst (ps ++ [.ref T]))) ps2 (ss.map (Sn.data true)) ∧ (∀ s ∈ ss, s.isOk = true ∧ Pp (tl z) (tl s.pap) ∧ s.bin) ∧ ss.length = i + 1 ∧ IsBag (upd H6 S (.lst (ps ++ [.ref T]))) b (2 + 20 * (i + 1)) ∧ Same H4 (upd H6 S (.lst (ps ++ [.ref T]))) := by
        intro p f g H5 H6 T hp hf hb5' k5 s6 hT eT
        have eS6 := s6 _ _ (k5 _ _ nSb eS9)
        have k6 := k5.trans (Same.kp s6)
        refine ⟨_, _, _, ps ++ [.ref T], ss ++ [.good p f], rfl, upd_same, ?_, fun x hx => ?_, by rw [List.length_append, hl]; rfl, bag_upd (hb5'.same s6) nSb, same_upd (same_kp s9 hb5 k6) hS4⟩
        · rw [List.map_append]
          refine dpA_app (dpA_pure (KT.trans (bag_kt bg9 k6) (kt_lst eS6)) _ _ (pureA_iff.mpr fun y hy => by obtain ⟨u, _, rfl⟩ := List.mem_map.mp hy; exact u.pure) dS) (.cons (dp_pure (kt_lst eS6) _ _ (Sn.pure (.good p f)) ?_) .nil)
          exact .tup (SqT.of eT) (.cons (.str _) (.cons (.int _) .nil))
        · rcases List.mem_append.mp hx with q | q
          · exact hss x q
          · rw [List.mem_singleton.mp q]; exact ⟨rfl, hp, hf⟩
      walk_at "go"
      refine ⟨b, z, _, rfl, bg9, by omega, gz, fun H10 p hp bgp k10 => ?_⟩
      refine r_name ?_
      try dsimp only [List.set]
      have s10 := same_kp s9 hb5 k10
      have eL10 := s10 _ _ eL
      obtain ⟨r, hr⟩ : ∃ r, rs[hd]? = some r := ⟨_, List.getElem?_eq_getElem hdl⟩
      have hrm := List.mem_of_getElem? hr
      have hrd := r.depth_le
      have hrp := (hrs r hrm).2
      obtain ⟨v, hv⟩ : ∃ v, vl[hd]? = some v := ⟨_, List.getElem?_eq_getElem (by omega)⟩
      obtain ⟨d, hdi, hxd⟩ := dpA_get dA hv
      rw [List.getElem?_map, hr] at hdi
      obtain rfl := Option.some.inj hdi
      refine K1.r_seq (r_asg (r_ifJ (fun v H' => ∃ g : Int, v = .int g ∧ (g = 0 ∨ g = 1) ∧ Same H10 H') (fun Q' h => ?_) ?_))
      · walk_at "go"
        refine r_ixL (SqL.of eL10) (atI_nat (j := hd) hv) ?_
        walk_at "go"
        refine ⟨z, v, r, p, rfl, by omega, good_nd gz, RAt.of (dp_keep (Same.keeps s10) _ _ hxd), (hrs r hrm).1, hp, by omega, fun H11 s11 => ?_⟩
        cases he : ev (tl z) r (tl p)
        · walk_at "go"
          exact h _ _ ⟨0, rfl, .inl rfl, s11⟩
        · walk_at "go"
          exact h _ _ ⟨1, rfl, .inr rfl, s11⟩
      rintro _ H11 ⟨g, rfl, hg, s11⟩
      refine r_name ?_
      try dsimp only [List.set]
      have eS11 := s11 _ _ (k10 _ _ nSb eS9)
      have bg11 := bgp.same s11
      walk_at "go"
      refine ⟨tyL (SqL.of eS11), ?_⟩
      walk_at "go"
      refine ⟨b, 9, _, rfl, bg11, by omega, by decide, fun r1 H12 _ _ bg12 of12 => ?_⟩
      have eS12 := of12.kp _ _ nSb eS11
      have k12 := k10.trans ((Same.kp s11).trans of12.kp)
      walk_at "go"
      refine r_iteN' (fun h0 => ?_) (fun h0 => ?_)
      · walk_at "go"
        refine ⟨(by show 2 ≤ sizeLine; decide), fun T hT => ?_⟩
        walk_at "go"
        refine ⟨S, ps, .ref T, rfl, rfl, (same_new hT) _ _ eS12, line60 (by omega), ?_⟩
        exact add p (1 - g) g H12 _ T hp (by rcases hg with rfl | rfl <;> simp) (bg12.mono (by omega)) k12 (same_new hT) hT upd_same
      · walk_at "go"
        refine ⟨(by show 2 ≤ sizeLine; decide), fun T hT => ?_⟩
        walk_at "go"
        refine ⟨S, ps, .ref T, rfl, rfl, (same_new hT) _ _ eS12, line60 (by omega), ?_⟩
        exact add p g g H12 _ T hp hg (bg12.mono (by omega)) k12 (same_new hT) hT upd_same
    · rintro σ H9 ⟨o7, o8, o9, ps, ss, rfl, eS9, dS, hss, hl, bg9, s9⟩
      clear bg8 k8 eS8 s8 eS7 s7 bg7 hm
      have eL9 := s9 _ _ eL
      walk_at "go"
      refine ⟨L, vl, rfl, SqL.of eL9, fun O hO => ?_⟩
      have nOb := bg9.ne hO
      have s9' := s9.trans (same_new (o := HO.lst vl.reverse) hO)
      have eO := (upd_same : (upd H9 O (.lst vl.reverse)) O = some (.lst vl.reverse))
      have eS10 := same_new (o := HO.lst vl.reverse) hO _ _ eS9
      have dS10 := dpA_keep (Same.keeps (same_new (o := HO.lst vl.reverse) hO)) _ _ dS
      have bg10 := bg9.new (o := HO.lst vl.reverse) hO
      revert s9' eO eS10 dS10 bg10
      generalize upd H9 O (.lst vl.reverse) = H10
      intro s9' eO eS10 dS10 bg10
      walk_at "go"
      refine ⟨b, z, _, rfl, bg10, by omega, gz, fun H11 p hp bg11 k11 => ?_⟩
      have s11 := same_kp s9' hb5 k11
      have eO11 := k11 _ _ nOb eO
      have eS11 := k11 _ _ nSb eS10
      have dS11 := dpA_pure (bag_kt bg10 k11) _ _ (pureA_iff.mpr fun y hy => by obtain ⟨u, _, rfl⟩ := List.mem_map.mp hy; exact u.pure) dS10
      clear k11 bg10 dS10 eS10 eO s9' eS9 dS bg9 s9 hO eL9 nOb
      have eL11 := s11 _ _ eL
      have dA11 := dpA_keep (Same.keeps s11) _ _ dA
      have dO11 := dpA_rev dA11
      rw [← List.map_reverse] at dO11
      have sm11 := sm4.trans s11
      clear s11 eL dA bg11
      walk_at "go"
      refine ⟨(by show 3 ≤ sizeLine; decide), fun D hD => ?_⟩
      have sD := same_new (o := HO.lst [V.ref L, V.ref O, V.ref L]) hD
      have eD : (upd H11 D (.lst [V.ref L, V.ref O, V.ref L])) D = some (.lst [V.ref L, V.ref O, V.ref L]) := upd_same
      revert sD eD
      generalize upd H11 D (.lst [V.ref L, V.ref O, V.ref L]) = H12
      intro sD eD
      have row : ∀ (i : Nat) (x : V), [V.ref L, V.ref O, V.ref L][i]? = some x → ∃ (R0 : Addr) (xl : List V) (rl : List R), x = .ref R0 ∧ H11 R0 = some (.lst xl) ∧ DpAll K H11 xl (rl.map (R.data true)) ∧ (∀ r ∈ rl, r.fit (tl z) ∧ r.parts ≤ 7) ∧ rl.length = rs.length := fun i x hx => by
        have hO : ∃ (R0 : Addr) (xl : List V) (rl : List R), V.ref O = .ref R0 ∧ H11 R0 = some (.lst xl) ∧ DpAll K H11 xl (rl.map (R.data true)) ∧ (∀ r ∈ rl, r.fit (tl z) ∧ r.parts ≤ 7) ∧ rl.length = rs.length := ⟨O, _, rs.reverse, rfl, eO11, dO11, fun r h => hrs r (List.mem_reverse.mp h), List.length_reverse⟩
        have hL : ∃ (R0 : Addr) (xl : List V) (rl : List R), V.ref L = .ref R0 ∧ H11 R0 = some (.lst xl) ∧ DpAll K H11 xl (rl.map (R.data true)) ∧ (∀ r ∈ rl, r.fit (tl z) ∧ r.parts ≤ 7) ∧ rl.length = rs.length := ⟨L, vl, rs, rfl, eL11, dA11, hrs, rfl⟩
        match i with
        | 0 => obtain rfl := Option.some.inj hx; exact hL
        | 1 => obtain rfl := Option.some.inj hx; exact hO
        | 2 => obtain rfl := Option.some.inj hx; exact hL
        | n + 3 => cases hx
      have psl : ps.length = ss.length := by have := dpA_len dS11; rw [List.length_map] at this; exact this
      refine ⟨D, rfl, ⟨_, SqL.of eD⟩, fr_list (Pv := fun i σ H' => ∃ (o11 : Option V), σ = [some (.ref a), some (.ref b0), some (.str z), some (.ref L), some (.ref b), some (vi hd), some (.ref S), o7, some (.str p), o9, some (.ref O), o11, none, none, none, none] ∧ Same H12 H') ⟨none, rfl, Same.refl _⟩ (fun i σ H' _ ⟨_, _, s⟩ => SqL.of (s _ _ eD)) ?_ ?_⟩
      · rintro i x σ H13 hx ⟨o11, rfl, s13⟩
        obtain ⟨R0, xl, rl, rfl, eR, dR, hrl, lrl⟩ := row i x hx
        have s13' := sD.trans s13
        have f40 : ∀ r ∈ rl, r.fit (tl z) ∧ r.parts ≤ 40 := fun r h => ⟨(hrl r h).1, by have := (hrl r h).2; omega⟩
        have f41 : ∀ r ∈ rl, r.fit (tl z) ∧ r.depth ≤ 41 := fun r h => ⟨(hrl r h).1, by have := (hrl r h).2; have := r.depth_le; omega⟩
        walk_at "go"
        refine ⟨R0, xl, rfl, .inl ⟨SqL.of (s13' _ _ eR), fun T hT => ?_⟩⟩
        have sT := same_new (o := HO.tup xl) hT
        have eT : (upd H13 T (.tup xl)) T = some (.tup xl) := upd_same
        revert sT eT
        generalize upd H13 T (.tup xl) = H14
        intro sT eT
        have s14 := s13'.trans sT
        walk_at "go"
        refine ⟨z, p, _, xl, rl, true, rfl, gz, ⟨T, rfl, .inr (SqT.of eT)⟩, dpA_keep (Same.keeps s14) _ _ dR, f40, by omega, hp, fun H15 v s15 d15 => ?_⟩
        have s15' := s14.trans s15
        walk_at "go"
        refine ⟨z, R0, xl, rl, p, rfl, gz, SqL.of (s15' _ _ eR), dpA_keep (Same.keeps s15') _ _ dR, f41, by omega, hp, fun H16 T2 s16 eT2 => ?_⟩
        walk_at "go"
        refine ⟨v, _, rl.map (sigR z p), rfl, dp_keep (Same.keeps s16) _ _ d15, .tup (SqT.of eT2) (dpA_nums.mpr rfl), by rw [List.length_map]; omega, fun H17 s17 => ?_⟩
        have s17' := s15'.trans (s16.trans s17)
        have s1217 := s13.trans (sT.trans (s15.trans (s16.trans s17)))
        walk_at "go"
        refine ⟨R0, xl, rfl, .inl ⟨SqL.of (s17' _ _ eR), fun T3 hT3 => ?_⟩⟩
        have sT3 := same_new (o := HO.tup xl) hT3
        have eT3 : (upd H17 T3 (.tup xl)) T3 = some (.tup xl) := upd_same
        revert sT3 eT3
        generalize upd H17 T3 (.tup xl) = H18
        intro sT3 eT3
        have s18 := s17'.trans sT3
        walk_at "go"
        refine ⟨S, ps, rfl, .inl ⟨SqL.of (s18 _ _ eS11), fun T4 hT4 => ?_⟩⟩
        have sT4 := same_new (o := HO.tup ps) hT4
        have eT4 : (upd H18 T4 (.tup ps)) T4 = some (.tup ps) := upd_same
        revert sT4 eT4
        generalize upd H18 T4 (.tup ps) = H19
        intro sT4 eT4
        have s19 := s18.trans sT4
        walk_at "go"
        refine ⟨z, _, _, xl, ps, rl, ss, true, rfl, gz, ⟨T3, rfl, .inr (SqT.of (sT4 _ _ eT3))⟩, dpA_keep (Same.keeps s19) _ _ dR, f40, by omega, ⟨T4, rfl, .inr (SqT.of eT4)⟩, PairsAt.of (fun s h => (hss s h).1) (dpA_keep (Same.keeps s19) _ _ dS11), fun s h => ⟨(hss s h).1, (hss s h).2.1⟩, by omega, fun H20 v2 s20 d20 => ?_⟩
        have s20' := s19.trans s20
        walk_at "go"
        refine ⟨z, R0, S, xl, ps, rl, ss, rfl, gz, SqL.of (s20' _ _ eR), dpA_keep (Same.keeps s20') _ _ dR, f41, by omega, SqL.of (s20' _ _ eS11), PairsAt.of (fun s h => (hss s h).1) (dpA_keep (Same.keeps s20') _ _ dS11), hss, by omega, fun H21 T5 s21 eT5 => ?_⟩
        walk_at "go"
        refine ⟨v2, _, fitR z ss rl, rfl, dp_keep (Same.keeps s21) _ _ d20, .tup (SqT.of eT5) (dpA_nums.mpr rfl), ?_, fun H22 s22 => ?_⟩
        · exact Nat.le_trans fitR_len (by omega)
        walk_at "go"
        exact s1217.trans (sT3.trans (sT4.trans (s20.trans (s21.trans s22))))
      · rintro σ H13 ⟨o11, rfl, s13⟩
        walk_at "go"
        have sE := sD.trans s13
        have dlt : ∀ d ∈ rs.map (R.data true), okd d = true ∧ nol d = true ∧ d.depth < 46 := fun d hd => by
          obtain ⟨r, hr, rfl⟩ := List.mem_map.mp hd
          have ok := good_ok gz (hrs r hr).1
          have := (R.flat true ok).2
          have := (hrs r hr).2
          have := r.depth_le
          exact ⟨R.okd true ok, nol_pure _ r.pure, by omega⟩
        have dls : ∀ d ∈ ss.map (Sn.data true), okd d = true ∧ nol d = true ∧ d.depth < 46 := fun d hd => by
          obtain ⟨s, hs, rfl⟩ := List.mem_map.mp hd
          have := (Sn.flat true (pp_str gz (hss s hs).2.1)).2
          exact ⟨s.okd (pp_len (hss s hs).2.1), nol_pure _ s.pure, by omega⟩
        have fR : flatN (.list (rs.map (R.data false))) = true ∧ (PyData.list (rs.map (R.data false))).depth ≤ 64 := by
          have h : ∀ d ∈ rs.map (R.data false), flatN d = true ∧ d.depth ≤ 9 := fun d hd => by
            obtain ⟨r, hr, rfl⟩ := List.mem_map.mp hd
            have ok := good_ok gz (hrs r hr).1
            have h1 := (R.flat false ok)
            have := (hrs r hr).2
            have := r.depth_le
            exact ⟨h1.1, by omega⟩
          exact ⟨flat_sq (t := false) fun d hd => (h d hd).1, Nat.le_trans (depth_sq (t := false) (n := 9) fun d hd => (h d hd).2) (by decide)⟩
        have fS : flatN (.list (ss.map (Sn.data false))) = true ∧ (PyData.list (ss.map (Sn.data false))).depth ≤ 64 := by
          have h : ∀ d ∈ ss.map (Sn.data false), flatN d = true ∧ d.depth ≤ 1 := fun d hd => by
            obtain ⟨s, hs, rfl⟩ := List.mem_map.mp hd
            exact Sn.flat false (pp_str gz (hss s hs).2.1)
          exact ⟨flat_sq (t := false) fun d hd => (h d hd).1, Nat.le_trans (depth_sq (t := false) (n := 1) fun d hd => (h d hd).2) (by decide)⟩
        have mR : (rs.map (R.data true)).map lstd = rs.map (R.data false) := by
          rw [List.map_map]
          exact List.map_congr_left fun r _ => r.lst
        have mS : (ss.map (Sn.data true)).map lstd = ss.map (Sn.data false) := by
          rw [List.map_map]
          exact List.map_congr_left fun s _ => s.lst
        have lR : (rs.map (R.data true)).length ≤ 1000 := by rw [List.length_map]; omega
        have lS : (ss.map (Sn.data true)).length ≤ 1000 := by rw [List.length_map]; omega
        have f40 : ∀ r ∈ rs, r.fit (tl z) ∧ r.parts ≤ 40 := fun r h => ⟨(hrs r h).1, by have := (hrs r h).2; omega⟩
        have f41 : ∀ r ∈ rs, r.fit (tl z) ∧ r.depth ≤ 41 := fun r h => ⟨(hrs r h).1, by have := (hrs r h).2; have := r.depth_le; omega⟩
        refine ⟨L, vl, _, rfl, SqL.of (sE _ _ eL11), dpA_keep (Same.keeps sE) _ _ dA11, fun d hd => (dlt d hd).1, fun d hd => (dlt d hd).2.1, fun d hd => (dlt d hd).2.2, lR, fun H14 Pa pv s14 hP eP dP => ?_⟩
        rw [mR] at dP
        have sF := sE.trans s14
        have hP11 := sE.free hP
        walk_at "go"
        refine ⟨S, ps, _, rfl, SqL.of (sF _ _ eS11), dpA_keep (Same.keeps sF) _ _ dS11, fun d hd => (dls d hd).1, fun d hd => (dls d hd).2.1, fun d hd => (dls d hd).2.2, lS, fun H15 Qa qv s15 hQ eQ dQ => ?_⟩
        rw [mS] at dQ
        have sG := sF.trans s15
        have hQ11 := sF.free hQ
        have eP15 := s15 _ _ eP
        have nPQ : Pa ≠ Qa := fun q => by rw [← q, eP] at hQ; cases hQ
        walk_at "go"
        refine ⟨z, L, S, vl, ps, rs, ss, rfl, gz, SqL.of (sG _ _ eL11), dpA_keep (Same.keeps sG) _ _ dA11, f41, by omega, SqL.of (sG _ _ eS11), PairsAt.of (fun s h => (hss s h).1) (dpA_keep (Same.keeps sG) _ _ dS11), hss, by omega, fun H16 T1 s16 eT1 => ?_⟩
        have sH := sG.trans s16
        have s1516 := s16
        walk_at "go"
        refine ⟨z, _, _, pv, qv, rs, ss, false, rfl, gz, ⟨Pa, rfl, .inl (SqL.of (s16 _ _ eP15))⟩, new_kp dP (Same.kp (s15.trans s16)), f40, by omega, ⟨Qa, rfl, .inl (SqL.of (s16 _ _ eQ))⟩, PairsAt.of (fun s h => (hss s h).1) (new_kp dQ (Same.kp s16)), fun s h => ⟨(hss s h).1, (hss s h).2.1⟩, by omega, fun H17 v2 s17 d17 => ?_⟩
        walk_at "go"
        refine ⟨v2, _, fitR z ss rs, rfl, d17, .tup (SqT.of (s17 _ _ eT1)) (dpA_nums.mpr rfl), Nat.le_trans fitR_len (by omega), fun H18 s18 => ?_⟩
        have sI := sH.trans (s17.trans s18)
        have s1518 := s16.trans (s17.trans s18)
        walk_at "go"
        refine ⟨L, vl, _, rfl, SqL.of (sI _ _ eL11), dpA_keep (Same.keeps sI) _ _ dA11, fun d hd => (dlt d hd).1, fun d hd => (dlt d hd).2.1, fun d hd => (dlt d hd).2.2, lR, fun H19 P2 pv2 s19 hP2 eP2 dP2 => ?_⟩
        rw [mR] at dP2
        have s1519 := s1518.trans s19
        refine ⟨.list (rs.map (R.data false)), .list (rs.map (R.data false)), .lst (SqL.of (s1519 _ _ eP15)) (new_kp dP (Same.kp (s15.trans s1519))), .lst (SqL.of eP2) (dpA_keep (Same.keeps New.same) _ _ dP2), shaped_of fR.1 fR.2, shaped_of fR.1 fR.2, ?_⟩
        rw [SeqAt.eqv_refl _ (canLay_flat _ fR.1)]
        walk_at "go"
        have sJ := sI.trans s19
        refine ⟨S, ps, _, rfl, SqL.of (sJ _ _ eS11), dpA_keep (Same.keeps sJ) _ _ dS11, fun d hd => (dls d hd).1, fun d hd => (dls d hd).2.1, fun d hd => (dls d hd).2.2, lS, fun H20 Q2 qv2 s20 hQ2 eQ2 dQ2 => ?_⟩
        rw [mS] at dQ2
        have s1520 := s1519.trans s20
        refine ⟨.list (ss.map (Sn.data false)), .list (ss.map (Sn.data false)), .lst (SqL.of (s1520 _ _ eQ)) (new_kp dQ (Same.kp s1520)), .lst (SqL.of eQ2) (dpA_keep (Same.keeps New.same) _ _ dQ2), shaped_of fS.1 fS.2, shaped_of fS.1 fS.2, ?_⟩
        rw [SeqAt.eqv_refl _ (canLay_flat _ fS.1)]
        walk_at "go"
        have sK := sJ.trans s20
        refine ⟨z, p, _, pv, rs, false, rfl, gz, ⟨Pa, rfl, .inl (SqL.of (s1520 _ _ eP15))⟩, new_kp dP (Same.kp (s15.trans s1520)), f40, by omega, hp, fun H21 v3 s21 d21 => ?_⟩
        have sL := sK.trans s21
        walk_at "go"
        refine ⟨z, L, vl, rs, p, rfl, gz, SqL.of (sL _ _ eL11), dpA_keep (Same.keeps sL) _ _ dA11, f41, by omega, hp, fun H22 T2 s22 eT2 => ?_⟩
        walk_at "go"
        refine ⟨v3, _, rs.map (sigR z p), rfl, dp_keep (Same.keeps s22) _ _ d21, .tup (SqT.of eT2) (dpA_nums.mpr rfl), by rw [List.length_map]; omega, fun H23 s23 => ?_⟩
        have sM := sL.trans (s22.trans s23)
        have s1523 := s1520.trans (s21.trans (s22.trans s23))
        have dP23 := new_kp (H2 := H23) dP (Same.kp (s15.trans s1523))
        have dQ23 := new_kp (H2 := H23) dQ (Same.kp s1523)
        have eP23 := s1523 _ _ eP15
        have eQ23 := s1523 _ _ eQ
        have s1423 := s15.trans s1523
        clear s22 s23 s21 d21 sL sK sJ sI sH sG s1520 s1519 s1518 dP2 dQ2 eP2 eQ2 hP2 hQ2 s19 s20 s18 s17 s16 s1516 d17 eT2
        walk_at "go"
        obtain ⟨r0, rt, rfl⟩ : ∃ r0 rt, rs = r0 :: rt := by
          cases rs with
          | nil => cases l1
          | cons r0 rt => exact ⟨r0, rt, rfl⟩
        obtain ⟨v0, vt, rfl⟩ : ∃ v0 vt, vl = v0 :: vt := by cases dA11; exact ⟨_, _, rfl⟩
        obtain ⟨w0, wt, rfl⟩ : ∃ w0 wt, pv = w0 :: wt := by cases dP23; exact ⟨_, _, rfl⟩
        have lqv : qv.length = ss.length := by have := dpA_len dQ23; rw [List.length_map] at this; exact this
        have fit' : ∀ r ∈ (R.n1 .not r0 :: rt), r.fit (tl z) ∧ r.parts ≤ 8 := fun r hr => by
          rcases List.mem_cons.mp hr with rfl | hr
          · have h := hrs r0 (List.mem_cons_self ..)
            exact ⟨⟨trivial, rfl, h.1⟩, by show r0.parts + 1 ≤ 8; omega⟩
          · have h := hrs r (List.mem_cons_of_mem _ hr)
            exact ⟨h.1, by omega⟩
        have hss' : ∀ s ∈ ss ++ [Sn.good p 1], s.isOk = true ∧ Pp (tl z) (tl s.pap) ∧ s.bin := fun s hs => by
          rcases List.mem_append.mp hs with q | q
          · exact hss s q
          · rw [List.mem_singleton.mp q]; exact ⟨rfl, hp, .inr rfl⟩
        refine ⟨tyL (SqL.of eQ23), ?_⟩
        walk_at "go"
        refine ⟨(by show 2 ≤ sizeLine; decide), fun N hN => ?_⟩
        have sN := same_new (o := HO.lst [V.str p, V.int 1]) hN
        have eN : (upd H23 N (.lst [V.str p, V.int 1])) N = some (.lst [V.str p, V.int 1]) := upd_same
        have nNQ : N ≠ Qa := (ne_of_none eQ23 hN).symm
        revert sN eN
        generalize upd H23 N (.lst [V.str p, V.int 1]) = H24
        intro sN eN
        walk_at "go"
        refine ⟨Qa, qv, .ref N, rfl, rfl, sN _ _ eQ23, line60 (by omega), ?_⟩
        have eQ25 : (upd H24 Qa (.lst (qv ++ [V.ref N]))) Qa = some (.lst (qv ++ [V.ref N])) := upd_same
        have eN25 : (upd H24 Qa (.lst (qv ++ [V.ref N]))) N = some (.lst [V.str p, V.int 1]) := by rw [upd_ne nNQ]; exact eN
        have eP25 : (upd H24 Qa (.lst (qv ++ [V.ref N]))) Pa = some (.lst (w0 :: wt)) := by rw [upd_ne nPQ]; exact sN _ _ eP23
        have s25 := same_upd (o := HO.lst (qv ++ [V.ref N])) (sM.trans sN) hQ11
        have k25 : Kp Qa H23 (upd H24 Qa (.lst (qv ++ [V.ref N]))) := fun c o n e => by rw [upd_ne n]; exact sN c o e
        revert eQ25 eN25 eP25 s25 k25
        generalize upd H24 Qa (.lst (qv ++ [V.ref N])) = H25
        intro eQ25 eN25 eP25 s25 k25
        walk_at "go"
        refine r_ixL (SqL.of eP25) at_0 ?_
        walk_at "go"
        refine ⟨(by show 2 ≤ sizeLine; decide), fun M hM => ?_⟩
        have nMP : M ≠ Pa := (ne_of_none eP25 hM).symm
        have sM' := same_new (o := HO.lst [V.str "not", w0]) hM
        have eM : (upd H25 M (.lst [V.str "not", w0])) M = some (.lst [V.str "not", w0]) := upd_same
        revert sM' eM
        generalize upd H25 M (.lst [V.str "not", w0]) = H26
        intro sM' eM
        walk_at "go"
        refine ⟨Pa, w0 :: wt, 0, 0, rfl, rfl, sM' _ _ eP25, (by show (if (0 : Int) ≤ 0 then _ else _) = _; rw [if_pos (Int.le_refl 0), if_pos (by rw [List.length_cons]; omega)]; rfl), ?_⟩
        dsimp only [List.set]
        have eP27 : (upd H26 Pa (.lst (V.ref M :: wt))) Pa = some (.lst (V.ref M :: wt)) := upd_same
        have eM27 : (upd H26 Pa (.lst (V.ref M :: wt))) M = some (.lst [V.str "not", w0]) := by rw [upd_ne nMP]; exact eM
        have eQ27 : (upd H26 Pa (.lst (V.ref M :: wt))) Qa = some (.lst (qv ++ [V.ref N])) := by rw [upd_ne nPQ.symm]; exact sM' _ _ eQ25
        have eN27 : (upd H26 Pa (.lst (V.ref M :: wt))) N = some (.lst [V.str p, V.int 1]) := by
          rw [upd_ne (ne_of_none eP23 hN).symm]
          exact sM' _ _ eN25
        have s27 := same_upd (o := HO.lst (V.ref M :: wt)) (s25.trans sM') hP11
        have k27 : Kp Pa H25 (upd H26 Pa (.lst (V.ref M :: wt))) := fun c o n e => by rw [upd_ne n]; exact sM' c o e
        revert eP27 eM27 eQ27 eN27 s27 k27
        generalize upd H26 Pa (.lst (V.ref M :: wt)) = H27
        intro eP27 eM27 eQ27 eN27 s27 k27
        have dP27 : DpAll K H27 (V.ref M :: wt) ((R.n1 .not r0 :: rt).map (R.data false)) := by
          have h := new2 (H2 := H27) dP fun c u n _ e => k27 c u n (k25 c u (ne_of_none e hQ) (s1423 c u e))
          cases h with
          | cons a b => exact .cons (.lst (SqL.of eM27) (.cons (.str _) (.cons a .nil))) b
        have dQ27 : DpAll K H27 (qv ++ [V.ref N]) ((ss ++ [Sn.good p 1]).map (Sn.data false)) := by
          have h := new2 (H2 := H27) dQ fun c u n h0 e => k27 c u (fun q => by rw [q, eP] at h0; cases h0) (k25 c u n (s1523 c u e))
          rw [List.map_append]
          exact dpA_app h (.cons (.lst (SqL.of eN27) (.cons (.str _) (.cons (.int _) .nil))) .nil)
        clear k27 k25 eN27 eM27 sM' eM nMP hM eQ25 eN25 eP25 s25 sN eN hN dP23 dQ23 eP23 eQ23 s1423 s1523 dP dQ
        walk_at "go"
        refine r_ixL (SqL.of (s27 _ _ eL11)) at_0 ?_
        walk_at "go"
        refine ⟨(by show 2 ≤ sizeLine; decide), fun T3 hT3 => ?_⟩
        have s28 := same_new (o := HO.tup [V.str "not", v0]) hT3
        have eT3 : (upd H27 T3 (.tup [V.str "not", v0])) T3 = some (.tup [V.str "not", v0]) := upd_same
        revert s28 eT3
        generalize upd H27 T3 (.tup [V.str "not", v0]) = H28
        intro s28 eT3
        walk_at "go"
        refine ⟨(by show 1 ≤ sizeLine; decide), fun Z1 hZ1 => ?_⟩
        have s29 := same_new (o := HO.lst [V.ref T3]) hZ1
        have eZ1 : (upd H28 Z1 (.lst [V.ref T3])) Z1 = some (.lst [V.ref T3]) := upd_same
        revert s29 eZ1
        generalize upd H28 Z1 (.lst [V.ref T3]) = H29
        intro s29 eZ1
        have s2729 := s28.trans s29
        walk_at "go"
        refine sl_new (s2729 _ _ (s27 _ _ eL11)) (fun H30 Z2 s30 eZ2 => ?_)
        rw [show cutV (v0 :: vt) (some 1) none = vt from cutV_from (xs := v0 :: vt) 1] at eZ2
        refine cat_two (s30 _ _ eZ1) eZ2 (by show 1 + vt.length ≤ 1000; have : vt.length + 1 = rt.length + 1 := vll; have : rt.length + 1 ≤ 5 := l5; omega) (fun H31 Z3 s31 eZ3 => ?_)
        have s2731 := s2729.trans (s30.trans s31)
        have s31' := s27.trans s2731
        have dZ3 : DpAll K H31 (V.ref T3 :: vt) ((R.n1 .not r0 :: rt).map (R.data true)) := by
          have h := dpA_keep (Same.keeps s31') _ _ dA11
          cases h with
          | cons a b => exact .cons (.tup (SqT.of ((s29.trans (s30.trans s31)) _ _ eT3)) (.cons (.str _) (.cons a .nil))) b
        walk_at "go"
        refine ⟨z, _, _, _, _, _, _, false, rfl, gz, ⟨Pa, rfl, .inl (SqL.of (s2731 _ _ eP27))⟩, dpA_keep (Same.keeps s2731) _ _ dP27, fun r hr => ⟨(fit' r hr).1, by have := (fit' r hr).2; omega⟩, by show rt.length + 1 ≤ 1000; have : rt.length + 1 ≤ 5 := l5; omega, ⟨Qa, rfl, .inl (SqL.of (s2731 _ _ eQ27))⟩, PairsAt.of (fun s h => (hss' s h).1) (dpA_keep (Same.keeps s2731) _ _ dQ27), fun s h => ⟨(hss' s h).1, (hss' s h).2.1⟩, by rw [List.length_append]; show ss.length + 1 ≤ 1000; omega, fun H32 v4 s32 d32 => ?_⟩
        have s32' := s31'.trans s32
        walk_at "go"
        refine ⟨(by show 2 ≤ sizeLine; decide), fun T4 hT4 => ?_⟩
        have s33 := same_new (o := HO.tup [V.str p, V.int 1]) hT4
        have eT4 : (upd H32 T4 (.tup [V.str p, V.int 1])) T4 = some (.tup [V.str p, V.int 1]) := upd_same
        revert s33 eT4
        generalize upd H32 T4 (.tup [V.str p, V.int 1]) = H33
        intro s33 eT4
        have s33' := s32'.trans s33
        walk_at "go"
        refine cat_new (s33' _ _ eS11) (by show ps.length + 1 ≤ 1000; omega) (fun H34 Z4 s34 eZ4 => ?_)
        have s3134 := s32.trans (s33.trans s34)
        have s34' := s33'.trans s34
        have dZ4 : DpAll K H34 (ps ++ [V.ref T4]) ((ss ++ [Sn.good p 1]).map (Sn.data true)) := by
          rw [List.map_append]
          exact dpA_app (dpA_keep (Same.keeps s34') _ _ dS11) (.cons (.tup (SqT.of (s34 _ _ eT4)) (.cons (.str _) (.cons (.int _) .nil))) .nil)
        walk_at "go"
        refine ⟨z, Z3, Z4, _, _, _, _, rfl, gz, SqL.of (s3134 _ _ eZ3), dpA_keep (Same.keeps s3134) _ _ dZ3, fun r hr => ⟨(fit' r hr).1, by have := (fit' r hr).2; have := r.depth_le; omega⟩, by show rt.length + 1 ≤ 100; have : rt.length + 1 ≤ 5 := l5; omega, SqL.of eZ4, PairsAt.of (fun s h => (hss' s h).1) dZ4, hss', by rw [List.length_append]; show ss.length + 1 ≤ 100; omega, fun H35 T5 s35 eT5 => ?_⟩
        walk_at "go"
        refine ⟨v4, _, fitR z (ss ++ [Sn.good p 1]) (R.n1 .not r0 :: rt), rfl, dp_keep (Same.keeps ((s33.trans s34).trans s35)) _ _ d32, .tup (SqT.of eT5) (dpA_nums.mpr rfl), Nat.le_trans fitR_len (by show rt.length + 1 ≤ 1000; have : rt.length + 1 ≤ 5 := l5; omega), fun H36 s36 => ?_⟩
        exact k _ (sm11.trans ((s34'.trans s35).trans s36))
abbrev OTold (P : Program) (w : World) (K : PySem.W.Frag) (mg : Str → Option Value) (base : Heap) : Prop := Own P w K mg base "_law_told_well" 71 ["_law_script"] (spTold K)
end
end K4

/-! L69g -/


namespace K4
open PySem L2 K1
abbrev sLDeep : Stmt := top 80
abbrev nLDeep : List Str := ["_law_many", "_law_rule", "_law_k"]
theorem scLDeep : FnScope nLDeep ["_law_many", "_law_rule"] (defScope sLDeep) := ⟨rfl, rfl, rfl, by decide +kernel, rfl, by decide +kernel, by decide +kernel⟩
abbrev sLBadPart : Stmt := top 81
abbrev nLBadPart : List Str := ["_law_bag", "_law_odd"]
theorem scLBadPart : FnScope nLBadPart ["_law_bag"] (defScope sLBadPart) := ⟨rfl, rfl, rfl, by decide +kernel, rfl, by decide +kernel, by decide +kernel⟩
abbrev sLWrong : Stmt := top 82
abbrev nLWrong : List Str := ["_law_bag", "_law_good", "_law_way", "_law_bad", "_law_other"]
theorem scLWrong : FnScope nLWrong ["_law_bag", "_law_good"] (defScope sLWrong) := ⟨rfl, rfl, rfl, by decide +kernel, rfl, by decide +kernel, by decide +kernel⟩
/-! A display of plain things makes that data. -/
def Lt (K : PySem.W.Frag) (te : TE) (d : PyData) : Prop := ∀ (σ : L2.St) (H : Hp) (Q : VK), (∀ v H', Same H H' → Dp K H' v d → Q v H') → te σ H Q
def LtA (K : PySem.W.Frag) (ta : TA) (ds : List PyData) : Prop := ∀ (σ : L2.St) (H : Hp) (Q : List V → Hp → Prop), (∀ vs H', Same H H' → DpAll K H' vs ds → Q vs H') → ta σ H Q
section
variable {K : PySem.W.Frag} {te : TE} {ta : TA} {d : PyData} {ds : List PyData}
theorem lt_int (i : Int) : Lt K (tC (.int i)) (.int i) := fun σ H Q q => q _ H (Same.refl _) (.int i)
theorem lt_str (x : Str) : Lt K (tC (.str x)) (.str x) := fun σ H Q q => q _ H (Same.refl _) (.str x)
theorem lt_bl (b : Bool) : Lt K (tC (.bl b)) (.bool b) := fun σ H Q q => q _ H (Same.refl _) (.bl b)
theorem lt_non : Lt K (tC .non) .none := fun σ H Q q => q _ H (Same.refl _) .non
theorem lta_nil : LtA K tNil [] := fun σ H Q q => q _ H (Same.refl _) .nil
theorem lta_cons (h : Lt K te d) (t : LtA K ta ds) : LtA K (tCons te ta) (d :: ds) := fun σ H Q q => h σ H _ fun v H1 s1 d1 => t σ H1 _ fun vs H2 s2 d2 => q _ _ (s1.trans s2) (.cons (dp_keep (Same.keeps s2) _ _ d1) d2)
theorem lt_tup (h : LtA K ta ds) (l : ds.length ≤ 1000) : Lt K (tTup ta) (.tuple ds) := fun σ H Q q => h σ H _ fun vs H1 s1 d1 => ⟨Nat.le_of_lt (line60 (by rw [dpA_len d1]; exact l)), fun p hp => q _ _ (s1.trans (same_new hp)) (dp_tup hp d1)⟩
theorem r_lst {σ : L2.St} {H : Hp} {Q : VK} (h : LtA K ta ds) (l : ds.length ≤ 1000) (q : ∀ p vs H', H p = none → Same H H' → H' p = some (.lst vs) → DpAll K H' vs ds → Q (.ref p) H') : tLst ta σ H Q :=
  h σ H _ fun vs H1 s1 d1 => ⟨Nat.le_of_lt (line60 (by rw [dpA_len d1]; exact l)), fun p hp => q p vs _ (s1.free hp) (s1.trans (same_new hp)) upd_same (dpA_keep (Same.keeps (same_new hp)) _ _ d1)⟩
end
def spDeep (K : PySem.W.Frag) : Sp := fun vs H Q _ => ∃ (m : Nat) (v : V) (d : PyData), vs = [vi m, v] ∧ m ≤ 100 ∧ Dp K H v d ∧ ∀ H' v', Same H H' → Dp K H' v' (Nat.repeat (fun d => PyData.tuple [.str "not", d]) m d) → Q v' H'
section
variable {P : Program} {w : World} {K : PySem.W.Frag} {mg : Str → Option Value} {base : Heap}
theorem ok_deep {f : Addr} {fd : FuncData} (F : Fun K "_law_deep_of" "_law_deep_of" sLDeep f fd) (B : Bl mg) : FnOk P w K mg base CX0 1 f fd ["_law_many", "_law_rule"] (spDeep K) := by
  refine F.ok scLDeep (fun vs H Q E h => ?_) (fun cdv A outer s H vs Q E hr h => ?_)
  · obtain ⟨m, v, d, rfl, _⟩ := h
    rfl
  · obtain ⟨m, v, d, rfl, hm, hv, k⟩ := h
    refine ⟨_, (pss_cons (ps_for PassesOwn.never rfl (pi_range1 rfl B.range (pa_cons (pv 0) pa_nil)) (pg_name (i := 2) scLDeep.nd rfl (Or.inl rfl)) (pss_one (ps_set (i := 1) scLDeep.nd rfl (Or.inl rfl) (pe_tup (pa_cons pe_str (pa_cons (pv 1) pa_nil)))))) (pss_one (ps_ret (pv 1)))), ?_⟩
    try dsimp only [cxOf, Cx.nox, Cx.wish]
    walk_at "go"
    refine ⟨by omega, by omega, fr_range (lo := 0) (n := m) (fun i σ H' => ∃ (o2 : Option V) (v' : V), σ = [some (vi m), some v', o2] ∧ Same H H' ∧ Dp K H' v' (Nat.repeat (fun d => PyData.tuple [.str "not", d]) i d)) ⟨none, v, rfl, Same.refl _, hv⟩ ?_ ?_⟩
    · rintro i σ H1 hi ⟨o2, v', rfl, s1, d1⟩
      walk_at "go"
      refine ⟨(by show 2 ≤ sizeLine; decide), fun T hT => ?_⟩
      walk_at "go"
      refine ⟨_, _, rfl, s1.trans (same_new hT), ?_⟩
      exact dp_tup hT (.cons (.str _) (.cons d1 .nil))
    · rintro σ H1 ⟨o2, v', rfl, s1, d1⟩
      walk_at "go"
      exact k _ _ s1 d1
abbrev ODeep (P : Program) (w : World) (K : PySem.W.Frag) (mg : Str → Option Value) (base : Heap) : Prop := Own P w K mg base "_law_deep_of" 1 ["_law_many", "_law_rule"] (spDeep K)
end
/-- the parts that are none -/
def badA (t : Bool) : List PyData := [sq t [.str "sum", .int 1, sq t [.int 0], .int 0], sq t [.str "sum", .int 61, sq t [.int 0], .int 0], sq t [.str "sum", .int 3, sq t [], .int 0], sq t [.str "sum", .int 3, sq t [.int 3], .int 0], sq t [.str "sum", .int 3, sq t [.int 1], .int 3]]
def badB (t : Bool) : List PyData := [sq t [.str "sum", .int 3, sq t (List.replicate 9 (.int 1)), .int 0], sq t [.str "sum", .int 3, sq t [.bool true], .int 0], sq t [.str "sum", .int 3, .int 1, .int 0], sq t [.str "square", sq t [], sq t [.int 0]], sq t [.str "zip"], sq t []]
def badC (t : Bool) : List PyData := [sq t [.str "square", sq t [sq t [.int 0, .int 0, .int 0, .int 0, .int 0]], sq t [.int 0]], sq t [.str "faces", sq t [], sq t [.str "any"]], sq t [.str "faces", sq t [.str "0"], sq t [.str "any"]], .str "any", .none]
def badE (t : Bool) : List PyData := [sq t [.str "cut", .int 0, .int 4, sq t [.str "any"]], sq t [.str "cut", .int (-1), .int 0, sq t [.str "any"]], sq t [.str "not"], sq t [.str "both", sq t [.str "any"]], sq t [.str "any", sq t [.str "any"]], .int 7]
def badL (t : Bool) : List PyData := badA t ++ (badB t ++ (badC t ++ badE t))
theorem bad_nol : ∀ d ∈ badL true, nol d = true := by
  have h : (badL true).all nol = true := by decide +kernel
  exact List.all_eq_true.mp h
def spBadPart (K : PySem.W.Frag) : Sp := fun vs H Q _ => ∃ (b : Addr) (n : Nat), vs = [.ref b] ∧ IsBag H b n ∧ n + 1 ≤ 2 ^ 40 ∧ ∀ H' v d, d ∈ badL true → Dp K H' v d → IsBag H' b (n + 1) → Kp b H H' → Q v H'
section
variable {P : Program} {w : World} {K : PySem.W.Frag} {mg : Str → Option Value} {base : Heap}
theorem lt_rep (X : Str) : Lt K (tOp (rRepT K) (tTup (tCons (tC (.int 1)) tNil)) (tC (.int 9))) (sq true (List.replicate 9 (.int 1))) := fun σ H Q q => by
  refine ⟨(by show 1 ≤ sizeLine; decide), fun p hp => ⟨p, 9, [.int 1], rfl, rfl, SqT.of upd_same, by simp, by decide, by decide, by decide, fun r hr => q _ _ ((same_new hp).trans (same_new hr)) ?_⟩⟩
  exact dp_tup hr (.cons (.int 1) (.cons (.int 1) (.cons (.int 1) (.cons (.int 1) (.cons (.int 1) (.cons (.int 1) (.cons (.int 1) (.cons (.int 1) (.cons (.int 1) .nil)))))))))
theorem lt_neg : Lt K (tUn (rU fun i => .int (-i)) (tC (.int 1))) (.int (-1)) := fun σ H Q q => ⟨1, rfl, q _ H (Same.refl _) (.int (-1))⟩
theorem ok_badPart {f : Addr} {fd : FuncData} (F : Fun K "_law_bad_part" "_law_bad_part" sLBadPart f fd) (B : Bl mg) (Oo : OOneOf P w K mg base) : FnOk P w K mg base CX0 3 f fd ["_law_bag"] (spBadPart K) := by
  refine F.ok scLBadPart (fun vs H Q E h => ?_) (fun cdv A outer s H vs Q E hr h => ?_)
  · obtain ⟨b, n, rfl, _⟩ := h
    rfl
  · obtain ⟨b, n, rfl, hb, hn, k⟩ := h
    refine ⟨_, (pss_cons (ps_set (i := 1) scLBadPart.nd rfl (Or.inl rfl) (pe_lst (pa_cons (pe_tup (pa_cons pe_str (pa_cons pe_int (pa_cons (pe_tup (pa_cons pe_int pa_nil)) (pa_cons pe_int pa_nil))))) (pa_cons (pe_tup (pa_cons pe_str (pa_cons pe_int (pa_cons (pe_tup (pa_cons pe_int pa_nil)) (pa_cons pe_int pa_nil))))) (pa_cons (pe_tup (pa_cons pe_str (pa_cons pe_int (pa_cons (pe_tup pa_nil) (pa_cons pe_int pa_nil))))) (pa_cons (pe_tup (pa_cons pe_str (pa_cons pe_int (pa_cons (pe_tup (pa_cons pe_int pa_nil)) (pa_cons pe_int pa_nil))))) (pa_cons (pe_tup (pa_cons pe_str (pa_cons pe_int (pa_cons (pe_tup (pa_cons pe_int pa_nil)) (pa_cons pe_int pa_nil))))) pa_nil))))))) (pss_cons (ps_set (i := 1) scLBadPart.nd rfl (Or.inl rfl) (pe_op op_cat (pv 1) (pe_lst (pa_cons (pe_tup (pa_cons pe_str (pa_cons pe_int (pa_cons (pe_op op_repT (pe_tup (pa_cons pe_int pa_nil)) pe_int) (pa_cons pe_int pa_nil))))) (pa_cons (pe_tup (pa_cons pe_str (pa_cons pe_int (pa_cons (pe_tup (pa_cons pe_bl pa_nil)) (pa_cons pe_int pa_nil))))) (pa_cons (pe_tup (pa_cons pe_str (pa_cons pe_int (pa_cons pe_int (pa_cons pe_int pa_nil))))) (pa_cons (pe_tup (pa_cons pe_str (pa_cons (pe_tup pa_nil) (pa_cons (pe_tup (pa_cons pe_int pa_nil)) pa_nil)))) (pa_cons (pe_tup (pa_cons pe_str pa_nil)) (pa_cons (pe_tup pa_nil) pa_nil))))))))) (pss_cons (ps_set (i := 1) scLBadPart.nd rfl (Or.inl rfl) (pe_op op_cat (pv 1) (pe_lst (pa_cons (pe_tup (pa_cons pe_str (pa_cons (pe_tup (pa_cons (pe_tup (pa_cons pe_int (pa_cons pe_int (pa_cons pe_int (pa_cons pe_int (pa_cons pe_int pa_nil)))))) pa_nil)) (pa_cons (pe_tup (pa_cons pe_int pa_nil)) pa_nil)))) (pa_cons (pe_tup (pa_cons pe_str (pa_cons (pe_tup pa_nil) (pa_cons (pe_tup (pa_cons pe_str pa_nil)) pa_nil)))) (pa_cons (pe_tup (pa_cons pe_str (pa_cons (pe_tup (pa_cons pe_str pa_nil)) (pa_cons (pe_tup (pa_cons pe_str pa_nil)) pa_nil)))) (pa_cons pe_str (pa_cons pe_non pa_nil)))))))) (pss_cons (ps_set (i := 1) scLBadPart.nd rfl (Or.inl rfl) (pe_op op_cat (pv 1) (pe_lst (pa_cons (pe_tup (pa_cons pe_str (pa_cons pe_int (pa_cons pe_int (pa_cons (pe_tup (pa_cons pe_str pa_nil)) pa_nil))))) (pa_cons (pe_tup (pa_cons pe_str (pa_cons (pe_un un_neg pe_int) (pa_cons pe_int (pa_cons (pe_tup (pa_cons pe_str pa_nil)) pa_nil))))) (pa_cons (pe_tup (pa_cons pe_str pa_nil)) (pa_cons (pe_tup (pa_cons pe_str (pa_cons (pe_tup (pa_cons pe_str pa_nil)) pa_nil))) (pa_cons (pe_tup (pa_cons pe_str (pa_cons (pe_tup (pa_cons pe_str pa_nil)) pa_nil))) (pa_cons pe_int pa_nil))))))))) (pss_one (ps_ret (pe_own Oo (hr.mono (by omega)) (pa_cons (pv 0) (pa_cons (pv 1) pa_nil))))))))), ?_⟩
    try dsimp only [cxOf, Cx.nox, Cx.wish]
    have la : ∀ t, (badA t).length = 5 := fun t => rfl
    have lb : ∀ t, (badB t).length = 6 := fun t => rfl
    have lc : ∀ t, (badC t).length = 5 := fun t => rfl
    have le : ∀ t, (badE t).length = 6 := fun t => rfl
    refine K1.r_seq (r_asg (r_lst (K := K) (ds := badA true) (by unfold badA; repeat' (first | exact lt_int _ | exact lt_str _ | exact lt_bl _ | exact lt_non | exact lt_neg | exact lta_nil | exact lt_rep "" | refine lta_cons ?_ ?_ | refine lt_tup ?_ (by decide))) (by rw [la]; decide) fun p1 v1 H1 hp1 s1 e1 d1 => ?_))
    have l1 := dpA_len d1
    rw [la] at l1
    refine r_name ?_
    try dsimp only [List.set]
    refine K1.r_seq (r_asg (K1.r_op (K1.r_var rfl ?_)))
    refine r_lst (K := K) (ds := badB true) (by unfold badB; repeat' (first | exact lt_int _ | exact lt_str _ | exact lt_bl _ | exact lt_non | exact lt_neg | exact lta_nil | exact lt_rep "" | refine lta_cons ?_ ?_ | refine lt_tup ?_ (by decide))) (by rw [lb]; decide) fun p2 v2 H2 hp2 s2 e2 d2 => ?_
    have l2 := dpA_len d2
    rw [lb] at l2
    refine cat_two (s2 _ _ e1) e2 (by omega) fun H3 p3 s3 e3 => ?_
    have s23 := s2.trans s3
    have d3 := dpA_app (dpA_keep (Same.keeps s23) _ _ d1) (dpA_keep (Same.keeps s3) _ _ d2)
    refine r_name ?_
    try dsimp only [List.set]
    refine K1.r_seq (r_asg (K1.r_op (K1.r_var rfl ?_)))
    refine r_lst (K := K) (ds := badC true) (by unfold badC; repeat' (first | exact lt_int _ | exact lt_str _ | exact lt_bl _ | exact lt_non | exact lt_neg | exact lta_nil | exact lt_rep "" | refine lta_cons ?_ ?_ | refine lt_tup ?_ (by decide))) (by rw [lc]; decide) fun p4 v4 H4 hp4 s4 e4 d4 => ?_
    have l4 := dpA_len d4
    rw [lc] at l4
    refine cat_two (s4 _ _ e3) e4 (by rw [List.length_append]; omega) fun H5 p5 s5 e5 => ?_
    have s45 := s4.trans s5
    have d5 := dpA_app (dpA_keep (Same.keeps s45) _ _ d3) (dpA_keep (Same.keeps s5) _ _ d4)
    refine r_name ?_
    try dsimp only [List.set]
    refine K1.r_seq (r_asg (K1.r_op (K1.r_var rfl ?_)))
    refine r_lst (K := K) (ds := badE true) (by unfold badE; repeat' (first | exact lt_int _ | exact lt_str _ | exact lt_bl _ | exact lt_non | exact lt_neg | exact lta_nil | exact lt_rep "" | refine lta_cons ?_ ?_ | refine lt_tup ?_ (by decide))) (by rw [le]; decide) fun p6 v6 H6 hp6 s6 e6 d6 => ?_
    have l6 := dpA_len d6
    rw [le] at l6
    refine cat_two (s6 _ _ e5) e6 (by rw [List.length_append, List.length_append]; omega) fun H7 p7 s7 e7 => ?_
    have s67 := s6.trans s7
    have d7 := dpA_app (dpA_keep (Same.keeps s67) _ _ d5) (dpA_keep (Same.keeps s7) _ _ d6)
    simp only [List.append_assoc] at d7
    have sA := s1.trans (s23.trans (s45.trans s67))
    have hb7 := hb.same sA
    refine r_name ?_
    try dsimp only [List.set]
    walk_at "go"
    have nb7 : p7 ≠ b := fun q => by
      obtain ⟨_, _, _, e, _⟩ := hb7
      rw [q, e] at e7
      have := congrArg List.length (HO.lst.inj (Option.some.inj e7))
      rw [List.length_append, List.length_append, List.length_append] at this
      simp only [List.length_cons, List.length_nil] at this
      omega
    refine ⟨b, .ref p7, _, n, rfl, hb7, by omega, .inr ⟨p7, rfl, SqL.of e7, nb7, by rw [List.length_append, List.length_append, List.length_append]; omega⟩, fun q => ?_, fun v H8 hv hb8 of8 => ?_⟩
    · have := congrArg List.length q
      rw [List.length_append, List.length_append, List.length_append, List.length_nil] at this
      omega
    simp only [List.append_assoc] at hv
    obtain ⟨i, hi⟩ := List.mem_iff_getElem?.mp hv
    obtain ⟨d, hd, hvd⟩ := dpA_get d7 hi
    have hmem : d ∈ badL true := List.mem_of_getElem? hd
    refine k H8 v d hmem (dp_nol (bag_kt hb7 of8.kp) _ _ (bad_nol d hmem) hvd) hb8 ((Same.kp sA).trans of8.kp)
abbrev OBadPart (P : Program) (w : World) (K : PySem.W.Frag) (mg : Str → Option Value) (base : Heap) : Prop := Own P w K mg base "_law_bad_part" 3 ["_law_bag"] (spBadPart K)
end
end K4

/-! L69h -/


namespace K4
open PySem L2 K1
mutual
theorem lst_okd : ∀ d : PyData, nol d = true → okd d = true → okd (lstd d) = true
  | .none, _, _ => by simp [lstd, okd]
  | .bool _, _, _ => by simp [lstd, okd]
  | .int _, _, _ => by simp [lstd, okd]
  | .str _, _, h => by simpa [lstd] using h
  | .tuple ds, n, h => by
    rw [lstd_tup, okd, List.length_map]
    rw [okd, Bool.and_eq_true] at h
    rw [h.1, Bool.true_and]
    exact lstA_okd ds (by simpa [nol] using n) h.2
  | .list _, n, _ => by simp [nol] at n
  | .dict _, n, _ => by simp [nol] at n
theorem lstA_okd : ∀ ds : List PyData, nolA ds = true → okdA ds = true → okdA (ds.map lstd) = true
  | [], _, _ => by simp [okdA]
  | d :: ds, n, h => by
    rw [nolA, Bool.and_eq_true] at n
    rw [okdA, Bool.and_eq_true] at h
    rw [List.map_cons, okdA, lst_okd d n.1 h.1, lstA_okd ds n.2 h.2]; rfl
end
mutual
theorem lst_lay : ∀ d : PyData, nol d = true → d.canLay0 = true → (lstd d).canLay0 = true
  | .none, _, _ => by simp [lstd, PyData.canLay0]
  | .bool _, _, _ => by simp [lstd, PyData.canLay0]
  | .int _, _, _ => by simp [lstd, PyData.canLay0]
  | .str _, _, h => by simpa [lstd] using h
  | .tuple ds, n, h => by
    rw [lstd_tup, PyData.canLay0]
    rw [PyData.canLay0] at h
    exact lstA_lay ds (by simpa [nol] using n) h
  | .list _, n, _ => by simp [nol] at n
  | .dict _, n, _ => by simp [nol] at n
theorem lstA_lay : ∀ ds : List PyData, nolA ds = true → PyData.canLayAll0 ds = true → PyData.canLayAll0 (ds.map lstd) = true
  | [], _, _ => by simp [PyData.canLayAll0]
  | d :: ds, n, h => by
    rw [nolA, Bool.and_eq_true] at n
    rw [PyData.canLayAll0, Bool.and_eq_true] at h
    rw [List.map_cons, PyData.canLayAll0, lst_lay d n.1 h.1, lstA_lay ds n.2 h.2]; rfl
end
mutual
theorem lst_dep : ∀ d : PyData, nol d = true → (lstd d).depth = d.depth
  | .none, _ => by simp [lstd]
  | .bool _, _ => by simp [lstd]
  | .int _, _ => by simp [lstd]
  | .str _, _ => by simp [lstd]
  | .tuple ds, n => by
    rw [lstd_tup, PyData.depth, PyData.depth, lstA_dep ds (by simpa [nol] using n)]
  | .list _, n => by simp [nol] at n
  | .dict _, n => by simp [nol] at n
theorem lstA_dep : ∀ ds : List PyData, nolA ds = true → PyData.depthAll (ds.map lstd) = PyData.depthAll ds
  | [], _ => by simp [PyData.depthAll]
  | d :: ds, n => by
    rw [nolA, Bool.and_eq_true] at n
    rw [List.map_cons, PyData.depthAll, PyData.depthAll, lst_dep d n.1, lstA_dep ds n.2]
end
theorem shaped0 {d : PyData} (h : d.canLay0 = true) (k : d.depth ≤ 64) : SeqAt.shaped d = true := by
  unfold SeqAt.shaped
  rw [h, decide_eq_true k]
  rfl
def notD (t : Bool) (d : PyData) : PyData := sq t [.str "not", d]
def anyD (t : Bool) : PyData := sq t [.str "any"]
theorem lst_sq (ds : List PyData) : lstd (sq true ds) = sq false (ds.map lstd) := lstd_tup ds
theorem lst_str (x : Str) : lstd (.str x) = .str x := by simp [lstd]
theorem lst_rep : ∀ (m : Nat) (d : PyData), lstd (Nat.repeat (notD true) m d) = Nat.repeat (notD false) m (lstd d)
  | 0, d => rfl
  | m + 1, d => by
    show lstd (sq true [.str "not", Nat.repeat (notD true) m d]) = sq false [.str "not", Nat.repeat (notD false) m (lstd d)]
    rw [lst_sq, List.map_cons, List.map_cons, List.map_nil, lst_rep m d, lst_str]
/-! the first bad part -/
section
variable {z : Str} {t : Bool} {d e b : PyData} {n : Nat}
theorem wnot : wordOf "not" = some 2 := wordOf_wd 2 (by decide)
theorem wboth : wordOf "both" = some 3 := wordOf_wd 3 (by decide)
theorem weither : wordOf "either" = some 4 := wordOf_wd 4 (by decide)
theorem form_w1 {x : Str} {k : Nat} (h : wordOf x = some k) (hm : mn k = 0) (ha : ar k = 1) (h5 : k < 5) : formB z (sq t [.str x, d]) = true ∧ innerD (sq t [.str x, d]) = [d] := by
  unfold formB innerD
  rw [items_of]
  dsimp only
  rw [h]
  dsimp only
  rw [hm, ha]
  refine ⟨?_, rfl⟩
  unfold ownB
  rw [if_neg (by omega), if_neg (by omega), if_neg (by omega)]
  rfl
theorem form_w2 {x : Str} {k : Nat} (h : wordOf x = some k) (hm : mn k = 0) (ha : ar k = 2) (h5 : k < 5) : formB z (sq t [.str x, d, e]) = true ∧ innerD (sq t [.str x, d, e]) = [d, e] := by
  unfold formB innerD
  rw [items_of]
  dsimp only
  rw [h]
  dsimp only
  rw [hm, ha]
  refine ⟨?_, rfl⟩
  unfold ownB
  rw [if_neg (by omega), if_neg (by omega), if_neg (by omega)]
  rfl
theorem chk_yes (h : formB z d = true) : chkE (n + 1) z d = (innerD d).findSome? (chkE n z) := by
  show (if formB z d = true then _ else _) = _
  rw [if_pos h]
theorem chk_bad (h : formB z d = false) : chkE (n + 1) z d = some d := by
  show (if formB z d = true then _ else _) = _
  rw [h]; rfl
theorem chk_not (h : chkE n z d = some b) : chkE (n + 1) z (notD t d) = some b := by
  obtain ⟨a, i⟩ := form_w1 (z := z) (t := t) (d := d) wnot rfl rfl (by decide)
  show chkE (n + 1) z (sq t [.str "not", d]) = _
  rw [chk_yes a, i, List.findSome?_cons, h]
theorem chk_two {x : Str} {k : Nat} (h : wordOf x = some k) (hm : mn k = 0) (ha : ar k = 2) (h5 : k < 5) (hd : chkE n z d = some b) : chkE (n + 1) z (sq t [.str x, d, e]) = some b := by
  obtain ⟨a, i⟩ := form_w2 (z := z) (t := t) (d := d) (e := e) h hm ha h5
  rw [chk_yes a, i, List.findSome?_cons, hd]
theorem chk_snd {x : Str} {k : Nat} (h : wordOf x = some k) (hm : mn k = 0) (ha : ar k = 2) (h5 : k < 5) (hd : chkE n z d = none) (he : chkE n z e = some b) : chkE (n + 1) z (sq t [.str x, d, e]) = some b := by
  obtain ⟨a, i⟩ := form_w2 (z := z) (t := t) (d := d) (e := e) h hm ha h5
  rw [chk_yes a, i, List.findSome?_cons, hd]
  dsimp only
  rw [List.findSome?_cons, he]
theorem chk_rep (h : chkE n z d = some b) : ∀ m : Nat, chkE (n + m) z (Nat.repeat (notD t) m d) = some b
  | 0 => h
  | m + 1 => chk_not (chk_rep h m)
end
/-- any, many times denied -/
def nestR (m : Nat) : R := Nat.repeat (fun r => R.n1 .not r) m (.n0 .any)
theorem nest_data (t : Bool) : ∀ m : Nat, (nestR m).data t = Nat.repeat (notD t) m (anyD t)
  | 0 => rfl
  | m + 1 => by
    show sq t [.str "not", (nestR m).data t] = sq t [.str "not", Nat.repeat (notD t) m (anyD t)]
    rw [nest_data t m]
theorem nest_fit (z : List Nat) : ∀ m : Nat, (nestR m).fit z
  | 0 => ⟨trivial, rfl⟩
  | m + 1 => ⟨trivial, rfl, nest_fit z m⟩
theorem nest_parts : ∀ m : Nat, (nestR m).parts = m + 1
  | 0 => rfl
  | m + 1 => by show (nestR m).parts + 1 = m + 1 + 1; rw [nest_parts m]
theorem form_w {z : Str} {t : Bool} {x : Str} {k : Nat} {ds : List PyData} (h : wordOf x = some k) : formB z (sq t (.str x :: ds)) = (decide (ds.length = mn k + ar k) && ownB z k (ds.take (mn k))) := by
  unfold formB
  rw [items_of]
  dsimp only
  rw [h]
theorem form_n {z : Str} {t : Bool} {x : Str} {ds : List PyData} (h : wordOf x = none) : formB z (sq t (.str x :: ds)) = false := by
  unfold formB
  rw [items_of]
  dsimp only
  rw [h]
theorem own_sum {z : Str} {vs : List PyData} : ownB z 5 vs = sumB vs := rfl
theorem own_square {z : Str} {vs : List PyData} : ownB z 6 vs = squareB z.length vs := rfl
theorem own_faces {z : Str} {d : PyData} : ownB z 7 [d] = facesB z d := rfl
theorem own_else {z : Str} {k : Nat} {vs : List PyData} (h5 : k ≠ 5) (h6 : k ≠ 6) (h7 : k ≠ 7) : ownB z k vs = vs.all (wnB 0 3) := by unfold ownB; rw [if_neg h5, if_neg h6, if_neg h7]
theorem wany : wordOf "any" = some 0 := wordOf_wd 0 (by decide)
theorem wsum : wordOf "sum" = some 5 := wordOf_wd 5 (by decide)
theorem wsquare : wordOf "square" = some 6 := wordOf_wd 6 (by decide)
theorem wfaces : wordOf "faces" = some 7 := wordOf_wd 7 (by decide)
theorem wcut : wordOf "cut" = some 8 := wordOf_wd 8 (by decide)
theorem wzip : wordOf "zip" = none := by decide +kernel
theorem bad_formA (z : Str) (t : Bool) : ∀ d ∈ badA t, formB z d = false := by
  intro d hd
  simp only [badA, List.mem_cons, List.not_mem_nil, or_false] at hd
  rcases hd with rfl | rfl | rfl | rfl | rfl <;> (rw [form_w wsum]; cases t <;> rfl)
theorem bad_formB (z : Str) (t : Bool) : ∀ d ∈ badB t, formB z d = false := by
  intro d hd
  simp only [badB, List.mem_cons, List.not_mem_nil, or_false] at hd
  rcases hd with rfl | rfl | rfl | rfl | rfl | rfl
  · rw [form_w wsum]; cases t <;> rfl
  · rw [form_w wsum]; cases t <;> rfl
  · rw [form_w wsum]; cases t <;> rfl
  · rw [form_w wsquare]; cases t <;> rfl
  · exact form_n wzip
  · cases t <;> rfl
theorem bad_formC {z : Str} (h2 : 2 ≤ z.length) (h4 : z.length ≤ 4) (t : Bool) : ∀ d ∈ badC t, formB z d = false := by
  intro d hd
  simp only [badC, List.mem_cons, List.not_mem_nil, or_false] at hd
  rcases hd with rfl | rfl | rfl | rfl | rfl
  · rw [form_w wsquare]
    have e : ∀ m, rowB z.length m (sq t [.int 0, .int 0, .int 0, .int 0, .int 0]) = false := fun m => by
      unfold rowB
      rw [items_of]
      show (decide (5 = z.length) && _) = false
      rw [decide_eq_false (by omega), Bool.false_and]
    have e2 : rowsB z.length 60 (sq t [sq t [.int 0, .int 0, .int 0, .int 0, .int 0]]) = false := by
      unfold rowsB
      rw [items_of]
      show (_ && (rowB z.length 1 (sq t [.int 0, .int 0, .int 0, .int 0, .int 0]) && true)) = false
      rw [e, Bool.false_and, Bool.and_false]
    show (_ && (rowsB z.length 60 (sq t [sq t [.int 0, .int 0, .int 0, .int 0, .int 0]]) && _)) = false
    rw [e2, Bool.false_and, Bool.and_false]
  · rw [form_w wfaces]; cases t <;> rfl
  · rw [form_w wfaces]
    have e : textB z.length z.length z "0" = false := by
      unfold textB
      have l0 : ("0" : Str).length = 1 := by decide +kernel
      have hn : ¬ ((z.length : Int) ≤ (("0" : Str).length : Nat)) := by rw [l0]; omega
      rw [decide_eq_false hn, Bool.false_and]
    have e2 : facesB z (sq t [.str "0"]) = false := by
      unfold facesB
      rw [items_of]
      show (_ && (textB z.length z.length z "0" && true)) = false
      rw [e, Bool.false_and, Bool.and_false]
    show (_ && facesB z (sq t [.str "0"])) = false
    rw [e2, Bool.and_false]
  · rfl
  · rfl
theorem bad_formE (z : Str) (t : Bool) : ∀ d ∈ badE t, formB z d = false := by
  intro d hd
  simp only [badE, List.mem_cons, List.not_mem_nil, or_false] at hd
  rcases hd with rfl | rfl | rfl | rfl | rfl | rfl
  · rw [form_w wcut]; cases t <;> rfl
  · rw [form_w wcut]; cases t <;> rfl
  · rw [form_w wnot]; cases t <;> rfl
  · rw [form_w wboth]; cases t <;> rfl
  · rw [form_w wany]; cases t <;> rfl
  · rfl
theorem bad_form {z : Str} (h2 : 2 ≤ z.length) (h4 : z.length ≤ 4) (t : Bool) : ∀ d ∈ badL t, formB z d = false := by
  intro d hd
  rcases List.mem_append.mp hd with q | q
  · exact bad_formA z t d q
  rcases List.mem_append.mp q with q | q
  · exact bad_formB z t d q
  rcases List.mem_append.mp q with q | q
  · exact bad_formC h2 h4 t d q
  · exact bad_formE z t d q
theorem bad_lst : ∀ d ∈ badL true, lstd d ∈ badL false := by
  have e : (badL true).map lstd = badL false := by
    simp only [badL, badA, badB, badC, badE, List.map_append, List.map_cons, List.map_nil, lst_sq, List.map_replicate]
    simp [lstd]
  intro d hd
  rw [← e]
  exact List.mem_map_of_mem hd
theorem bad_plain : ∀ d ∈ badL true, okd d = true ∧ d.canLay0 = true ∧ d.depth ≤ 3 := by
  have h : (badL true).all (fun d => okd d && (d.canLay0 && decide (d.depth ≤ 3))) = true := by decide +kernel
  intro d hd
  have := List.all_eq_true.mp h d hd
  rw [Bool.and_eq_true, Bool.and_eq_true, decide_eq_true_eq] at this
  exact this
/-- a rule that is wrong: of too many parts, or with a bad part -/
inductive Wl where
  | many
  | bad (d b : PyData)
def Wl.data (t : Bool) : Wl → PyData
  | .many => (nestR 40).data t
  | .bad d _ => if t = true then d else lstd d
def Wl.what (t : Bool) : Wl → PyData
  | .many => .str "rule"
  | .bad _ b => if t = true then b else lstd b
def Wl.word : Wl → Str
  | .many => "many"
  | .bad _ _ => "rule"
def Wl.ok : Wl → Prop
  | .many => True
  | .bad d b => (okd d = true ∧ nol d = true ∧ d.depth ≤ 50) ∧ (okd b = true ∧ nol b = true ∧ b.depth ≤ 50 ∧ b.canLay0 = true) ∧ ∀ z : Str, 2 ≤ z.length → z.length ≤ 4 → chkE 60 z d = some b ∧ chkE 60 z (lstd d) = some (lstd b)
end K4

/-! L69i -/


namespace K4
open PySem L2 K1
def spWrong (K : PySem.W.Frag) : Sp := fun vs H Q _ => ∃ (b : Addr) (n : Nat) (v : V), vs = [.ref b, v] ∧ IsBag H b n ∧ n + 10 ≤ 2 ^ 40 ∧ Dp K H v (anyD true) ∧
  ∀ H' W rv bv (l : Wl), H W = none → H' W = some (.lst [rv, .str l.word, bv]) → Dp K H' rv (l.data true) → Dp K H' bv (l.what true) → l.ok → IsBag H' b (n + 10) → Kp b H H' → Q (.ref W) H'
theorem nest_nol (m : Nat) : nol ((nestR m).data true) = true := nol_pure _ (nestR m).pure
theorem sq_okd {t : Bool} {ds : List PyData} (l : ds.length ≤ 1000) (h : ∀ d ∈ ds, okd d = true) : okd (sq t ds) = true := okd_sq l h
theorem sq_nol {ds : List PyData} (h : ∀ d ∈ ds, nol d = true) : nol (sq true ds) = true := by
  show nol (.tuple ds) = true
  rw [nol]
  exact nolA_iff.mpr h
theorem rep_facts {d : PyData} (ho : okd d = true) (hn : nol d = true) : ∀ m : Nat, okd (Nat.repeat (notD true) m d) = true ∧ nol (Nat.repeat (notD true) m d) = true ∧ (Nat.repeat (notD true) m d).depth ≤ d.depth + m
  | 0 => ⟨ho, hn, Nat.le_refl _⟩
  | m + 1 => by
    obtain ⟨a, b, c⟩ := rep_facts ho hn m
    have h : ∀ x ∈ [PyData.str "not", Nat.repeat (notD true) m d], okd x = true ∧ nol x = true ∧ x.depth ≤ d.depth + m := fun x hx => by
      rcases List.mem_cons.mp hx with rfl | hx
      · exact ⟨by decide +kernel, by simp [nol], by simp [PyData.depth]⟩
      · rw [List.mem_singleton.mp hx]; exact ⟨a, b, c⟩
    exact ⟨okd_sq (t := true) (by show 2 ≤ 1000; decide) fun x hx => (h x hx).1, sq_nol fun x hx => (h x hx).2.1, depth_sq (t := true) (n := d.depth + m) fun x hx => (h x hx).2.2⟩
theorem str_facts (x : Str) (h : x.length ≤ 1000) : okd (.str x) = true ∧ nol (.str x) = true ∧ (PyData.str x).depth = 0 := ⟨by rw [okd, decide_eq_true h], by simp [nol], by simp [PyData.depth]⟩
theorem three_facts {x : Str} {d e : PyData} {m : Nat} (hx : x.length ≤ 1000) (hd : okd d = true ∧ nol d = true ∧ d.depth ≤ m) (he : okd e = true ∧ nol e = true ∧ e.depth ≤ m) : okd (sq true [.str x, d, e]) = true ∧ nol (sq true [.str x, d, e]) = true ∧ (sq true [.str x, d, e]).depth ≤ m + 1 := by
  have h : ∀ y ∈ [PyData.str x, d, e], okd y = true ∧ nol y = true ∧ y.depth ≤ m := fun y hy => by
    simp only [List.mem_cons, List.not_mem_nil, or_false] at hy
    rcases hy with rfl | rfl | rfl
    · obtain ⟨a, b, c⟩ := str_facts x hx
      exact ⟨a, b, by rw [c]; exact Nat.zero_le _⟩
    · exact hd
    · exact he
  exact ⟨okd_sq (t := true) (by show 3 ≤ 1000; decide) fun x hx => (h x hx).1, sq_nol fun x hx => (h x hx).2.1, depth_sq (t := true) (n := m) fun x hx => (h x hx).2.2⟩
theorem lst_sq3 (x : Str) (d e : PyData) : lstd (sq true [.str x, d, e]) = sq false [.str x, lstd d, lstd e] := by
  rw [lst_sq, List.map_cons, List.map_cons, List.map_cons, List.map_nil, lst_str]
section
variable {b d : PyData}
/-- what a bad part makes of a rule -/
theorem bad_b (hb : b ∈ badL true) : okd b = true ∧ nol b = true ∧ b.depth ≤ 50 ∧ b.canLay0 = true := by
  obtain ⟨p1, p2, p3⟩ := bad_plain b hb
  exact ⟨p1, bad_nol b hb, by omega, p2⟩
theorem bad_chk (hb : b ∈ badL true) (n : Nat) : ∀ z : Str, 2 ≤ z.length → z.length ≤ 4 → chkE (n + 1) z b = some b ∧ chkE (n + 1) z (lstd b) = some (lstd b) := fun z h2 h4 =>
  ⟨chk_bad (bad_form h2 h4 true b hb), chk_bad (bad_form h2 h4 false _ (bad_lst b hb))⟩
theorem any_chk (m n : Nat) (h : m < n) (t : Bool) (z : Str) : chkE n z (Nat.repeat (notD t) m (anyD t)) = none := by
  rw [← nest_data]
  exact R.chk (nest_fit (tl z) m) (by have := (nestR m).depth_le; rw [nest_parts] at this; omega)
theorem lst_any : lstd (anyD true) = anyD false := by
  show lstd (sq true [.str "any"]) = sq false [.str "any"]
  rw [lst_sq, List.map_cons, List.map_nil, lst_str]
theorem wl_rep (hb : b ∈ badL true) (m : Nat) (hm : m ≤ 40) : (Wl.bad (Nat.repeat (notD true) m b) b).ok := by
  obtain ⟨p1, p2, p3⟩ := bad_plain b hb
  obtain ⟨q1, q2, q3⟩ := rep_facts p1 (bad_nol b hb) m
  refine ⟨⟨q1, q2, by omega⟩, bad_b hb, fun z h2 h4 => ?_⟩
  obtain ⟨c1, c2⟩ := bad_chk hb (59 - m) z h2 h4
  rw [lst_rep]
  have e : 59 - m + 1 + m = 60 := by omega
  have r1 := chk_rep (t := true) c1 m
  have r2 := chk_rep (t := false) c2 m
  rw [e] at r1 r2
  exact ⟨r1, r2⟩
theorem any_facts (m : Nat) : okd (Nat.repeat (notD true) m (anyD true)) = true ∧ nol (Nat.repeat (notD true) m (anyD true)) = true ∧ (Nat.repeat (notD true) m (anyD true)).depth ≤ m + 1 := by
  obtain ⟨a, b, c⟩ := rep_facts (d := anyD true) (by decide +kernel) (by decide +kernel) m
  have : (anyD true).depth = 1 := by decide +kernel
  exact ⟨a, b, by omega⟩
theorem wl_both (hb : b ∈ badL true) (m : Nat) (hm : m ≤ 45) : (Wl.bad (sq true [.str "both", Nat.repeat (notD true) m (anyD true), b]) b).ok := by
  obtain ⟨p1, p2, p3, p4⟩ := bad_b hb
  have p3' := (bad_plain b hb).2.2
  obtain ⟨a1, a2, a3⟩ := any_facts m
  obtain ⟨q1, q2, q3⟩ := three_facts (x := "both") (m := 46) (by decide +kernel) ⟨a1, a2, by omega⟩ ⟨p1, p2, by omega⟩
  refine ⟨⟨q1, q2, by omega⟩, ⟨p1, p2, p3, p4⟩, fun z h2 h4 => ?_⟩
  obtain ⟨c1, c2⟩ := bad_chk hb 58 z h2 h4
  refine ⟨chk_snd wboth rfl rfl (by decide) (any_chk m 59 (by omega) true z) c1, ?_⟩
  rw [lst_sq3, lst_rep, lst_any]
  exact chk_snd wboth rfl rfl (by decide) (any_chk m 59 (by omega) false z) c2
theorem wl_either {c : PyData} (hb : b ∈ badL true) (hc : c ∈ badL true) : (Wl.bad (sq true [.str "either", notD true b, c]) b).ok := by
  obtain ⟨p1, p2, p3, p4⟩ := bad_b hb
  have p3' := (bad_plain b hb).2.2
  obtain ⟨r1, r2, r3⟩ := rep_facts p1 p2 1
  obtain ⟨s1, s2, s3, s4⟩ := bad_b hc
  have s3' := (bad_plain c hc).2.2
  obtain ⟨q1, q2, q3⟩ := three_facts (x := "either") (m := 4) (by decide +kernel) ⟨r1, r2, by omega⟩ ⟨s1, s2, by omega⟩
  refine ⟨⟨q1, q2, Nat.le_trans q3 (by decide)⟩, ⟨p1, p2, p3, p4⟩, fun z h2 h4 => ?_⟩
  obtain ⟨c1, c2⟩ := bad_chk hb 57 z h2 h4
  refine ⟨chk_two weither rfl rfl (by decide) (chk_not c1), ?_⟩
  rw [lst_sq3, show lstd (notD true b) = notD false (lstd b) from lst_rep 1 b]
  exact chk_two weither rfl rfl (by decide) (chk_not c2)
def cutD (t : Bool) (b : PyData) : PyData := sq t [.str "cut", .int 0, .int 4, b]
theorem cut_form (z : Str) (t : Bool) (b : PyData) : formB z (cutD t b) = false := by
  show formB z (sq t [.str "cut", .int 0, .int 4, b]) = false
  rw [form_w wcut]
  rfl
theorem lst_cut (b : PyData) : lstd (cutD true b) = cutD false (lstd b) := by
  show lstd (sq true [.str "cut", .int 0, .int 4, b]) = sq false [.str "cut", .int 0, .int 4, lstd b]
  rw [lst_sq]
  simp [lstd]
theorem wl_cut (hb : b ∈ badL true) : (Wl.bad (cutD true b) (cutD true b)).ok := by
  obtain ⟨p1, p2, p3, p4⟩ := bad_b hb
  have p3' := (bad_plain b hb).2.2
  have h : ∀ y ∈ [PyData.str "cut", .int 0, .int 4, b], okd y = true ∧ nol y = true ∧ y.depth ≤ 3 ∧ y.canLay0 = true := fun y hy => by
    simp only [List.mem_cons, List.not_mem_nil, or_false] at hy
    rcases hy with rfl | rfl | rfl | rfl
    · decide +kernel
    · decide +kernel
    · decide +kernel
    · exact ⟨p1, p2, p3', p4⟩
  have q1 : okd (cutD true b) = true := okd_sq (t := true) (by show 4 ≤ 1000; decide) fun x hx => (h x hx).1
  have q2 : nol (cutD true b) = true := sq_nol fun x hx => (h x hx).2.1
  have q3 : (cutD true b).depth ≤ 4 := depth_sq (t := true) (n := 3) fun x hx => (h x hx).2.2.1
  have q4 : (cutD true b).canLay0 = true := by
    show PyData.canLay0 (.tuple [PyData.str "cut", .int 0, .int 4, b]) = true
    rw [PyData.canLay0, PyData.canLayAll0, PyData.canLayAll0, PyData.canLayAll0, PyData.canLayAll0, PyData.canLayAll0, (h _ (List.mem_cons_self ..)).2.2.2, p4]
    simp [PyData.canLay0]
  refine ⟨⟨q1, q2, by omega⟩, ⟨q1, q2, by omega, q4⟩, fun z h2 h4 => ⟨chk_bad (cut_form z true b), ?_⟩⟩
  rw [lst_cut]
  exact chk_bad (cut_form z false (lstd b))
end
section
variable {P : Program} {w : World} {K : PySem.W.Frag} {mg : Str → Option Value} {base : Heap}
theorem ok_wrong {f : Addr} {fd : FuncData} (F : Fun K "_law_wrong_rule" "_law_wrong_rule" sLWrong f fd) (B : Bl mg) (Op : OPick P w K mg base) (Obd : OBadPart P w K mg base) (Odp : ODeep P w K mg base) : FnOk P w K mg base CX0 4 f fd ["_law_bag", "_law_good"] (spWrong K) := by
  refine F.ok scLWrong (fun vs H Q E h => ?_) (fun cdv A outer s H vs Q E hr h => ?_)
  · obtain ⟨b, n, v, rfl, _⟩ := h
    rfl
  · obtain ⟨b, n, v, rfl, hb, hn, hv, k⟩ := h
    refine ⟨_, (pss_cons (ps_set (i := 2) scLWrong.nd rfl (Or.inl rfl) (pe_own Op (hr.mono (by omega)) (pa_cons (pv 0) (pa_cons pe_int pa_nil)))) (pss_cons (ps_set (i := 3) scLWrong.nd rfl (Or.inl rfl) (pe_own Obd (hr.mono (by omega)) (pa_cons (pv 0) pa_nil))) (pss_cons (ps_set (i := 4) scLWrong.nd rfl (Or.inl rfl) (pe_own Obd (hr.mono (by omega)) (pa_cons (pv 0) pa_nil))) (pss_cons (ps_if (pt_cmpR op_eq (pv 2) pe_int (nomark _)) (pss_one (ps_ret (pe_lst (pa_cons (pe_own Odp (hr.mono (by omega)) (pa_cons pe_int (pa_cons (pe_tup (pa_cons pe_str pa_nil)) pa_nil))) (pa_cons pe_str (pa_cons pe_str pa_nil)))))) pss_nil) (pss_cons (ps_if (pt_cmpR op_eq (pv 2) pe_int (nomark _)) (pss_one (ps_ret (pe_lst (pa_cons (pe_own Odp (hr.mono (by omega)) (pa_cons (pe_own Op (hr.mono (by omega)) (pa_cons (pv 0) (pa_cons pe_int pa_nil))) (pa_cons (pv 3) pa_nil))) (pa_cons pe_str (pa_cons (pv 3) pa_nil)))))) pss_nil) (pss_cons (ps_if (pt_cmpR op_eq (pv 2) pe_int (nomark _)) (pss_one (ps_ret (pe_lst (pa_cons (pe_tup (pa_cons pe_str (pa_cons (pv 1) (pa_cons (pv 3) pa_nil)))) (pa_cons pe_str (pa_cons (pv 3) pa_nil)))))) pss_nil) (pss_cons (ps_if (pt_cmpR op_eq (pv 2) pe_int (nomark _)) (pss_one (ps_ret (pe_lst (pa_cons (pe_tup (pa_cons pe_str (pa_cons (pe_tup (pa_cons pe_str (pa_cons (pv 3) pa_nil))) (pa_cons (pv 4) pa_nil)))) (pa_cons pe_str (pa_cons (pv 3) pa_nil)))))) pss_nil) (pss_cons (ps_if (pt_cmpR op_eq (pv 2) pe_int (nomark _)) (pss_one (ps_ret (pe_lst (pa_cons (pe_tup (pa_cons pe_str (pa_cons (pe_own Odp (hr.mono (by omega)) (pa_cons pe_int (pa_cons (pe_tup (pa_cons pe_str pa_nil)) pa_nil))) (pa_cons (pv 3) pa_nil)))) (pa_cons pe_str (pa_cons (pv 3) pa_nil)))))) pss_nil) (pss_one (ps_ret (pe_lst (pa_cons (pe_tup (pa_cons pe_str (pa_cons pe_int (pa_cons pe_int (pa_cons (pv 3) pa_nil))))) (pa_cons pe_str (pa_cons (pe_tup (pa_cons pe_str (pa_cons pe_int (pa_cons pe_int (pa_cons (pv 3) pa_nil))))) pa_nil)))))))))))))), ?_⟩
    try dsimp only [cxOf, Cx.nox, Cx.wish]
    walk_at "go"
    refine ⟨b, 6, n, rfl, hb, by omega, by decide, fun way H1 hw0 hw1 hb1 of1 => ?_⟩
    have k1 : Kp b H H1 := of1.kp
    have hv1 := dp_nol (bag_kt hb k1) _ _ (by decide +kernel) hv
    walk_at "go"
    refine ⟨b, _, rfl, hb1, by omega, fun H2 bv bd hbd dB hb2 k2 => ?_⟩
    have hv2 := dp_nol (bag_kt hb1 k2) _ _ (by decide +kernel) hv1
    walk_at "go"
    refine ⟨b, _, rfl, hb2, by omega, fun H3 ov od hod dO hb3 k3 => ?_⟩
    have hv3 := dp_nol (bag_kt hb2 k3) _ _ (by decide +kernel) hv2
    have dB3 := dp_nol (bag_kt hb2 k3) _ _ (bad_nol bd hbd) dB
    have k13 := k1.trans (k2.trans k3)
    have fin : ∀ (H4 : Hp) (W : Addr) (rv bw : V) (l : Wl), IsBag H4 b (n + 10) → Kp b H H4 → H4 W = none → Dp K H4 rv (l.data true) → Dp K H4 bw (l.what true) → l.ok → [rv, V.str l.word, bw].length ≤ sizeLine ∧ Q (.ref W) (upd H4 W (.lst [rv, .str l.word, bw])) := by
      intro H4 W rv bw l hb4 k4 hW d1 d2 ho
      obtain ⟨_, _, _, e4, _⟩ := id hb4
      have sW := same_new (o := HO.lst [rv, .str l.word, bw]) hW
      exact ⟨(by show 3 ≤ sizeLine; decide), k _ W rv bw l (Kp.free k4 e4 hW) upd_same (dp_keep (Same.keeps sW) _ _ d1) (dp_keep (Same.keeps sW) _ _ d2) ho (hb4.same sW) (k4.trans (Same.kp sW))⟩
    walk_at "go"
    refine r_iteN' (fun h0 => ?_) (fun h0 => ?_)
    · walk_at "go"
      refine ⟨(by show 1 ≤ sizeLine; decide), fun T hT => ?_⟩
      have sT := same_new (o := HO.tup [V.str "any"]) hT
      walk_at "go"
      refine ⟨40, .ref T, anyD true, rfl, by decide, dp_tup hT (.cons (.str _) .nil), fun H4 v4 s4 d4 => ?_⟩
      walk_at "go"
      refine ⟨(by show 3 ≤ sizeLine; decide), fun W hW => ?_⟩
      exact (fin H4 W v4 (.str "rule") .many ((hb3.same (sT.trans s4)).mono (by omega)) (k13.trans (Same.kp (sT.trans s4))) hW (by rw [show Wl.many.data true = (nestR 40).data true from rfl, nest_data]; exact d4) (.str _) trivial).2
    walk_at "go"
    refine r_iteN' (fun h1 => ?_) (fun h1 => ?_)
    · walk_at "go"
      refine ⟨b, 3, _, rfl, hb3, by omega, by decide, fun m H4 m0 m1 hb4 of4 => ?_⟩
      obtain ⟨m, rfl⟩ : ∃ d : Nat, m = (d : Int) := ⟨m.toNat, by omega⟩
      have dB4 := dp_nol (bag_kt hb3 of4.kp) _ _ (bad_nol bd hbd) dB3
      walk_at "go"
      refine ⟨m, bv, bd, rfl, by omega, dB4, fun H5 v5 s5 d5 => ?_⟩
      walk_at "go"
      refine ⟨(by show 3 ≤ sizeLine; decide), fun W hW => ?_⟩
      exact (fin H5 W v5 bv (.bad (Nat.repeat (notD true) m bd) bd) ((hb4.same s5).mono (by omega)) ((k13.trans of4.kp).trans (Same.kp s5)) hW d5 (dp_keep (Same.keeps s5) _ _ dB4) (wl_rep hbd m (by omega))).2
    walk_at "go"
    refine r_iteN' (fun h2 => ?_) (fun h2 => ?_)
    · walk_at "go"
      refine ⟨(by show 3 ≤ sizeLine; decide), fun T hT => ?_⟩
      have sT := same_new (o := HO.tup [V.str "both", v, bv]) hT
      walk_at "go"
      refine ⟨(by show 3 ≤ sizeLine; decide), fun W hW => ?_⟩
      exact (fin _ W (.ref T) bv (.bad (sq true [.str "both", Nat.repeat (notD true) 0 (anyD true), bd]) bd) ((hb3.same sT).mono (by omega)) (k13.trans (Same.kp sT)) hW (dp_tup hT (.cons (.str _) (.cons hv3 (.cons dB3 .nil)))) (dp_keep (Same.keeps sT) _ _ dB3) (wl_both hbd 0 (by decide))).2
    walk_at "go"
    refine r_iteN' (fun h3 => ?_) (fun h3 => ?_)
    · walk_at "go"
      refine ⟨(by show 2 ≤ sizeLine; decide), fun T hT => ?_⟩
      have sT := same_new (o := HO.tup [V.str "not", bv]) hT
      have dT : Dp K (upd H3 T (.tup [V.str "not", bv])) (.ref T) (notD true bd) := dp_tup hT (.cons (.str _) (.cons dB3 .nil))
      revert sT dT
      generalize upd H3 T (.tup [V.str "not", bv]) = H4
      intro sT dT
      walk_at "go"
      refine ⟨(by show 3 ≤ sizeLine; decide), fun T2 hT2 => ?_⟩
      have sT2 := same_new (o := HO.tup [V.str "either", V.ref T, ov]) hT2
      walk_at "go"
      refine ⟨(by show 3 ≤ sizeLine; decide), fun W hW => ?_⟩
      exact (fin _ W (.ref T2) bv (.bad (sq true [.str "either", notD true bd, od]) bd) ((hb3.same (sT.trans sT2)).mono (by omega)) (k13.trans (Same.kp (sT.trans sT2))) hW (dp_tup hT2 (.cons (.str _) (.cons dT (.cons (dp_keep (Same.keeps sT) _ _ dO) .nil)))) (dp_keep (Same.keeps (sT.trans sT2)) _ _ dB3) (wl_either hbd hod)).2
    walk_at "go"
    refine r_iteN' (fun h4 => ?_) (fun h4 => ?_)
    · walk_at "go"
      refine ⟨(by show 1 ≤ sizeLine; decide), fun T hT => ?_⟩
      have sT := same_new (o := HO.tup [V.str "any"]) hT
      walk_at "go"
      refine ⟨45, .ref T, anyD true, rfl, by decide, dp_tup hT (.cons (.str _) .nil), fun H4 v4 s4 d4 => ?_⟩
      have s34 := sT.trans s4
      walk_at "go"
      refine ⟨(by show 3 ≤ sizeLine; decide), fun T2 hT2 => ?_⟩
      have sT2 := same_new (o := HO.tup [V.str "both", v4, bv]) hT2
      walk_at "go"
      refine ⟨(by show 3 ≤ sizeLine; decide), fun W hW => ?_⟩
      exact (fin _ W (.ref T2) bv (.bad (sq true [.str "both", Nat.repeat (notD true) 45 (anyD true), bd]) bd) ((hb3.same (s34.trans sT2)).mono (by omega)) (k13.trans (Same.kp (s34.trans sT2))) hW (dp_tup hT2 (.cons (.str _) (.cons d4 (.cons (dp_keep (Same.keeps s34) _ _ dB3) .nil)))) (dp_keep (Same.keeps (s34.trans sT2)) _ _ dB3) (wl_both hbd 45 (by decide))).2
    · walk_at "go"
      refine ⟨(by show 4 ≤ sizeLine; decide), fun T hT => ?_⟩
      have sT := same_new (o := HO.tup [V.str "cut", V.int 0, V.int 4, bv]) hT
      have dT : Dp K (upd H3 T (.tup [V.str "cut", V.int 0, V.int 4, bv])) (.ref T) (cutD true bd) := dp_tup hT (.cons (.str _) (.cons (.int 0) (.cons (.int 4) (.cons dB3 .nil))))
      revert sT dT
      generalize upd H3 T (.tup [V.str "cut", V.int 0, V.int 4, bv]) = H4
      intro sT dT
      walk_at "go"
      refine ⟨(by show 4 ≤ sizeLine; decide), fun T2 hT2 => ?_⟩
      have sT2 := same_new (o := HO.tup [V.str "cut", V.int 0, V.int 4, bv]) hT2
      walk_at "go"
      refine ⟨(by show 3 ≤ sizeLine; decide), fun W hW => ?_⟩
      exact (fin _ W (.ref T) (.ref T2) (.bad (cutD true bd) (cutD true bd)) ((hb3.same (sT.trans sT2)).mono (by omega)) (k13.trans (Same.kp (sT.trans sT2))) hW (dp_keep (Same.keeps sT2) _ _ dT) (dp_tup hT2 (.cons (.str _) (.cons (.int 0) (.cons (.int 4) (.cons (dp_keep (Same.keeps sT) _ _ dB3) .nil))))) (wl_cut hbd)).2
abbrev OWrong (P : Program) (w : World) (K : PySem.W.Frag) (mg : Str → Option Value) (base : Heap) : Prop := Own P w K mg base "_law_wrong_rule" 4 ["_law_bag", "_law_good"] (spWrong K)
end
end K4

/-! T69 -/
/-! A try statement with several clauses (except X as n, the same n in each): the first one that matches takes what the body raises. -/
namespace K4
open PySem L2 PySem.Spec PyProof.Rows
abbrev Clause := Value × (Addr → Value → Option Addr → TS)
/-- what the clauses make of an error: the first one that matches -/
def wAll (K : PySem.W.Frag) (i : Nat) (Wo : WX) (D : Ends) : List Clause → WX
  | [] => Wo
  | k :: l => L2.wAs K k.1 i k.2 (wAll K i Wo D l) D
/-- the clauses, each one with its suite -/
inductive Clauses (X : Cx) (nm : Str) : List ExceptHandler → List Clause → Prop
  | none : Clauses X nm [] []
  | one {y : Str} {c : Value} {ts : Addr → Value → Option Addr → TS} {s₀ : Stmt} {st : List Stmt} {q1 q2 : Pos} {hs : List ExceptHandler} {l : List Clause} (cl : Names X y c)
      (sui : ∀ (e : Addr) (o : Obj) (cls : Value) (d : Option Addr) (pn : List (Addr × Obj)), L2N.Zn cls d o → (∃ vs, o.data = .fields vs) → PSs (X.suite e ((e, o) :: pn)) (s₀ :: st) (ts e cls d)) (more : Clauses X nm hs l) :
      Clauses X nm (.ExceptHandler (some (.Name y q1)) (some nm) (s₀ :: st) q2 :: hs) ((c, ts) :: l)
theorem ps_tryAll {X : Cx} {nm : Str} {i : Nat} {bd : List Stmt} {h₀ : ExceptHandler} {hs : List ExceptHandler} {l : List Clause} {q3 : Pos} {tb : WX → TS} {Wo : WX}
    (stk : X.stack = X.env :: X.outer) (frm : X.env.frame = some X.env.locals) (ndp : X.N.Nodup) (slot : X.N[i]? = some nm) (lcl : X.env.kindOf nm = some .local) (tk : L2N.Takes X Wo)
    (bdy : ∀ (W : WX) (pn : List (Addr × Obj)) (xe : Value → Shared → Prop), L2N.Takes (X.tr pn xe) W → PassesOwn (model X.prog X.w) X.A X.env xe → PSs (X.tr pn xe) bd (tb W))
    (cls : Clauses X nm (h₀ :: hs) l) : PS X (.Try bd (h₀ :: hs) [] [] q3) (fun D t G => tb (wAll X.K i Wo D l) D t G) := by
  refine ⟨fun P0 s t G D I0 h => ?_⟩
  have xk := I0.ok
  have fr0 : X.A.frames = some (X.env :: X.outer) := by rw [xk.frames, stk]
  refine wpAny_Try_except ?_
  have run := (bdy (wAll X.K i Wo D l) (X.pn ++ P0) (fun v z => wpAny (model X.prog X.w) X.A (noteFrame v X.env) (fun _ z1 => wpAny (model X.prog X.w) X.A (setFlight v none)
    (fun _ z2 => wpAny (model X.prog X.w) X.A (handleBy v X.env (h₀ :: hs)) (L2.SP X P0 D) X.xe z2) X.xe z1) X.xe z) ?hc PassesOwn.looking).run [] s t G D (I0.toTry _) h
  case hc =>
    rintro u z ⟨e, gr, z0, P1, t1, G1, ec, d, rfl, J0, keepB, upS, sk, noE, eqO, bareG, w0⟩
    have J1 : L2.Inv X P0 t1 G1 z0 := J0.ofTry xk
    rw [show (X.tr (X.pn ++ P0) _).stack = X.env :: X.outer from stk] at sk
    show wpAny (model X.prog X.w) X.A (noteFrame (.ref e) X.env) _ _ _
    refine L2N.Sky.land L2N.Zn.steady fr0 frm sk fun g3 air up3 => ?_
    have J2 : L2.Inv X P0 t1 G1 { z with heap := g3 } := J1.landed keepB air.1 (upS.trans up3) eqO bareG
    obtain ⟨o3, fs3, at3, z3, dat3⟩ := air.there
    have offF : e ∉ frs (X.env :: X.outer) := fun hm => by
      obtain ⟨_, o', e', nf⟩ := air.2.2.1.mem hm
      rw [at3] at e'; cases e'
      exact nf _ dat3
    have offL : e ≠ X.env.locals := fun w => offF (List.mem_filterMap.mpr ⟨X.env, List.mem_cons_self, by rw [frm, w]⟩)
    have offS : e ∉ X.fs := fun hm => by
      obtain ⟨v, hv, qv⟩ := List.mem_filterMap.mp hm
      exact offF (List.mem_filterMap.mpr ⟨v, List.mem_cons_of_mem _ hv, qv⟩)
    have S2 := J2.suite at3 dat3 noE offL offS
    have walk : ∀ {hs' : List ExceptHandler} {l' : List Clause}, Clauses X nm hs' l' → wAll X.K i Wo D l' ec d t1 G1 →
        wpAny (model X.prog X.w) X.A (handleBy (.ref e) X.env hs') (L2.SP X P0 D) X.xe { z with heap := g3 } := by
      intro hs' l' hk
      induction hk with
      | none =>
        intro w
        refine wpAny_handleBy_nil ?_
        obtain ⟨k1, k2, k3, oe, vs, T, oT, ts', he, hz, hd, h1, hr⟩ := id air
        unfold PySem.passOn
        refine wpAny_bind (wpAny_field he hd h1 ?_)
        rw [if_neg (show ¬ ((Value.ref T == Value.none) = true) from by simp)]
        have fin : wpAny (model X.prog X.w) X.A (setFlight (.ref e) X.env.frame) (fun _ s4 => wpAny (model X.prog X.w) X.A (throw (.ref e) : Sem Flow) (L2.SP X P0 D) X.xe s4) X.xe { z with heap := g3 } := by
          rw [frm]
          refine HandSPX.setFlight_upZ air fun h4 hh4 up4 => wpAny_throw (tk _ _ ?_)
          exact ⟨e, gr, z0, P0, t1, G1, ec, d, rfl, J1, keepB, (upS.trans up3).trans up4, .inr (.inr (by rw [stk]; exact hh4)), noE, eqO, bareG, w⟩
        first
          | exact wpAny_bind (wpAny_pure (wpAny_bind fin))
          | exact wpAny_bind fin
      | @one y c ts s₀ st q1 q2 hs2 l2 cl sui more ih =>
        intro w
        obtain ⟨b, hit, yes, no⟩ := w
        refine wpAny_handleBy_cons (codeAny_handlers_test ?_) (by intro w; cases w)
        have lookT : PySem.W.Looks (model X.prog X.w) g3 (typeOf (.ref e)) ec := fun A Q E r k w => wpAny_typeOf_ref (k _ _ at3) (by rw [z3.1]; exact w)
        have lookM := PySem.W.exm_one (M := model X.prog X.w) J2.kIn lookT hit
        have nameC : ∀ {Q E : Value → Shared → Prop}, Q c { z with heap := g3 } → wpAny (model X.prog X.w) (X.A.mark (some (.ref e))) (eval (.Name y q1) X.env) Q E { z with heap := g3 } := by
          intro Q E w
          obtain ⟨gl, db, m | ⟨m, v, ne⟩⟩ := cl
          · exact ld_glob (X := X.suite e ((e, o3) :: (X.pn ++ P0))) S2 gl m w db
          · exact ld_blt (X := X.suite e ((e, o3) :: (X.pn ++ P0))) S2 gl m v w ne db
        refine nameC (lookM.here ?_)
        cases b with
        | false => exact ih (no rfl)
        | true =>
          refine codeAny_handlers_suite_as (HandSPX.lands_againZ air fun g4 air4 up4 => ?_)
          have J4 : L2.Inv X P0 t1 G1 { z with heap := g4 } := J1.landed keepB air4.1 ((upS.trans up3).trans up4) eqO bareG
          obtain ⟨o4, fs4, at4, z4, dat4⟩ := air4.there
          refine store_ok (X := X.suite e ((e, o4) :: (X.pn ++ P0))) (v := .ref e) (J4.suite at4 dat4 noE offL offS) ndp slot (.inl lcl) rfl (fun r5 S5 => ?_) (.inr lcl)
          refine wpAny_mono ((sui e o4 ec d (X.pn ++ P0) z4 ⟨_, dat4⟩).run [] r5 _ G1 _ S5 (yes rfl e noE)) (fun f r6 w6 => ?_) fun _ _ w => w.elim
          cases f with
          | ret u =>
            obtain ⟨v6, t6, G6, S6, rel, w⟩ := w6
            exact gone_ok (S6.unsuite xk) ndp slot lcl fun r7 J7 => ⟨_, _, _, J7, rel, w⟩
          | next =>
            obtain ⟨t6, G6, S6, w⟩ := w6
            exact gone_ok (S6.unsuite xk) ndp slot lcl fun r7 J7 => ⟨_, _, J7, w⟩
          | brk =>
            obtain ⟨t6, G6, S6, w⟩ := w6
            exact gone_ok (S6.unsuite xk) ndp slot lcl fun r7 J7 => ⟨_, _, J7, w⟩
          | cont =>
            obtain ⟨t6, G6, S6, w⟩ := w6
            exact gone_ok (S6.unsuite xk) ndp slot lcl fun r7 J7 => ⟨_, _, J7, w⟩
    exact walk cls w0
  refine wpAny_mono run (fun f r1 w1 => ?_) fun _ _ w => w
  cases f with
  | ret u =>
    obtain ⟨v, t1, G1, J, rel, w⟩ := w1
    exact ⟨v, t1, G1, J.ofTry xk, rel, w⟩
  | next =>
    obtain ⟨t1, G1, J, w⟩ := w1
    exact wpAny_execs_nil ⟨t1, G1, J.ofTry xk, w⟩
  | brk =>
    obtain ⟨t1, G1, J, w⟩ := w1
    exact ⟨t1, G1, J.ofTry xk, w⟩
  | cont =>
    obtain ⟨t1, G1, J, w⟩ := w1
    exact ⟨t1, G1, J.ofTry xk, w⟩
end K4

/-! X3 -/
/-! A comprehension over a list where an exception is being handled. -/
namespace K1
open PySem L2 L2H PyProof.Rows PySem.W PySem.Calls
theorem list_end_hot {P : Program} {w : World} {A : Around} {E : Value → Shared → Prop} {s : Shared} {it l x1 : Addr} {i : Nat} {items : Array Value} {Q : Option Value → Shared → Prop}
    (hot : HotX.HotAt A x1 s.heap) (hit : s.heap.IsListIter it l i) (hl : s.heap.IsList l items) (hx : items[i]? = none)
    (hQ : ∀ h', Heap.ExtBut it s.heap h' → Q none ⟨h', s.gens, s.drawn, s.toks, s.os⟩) : wpAny (model P w) A (pyNext (.ref it)) Q E s := by
  obtain ⟨o, ho, hc, hd⟩ := id hit
  obtain ⟨ol, hol, _, nl, hdl⟩ := hl
  obtain ⟨hh, o1, vs1, h1, d1, c1⟩ := hot
  have ne : x1 ≠ it := by
    intro z
    rw [z, ho] at h1
    obtain rfl := Option.some.inj h1
    rw [hd] at d1
    obtain rfl := Data.fields.inj d1
    cases c1
  unfold pyNext
  refine wpAny_bind (wpAny_attempt (wpAny_callSpecial?_slot (Heap.IsListIter.typeIs hit) slot_listiter_next (wpAny_call_entry slot_listiter_next (Heap.IsListIter.typeIs hit) entry_listiter_next ?_ (args_listiter_next (.ref it)))))
  unfold Builtin.«list_iterator.__next__»
  dsimp only
  refine wpAny_bind ?_
  show wpAny _ _ (pure (Value.ref it, ([] : List Value))) _ _ _
  refine wpAny_pure ?_
  refine wpAny_bind (wpAny_field ho hd rfl ?_)
  refine wpAny_ite_false (by rfl) ?_
  refine wpAny_bind (wpAny_field ho hd rfl ?_)
  refine wpAny_bind (wpAny_seqItems hol hdl ?_)
  dsimp only
  rw [show (Int.toNat (i : Int)) = i from rfl, hx]
  dsimp only
  refine wpAny_bind (wpAny_rule ?_)
  refine wpAny_bind (wpAny_setField ho hd (by show 0 < 2; decide) ?_)
  unfold Builtin.SmallTypes.stopIteration
  have h1u : (s.heap.update it (Obj.mapFields fun x => x.setIfInBounds 0 Value.none)).get? x1 = some o1 := by
    rw [Heap.get?_update_ne _ _ _ _ ne]; exact h1
  have sbu := Heap.SameBut.extBut (Heap.SameBut.update s.heap it (Obj.mapFields fun x => x.setIfInBounds 0 Value.none))
  revert h1u sbu
  generalize s.heap.update it (Obj.mapFields fun x => x.setIfInBounds 0 Value.none) = hu
  intro h1u sbu
  refine wpAny_bind ?_
  unfold newExc
  refine wpAny_bind (wpAny_newTuple ?_ (Nat.zero_le _))
  refine wpAny_bind (wpAny_of_eq (by rfl) ?_)
  have h2 := Heap.get?_push_of_some ⟨.type "tuple", none, .seq #[] 0, #[]⟩ h1u
  have sb2 := Heap.ExtBut.push sbu ⟨.type "tuple", none, .seq #[] 0, #[]⟩
  show wpAny _ _ _ _ _ ⟨hu.push ⟨.type "tuple", none, .seq #[] 0, #[]⟩, s.gens, s.drawn, s.toks, s.os⟩
  generalize (Value.ref { heap := hu, gens := s.gens, drawn := s.drawn, toks := s.toks, os := s.os : Shared}.heap.objs.size) = tv
  revert h2 sb2
  generalize hu.push ⟨.type "tuple", none, .seq #[] 0, #[]⟩ = hv
  intro h2 sb2
  generalize (if ((Manifest.find? "StopIteration").elim false fun t => t.mro.contains "StopIteration" || t.mro.contains "SystemExit") = true then ([] : List Value).headD Value.none else Value.none) = sv
  refine wpAny_newObj_type ?_ ?_
  · have hx1 : x1 ≠ hv.objs.size := Nat.ne_of_lt (Heap.lt_size h2)
    refine HotX.raiseNew_hot ⟨hh, o1, vs1, Heap.get?_push_of_some _ h2, d1, c1⟩ hx1 (Heap.get?_push_size _ rfl) rfl (by simp [Array.size_append]; omega) ?_
    refine wpAny_bind (wpAny_isInstance ⟨_, Heap.get?_update_self _ (Heap.get?_push_size hv rfl) rfl, rfl⟩ isSubtype_stop (wpAny_pure (hQ _ ?_)))
    intro b o' nb e
    have e2 := sb2 b o' nb e
    rw [Heap.get?_update_ne _ _ _ _ (Nat.ne_of_lt (Heap.lt_size e2))]
    exact Heap.get?_push_of_some _ e2
  · exact sizeOk_excFields tv Value.none Value.none Value.none (Value.bool false) sv (Value.type "StopIteration") []
end K1

/-! X4 -/
namespace K1
open PySem L2 L2H PyProof.Rows PySem.W PySem.Calls
theorem item_list {X : Cx} {a it : Addr} {tg : Expr} {i : Nat} {pins : List (Addr × Obj)} {s : Shared} {σ : L2.St} {H : Hp} {E : Value → Shared → Prop} (I : L2.Inv X pins σ H s) (hf : FpOk X pins H it) (st : s.heap.IsListIter it a i) {xs : List V} {x : V} (hq : SqL X.K H a xs) (hx : xs[i]? = some x) :
    wpAny (model X.prog X.w) X.A (pyNext (.ref it)) (fun r s1 => ∃ u, r = some u ∧ wpAny (model X.prog X.w) X.A (letOwnedTupleGo tg (.ref it) u) (fun _ s2 => L2.Inv X pins σ H s2 ∧ L2.RelV x u ∧ s2.heap.IsListIter it a (i + 1)) E s1) E s := by
  obtain ⟨its, rv, p, hz⟩ := I.list hq
  obtain ⟨u, hu, ru⟩ := Vals.get rv hx
  obtain ⟨f0, f1, f2, f3, f4, f5⟩ := hf
  refine wpAny_pyNext_list_item st p.isList (by rw [List.getElem?_toArray]; exact hu) fun h' st' sb => ?_
  have I1 := Inv.turned (t' := s.toks) I (fun b o hb e => (sb.right b hb).trans e) f0 f1 f3 f4 f5
  obtain ⟨o, e, c, d⟩ := id st'
  exact ⟨u, rfl, go_of e c d (by decide) ⟨I1, ru, st'⟩⟩
theorem done_list {X : Cx} {a it x1 : Addr} {i : Nat} {pins : List (Addr × Obj)} {s : Shared} {σ : L2.St} {H : Hp} {E : Value → Shared → Prop} (hot : HotX.HotAt X.A x1 s.heap) (I : L2.Inv X pins σ H s) (hf : FpOk X pins H it) (st : s.heap.IsListIter it a i) {xs : List V} (hq : SqL X.K H a xs) (hx : xs.length ≤ i) :
    wpAny (model X.prog X.w) X.A (pyNext (.ref it)) (fun r s1 => r = none ∧ L2.Inv X pins σ H s1) E s := by
  obtain ⟨its, rv, p, hz⟩ := I.list hq
  obtain ⟨f0, f1, f2, f3, f4, f5⟩ := hf
  have hl := Vals.length rv
  refine list_end_hot hot st p.isList (by rw [List.getElem?_toArray]; exact List.getElem?_eq_none (by omega)) fun h' eb => ?_
  exact ⟨rfl, Inv.turned I (fun b o hb e => eb b o hb e) f0 f1 f3 f4 f5⟩
/-- the block of a comprehension, the pins kept -/
abbrev bk (X : Cx) (s : Shared) (H : Hp) (scope : Scope) (env : Env) (fp : List Addr) : Cx := { X.blk s H scope env fp with pn := X.pn }
theorem inv_bk {X : Cx} {s3 s : Shared} {H3 H : Hp} {scope : Scope} {ce : Env} {fp : List Addr} {σ : L2.St} (I : L2.Inv (X.blk s3 H3 scope ce fp) [] σ H s)
    (hp : ∀ p ∈ X.pn, s.heap.get? p.1 = some p.2 ∧ H p.1 = none ∧ p.1 ≠ ce.locals ∧ p.1 ∉ frs X.stack ∧ ∀ v : Option Value, p.2.data ≠ .cell v) : L2.Inv (bk X s3 H3 scope ce fp) [] σ H s := by
  have o := I.ok
  exact ⟨⟨o.mod, o.kind, o.glob, o.blt, o.above, o.inj, o.has, o.cab, o.hd, o.frames, o.stk, o.exf, o.bs, o.bsz, o.noex, o.exfs, o.funs, o.frf⟩, I.os, I.bare, I.base, I.loc, I.cell, I.free, I.freeC, fun p h => hp p (by simpa using h), I.hok, I.len⟩
theorem frs_mem {X : Cx} (o : X.Ok) {b : Addr} (h1 : b ∉ X.fs) (h2 : b ≠ X.env.locals) : b ∉ frs X.stack := by
  rcases o.stk with e | ⟨e, ef⟩
  · rw [e]; exact h1
  · rw [e]
    intro h
    unfold frs at h
    rw [List.filterMap_cons, ef] at h
    rcases List.mem_cons.mp h with h | h
    · exact h2 h
    · exact h1 h
theorem pe_lcH {X : Cx} {elt tg iter : Expr} {ifs : List Expr} {scope : Scope} {own : List (Str × Nat)} {pos : Pos} {tl : TE} {g : TG} {tt : TT} {te : TE} (hc : HotC X) (hN : X.N.Nodup) (hl : PE X iter tl) (ok : BlkOk X.N X.env.scope scope own)
    (hg : ∀ (s : Shared) (H : Hp) (C : Addr) (cl : List (Str × Addr)) (fp : List Addr), PG (bk X s H scope (compEnvC scope cl C X.env) fp) tg g)
    (ht : ∀ (s : Shared) (H : Hp) (C : Addr) (cl : List (Str × Addr)) (fp : List Addr), PTs (bk X s H scope (compEnvC scope cl C X.env) fp) ifs tt)
    (he : ∀ (s : Shared) (H : Hp) (C : Addr) (cl : List (Str × Addr)) (fp : List Addr), PE (bk X s H scope (compEnvC scope cl C X.env) fp) elt te)
    (hs : ∀ x, foldedSetIterable iter X.env x = pure x := by intro _; rfl) :
    PE X (.ListComp elt [⟨tg, iter, ifs, 0⟩] scope pos) (tLc (iList X.K tl) g tt te (own.map (·.2))) := by
  refine ⟨fun pins s σ H Q I h => ?_⟩
  rw [eval_ListComp]
  have hfree : ∀ y : Str × NameKind, y ∈ scope.names → y.2 = .free → ∃ c, List.lookup y.1 X.env.cells = some c := fun y hy e => (ok.free y hy e).elim (fun k => I.ok.has y.1 (.inl k)) fun k => I.ok.has y.1 (.inr k)
  refine wpAny_comprehension_free rfl hs (closure_ok hfree) ok.kind (fun y hy e => by rw [ok.uniq y hy, e]) ?_
  refine thn (hl.run pins s σ H _ I h) ?_
  rintro xv s1 ⟨x, H1, I1, r1, a, rfl, ⟨xs, hq⟩, q1⟩
  have e1 : xv = .ref a := r1
  subst e1
  obtain ⟨its, rv, p, hz⟩ := I1.list hq
  refine wpAny_pyIter_list p.isList ?_
  have k2 : ∀ b o, s1.heap.get? b = some o → (s1.heap.push ⟨.type "list_iterator", none, .fields #[.ref a, .int 0 0], #[]⟩).get? b = some o := fun b o e => Heap.get?_push_of_some _ e
  have st2 : (s1.heap.push ⟨.type "list_iterator", none, .fields #[.ref a, .int 0 0], #[]⟩).IsListIter s1.heap.objs.size a 0 := ⟨_, Heap.get?_push_size _ rfl, rfl, rfl⟩
  have I2 := Inv.kept (t' := s1.toks) I1 k2
  have fI : FpOk X pins H1 s1.heap.objs.size := Inv.fpOk I1 (Nat.le_refl _) (HOk.fresh I1.hok (Nat.le_refl _))
  have ltI : s1.heap.objs.size < (s1.heap.push ⟨.type "list_iterator", none, .fields #[.ref a, .int 0 0], #[]⟩).objs.size := Heap.lt_size (Heap.get?_push_size _ rfl)
  revert k2 st2 I2 fI ltI
  generalize s1.heap.push ⟨.type "list_iterator", none, .fields #[.ref a, .int 0 0], #[]⟩ = h2
  generalize s1.heap.objs.size = it
  intro k2 st2 I2 fI ltI
  refine wpAny_newObj_type (newEnv_comp ?_)
  have hDn : H1 h2.objs.size = none := HOk.fresh I2.hok (Nat.le_refl _)
  obtain ⟨W, ⟨m0, w0⟩, turn⟩ := q1 h2.objs.size hDn
  have kp3 : ∀ b o, h2.get? b = some o → (h2.push ⟨.type "list", none, .seq #[] 0, #[]⟩).get? b = some o := fun b o e => Heap.get?_push_of_some _ e
  have I3 := Inv.laid (t' := s1.toks) (o := .lst []) I2 kp3 (Nat.le_refl _) ⟨Nat.zero_le _, [], 0, .nil, Heap.get?_push_size _ rfl⟩
  have st3 : (h2.push ⟨.type "list", none, .seq #[] 0, #[]⟩).IsListIter it a 0 := st2.at fun o e => kp3 it o e
  have ltI3 : it < (h2.push ⟨.type "list", none, .seq #[] 0, #[]⟩).objs.size := by
    obtain ⟨o, e, _⟩ := st3
    exact Heap.lt_size e
  have fI3 : FpOk X pins (upd H1 h2.objs.size (.lst [])) it := ⟨by rw [upd_ne (Nat.ne_of_lt ltI)]; exact fI.1, fI.2⟩
  have ltD : h2.objs.size < (h2.push ⟨.type "list", none, .seq #[] 0, #[]⟩).objs.size := Heap.lt_size (Heap.get?_push_size _ rfl)
  clear kp3 st2
  revert I3 st3 ltI3 fI3 ltD w0
  generalize upd H1 h2.objs.size (.lst []) = H3
  generalize h2.push ⟨.type "list", none, .seq #[] 0, #[]⟩ = h3
  generalize h2.objs.size = D at *
  intro w0 I3' st3 ltI3 fI3 ltD
  have I3 : L2.Inv X pins σ H3 ⟨h3, s1.gens, s1.drawn, s1.toks, s1.os⟩ := I3'
  clear I3'
  obtain ⟨p0, hot, hp0⟩ := hc
  obtain ⟨pg0, ph0, pl0, pf0, pc0⟩ := I3.pin p0 (List.mem_append_left _ hp0)
  have pit : p0.1 ≠ it := fI3.2.2.2.2.2 p0 (List.mem_append_left _ hp0)
  have f3 : ∀ b ∈ [it], FpOk X pins H3 b ∧ b < h3.objs.size := fun b hb => by
    obtain rfl := List.mem_singleton.mp hb
    exact ⟨fI3, ltI3⟩
  have I4 := inv_bk (block_start I3 ok hN f3) (fun p hp => by
    obtain ⟨a1, a2, a3, a4, a5⟩ := I3.pin p (List.mem_append_left _ hp)
    exact ⟨pushCells_keeps _ _ _ _ (Heap.get?_push_of_some _ a1), a2, Nat.ne_of_lt (Heap.lt_size a1), frs_mem I3.ok a4 a3, a5⟩)
  have pg := hg ⟨h3, s1.gens, s1.drawn, s1.toks, s1.os⟩ H3 h3.objs.size (cellsFrom (h3.objs.size + 1) scope.names (cloFrom X.env.cells scope.names [])) [it]
  have pt := ht ⟨h3, s1.gens, s1.drawn, s1.toks, s1.os⟩ H3 h3.objs.size (cellsFrom (h3.objs.size + 1) scope.names (cloFrom X.env.cells scope.names [])) [it]
  have pe := he ⟨h3, s1.gens, s1.drawn, s1.toks, s1.os⟩ H3 h3.objs.size (cellsFrom (h3.objs.size + 1) scope.names (cloFrom X.env.cells scope.names [])) [it]
  have cL : (compEnvC scope (cellsFrom (h3.objs.size + 1) scope.names (cloFrom X.env.cells scope.names [])) h3.objs.size X.env).locals = h3.objs.size := rfl
  have st4 : (pushCells (h3.push ⟨.type "dict", none, .dict #[] 0, #[]⟩) scope.names).IsListIter it a 0 := st3.at fun o e => pushCells_keeps _ _ _ _ (Heap.get?_push_of_some _ e)
  show codeAny _ _ (Code.compStart _ 0 (.ref it) (.ref D) (compEnvC scope (cellsFrom (h3.objs.size + 1) scope.names (cloFrom X.env.cells scope.names [])) h3.objs.size X.env)) _ ⟨pushCells (h3.push ⟨.type "dict", none, .dict #[] 0, #[]⟩) scope.names, s1.gens, s1.drawn, s1.toks, s1.os⟩
  revert I4 pg pt pe cL st4
  generalize pushCells (h3.push ⟨.type "dict", none, .dict #[] 0, #[]⟩) scope.names = h4
  generalize compEnvC scope (cellsFrom (h3.objs.size + 1) scope.names (cloFrom X.env.cells scope.names [])) h3.objs.size X.env = ce
  intro I4 pg pt pe cL st4
  have nfs : p0.1 ∉ frs X.stack := frs_mem I3.ok pf0 pl0
  have hotAt : ∀ {σ' H' s'}, L2.Inv (bk X ⟨h3, s1.gens, s1.drawn, s1.toks, s1.os⟩ H3 scope ce [it]) [] σ' H' s' → HotX.HotAt X.A p0.1 s'.heap := fun {σ' H' s'} I' => by
    obtain ⟨hh, vs, hd, hv⟩ := hot
    refine ⟨hh, p0.2, vs, I'.base.keep p0.1 p0.2 pg0 ph0 nfs ?_, hd, hv⟩
    intro z
    exact pit (List.mem_singleton.mp z)
  have stat : ∀ {σ' H' s'}, L2.Inv (bk X ⟨h3, s1.gens, s1.drawn, s1.toks, s1.os⟩ H3 scope ce [it]) [] σ' H' s' → H' it = none → FpOk (bk X ⟨h3, s1.gens, s1.drawn, s1.toks, s1.os⟩ H3 scope ce [it]) [] H' it := fun {σ' H' s'} I' hn => by
    have hb : it ∈ [it] := List.mem_singleton.mpr rfl
    refine ⟨hn, (I'.ok.exf it hb).1, I'.ok.exfs it hb, .inl hb, (I'.ok.exf it hb).2, fun p hp => ?_⟩
    exact fI3.2.2.2.2.2 p (List.mem_append_left _ (by simpa using hp))
  have loop := compLoop_any (prog := X.prog) (w := X.w) (A := X.A) (elt := elt) (target := tg) (iter := iter) (ifs := ifs) (scope := scope) (pos := pos) (it := .ref it) (acc := .ref D) (env := ce)
    (R := compPost (model X.prog X.w) X.A X.xe none (EP X pins σ Q) (.ref D) h3.objs.size)
    (fun n s' => ∃ i H', L2.Inv (bk X ⟨h3, s1.gens, s1.drawn, s1.toks, s1.os⟩ H3 scope ce [it]) [] (wipe σ (own.map (·.2))) H' s' ∧ s'.heap.IsListIter it a i ∧ H' it = none ∧ W i n H') ?step m0
    (s := ⟨h4, s1.gens, s1.drawn, s1.toks, s1.os⟩) ⟨0, H3, I4, st4, fI3.1, w0⟩
  case step =>
    rintro n s5 ⟨i, H5, I5, st5, n5, w5⟩
    rcases turn i n H5 w5 with ⟨⟨ys, hy, hlen⟩, qq⟩ | ⟨⟨ys, x, hy, hx⟩, Nx, hNx, step⟩
    · refine thnF (done_list (X := bk X ⟨h3, s1.gens, s1.drawn, s1.toks, s1.os⟩ H3 scope ce [it]) (hotAt I5) I5 (stat I5 n5) st5 hy hlen) ?_
      rintro r s6 ⟨rfl, I6⟩
      have I7 : L2.Inv X pins σ H5 s6 := by
        refine Inv.call' I3 I6.os I6.base I6.hok I6.bare fun b hb => ?_
        obtain rfl := List.mem_singleton.mp hb
        exact ⟨fI3.2.2.2.1, fI3.2.1, fI3.2.2.2.2.1, fI3.2.2.2.2.2⟩
      have nC : H5 h3.objs.size = none := by
        have z := I6.free
        rw [show (bk X ⟨h3, s1.gens, s1.drawn, s1.toks, s1.os⟩ H3 scope ce [it]).env.locals = h3.objs.size from cL] at z
        exact z
      obtain ⟨m, hn, _⟩ := I6.loc
      rw [show (bk X ⟨h3, s1.gens, s1.drawn, s1.toks, s1.os⟩ H3 scope ce [it]).env.locals = h3.objs.size from cL] at hn
      obtain ⟨f0, f1, f2, f3', f4, f5⟩ := Inv.fpOk I3 (Nat.le_refl _) nC
      exact ⟨m, hn, fun h'' sb => ⟨.ref D, H5, Inv.turned I7 (fun b o hb e => (sb.right b hb).trans e) f0 f1 f3' f4 f5, rfl, qq⟩⟩
    · refine thnF (item_list (X := bk X ⟨h3, s1.gens, s1.drawn, s1.toks, s1.os⟩ H3 scope ce [it]) (tg := tg) I5 (stat I5 n5) st5 hy hx) ?_
      rintro r s6 ⟨u, rfl, h6⟩
      refine thnF h6 ?_
      rintro _ s7 ⟨I7, r7, st7⟩
      have ob7 : ∀ b ∈ [it], ∃ o, s7.heap.get? b = some o ∧ ∀ v : Option Value, o.data ≠ Data.cell v := fun b hb => by
        obtain rfl := List.mem_singleton.mp hb
        obtain ⟨o, e, _, d⟩ := st7
        exact ⟨o, e, fun v z => by rw [d] at z; cases z⟩
      have I7' := Inv.pinned (fp := [it]) I7 (fun b hb => by obtain rfl := List.mem_singleton.mp hb; exact stat I7 n5) ob7
      refine thnF (pg.run _ s7 _ H5 x u _ I7' r7 (step x H5 ⟨rfl, fun zs hz' => ?_⟩)) ?_
      · rw [I5.list_inj hz' hy]; exact hx
      rintro _ s8 ⟨σ8, H8, I8, hw8, q8⟩
      refine thnF (pt.run _ s8 σ8 H8 _ I8 q8) ?_
      rintro b s9 ⟨H9, I9, q9⟩
      have fin : ∀ {s' H'}, L2.Inv (bk X ⟨h3, s1.gens, s1.drawn, s1.toks, s1.os⟩ H3 scope ce [it]) ([] ++ pinsAt [it] s7.heap) σ8 H' s' → Nx H' → ∃ m, m < n ∧ ∃ i H', L2.Inv (bk X ⟨h3, s1.gens, s1.drawn, s1.toks, s1.os⟩ H3 scope ce [it]) [] (wipe σ (own.map (·.2))) H' s' ∧ s'.heap.IsListIter it a i ∧ H' it = none ∧ W i m H' := fun {s' H'} I' nx => by
        obtain ⟨m', hm, w'⟩ := hNx H' nx
        obtain ⟨o, e, c, d⟩ := id st7
        have z := I'.pin (it, o) (List.mem_append_right _ (List.mem_append_right [] (mem_pinsAt (List.mem_singleton.mpr rfl) e)))
        refine ⟨m', hm, i + 1, H', Inv.weak (Inv.unpinned I') ?_ ?_, ⟨o, z.1, c, d⟩, z.2.1, w'⟩
        · rw [← hw8, wipe_length]
        · intro j v e
          rw [← hw8] at e
          exact (wipe_some e).1
      cases b with
      | false => exact fin I9 q9
      | true =>
        refine thnF (pe.run _ s9 σ8 H9 _ I9 q9) ?_
        rintro z s10 ⟨yv, H10, I10, r10, acc, hD10, hz10, nx⟩
        exact app_ok (X := bk X ⟨h3, s1.gens, s1.drawn, s1.toks, s1.os⟩ H3 scope ce [it]) I10 hD10 hz10 r10 fun s11 I11 => fin I11 nx
  exact codeAny_compStart_list loop (wpAny_pyIter_listiter st4 loop)
end K1

/-! X5 -/
/-! a, b = a tuple, where an exception is being handled. -/
namespace K1
open PySem L2 L2H PyProof.Rows PySem.W PySem.Calls
theorem tuple_end_hot {P : Program} {w : World} {A : Around} {E : Value → Shared → Prop} {s : Shared} {it l x1 : Addr} {i : Nat} {items : Array Value} {Q : Option Value → Shared → Prop}
    (hot : HotX.HotAt A x1 s.heap) (hit : PyProof.Rows.IsTupIter s.heap it l i) (hl : PyProof.Rows.IsTup s.heap l items) (hx : items[i]? = none)
    (hQ : ∀ h', Heap.ExtBut it s.heap h' → Q none ⟨h', s.gens, s.drawn, s.toks, s.os⟩) : wpAny (model P w) A (pyNext (.ref it)) Q E s := by
  obtain ⟨o, ho, hc, hd⟩ := id hit
  obtain ⟨ol, hol, _, nl, hdl⟩ := hl
  obtain ⟨hh, o1, vs1, h1, d1, c1⟩ := hot
  have ne : x1 ≠ it := by
    intro z
    rw [z, ho] at h1
    obtain rfl := Option.some.inj h1
    rw [hd] at d1
    obtain rfl := Data.fields.inj d1
    cases c1
  unfold pyNext
  refine wpAny_bind (wpAny_attempt (wpAny_callSpecial?_slot (PyProof.Rows.IsTupIter.typeIs hit) PyProof.Rows.slot_tupleiter_next (wpAny_call_entry PyProof.Rows.slot_tupleiter_next (PyProof.Rows.IsTupIter.typeIs hit) PyProof.Rows.entry_tupleiter_next ?_ (PyProof.Rows.args_tupleiter_next (.ref it)))))
  unfold Builtin.«tuple_iterator.__next__»
  dsimp only
  refine wpAny_bind ?_
  show wpAny _ _ (pure (Value.ref it, ([] : List Value))) _ _ _
  refine wpAny_pure ?_
  refine wpAny_bind (wpAny_field ho hd rfl ?_)
  refine wpAny_ite_false (by rfl) ?_
  refine wpAny_bind (wpAny_field ho hd rfl ?_)
  refine wpAny_bind (wpAny_seqItems hol hdl ?_)
  dsimp only
  rw [show (Int.toNat (i : Int)) = i from rfl, hx]
  dsimp only
  refine wpAny_bind (wpAny_rule ?_)
  refine wpAny_bind (wpAny_setField ho hd (by show 0 < 2; decide) ?_)
  unfold Builtin.SmallTypes.stopIteration
  have h1u : (s.heap.update it (Obj.mapFields fun x => x.setIfInBounds 0 Value.none)).get? x1 = some o1 := by
    rw [Heap.get?_update_ne _ _ _ _ ne]; exact h1
  have sbu := Heap.SameBut.extBut (Heap.SameBut.update s.heap it (Obj.mapFields fun x => x.setIfInBounds 0 Value.none))
  revert h1u sbu
  generalize s.heap.update it (Obj.mapFields fun x => x.setIfInBounds 0 Value.none) = hu
  intro h1u sbu
  refine wpAny_bind ?_
  unfold newExc
  refine wpAny_bind (wpAny_newTuple ?_ (Nat.zero_le _))
  refine wpAny_bind (wpAny_of_eq (by rfl) ?_)
  have h2 := Heap.get?_push_of_some ⟨.type "tuple", none, .seq #[] 0, #[]⟩ h1u
  have sb2 := Heap.ExtBut.push sbu ⟨.type "tuple", none, .seq #[] 0, #[]⟩
  show wpAny _ _ _ _ _ ⟨hu.push ⟨.type "tuple", none, .seq #[] 0, #[]⟩, s.gens, s.drawn, s.toks, s.os⟩
  generalize (Value.ref { heap := hu, gens := s.gens, drawn := s.drawn, toks := s.toks, os := s.os : Shared}.heap.objs.size) = tv
  revert h2 sb2
  generalize hu.push ⟨.type "tuple", none, .seq #[] 0, #[]⟩ = hv
  intro h2 sb2
  generalize (if ((Manifest.find? "StopIteration").elim false fun t => t.mro.contains "StopIteration" || t.mro.contains "SystemExit") = true then ([] : List Value).headD Value.none else Value.none) = sv
  refine wpAny_newObj_type ?_ ?_
  · have hx1 : x1 ≠ hv.objs.size := Nat.ne_of_lt (Heap.lt_size h2)
    refine HotX.raiseNew_hot ⟨hh, o1, vs1, Heap.get?_push_of_some _ h2, d1, c1⟩ hx1 (Heap.get?_push_size _ rfl) rfl (by simp [Array.size_append]; omega) ?_
    refine wpAny_bind (wpAny_isInstance ⟨_, Heap.get?_update_self _ (Heap.get?_push_size hv rfl) rfl, rfl⟩ isSubtype_stop (wpAny_pure (hQ _ ?_)))
    intro b o' nb e
    have e2 := sb2 b o' nb e
    rw [Heap.get?_update_ne _ _ _ _ (Nat.ne_of_lt (Heap.lt_size e2))]
    exact Heap.get?_push_of_some _ e2
  · exact sizeOk_excFields tv Value.none Value.none Value.none (Value.bool false) sv (Value.type "StopIteration") []
theorem unpack_hot {P : Program} {w : World} {A : Around} {E : Value → Shared → Prop} {s : Shared} {t x1 : Addr} {items : Array Value} {Q : List Value → Shared → Prop} (hot : HotX.HotAt A x1 s.heap) (ht : PyProof.Rows.IsTup s.heap t items)
    (hQ : ∀ h', Heap.ExtBut s.heap.objs.size s.heap h' → Q items.toList ⟨h', s.gens, s.drawn, s.toks, s.os⟩) : wpAny (model P w) A (unpackItems (.ref t) items.size none) Q E s := by
  have hlt : t ≠ s.heap.objs.size := by
    obtain ⟨o, e, _⟩ := ht
    exact Nat.ne_of_lt (Heap.lt_size e)
  have hlx : x1 ≠ s.heap.objs.size := by
    obtain ⟨_, o, _, e, _⟩ := hot
    exact Nat.ne_of_lt (Heap.lt_size e)
  unfold unpackItems
  refine wpAny_bind (wpAny_bind (wpAny_specialOf (PyProof.Rows.IsTup.typeIs ht) PyProof.Rows.slot_tuple_iter.lookup (wpAny_pure ?_)))
  dsimp only
  refine wpAny_ite_false (by rfl) ?_
  refine wpAny_bind (wpAny_holding (PyProof.Rows.iter_tuple ht ?_))
  refine wpAny_bind (wpAny_holding (PyProof.Rows.draw_tuple hlt items.size 0 _ _ ⟨_, Heap.get?_push_size _ rfl, rfl, rfl⟩ (PyProof.Rows.IsTup.push ht _) (by omega) fun h1 hit1 hs1 => ?_))
  have hall : List.take items.size (List.drop 0 items.toList) = items.toList := by
    rw [List.drop_zero]
    exact List.take_of_length_le (by simp)
  rw [hall]
  refine wpAny_ite_false (by simp) ?_
  have ht1 := PyProof.Rows.IsTup.extBut (PyProof.Rows.IsTup.push ht ⟨.type "tuple_iterator", none, .fields #[.ref t, .int 0 0], #[]⟩) (Heap.SameBut.extBut hs1) hlt
  have hot1 : HotX.HotAt A x1 h1 := by
    obtain ⟨hh, o, vs, e, d, c⟩ := hot
    exact ⟨hh, o, vs, Heap.SameBut.extBut hs1 x1 o hlx (Heap.get?_push_of_some _ e), d, c⟩
  refine wpAny_bind (wpAny_holding (tuple_end_hot hot1 hit1 ht1 (by simp) fun h2 he2 => ?_))
  refine wpAny_ite_false (by rfl) ?_
  exact wpAny_pure (hQ h2 fun b o hb e => he2 b o hb (Heap.SameBut.extBut hs1 b o hb (Heap.get?_push_of_some _ e)))
theorem pg_tupH {X : Cx} {pos : Pos} {es : List Expr} {k : Nat} {t : TGs} {n : Nat} (hc : HotC X) (h : PGs X es t) (hn : (assignEach es X.env).length = n := by rfl) (hst : List.findIdx? (fun x => x.fst) (assignEach es X.env) = none := by rfl) : PG X (.Tuple es k pos) (gTup X.K n t) := by
  refine ⟨fun pins s σ H v u Q I r hw => ?_⟩
  obtain ⟨a, xs, rfl, hq, hl, hw⟩ := hw
  have e1 : u = .ref a := r
  subst e1
  obtain ⟨its, rv, ht, hz⟩ := I.tuple hq
  obtain ⟨x1, hot⟩ := HotC.at hc I
  rw [PyProof.Rows.assign_Tuple]
  refine wpAny_bind (wpAny_standAt ?_)
  unfold unpack
  have hsz : (assignEach es X.env).length = its.toArray.size := by
    rw [hn, ← hl, Vals.length rv, List.size_toArray]
  rw [hst, hsz]
  refine wpAny_bind (wpAny_holding (unpack_hot hot ht fun h' hx => ?_))
  have I1 := Inv.kept (t' := s.toks) I fun b o e => hx b o (Nat.ne_of_lt (Heap.lt_size e)) e
  exact h.run pins _ σ H xs its Q I1 rv hw
end K1

/-! X6 -/
/-! A def called in an except suite with what is being handled: its promise may speak of the error. -/
namespace K1
open PySem L2 L2H PyProof.Rows PySem.W PySem.Calls
structure FnE (P : Program) (w : World) (K : Frag) (mg : Str → Option Value) (base : Heap) (k : Nat) (f : Addr) (fd : FuncData) (ps : List Str) (sp : Addr × Obj → Sp) : Prop where
  len : ∀ p vs H Q E, sp p vs H Q E → vs.length = ps.length
  run : ∀ (A : Around) (outer : List Env) (s : Shared) (H : Hp) (args : Args) (us : List Value) (vs : List V) (Q : VK) (E : XK) (p : Addr × Obj), RoomH k A → Hot1 A p → PinOk outer H s p → Env0 P w K mg base A outer s H → BindsTo s fd args (ps.zip us) → Vals vs us → sp p vs H Q E →
    codeAny (model P w) A (.call (.ref f) args) (CR CX0 outer P w H s Q E) s
theorem fnE_of {P : Program} {w : World} {K : Frag} {mg : Str → Option Value} {base : Heap} {x qual : Str} {st : Stmt} {f : Addr} {fd : FuncData} {N ps : List Str} {k : Nat} {sp : Addr × Obj → Sp} (F : Fun K x qual st f fd) (S : FnScope N ps (defScope st)) (len : ∀ p vs H Q E, sp p vs H Q E → vs.length = ps.length)
    (hbody : ∀ (cdv : Value) (A : Around) (outer : List Env) (s : Shared) (H : Hp) (vs : List V) (Q : VK) (E : XK) (p : Addr × Obj), Hot1 A p → RoomH k (A.deeper (envOfC qual (defScope st) s.heap.objs.size f cdv)) → sp p vs H Q E →
      ∃ t, PSs (cxH CX0 P w K mg base N qual (defScope st) f cdv A outer s H E p) (defBody st) t ∧ t { nx := fun _ H' => Q .non H', rt := Q } (L2.start N vs) H) : FnE P w K mg base (k + 1) f fd ps sp := by
  obtain ⟨oc, od, kV, doc, pm, an, cdv, ct, osl, rfl, lk, hcd⟩ := F.ex
  refine ⟨len, fun A outer s H args us vs Q E p hr hot hpin e0 hb r hsp => ?_⟩
  have hl := len p vs H Q E hsp
  have kb : ∀ b o, base.get? b = some o → s.heap.get? b = some o := fun b o e => (e0.bs b o e).1
  have KX := e0.mod.kin.keeps kb
  refine Att.call_fn (binds := ps.zip us) KX (e0.mod.nolimit.keeps kb) lk hcd hr.depth hb ?_ (fun s1 IC => ?_) S.co S.gen S.kind
  · rw [List.all_eq_true]
    rintro ⟨n, v⟩ hy
    have := S.par n (List.of_mem_zip hy).1
    rcases this with q | q <;> simp [q]
  · obtain ⟨t, ht, hq⟩ := hbody cdv A outer s H vs Q E p hot (hr.deeper _) hsp
    have I := inv_startH (CX := CX0) (E := E) (N := N) S hpin e0 hl r IC
    refine wpAny_mono (ht.run [] s1 (L2.start N vs) H _ I hq) (fun fl s' hs => ?_) (fun e s' hs => hs)
    have fin : ∀ {σ' H' v u}, L2.Inv (cxH CX0 P w K mg base N qual (defScope st) f cdv A outer s H E p) [] σ' H' s' → L2.RelV v u → Q v H' → CR CX0 outer P w H s Q E (.ok (.ret u)) s' := fun {σ' H' v u} J rv q => ⟨v, H', J.os, J.bare, J.base, J.hok, rv, q⟩
    cases fl with
    | next =>
      obtain ⟨σ', H', J, q⟩ := hs
      exact fin (v := .non) (u := .none) J (show L2.RelV V.non Value.none from rfl) q
    | ret u =>
      obtain ⟨v, σ', H', J, rv, q⟩ := hs
      exact fin J rv q
    | _ =>
      obtain ⟨_, _, _, q⟩ := hs
      exact q.elim
def tCallE (sp : Addr × Obj → Sp) (p : Addr × Obj) (t : TA) : TE := fun σ H Q => t σ H fun vs H1 => sp p vs H1 Q E0
theorem pe_callE {X : Cx} {k : Nat} {f : Addr} {fd : FuncData} {ps : List Str} {sp : Addr × Obj → Sp} {p : Addr × Obj} {x : Str} {q pos : Pos} {e : Expr} {es : List Expr} {t : TA} (F : FnE X.prog X.w X.K X.mg X.base k f fd ps sp) (hr : RoomH k X.A) (hot : Hot1 X.A p) (hp : p ∈ X.pn) (hg : Gl X x) (hm : X.mg x = some (.ref f)) (hk : keepIn X.K (.ref f) = true) (hb : Binds X.K fd ps []) (ha : PA X (e :: es) t)
    (hdb : (x == ("__debug__" : Str)) = false := by decide) (he : starEach (e :: es) X.env = (false, eval e X.env) :: starEach es X.env := by rfl) (hpl : (backTo pos (starEach es X.env)).any (·.1) = false := by rfl) :
    PE X (.Call (.Name x q) (e :: es) [] pos) (tCallE sp p t) := by
  refine ⟨fun pins s σ H Q I h => ?_⟩
  refine wpAny_Call_Name_kw (ld_glob I hg hm (callWith_K I.ok.mod.kin hk (thn (ha.run pos pins s σ H _ I h) ?_) he hpl) hdb)
  rintro us s1 ⟨vs, H1, I1, r, h1⟩
  refine ⟨I1.kIn, ?_⟩
  have hl : us.length = ps.length := by rw [← Vals.length r]; exact F.len p vs H1 Q E0 h1
  have b := hb s1 us I1.kIn (by simpa using hl)
  have P1 := I1.pin p (List.mem_append_left pins hp)
  refine wpAny_call (codeAny_mono (F.run X.A X.stack s1 H1 ⟨us, []⟩ us vs Q E0 p hr hot ⟨P1.1, P1.2.1, fun hm' => ?_, P1.2.2.2.2⟩ I1.env0 (by simpa using b) r h1) ?_)
  · exact Or.elim (List.mem_cons.mp (I1.stkSub p.1 hm')) P1.2.2.1 P1.2.2.2.1
  · intro rr s' hq
    cases rr with
    | error e => exact hq.elim
    | ok fl =>
      cases fl with
      | ret u => exact Inv.after I1 hq
      | _ => exact hq.elim
/-- isinstance(e, T), e what is being handled -/
def rIsP (K : Frag) (C a d : Addr) : List V → Hp → VK → Prop := fun xs H Q => ∃ (c : V) (cv : Value) (b : Bool) (fs : List (Str × V)), xs = [.ref a, c] ∧ H d = some (.xd fs) ∧ (∀ u, L2.RelV c u → u = cv) ∧ kitOne K (.ref C) cv = some b ∧ Q (.bl b) H
theorem call_isP {X : Cx} {a C d : Addr} {oe : Obj} (hp : (a, oe) ∈ X.pn) (T : ExcC X.K C) (hcl : (clsIn X.K C).isSome = true) (hc : oe.cls = .ref C) (hd : oe.dict = some d) (hf : ∃ vs, oe.data = .fields vs) : CallR X (.builtin "isinstance") (rIsP X.K C a d) := by
  intro pins s σ H xs us Q I r h
  obtain ⟨c, cv, b, fs, rfl, hx, hcv, e, q⟩ := h
  cases r with
  | cons r1 r2 =>
  cases r2 with
  | cons r2 r3 =>
  cases r3 with
  | nil =>
  rename_i u1 u2
  have e1 : u1 = .ref a := r1
  subst e1
  have e2 := hcv u2 r2
  subst e2
  obtain ⟨g1, g2, _⟩ := I.pin (a, oe) (List.mem_append_left _ hp)
  obtain ⟨mA, hn, _⟩ := I.hok d _ hx
  obtain ⟨o, _, _, ho, _⟩ := hn
  obtain ⟨vs, hf⟩ := hf
  have IA : InstAt s.heap a oe C (some o) := by
    refine ⟨g1, hc, ?_, ?_⟩
    · unfold notCls; rw [hf]
    · rw [hd]; exact ho
  refine kia_one (kitx_exc (x := a) (od := some o) (ox := oe) hcl T.hg T.hk T.hs T.ha T.hn T.ht T.hm) I.kIn IA e (by intro z; cases z) fun tk => ?_
  exact ⟨.bl b, H, I.kept (fun _ _ e => e), rfl, q⟩
end K1

/-! L69j -/


namespace K4
open PySem L2 L2H K1
abbrev sLRaised : Stmt := top 83
abbrev nLRaised : List Str := ["_law_door", "_law_signs", "_law_rules", "_law_papers", "error", "_law_paper"]
theorem scLRaised : FnScope nLRaised ["_law_door", "_law_signs", "_law_rules", "_law_papers"] (defScope sLRaised) := ⟨rfl, rfl, rfl, by decide +kernel, rfl, by decide +kernel, by decide +kernel⟩
/-- isinstance(e, c), e what is being handled -/
def rIsQ (K : PySem.W.Frag) (a : Addr) (cls : Value) (d : Option Addr) : List V → Hp → VK → Prop := fun xs H Q => ∃ (C dd : Addr) (c : V) (cv : Value) (b : Bool) (fs : List (Str × V)), cls = .ref C ∧ d = some dd ∧ ExcC K C ∧ (PySem.W.clsIn K C).isSome = true ∧
  xs = [.ref a, c] ∧ H dd = some (.xd fs) ∧ (∀ u, L2.RelV c u → u = cv) ∧ PySem.W.kitOne K (.ref C) cv = some b ∧ Q (.bl b) H
theorem call_isQ {X : Cx} {a : Addr} {oe : Obj} {cls : Value} {d : Option Addr} (hp : (a, oe) ∈ X.pn) (hz : L2N.Zn cls d oe) (hf : ∃ vs, oe.data = .fields vs) : CallR X (.builtin "isinstance") (rIsQ X.K a cls d) := by
  intro pins s σ H xs us Q I r h
  obtain ⟨C, dd, c, cv, b, fs, rfl, rfl, T, hcl, rfl, hx, hcv, e, q⟩ := h
  exact call_isP hp T hcl hz.1 hz.2.1 hf pins s σ H _ us Q I r ⟨c, cv, b, fs, rfl, hx, hcv, e, q⟩
theorem r_isQ {K : PySem.W.Frag} {a dd C : Addr} {c : V} {cv : Value} {b : Bool} {fs : List (Str × V)} {H : Hp} {Q : VK} (T : ExcC K C) (cl : (PySem.W.clsIn K C).isSome = true) (hx : H dd = some (.xd fs)) (hcv : ∀ u, L2.RelV c u → u = cv) (e : PySem.W.kitOne K (.ref C) cv = some b) (q : Q (.bl b) H) :
    rIsQ K a (.ref C) (some dd) [.ref a, c] H Q := ⟨C, dd, c, cv, b, fs, rfl, rfl, T, cl, rfl, hx, hcv, e, q⟩
/-- isinstance(e, (c, d, ..)), e what is being handled -/
def rIsQT (K : PySem.W.Frag) (a : Addr) (cls : Value) (d : Option Addr) : List V → Hp → VK → Prop := fun xs H Q => ∃ (C dd tp : Addr) (cs : List V) (us : List Value) (b : Bool) (fs : List (Str × V)), cls = .ref C ∧ d = some dd ∧ ExcC K C ∧ (PySem.W.clsIn K C).isSome = true ∧
  xs = [.ref a, .ref tp] ∧ H dd = some (.xd fs) ∧ H tp = some (.tup cs) ∧ Paired ClsV cs us ∧ PySem.W.kitAny K (.ref C) us = some b ∧ Q (.bl b) H
theorem call_isQT {X : Cx} {a : Addr} {oe : Obj} {cls : Value} {d : Option Addr} (hp : (a, oe) ∈ X.pn) (hz : L2N.Zn cls d oe) (hf : ∃ vs, oe.data = .fields vs) : CallR X (.builtin "isinstance") (rIsQT X.K a cls d) := by
  intro pins s σ H xs us Q I r h
  obtain ⟨C, dd, tp, cs, ws, b, fs, rfl, rfl, T, hcl, rfl, hx, hT, k, e, q⟩ := h
  obtain ⟨u1, u2, rfl, r1, r2⟩ := vals2 r
  cases (show u1 = Value.ref a from r1)
  cases (show u2 = Value.ref tp from r2)
  obtain ⟨g1, g2, _⟩ := I.pin (a, oe) (List.mem_append_left _ hp)
  obtain ⟨mA, hn, _⟩ := I.hok dd _ hx
  obtain ⟨o, _, _, ho, _⟩ := hn
  obtain ⟨vs, hf⟩ := hf
  have IA : PySem.W.InstAt s.heap a oe C (some o) := by
    refine ⟨g1, hz.1, ?_, ?_⟩
    · unfold PySem.W.notCls; rw [hf]
    · rw [hz.2.1]; exact ho
  obtain ⟨_, its, rv, ot, h1, h2, n, h3⟩ := (show ObjOk X.prog X.w H s.heap tp (.tup cs) from I.hok tp _ hT)
  have e3 := ClsV.all k rv
  subst e3
  obtain ⟨oc, od, dt, sl⟩ := ot
  simp only at h2 h3
  subst h2 h3
  refine PySem.W.kia_tup (PySem.W.kitx_exc (x := a) (od := some o) (ox := oe) hcl T.hg T.hk T.hs T.ha T.hn T.ht T.hm) I.kIn IA h1 e (by intro z; cases z) fun tk => ?_
  exact ⟨.bl b, H, I.tok tk, rfl, q⟩
theorem paired_own : ∀ cs : List Addr, Paired ClsV (cs.map V.ref) (cs.map Value.ref)
  | [] => .nil
  | c :: cs => .cons (.own c) (paired_own cs)
theorem r_isQT {K : PySem.W.Frag} {a dd tp C : Addr} {cs : List Addr} {b : Bool} {fs : List (Str × V)} {H : Hp} {Q : VK} (T : ExcC K C) (cl : (PySem.W.clsIn K C).isSome = true) (hx : H dd = some (.xd fs)) (ht : H tp = some (.tup (cs.map V.ref))) (e : PySem.W.kitAny K (.ref C) (cs.map Value.ref) = some b) (q : Q (.bl b) H) :
    rIsQT K a (.ref C) (some dd) [.ref a, .ref tp] H Q := ⟨C, dd, tp, cs.map V.ref, cs.map Value.ref, b, fs, rfl, rfl, T, cl, rfl, hx, ht, paired_own cs, e, q⟩
/-- what is known of the class C of an error -/
structure KF (K : PySem.W.Frag) (C : Addr) (own : Addr) (others : List Addr) : Prop where
  T : ExcC K C
  X : XfC K C
  cls : (PySem.W.clsIn K C).isSome = true
  yes : PySem.W.kitOne K (.ref C) (.ref own) = some true
  no : PySem.W.kitAny K (.ref C) (others.map Value.ref) = some false
structure KN (K : PySem.W.Frag) (mg : Str → Option Value) (cE cM cF cS cR cT cP : Addr) : Prop where
  mE : mg "CarryError" = some (.ref cE)
  mM : mg "Malformed" = some (.ref cM)
  mF : mg "Refused" = some (.ref cF)
  mS : mg "BadSigns" = some (.ref cS)
  mR : mg "BadRule" = some (.ref cR)
  mT : mg "TooMany" = some (.ref cT)
  mP : mg "BadPaper" = some (.ref cP)
  fiS : PySem.W.findIn K (.ref cS) "signs" = some none
  fiR : PySem.W.findIn K (.ref cR) "rule" = some none
  fiT : PySem.W.findIn K (.ref cT) "what" = some none
  fiP : PySem.W.findIn K (.ref cP) "paper" = some none
  SS : PySem.W.exmOne K (.ref cS) (.ref cS) = some true
  RS : PySem.W.exmOne K (.ref cR) (.ref cS) = some false
  RR : PySem.W.exmOne K (.ref cR) (.ref cR) = some true
  TS : PySem.W.exmOne K (.ref cT) (.ref cS) = some false
  TR : PySem.W.exmOne K (.ref cT) (.ref cR) = some false
  TT : PySem.W.exmOne K (.ref cT) (.ref cT) = some true
  PS : PySem.W.exmOne K (.ref cP) (.ref cS) = some false
  PR : PySem.W.exmOne K (.ref cP) (.ref cR) = some false
  PT : PySem.W.exmOne K (.ref cP) (.ref cT) = some false
  PP : PySem.W.exmOne K (.ref cP) (.ref cP) = some true
  pF : PySem.W.kitOne K (.ref cP) (.ref cF) = some false
/-- what is told of a call -/
def Told (H : Hp) (Q : VK) (w : Str) (X : V → Hp → Prop) : Prop := ∀ H' W x, Same H H' → H W = none → H' W = some (.lst [.str w, x, .bl true]) → X x H' → Q (.ref W) H'
theorem Told.same {H H1 : Hp} {Q : VK} {w : Str} {X : V → Hp → Prop} (h : Told H Q w X) (s : Same H H1) : Told H1 Q w X := fun H' W x s' n e p => h H' W x (s.trans s') (s.free n) e p
theorem pairs_of {K : PySem.W.Frag} {H : Hp} : ∀ {acc : List V} {ss : List Sn}, (∀ (j : Nat) (v : V), acc[j]? = some v → ∃ (M : Addr) (s : Sn), v = .ref M ∧ H M = some (.lst [s.val, .int s.flag]) ∧ ss[j]? = some s) → acc.length = ss.length → PairsAt K H acc ss
  | [], [], _, _ => trivial
  | v :: acc, s :: ss, h, l => by
    obtain ⟨M, s', rfl, e, q⟩ := h 0 v rfl
    obtain rfl := Option.some.inj q
    exact ⟨⟨M, rfl, .inl (SqL.of e)⟩, pairs_of (fun j v hj => h (j + 1) v hj) (Nat.succ.inj l)⟩
  | [], _ :: _, _, l => by cases l
  | _ :: _, [], _, l => by cases l
theorem fits_same {K : PySem.W.Frag} {H H' : Hp} {z : Str} (m : Same H H') : ∀ {s : Sn}, s.fits K H z → s.fits K H' z
  | .good _ _, h => h
  | .odd _ _, h => fun H2 s2 => h H2 (m.trans s2)
def spRaised (K : PySem.W.Frag) : Sp := fun vs H Q _ => ∃ (door : Nat) (sv rv : V) (pl : Addr) (xs ps : List V) (ls : List Rl) (ss : List Sn), vs = [vi door, sv, rv, .ref pl] ∧ door ≤ 1 ∧ Sq K H rv xs ∧ H pl = some (.lst ps) ∧ ps = ss.map Sn.val ∧ (∀ s ∈ ss, s.flag = 1) ∧ ss ≠ [] ∧ ss.length ≤ 1000 ∧
  (((∀ H', Same H H' → Bads K H' sv) ∧ xs ≠ [] ∧ Told H Q "signs" fun x _ => x = sv) ∨ (∃ z : Str, sv = .str z ∧ z.length ≤ 12 ∧ (tl z).Nodup ∧ signsB z = true ∧ Checked K H z xs ls ∧ (∀ s ∈ ss, s.fits K H z) ∧
    (match firstNo ls with
    | some (.many _ _) => Told H Q "many" fun x _ => x = .str "rule"
    | some (.bad _ b) => Told H Q "rule" fun x H' => Dp K H' x b
    | some (.ok _ _) => False
    | none => (match (if door = 0 then (match ss with | s :: _ => if s.isOk = true then none else some s | [] => none) else firstOdd ss) with
      | some s => Told H Q "paper" fun x _ => x = s.val
      | none => Told H Q "none" fun x _ => x = .int 0))))
section
variable {P : Program} {w : World} {K : PySem.W.Frag} {mg : Str → Option Value} {base : Heap}
theorem ok_raised {f fV fW cE cM cF CS CR CM CP : Addr} {fd fdV fdW : FuncData} (F : Fun K "_law_raised" "_law_raised" sLRaised f fd) (B : Bl mg)
    (FV : FnOk P w K mg base (L2N.CX P w) 70 fV fdV ["signs", "rules", "paper"] (spSig K CS CR CM CP)) (mV : mg "signature_of" = some (.ref fV)) (kV : PySem.W.keepIn K (.ref fV) = true) (bV : Binds K fdV ["signs", "rules", "paper"] [])
    (FW : FnOk P w K mg base (L2N.CX P w) 70 fW fdW ["signs", "rules", "seen"] (spFit K CS CR CM CP)) (mW : mg "fitting" = some (.ref fW)) (kW : PySem.W.keepIn K (.ref fW) = true) (bW : Binds K fdW ["signs", "rules", "seen"] [])
    (N : KN K mg cE cM cF CS CR CM CP) (FS : KF K CS cM [CR, CP, cF]) (FR : KF K CR cM [CP, cF]) (FT : KF K CM cE [cM, cF]) (FP : KF K CP cM []) :
    FnOk P w K mg base CX0 71 f fd ["_law_door", "_law_signs", "_law_rules", "_law_papers"] (spRaised K) := by
  refine F.ok scLRaised (fun vs H Q E h => ?_) (fun cdv A outer s H vs Q E hr h => ?_)
  · obtain ⟨door, sv, rv, pl, xs, ps, ls, ss, rfl, _⟩ := h
    rfl
  · obtain ⟨door, sv, rv, pl, xs, ps, ls, ss, rfl, hd1, hS, ePl, rfl, hfl, hne, hsl, h⟩ := h
    refine ⟨_, (pss_cons (ps_tryAll (i := 4) (tb := fun W => tIfS (tTest (tOp rEq (tVar 0) (tC (V.int 0)))) (tDrop (tCallS (spSig K CS CR CM CP) (WE W) (tCons (tVar 1) (tCons (tVar 2) (tCons (tOp (rIxL K) (tVar 3) (tC (V.int 0))) tNil))))) (tDrop (tCallS (spFit K CS CR CM CP) (WE W) (tCons (tVar 1) (tCons (tVar 2) (tCons (tLc (iList K (tVar 3)) (gName 5) tYes (tLst (tCons (tVar 5) (tCons (tC (V.int 1)) tNil))) [5]) tNil)))))) (Wo := fun _ _ _ _ => False) rfl rfl scLRaised.nd rfl rfl (fun _ _ h => by obtain ⟨_, _, _, _, _, _, _, _, _, _, _, _, _, _, _, _, h⟩ := h; exact h.elim) (fun W pn xe tk _ => by
      refine pss_one (ps_if ?_ ?_ ?_)
      · exact (pt_cmpR op_eq (pv 0) pe_int (nomark _))
      · exact pss_one (ps_expr (pe_callS FV hr rfl mV kV bV (fun σ => L2N.passAt tk σ) (pa_cons (pv 1) (pa_cons (pv 2) (pa_cons (pe_ix (r := rIxL K) ix_list (pv 3) pe_int (fun _ _ => rfl)) pa_nil)))))
      · exact pss_one (ps_expr (pe_callS FW hr rfl mW kW bW (fun σ => L2N.passAt tk σ) (pa_cons (pv 1) (pa_cons (pv 2) (pa_cons (pe_lc (own := [("_law_paper", 5)]) (g := gName 5) (tt := tYes) rfl scLRaised.nd (pi_list (pv 3)) (blkOk_by (N := nLRaised) (sc := defScope sLRaised) (by decide +kernel)) (fun _ _ _ _ _ => (pg_name (i := 5) scLRaised.nd rfl (Or.inl rfl))) (fun _ _ _ _ _ => pts_nil) (fun _ _ _ _ _ => (pe_lst (pa_cons (pv 5) (pa_cons pe_int pa_nil))))) pa_nil)))))) (.one ⟨rfl, by decide, Or.inl N.mS⟩ (fun a oe cls d pn hz hf => (pss_one (ps_ret (pe_lst (pa_cons pe_str (pa_cons (pe_xf FS.X N.fiS hz.zc hf (pv 4)) (pa_cons (pe_and (pe_callB (id := "isinstance") (r := rIsQ K a cls d) (call_isQ (List.mem_cons_self ..) hz hf) (by rfl) B.isin (by decide +kernel) (pa_cons (pv 4) (pa_cons (pe_glob (v := .ref cM) rfl N.mM rfl) pa_nil))) (pe_one (pe_not (pe_callB (id := "isinstance") (r := rIsQT K a cls d) (call_isQT (List.mem_cons_self ..) hz hf) (by rfl) B.isin (by decide +kernel) (pa_cons (pv 4) (pa_cons (pe_tup (pa_cons (pe_glob (v := .ref CR) rfl N.mR rfl) (pa_cons (pe_glob (v := .ref CP) rfl N.mP rfl) (pa_cons (pe_glob (v := .ref cF) rfl N.mF rfl) pa_nil)))) pa_nil)))))) pa_nil))))))) (.one ⟨rfl, by decide, Or.inl N.mR⟩ (fun a oe cls d pn hz hf => (pss_one (ps_ret (pe_lst (pa_cons pe_str (pa_cons (pe_xf FR.X N.fiR hz.zc hf (pv 4)) (pa_cons (pe_and (pe_callB (id := "isinstance") (r := rIsQ K a cls d) (call_isQ (List.mem_cons_self ..) hz hf) (by rfl) B.isin (by decide +kernel) (pa_cons (pv 4) (pa_cons (pe_glob (v := .ref cM) rfl N.mM rfl) pa_nil))) (pe_one (pe_not (pe_callB (id := "isinstance") (r := rIsQT K a cls d) (call_isQT (List.mem_cons_self ..) hz hf) (by rfl) B.isin (by decide +kernel) (pa_cons (pv 4) (pa_cons (pe_tup (pa_cons (pe_glob (v := .ref CP) rfl N.mP rfl) (pa_cons (pe_glob (v := .ref cF) rfl N.mF rfl) pa_nil))) pa_nil)))))) pa_nil))))))) (.one ⟨rfl, by decide, Or.inl N.mT⟩ (fun a oe cls d pn hz hf => (pss_one (ps_ret (pe_lst (pa_cons pe_str (pa_cons (pe_xf FT.X N.fiT hz.zc hf (pv 4)) (pa_cons (pe_and (pe_callB (id := "isinstance") (r := rIsQ K a cls d) (call_isQ (List.mem_cons_self ..) hz hf) (by rfl) B.isin (by decide +kernel) (pa_cons (pv 4) (pa_cons (pe_glob (v := .ref cE) rfl N.mE rfl) pa_nil))) (pe_one (pe_not (pe_callB (id := "isinstance") (r := rIsQT K a cls d) (call_isQT (List.mem_cons_self ..) hz hf) (by rfl) B.isin (by decide +kernel) (pa_cons (pv 4) (pa_cons (pe_tup (pa_cons (pe_glob (v := .ref cM) rfl N.mM rfl) (pa_cons (pe_glob (v := .ref cF) rfl N.mF rfl) pa_nil))) pa_nil)))))) pa_nil))))))) (.one ⟨rfl, by decide, Or.inl N.mP⟩ (fun a oe cls d pn hz hf => (pss_one (ps_ret (pe_lst (pa_cons pe_str (pa_cons (pe_xf FP.X N.fiP hz.zc hf (pv 4)) (pa_cons (pe_and (pe_callB (id := "isinstance") (r := rIsQ K a cls d) (call_isQ (List.mem_cons_self ..) hz hf) (by rfl) B.isin (by decide +kernel) (pa_cons (pv 4) (pa_cons (pe_glob (v := .ref cM) rfl N.mM rfl) pa_nil))) (pe_one (pe_not (pe_callB (id := "isinstance") (r := rIsQ K a cls d) (call_isQ (List.mem_cons_self ..) hz hf) (by rfl) B.isin (by decide +kernel) (pa_cons (pv 4) (pa_cons (pe_glob (v := .ref cF) rfl N.mF rfl) pa_nil)))))) pa_nil))))))) .none))))) (pss_one (ps_ret (pe_lst (pa_cons pe_str (pa_cons pe_int (pa_cons pe_bl pa_nil))))))), ?_⟩
    try dsimp only [cxOf, Cx.nox, Cx.wish]
    walk_at "go"
    refine r_iteN' (fun h0 => ?_) (fun h0 => ?_)
    · obtain rfl : door = 0 := by have := V.int.inj h0; omega
      obtain ⟨s0, st, rfl⟩ : ∃ s0 st, ss = s0 :: st := by
        cases ss with
        | nil => exact absurd rfl hne
        | cons a b => exact ⟨a, b, rfl⟩
      walk_at "go"
      refine r_ixL (SqL.of ePl) at_0 ?_
      walk_at "go"
      rcases h with ⟨hb, hx, k⟩ | ⟨z, rfl, hz, nd, hsg, hC, hfit, k⟩
      · refine ⟨sv, rv, s0.val, xs, [], rfl, hS, .inl ⟨hb, hx, fun H1 d s1 hd _ => ?_⟩⟩
        refine ⟨true, N.SS, fun _ a ha => ?_, fun q => nomatch q⟩
        dsimp only [List.set]
        walk_at "go"
        refine ⟨rfl, rfl, d, _, sv, rfl, hd, rfl, ?_⟩
        walk_at "go"
        refine r_isQ FS.T FS.cls hd (fun u h => h) FS.yes ?_
        walk_at "go"
        refine ⟨(by show 3 ≤ sizeLine; decide), fun T hT => ?_⟩
        have sT := same_new (o := HO.tup [V.ref CR, V.ref CP, V.ref cF]) hT
        walk_at "go"
        refine r_isQT FS.T FS.cls (sT _ _ hd) upd_same FS.no ?_
        walk_at "go"
        refine ⟨(by show 3 ≤ sizeLine; decide), fun W hW => ?_⟩
        have s9 := ((Same.refl H).trans s1).trans sT
        exact k _ W _ (s9.trans (same_new hW)) (s9.free hW) upd_same rfl
      · refine ⟨.str z, rv, s0.val, xs, ls, rfl, hS, .inr ⟨z, rfl, hz, nd, hsg, hC, ?_⟩⟩
        cases hfn : firstNo ls with
        | some l =>
          rw [hfn] at k
          cases l with
          | ok r t => exact k.elim
          | many r t =>
            refine fun H1 d s1 hd _ => ?_
            refine ⟨false, N.TS, (fun q => nomatch q), fun _ => ⟨false, N.TR, (fun q => nomatch q), fun _ => ⟨true, N.TT, fun _ a ha => ?_, fun q => nomatch q⟩⟩⟩
            dsimp only [List.set]
            walk_at "go"
            refine ⟨rfl, rfl, d, _, _, rfl, hd, rfl, ?_⟩
            walk_at "go"
            refine r_isQ FT.T FT.cls hd (fun u h => h) FT.yes ?_
            walk_at "go"
            refine ⟨(by show 2 ≤ sizeLine; decide), fun T hT => ?_⟩
            have sT := same_new (o := HO.tup [V.ref cM, V.ref cF]) hT
            walk_at "go"
            refine r_isQT FT.T FT.cls (sT _ _ hd) upd_same FT.no ?_
            walk_at "go"
            refine ⟨(by show 3 ≤ sizeLine; decide), fun W hW => ?_⟩
            have s9 := ((Same.refl H).trans s1).trans sT
            exact k _ W _ (s9.trans (same_new hW)) (s9.free hW) upd_same rfl
          | bad dd bb =>
            refine fun H1 d vb s1 _ hd dvb => ?_
            refine ⟨false, N.RS, (fun q => nomatch q), fun _ => ⟨true, N.RR, fun _ a ha => ?_, fun q => nomatch q⟩⟩
            dsimp only [List.set]
            walk_at "go"
            refine ⟨rfl, rfl, d, _, vb, rfl, hd, rfl, ?_⟩
            walk_at "go"
            refine r_isQ FR.T FR.cls hd (fun u h => h) FR.yes ?_
            walk_at "go"
            refine ⟨(by show 2 ≤ sizeLine; decide), fun T hT => ?_⟩
            have sT := same_new (o := HO.tup [V.ref CP, V.ref cF]) hT
            walk_at "go"
            refine r_isQT FR.T FR.cls (sT _ _ hd) upd_same FR.no ?_
            walk_at "go"
            refine ⟨(by show 3 ≤ sizeLine; decide), fun W hW => ?_⟩
            have s9 := ((Same.refl H).trans s1).trans sT
            exact k _ W _ (s9.trans (same_new hW)) (s9.free hW) upd_same (dp_keep (Same.keeps (Same.trans sT (same_new hW))) _ _ dvb)
        | none =>
          rw [hfn] at k
          have hf0 := hfit s0 (List.mem_cons_self ..)
          cases s0 with
          | odd y f =>
            refine .inl ⟨hf0, fun H1 d s1 hd _ => ?_⟩
            refine ⟨false, N.PS, (fun q => nomatch q), fun _ => ⟨false, N.PR, (fun q => nomatch q), fun _ => ⟨false, N.PT, (fun q => nomatch q), fun _ => ⟨true, N.PP, fun _ a ha => ?_, fun q => nomatch q⟩⟩⟩⟩
            dsimp only [List.set]
            walk_at "go"
            refine ⟨rfl, rfl, d, _, _, rfl, hd, rfl, ?_⟩
            walk_at "go"
            refine r_isQ FP.T FP.cls hd (fun u h => h) FP.yes ?_
            walk_at "go"
            refine r_isQ FP.T FP.cls hd (fun u h => h) N.pF ?_
            walk_at "go"
            refine ⟨(by show 3 ≤ sizeLine; decide), fun W hW => ?_⟩
            have s9 := ((Same.refl H).trans s1).trans (Same.refl _)
            exact k _ W _ (s9.trans (same_new hW)) (s9.free hW) upd_same rfl
          | good p f =>
            refine .inr ⟨p, rfl, hf0, fun H1 v s1 dv => ?_⟩
            walk_at "go"
            refine ⟨(by show 3 ≤ sizeLine; decide), fun W hW => ?_⟩
            exact k _ W _ (s1.trans (same_new hW)) (s1.free hW) upd_same rfl
    · walk_at "go"
      refine ⟨⟨_, SqL.of ePl⟩, fun D hD => ?_⟩
      refine lc_it (walk_list (K := K) (a := pl) (xs := ss.map Sn.val)) (fun i H' => ∃ acc : List V, H' D = some (.lst acc) ∧ acc.length = i ∧ (∀ (j : Nat) (v : V), acc[j]? = some v → ∃ (M : Addr) (s : Sn), v = .ref M ∧ M ≠ D ∧ H' M = some (.lst [s.val, .int s.flag]) ∧ ss[j]? = some s) ∧ Same H H') ⟨[], upd_same, rfl, (fun j v h => by cases h), same_new hD⟩ (fun i H' _ ⟨_, _, _, _, sm⟩ => SqL.of (sm _ _ ePl)) ?_ ?_
      · rintro i x H1 H1' hi ⟨acc, eD, la, hacc, sm⟩ ⟨rfl, hx⟩
        rw [List.getElem?_map] at hx
        rw [List.length_map] at hi
        cases hsi : ss[i]? with
        | none => rw [hsi] at hx; cases hx
        | some s =>
        rw [hsi] at hx
        obtain rfl := Option.some.inj hx
        refine ⟨rfl, ?_⟩
        unfold tYes
        dsimp only
        rw [if_pos rfl]
        walk_at "go"
        refine ⟨(by show 2 ≤ sizeLine; decide), fun M hM => ?_⟩
        have sM := same_new (o := HO.lst [s.val, V.int 1]) hM
        have nMD : M ≠ D := (ne_of_none eD hM).symm
        refine ⟨acc, sM _ _ eD, line60 (by omega), acc ++ [.ref M], upd_same, by rw [List.length_append, la]; rfl, fun j v hj => ?_, same_upd (sm.trans sM) hD⟩
        by_cases hji : j < acc.length
        · rw [List.getElem?_append_left hji] at hj
          obtain ⟨M2, s2, rfl, n2, e2, h2⟩ := hacc j v hj
          exact ⟨M2, s2, rfl, n2, by rw [upd_ne n2]; exact sM _ _ e2, h2⟩
        · rw [List.getElem?_append_right (by omega)] at hj
          have hj0 : j - acc.length = 0 := by
            cases hq : j - acc.length with
            | zero => rfl
            | succ m => rw [hq] at hj; cases hj
          rw [hj0] at hj
          obtain rfl := Option.some.inj hj
          have hji2 : j = i := by omega
          refine ⟨M, s, rfl, nMD, ?_, by rw [hji2]; exact hsi⟩
          rw [upd_ne nMD, upd_same, hfl s (List.mem_of_getElem? hsi)]
      rintro H2 ⟨acc, eD, la, hacc, s2⟩
      rw [List.length_map] at la
      have hP : PairsAt K H2 acc ss := pairs_of (fun j v hj => by
        obtain ⟨M, s, rfl, _, e, h⟩ := hacc j v hj
        exact ⟨M, s, rfl, e, h⟩) la
      have sq2 : Sq K H2 (.ref D) acc := ⟨D, rfl, .inl (SqL.of eD)⟩
      walk_at "go"
      rcases h with ⟨hb, hx, k⟩ | ⟨z, rfl, hz, nd, hsg, ⟨hC1, hC2, hC3⟩, hfit, k⟩
      · refine ⟨sv, rv, .ref D, xs, acc, [], ss, rfl, hS.same s2, sq2, hP, hsl, .inl ⟨fun H' s' => hb H' (s2.trans s'), hx, fun H1 d s1 hd _ => ?_⟩⟩
        refine ⟨true, N.SS, fun _ a ha => ?_, fun q => nomatch q⟩
        dsimp only [List.set]
        walk_at "go"
        refine ⟨rfl, rfl, d, _, sv, rfl, hd, rfl, ?_⟩
        walk_at "go"
        refine r_isQ FS.T FS.cls hd (fun u h => h) FS.yes ?_
        walk_at "go"
        refine ⟨(by show 3 ≤ sizeLine; decide), fun T hT => ?_⟩
        have sT := same_new (o := HO.tup [V.ref CR, V.ref CP, V.ref cF]) hT
        walk_at "go"
        refine r_isQT FS.T FS.cls (sT _ _ hd) upd_same FS.no ?_
        walk_at "go"
        refine ⟨(by show 3 ≤ sizeLine; decide), fun W hW => ?_⟩
        have s9 := (s2.trans s1).trans sT
        exact k _ W _ (s9.trans (same_new hW)) (s9.free hW) upd_same rfl
      · refine ⟨.str z, rv, .ref D, xs, acc, ls, ss, rfl, hS.same s2, sq2, hP, hsl, .inr ⟨z, rfl, hz, nd, hsg, ⟨dpA_keep (Same.keeps s2) _ _ hC1, hC2, hC3⟩, fun s hs => fits_same s2 (hfit s hs), ?_⟩⟩
        cases hfn : firstNo ls with
        | some l =>
          rw [hfn] at k
          cases l with
          | ok r t => exact k.elim
          | many r t =>
            refine fun H1 d s1 hd _ => ?_
            refine ⟨false, N.TS, (fun q => nomatch q), fun _ => ⟨false, N.TR, (fun q => nomatch q), fun _ => ⟨true, N.TT, fun _ a ha => ?_, fun q => nomatch q⟩⟩⟩
            dsimp only [List.set]
            walk_at "go"
            refine ⟨rfl, rfl, d, _, _, rfl, hd, rfl, ?_⟩
            walk_at "go"
            refine r_isQ FT.T FT.cls hd (fun u h => h) FT.yes ?_
            walk_at "go"
            refine ⟨(by show 2 ≤ sizeLine; decide), fun T hT => ?_⟩
            have sT := same_new (o := HO.tup [V.ref cM, V.ref cF]) hT
            walk_at "go"
            refine r_isQT FT.T FT.cls (sT _ _ hd) upd_same FT.no ?_
            walk_at "go"
            refine ⟨(by show 3 ≤ sizeLine; decide), fun W hW => ?_⟩
            have s9 := (s2.trans s1).trans sT
            exact k _ W _ (s9.trans (same_new hW)) (s9.free hW) upd_same rfl
          | bad dd bb =>
            refine fun H1 d vb s1 _ hd dvb => ?_
            refine ⟨false, N.RS, (fun q => nomatch q), fun _ => ⟨true, N.RR, fun _ a ha => ?_, fun q => nomatch q⟩⟩
            dsimp only [List.set]
            walk_at "go"
            refine ⟨rfl, rfl, d, _, vb, rfl, hd, rfl, ?_⟩
            walk_at "go"
            refine r_isQ FR.T FR.cls hd (fun u h => h) FR.yes ?_
            walk_at "go"
            refine ⟨(by show 2 ≤ sizeLine; decide), fun T hT => ?_⟩
            have sT := same_new (o := HO.tup [V.ref CP, V.ref cF]) hT
            walk_at "go"
            refine r_isQT FR.T FR.cls (sT _ _ hd) upd_same FR.no ?_
            walk_at "go"
            refine ⟨(by show 3 ≤ sizeLine; decide), fun W hW => ?_⟩
            have s9 := (s2.trans s1).trans sT
            exact k _ W _ (s9.trans (same_new hW)) (s9.free hW) upd_same (dp_keep (Same.keeps (Same.trans sT (same_new hW))) _ _ dvb)
        | none =>
          rw [hfn] at k
          dsimp only at k
          rw [if_neg (fun q => h0 (by rw [q]; rfl))] at k
          dsimp only
          cases hfo : firstOdd ss with
          | some s =>
            rw [hfo] at k
            refine fun H1 d s1 hd _ => ?_
            refine ⟨false, N.PS, (fun q => nomatch q), fun _ => ⟨false, N.PR, (fun q => nomatch q), fun _ => ⟨false, N.PT, (fun q => nomatch q), fun _ => ⟨true, N.PP, fun _ a ha => ?_, fun q => nomatch q⟩⟩⟩⟩
            dsimp only [List.set]
            walk_at "go"
            refine ⟨rfl, rfl, d, _, _, rfl, hd, rfl, ?_⟩
            walk_at "go"
            refine r_isQ FP.T FP.cls hd (fun u h => h) FP.yes ?_
            walk_at "go"
            refine r_isQ FP.T FP.cls hd (fun u h => h) N.pF ?_
            walk_at "go"
            refine ⟨(by show 3 ≤ sizeLine; decide), fun W hW => ?_⟩
            have s9 := (s2.trans s1).trans (Same.refl _)
            exact k _ W _ (s9.trans (same_new hW)) (s9.free hW) upd_same rfl
          | none =>
            rw [hfo] at k
            refine fun H1 v s1 dv => ?_
            walk_at "go"
            refine ⟨(by show 3 ≤ sizeLine; decide), fun W hW => ?_⟩
            exact k _ W _ ((s2.trans s1).trans (same_new hW)) ((s2.trans s1).free hW) upd_same rfl
abbrev ORaised (P : Program) (w : World) (K : PySem.W.Frag) (mg : Str → Option Value) (base : Heap) : Prop := Own P w K mg base "_law_raised" 71 ["_law_door", "_law_signs", "_law_rules", "_law_papers"] (spRaised K)
end
end K4

/-! L69m -/


namespace K4
open PySem L2 K1
/-- what is no paper -/
def oddD (z : Str) (d : PyData) : Prop := (∃ y : Str, d = .str y ∧ y.length ≤ 1000 ∧ PyData.strOk y = true ∧ textB 0 60 z y = false) ∨ d = .none ∨ (∃ i, d = .int i) ∨ (∃ y : Str, d = .tuple [.str y] ∧ PyData.strOk y = true ∧ y.length ≤ 1000)
theorem oddD.facts {z : Str} {d : PyData} (h : oddD z d) : nol d = true ∧ d.canLay0 = true ∧ d.depth ≤ 2 := by
  rcases h with ⟨y, rfl, _, h, _⟩ | rfl | ⟨i, rfl⟩ | ⟨y, rfl, h, _⟩
  · exact ⟨by simp [nol], by simpa [PyData.canLay0] using h, by simp [PyData.depth]⟩
  · exact ⟨by simp [nol], by simp [PyData.canLay0], by simp [PyData.depth]⟩
  · exact ⟨by simp [nol], by simp [PyData.canLay0], by simp [PyData.depth]⟩
  · exact ⟨by simp [nol, nolA], by simpa [PyData.canLay0, PyData.canLayAll0] using h, by simp [PyData.depth, PyData.depthAll]⟩
theorem noText_dp {K : PySem.W.Frag} {H : Hp} {v : V} {d : PyData} (h : Dp K H v d) (n : ∀ y, d ≠ .str y) : NoText K H v := by
  cases h with
  | non => exact ⟨_, .base .non, kit_ty (by decide +kernel)⟩
  | bl b => exact ⟨_, .base (.bl _), kit_ty (by decide +kernel)⟩
  | int i => exact ⟨_, .base (.int _), kit_ty (by decide +kernel)⟩
  | str y => exact absurd rfl (n y)
  | lst a b => exact ⟨_, tyxL a, kit_ty (by decide +kernel)⟩
  | tup a b => exact ⟨_, tyxT a, kit_ty (by decide +kernel)⟩
theorem odd_bad {K : PySem.W.Frag} {H : Hp} {z : Str} {v : V} {d : PyData} (h : Dp K H v d) (o : oddD z d) : BadP K H z v := by
  rcases o with ⟨y, rfl, l, _, t⟩ | rfl | ⟨i, rfl⟩ | ⟨y, rfl, _⟩
  · cases h; exact .inl ⟨y, rfl, l, t⟩
  · exact .inr (noText_dp h fun y q => nomatch q)
  · exact .inr (noText_dp h fun y q => nomatch q)
  · exact .inr (noText_dp h fun y q => nomatch q)
/-- a paper handed in -/
def PapAt (K : PySem.W.Frag) (H : Hp) (z : Str) : Sn → Prop
  | .good p f => Pp (tl z) (tl p) ∧ f = 1
  | .odd y f => f = 1 ∧ ∃ d, Dp K H y d ∧ oddD z d
theorem PapAt.kt {K : PySem.W.Frag} {H H' : Hp} {z : Str} (k : KT K H H') : ∀ {s : Sn}, PapAt K H z s → PapAt K H' z s
  | .good _ _, h => h
  | .odd _ _, ⟨a, d, h, o⟩ => ⟨a, d, dp_nol k _ _ o.facts.1 h, o⟩
theorem PapAt.same {K : PySem.W.Frag} {H H' : Hp} {z : Str} (k : Same H H') : ∀ {s : Sn}, PapAt K H z s → PapAt K H' z s
  | .good _ _, h => h
  | .odd _ _, ⟨a, d, h, o⟩ => ⟨a, d, dp_keep (Same.keeps k) _ _ h, o⟩
theorem PapAt.fits {K : PySem.W.Frag} {H : Hp} {z : Str} : ∀ {s : Sn}, PapAt K H z s → s.fits K H z
  | .good _ _, h => h.1
  | .odd _ _, ⟨_, d, h, o⟩ => fun H' s' => odd_bad (dp_keep (Same.keeps s') _ _ h) o
theorem PapAt.flag {K : PySem.W.Frag} {H : Hp} {z : Str} : ∀ {s : Sn}, PapAt K H z s → s.flag = 1
  | .good _ _, h => h.2
  | .odd _ _, h => h.1
/-- a wrong rule and its place -/
structure Wn where
  M : Addr
  W : Addr
  at_ : Nat
  rv : V
  bv : V
  l : Wl
structure WnAt (K : PySem.W.Frag) (H : Hp) (e : Wn) : Prop where
  eM : H e.M = some (.lst [vi e.at_, .ref e.W])
  eW : H e.W = some (.lst [e.rv, .str e.l.word, e.bv])
  rd : Dp K H e.rv (e.l.data true)
  bd : Dp K H e.bv (e.l.what true)
  ok : e.l.ok
theorem Wl.nol {l : Wl} (h : l.ok) : nol (l.data true) = true ∧ nol (l.what true) = true := by
  cases l with
  | many => exact ⟨nest_nol 40, by simp [Wl.what, K4.nol]⟩
  | bad d b => exact ⟨h.1.2.1, h.2.1.2.1⟩
theorem WnAt.keep {K : PySem.W.Frag} {H H' : Hp} {e : Wn} (h : WnAt K H e) (kt : KT K H H') (kM : ∀ o, H e.M = some o → H' e.M = some o) (kW : ∀ o, H e.W = some o → H' e.W = some o) : WnAt K H' e :=
  ⟨kM _ h.eM, kW _ h.eW, dp_nol kt _ _ (Wl.nol h.ok).1 h.rd, dp_nol kt _ _ (Wl.nol h.ok).2 h.bd, h.ok⟩
def Wl.rl (t : Bool) : Wl → Rl
  | .many => .many (nestR 40) t
  | .bad d b => .bad (if t = true then d else lstd d) (if t = true then b else lstd b)
theorem Wl.rl_data (t : Bool) (l : Wl) : (l.rl t).data = l.data t := by cases l <;> rfl
theorem Wl.rl_no (t : Bool) (l : Wl) : (l.rl t).isOk = false := by cases l <;> rfl
theorem nest_ok (m : Nat) {z : Str} (g : Good z) : (nestR m).ok := good_ok g (nest_fit (tl z) m)
theorem Wl.fits {l : Wl} (h : l.ok) {z : Str} (g : Good z) (z4 : (tl z).length ≤ 4) (t : Bool) : (l.rl t).fits z := by
  have z2 : 2 ≤ (tl z).length := g.lo
  have lz := len_tl z
  cases l with
  | many =>
    have hp := nest_parts 40
    have hd := (nestR 40).depth_le
    exact ⟨nest_fit _ 40, nest_ok 40 g, by omega, by omega⟩
  | bad d b =>
    obtain ⟨⟨o1, o2, o3⟩, ⟨p1, p2, p3, p4⟩, hc⟩ := h
    obtain ⟨c1, c2⟩ := hc z (by omega) (by omega)
    cases t
    · exact ⟨lst_okd d o2 o1, by show (lstd d).depth < 60; rw [lst_dep d o2]; omega, c2⟩
    · exact ⟨o1, by show d.depth < 60; omega, c1⟩
end K4

/-! L69o -/


namespace K4
open PySem L2 K1
theorem ixN_of {n k : Nat} (h : k < n) : ixN n (k : Int) = some k := by
  unfold ixN
  rw [if_pos (by omega), if_pos (by omega), Int.toNat_natCast]
theorem dpA_set {K : PySem.W.Frag} {H : Hp} {v : V} {d : PyData} (h : Dp K H v d) : ∀ {vs : List V} {ds : List PyData} (i : Nat), DpAll K H vs ds → DpAll K H (vs.set i v) (ds.set i d)
  | _, _, _, .nil => .nil
  | _, _, 0, .cons a b => .cons h b
  | _, _, i + 1, .cons a b => .cons a (dpA_set h i b)
def setV (es : List Wn) (vl : List V) : List V := es.foldl (fun v e => v.set e.at_ e.rv) vl
def setR (t : Bool) (es : List Wn) (ls : List Rl) : List Rl := es.foldl (fun l e => l.set e.at_ (e.l.rl t)) ls
theorem setV_len (es : List Wn) : ∀ vl : List V, (setV es vl).length = vl.length := by
  induction es with
  | nil => intro vl; rfl
  | cons e es ih => intro vl; show (setV es (vl.set e.at_ e.rv)).length = _; rw [ih, List.length_set]
theorem setR_len (t : Bool) (es : List Wn) : ∀ ls : List Rl, (setR t es ls).length = ls.length := by
  induction es with
  | nil => intro vl; rfl
  | cons e es ih => intro vl; show (setR t es (vl.set e.at_ (e.l.rl t))).length = _; rw [ih, List.length_set]
theorem setV_take {es : List Wn} {i : Nat} {e : Wn} (h : es[i]? = some e) (vl : List V) : setV (es.take (i + 1)) vl = (setV (es.take i) vl).set e.at_ e.rv := by
  unfold setV
  rw [List.take_succ, h, List.foldl_append]
  rfl
theorem dpA_setR {K : PySem.W.Frag} {H : Hp} : ∀ {es : List Wn} {vl : List V} {ls : List Rl}, (∀ e ∈ es, WnAt K H e) → DpAll K H vl (ls.map Rl.data) → DpAll K H (setV es vl) ((setR true es ls).map Rl.data)
  | [], _, _, _, h => h
  | e :: es, vl, ls, he, h => by
    refine dpA_setR (es := es) (vl := vl.set e.at_ e.rv) (ls := ls.set e.at_ (e.l.rl true)) (fun x hx => he x (List.mem_cons_of_mem _ hx)) ?_
    rw [List.map_set]
    exact dpA_set (by rw [Wl.rl_data]; exact (he e (List.mem_cons_self ..)).rd) _ h
theorem setR_mem {t : Bool} {l : Rl} : ∀ {es : List Wn} {ls : List Rl}, l ∈ setR t es ls → l ∈ ls ∨ ∃ e ∈ es, l = e.l.rl t
  | [], _, h => .inl h
  | e :: es, ls, h => by
    rcases setR_mem (es := es) (ls := ls.set e.at_ (e.l.rl t)) h with q | ⟨x, hx, q⟩
    · rcases List.mem_or_eq_of_mem_set q with q | q
      · exact .inl q
      · exact .inr ⟨e, List.mem_cons_self .., q⟩
    · exact .inr ⟨x, List.mem_cons_of_mem _ hx, q⟩
theorem firstNo_at {ls : List Rl} {i : Nat} {l : Rl} (h : ls[i]? = some l) (hl : l.isOk = false) (hp : ∀ (k : Nat) (y : Rl), k < i → ls[k]? = some y → y.isOk = true) : firstNo ls = some l :=
  firstNo_split h (fun y hy => by
    obtain ⟨k, hk⟩ := List.mem_iff_getElem?.mp hy
    rw [List.getElem?_take] at hk
    by_cases hki : k < i
    · rw [if_pos hki] at hk; exact hp k y hki hk
    · rw [if_neg hki] at hk; cases hk) hl
/-- what is due, once the wrong rules are in place: the last one at the first place -/
def dueE (mn : Int) (es : List Wn) (d : Str × V) : Str × V := es.foldl (fun d e => if (e.at_ : Int) = mn then (e.l.word, e.bv) else d) d
theorem dueE_take {mn : Int} {es : List Wn} {i : Nat} {e : Wn} (h : es[i]? = some e) (d : Str × V) : dueE mn (es.take (i + 1)) d = if (e.at_ : Int) = mn then (e.l.word, e.bv) else dueE mn (es.take i) d := by
  unfold dueE
  rw [List.take_succ, h, List.foldl_append]
  rfl
theorem first_es {es : List Wn} {ls : Bool → List Rl} {mn : Int} (l2 : es.length ≤ 2) (ha : ∀ t, ∀ e ∈ es, e.at_ < (ls t).length) (ok : ∀ t, ∀ l ∈ ls t, l.isOk = true) (m1 : ∀ e ∈ es, mn ≤ (e.at_ : Int)) (m2 : es = [] ∨ ∃ e ∈ es, mn = (e.at_ : Int)) (d : Str × V) :
    (es = [] ∧ dueE mn es d = d ∧ ∀ t, firstNo (setR t es (ls t)) = none) ∨ ∃ e ∈ es, dueE mn es d = (e.l.word, e.bv) ∧ ∀ t, firstNo (setR t es (ls t)) = some (e.l.rl t) := by
  have ok' : ∀ (t : Bool) (k : Nat) (y : Rl), (ls t)[k]? = some y → y.isOk = true := fun t k y h => ok t y (List.mem_of_getElem? h)
  cases es with
  | nil => exact .inl ⟨rfl, rfl, fun t => firstNo_none (ok t)⟩
  | cons e es =>
  cases es with
  | nil =>
    refine .inr ⟨e, List.mem_cons_self .., ?_, ?_⟩
    · obtain ⟨x, hx, hm⟩ := m2.resolve_left (by simp)
      rw [List.mem_singleton.mp hx] at hm
      show (if (e.at_ : Int) = mn then (e.l.word, e.bv) else d) = _
      rw [if_pos hm.symm]
    · intro t
      have h := ha t e (List.mem_cons_self ..)
      refine firstNo_at (i := e.at_) (by show ((ls t).set e.at_ (e.l.rl t))[e.at_]? = _; rw [List.getElem?_set_self h]) (Wl.rl_no t e.l) fun k y hk hy => ?_
      have hy : ((ls t).set e.at_ (e.l.rl t))[k]? = some y := hy
      rw [List.getElem?_set_ne (by omega)] at hy
      exact ok' t k y hy
  | cons e2 es =>
    cases es with
    | cons e3 es => rw [List.length_cons, List.length_cons, List.length_cons] at l2; omega
    | nil =>
    have n1 := m1 e (by simp)
    have n2 := m1 e2 (by simp)
    have hm : mn = (e.at_ : Int) ∨ mn = (e2.at_ : Int) := by
      obtain ⟨x, hx, hm⟩ := m2.resolve_left (by simp)
      simp only [List.mem_cons, List.not_mem_nil, or_false] at hx
      rcases hx with rfl | rfl
      · exact .inl hm
      · exact .inr hm
    have eD : dueE mn [e, e2] d = if (e2.at_ : Int) = mn then (e2.l.word, e2.bv) else if (e.at_ : Int) = mn then (e.l.word, e.bv) else d := rfl
    have eR : ∀ t, setR t [e, e2] (ls t) = ((ls t).set e.at_ (e.l.rl t)).set e2.at_ (e2.l.rl t) := fun t => rfl
    rw [eD]
    by_cases q : (e2.at_ : Int) = mn
    · refine .inr ⟨e2, by simp, by rw [if_pos q], fun t => ?_⟩
      have h1 := ha t e (by simp)
      have h2 := ha t e2 (by simp)
      rw [eR]
      refine firstNo_at (i := e2.at_) (by rw [List.getElem?_set_self (by rw [List.length_set]; exact h2)]) (Wl.rl_no t e2.l) fun k y hk hy => ?_
      rw [List.getElem?_set_ne (by omega), List.getElem?_set_ne (by omega)] at hy
      exact ok' t k y hy
    · have q1 : (e.at_ : Int) = mn := by omega
      refine .inr ⟨e, by simp, by rw [if_neg q, if_pos q1], fun t => ?_⟩
      have h1 := ha t e (by simp)
      have h2 := ha t e2 (by simp)
      rw [eR]
      refine firstNo_at (i := e.at_) (by rw [List.getElem?_set_ne (by omega), List.getElem?_set_self h1]) (Wl.rl_no t e.l) fun k y hk hy => ?_
      rw [List.getElem?_set_ne (by omega), List.getElem?_set_ne (by omega)] at hy
      exact ok' t k y hy
theorem setR_lst {t0 : Bool} : ∀ {es : List Wn} {l1 l2 : List Rl}, (l1.map Rl.data).map lstd = l2.map Rl.data → ((setR true es l1).map Rl.data).map lstd = (setR false es l2).map Rl.data
  | [], _, _, h => h
  | e :: es, l1, l2, h => by
    refine setR_lst (t0 := t0) (es := es) (l1 := l1.set e.at_ (e.l.rl true)) (l2 := l2.set e.at_ (e.l.rl false)) ?_
    rw [List.map_set, List.map_set, List.map_set, h]
    congr 1
    cases e.l with
    | many => exact (nestR 40).lst
    | bad d b => rfl
theorem cutV_1 (xs : List V) : cutV xs none (some 1) = xs.take 1 := by
  unfold cutV
  rw [show HT.sIx xs.length 0 none = 0 from rfl, show HT.sIx xs.length xs.length (some 1) = min 1 xs.length from HT.sIx_nat _ _ 1]
  cases xs with
  | nil => rfl
  | cons x xs => rw [List.drop_zero, Nat.sub_zero, List.length_cons, Nat.min_eq_left (by omega)]
theorem eqv_ones (i j : Int) : PyData.eqv (.list [.int i]) (.list [.int j]) = decide (i = j) := by
  simp [PyData.eqv, PyData.eqvAll]
  first | rfl | (by_cases h : i = j <;> simp [h])
end K4

/-! L69p -/


namespace K4
open PySem L2 K1
/-- what are no signs -/
def sgL : List PyData := [.str "10", .str "0", .str "", .str "00", .str "0a", .str "0123456789ABC", .none, .tuple [.str "0", .str "1"]]
def signsD (d : PyData) : Prop := (nol d = true ∧ d.canLay0 = true ∧ d.depth ≤ 2) ∧ ((∃ y : Str, d = .str y ∧ y.length ≤ 1000 ∧ signsB y = false) ∨ ∀ y, d ≠ .str y)
theorem sg_all : ∀ d ∈ sgL, signsD d := by
  intro d hd
  refine ⟨?_, ?_⟩
  · have h : sgL.all (fun d => nol d && (d.canLay0 && decide (d.depth ≤ 2))) = true := by decide +kernel
    have := List.all_eq_true.mp h d hd
    rw [Bool.and_eq_true, Bool.and_eq_true, decide_eq_true_eq] at this
    exact this
  · simp only [sgL, List.mem_cons, List.not_mem_nil, or_false] at hd
    rcases hd with rfl | rfl | rfl | rfl | rfl | rfl | rfl | rfl
    · exact .inl ⟨_, rfl, by decide +kernel, by decide +kernel⟩
    · exact .inl ⟨_, rfl, by decide +kernel, by decide +kernel⟩
    · exact .inl ⟨_, rfl, by decide +kernel, by decide +kernel⟩
    · exact .inl ⟨_, rfl, by decide +kernel, by decide +kernel⟩
    · exact .inl ⟨_, rfl, by decide +kernel, by decide +kernel⟩
    · exact .inl ⟨_, rfl, by decide +kernel, by decide +kernel⟩
    · exact .inr fun y q => nomatch q
    · exact .inr fun y q => nomatch q
theorem signs_bad {K : PySem.W.Frag} {H : Hp} {v : V} {d : PyData} (h : Dp K H v d) (s : signsD d) : Bads K H v := by
  rcases s.2 with ⟨y, rfl, l, b⟩ | n
  · cases h; exact .inl ⟨y, rfl, l, b⟩
  · exact .inr (noText_dp h n)
def selD (door : Nat) (ss : List Sn) : Option Sn := if door = 0 then (match ss with | s :: _ => if s.isOk = true then none else some s | [] => none) else firstOdd ss
/-- what is due of a call -/
def Verd (K : PySem.W.Frag) (H : Hp) (z : Str) (es : List Wn) (rs : List R) (t : Bool) (sel : Option Sn) (sv : V) (w : Str) (xd : PyData) : Prop := (xd.canLay0 = true ∧ xd.depth ≤ 60 ∧ PyData.strOk w = true) ∧
  ((Dp K H sv xd ∧ signsD xd ∧ w = "signs") ∨ (sv = .str z ∧ ((∃ e ∈ es, e.l.ok ∧ w = e.l.word ∧ xd = e.l.what t ∧ firstNo (setR t es (rs.map fun r => Rl.ok r t)) = some (e.l.rl t)) ∨
    (firstNo (setR t es (rs.map fun r => Rl.ok r t)) = none ∧ (match sel with
      | none => w = "none" ∧ xd = .int 0
      | some s => w = "paper" ∧ Dp K H s.val xd)))))
theorem Verd.same {K : PySem.W.Frag} {H H' : Hp} {z : Str} {es : List Wn} {rs : List R} {t : Bool} {sel : Option Sn} {sv : V} {w : Str} {xd : PyData} (h : Verd K H z es rs t sel sv w xd) (s : Same H H') : Verd K H' z es rs t sel sv w xd := by
  refine ⟨h.1, ?_⟩
  rcases h.2 with ⟨a, b⟩ | ⟨a, b | ⟨c, d⟩⟩
  · exact .inl ⟨dp_keep (Same.keeps s) _ _ a, b⟩
  · exact .inr ⟨a, .inl b⟩
  · refine .inr ⟨a, .inr ⟨c, ?_⟩⟩
    cases sel with
    | none => exact d
    | some s' => exact ⟨d.1, dp_keep (Same.keeps s) _ _ d.2⟩
theorem told_list {w : Str} {xd : PyData} (h1 : xd.canLay0 = true) (h2 : xd.depth ≤ 60) (h3 : PyData.strOk w = true) : SeqAt.shaped (.list [.str w, xd, .bool true]) = true ∧ PyData.eqv (.list [.str w, xd, .bool true]) (.list [.str w, xd, .bool true]) = true := by
  have hc : (PyData.list [.str w, xd, .bool true]).canLay0 = true := by
    rw [PyData.canLay0, PyData.canLayAll0, PyData.canLayAll0, PyData.canLayAll0, PyData.canLayAll0, h1]
    simp [PyData.canLay0, h3]
  refine ⟨shaped0 hc ?_, SeqAt.eqv_refl _ hc⟩
  refine Nat.le_trans (depth_sq (t := false) (n := 60) fun d hd => ?_) (by decide)
  simp only [List.mem_cons, List.not_mem_nil, or_false] at hd
  rcases hd with rfl | rfl | rfl
  · exact Nat.le_trans (Nat.le_of_eq (by simp [PyData.depth])) (Nat.zero_le 60)
  · exact h2
  · exact Nat.le_trans (Nat.le_of_eq (by simp [PyData.depth])) (Nat.zero_le 60)
theorem raised_of {K : PySem.W.Frag} {H : Hp} {Q : VK} {E : XK} {z : Str} {es : List Wn} {rs : List R} {t : Bool} {sv : V} {w : Str} {xd : PyData} {ss : List Sn} {tv PA : Addr} {xs : List V} {door : Nat} (gz : Good z) (z4 : (tl z).length ≤ 4) (hd : door ≤ 1) (ht : SqL K H tv xs)
    (hx : DpAll K H xs ((setR t es (rs.map fun r => Rl.ok r t)).map Rl.data)) (hne : xs ≠ []) (hl : rs.length ≤ 5) (hf : ∀ r ∈ rs, r.fit (tl z) ∧ r.parts ≤ 7) (hes : ∀ e ∈ es, e.l.ok) (hP : H PA = some (.lst (ss.map Sn.val))) (hss : ∀ s ∈ ss, PapAt K H z s) (hsn : ss ≠ []) (hsl : ss.length ≤ 1000)
    (v : Verd K H z es rs t (selD door ss) sv w xd) (k : ∀ H' W x, Same H H' → H W = none → H' W = some (.lst [.str w, x, .bl true]) → Dp K H' x xd → Q (.ref W) H') : spRaised K [vi door, sv, .ref tv, .ref PA] H Q E := by
  have lz := len_tl z
  have z12 : (tl z).length ≤ 12 := gz.hi
  refine ⟨door, sv, .ref tv, PA, xs, _, setR t es (rs.map fun r => Rl.ok r t), ss, rfl, hd, ⟨tv, rfl, .inl ht⟩, hP, rfl, (fun s hs => (hss s hs).flag), hsn, hsl, ?_⟩
  rcases v.2 with ⟨a, b, rfl⟩ | ⟨rfl, c⟩
  · refine .inl ⟨fun H' s' => signs_bad (dp_keep (Same.keeps s') _ _ a) b, hne, fun H' W x s n e p => ?_⟩
    subst p
    exact k H' W _ s n e (dp_keep (Same.keeps s) _ _ a)
  · refine .inr ⟨z, rfl, by omega, good_nd gz, good_signs gz, ⟨hx, by rw [setR_len, List.length_map]; omega, fun l hl => ?_⟩, fun s hs => (hss s hs).fits, ?_⟩
    · rcases setR_mem hl with q | ⟨e, he, rfl⟩
      · obtain ⟨r, hr, rfl⟩ := List.mem_map.mp q
        obtain ⟨f1, f2⟩ := hf r hr
        exact ⟨f1, good_ok gz f1, by omega⟩
      · exact Wl.fits (hes e he) gz z4 t
    · rcases c with ⟨e, he, ok, rfl, rfl, fn⟩ | ⟨fn, c⟩
      · rw [fn]
        cases hel : e.l with
        | many =>
          rw [hel] at k
          exact fun H' W x s n e' p => by subst p; exact k H' W _ s n e' (.str _)
        | bad d b =>
          rw [hel] at k
          exact fun H' W x s n e' p => k H' W x s n e' p
      · rw [fn]
        show (match selD door ss with
          | some s => Told H Q "paper" fun x _ => x = s.val
          | none => Told H Q "none" fun x _ => x = .int 0)
        cases hsel : selD door ss with
        | none =>
          rw [hsel] at c
          obtain ⟨rfl, rfl⟩ := c
          exact fun H' W x s n e' p => by subst p; exact k H' W _ s n e' (.int 0)
        | some s0 =>
          rw [hsel] at c
          obtain ⟨rfl, c2⟩ := c
          exact fun H' W x s n e' p => by subst p; exact k H' W _ s n e' (dp_keep (Same.keeps s) _ _ c2)
end K4

/-! L69n -/


namespace K4
open PySem L2 K1
abbrev scLErrI : Scope := { kind := ScopeKind.function, names := [(".0", NameKind.local), ("_law_paper", NameKind.local), ("isinstance", NameKind.globalImplicit), ("str", NameKind.globalImplicit), ("len", NameKind.globalImplicit), ("all", NameKind.globalImplicit), ("_law_signs", NameKind.cell)], isGenerator := false, isCoroutine := false }
abbrev sLErrors : Stmt := top 84
abbrev nLErrors : List Str := ["_law_script", "_law_bag", "_law_signs", "_law_rules", "_law_due", "_law_odd", "_law_papers", "_law_k", "_law_fine", "_law_wrong", "_law_at", "_law_one", "_law_ahead", "_law_told", "_law_paper", "_law_sign"]
theorem scLErrors : FnScope nLErrors ["_law_script"] (defScope sLErrors) := ⟨rfl, rfl, rfl, by decide +kernel, rfl, by decide +kernel, by decide +kernel⟩
def spErrH (K : PySem.W.Frag) : Sp := fun vs H Q _ => ∃ (a : Addr) (ns : List Int), vs = [.ref a] ∧ SqL K H a (ns.map V.int) ∧ ns.length ≤ 63 ∧ ∀ H', Q (.bl true) H'
/-- an if that goes on the same whichever way it took -/
theorem r_seqIf {c : TT} {t u rest : TS} {D : Ends} {σ : L2.St} {H : Hp} (A : L2.St → Hp → Prop) (q : ∀ N : L2.St → Hp → Prop, (∀ σ' H', A σ' H' → N σ' H') → tIfS c t u { D with nx := N } σ H) (key : ∀ σ' H', A σ' H' → rest D σ' H') : tSeq (tIfS c t u) rest D σ H := q _ key
theorem pap_el {K : PySem.W.Frag} {H : Hp} {z : Str} : ∀ {s : Sn}, PapAt K H z s → (∃ y : Str, s.val = .str y ∧ y.length ≤ 1000 ∧ textB 0 60 z y = s.isOk) ∨ (NoText K H s.val ∧ s.isOk = false)
  | .good p _, h => .inl ⟨p, rfl, pp_len h.1, pp_text h.1⟩
  | .odd v _, ⟨_, d, h, o⟩ => by
    rcases odd_bad h o with ⟨y, e, l, t⟩ | n
    · exact .inl ⟨y, e, l, t⟩
    · exact .inr ⟨n, rfl⟩
def dueW (ss : List Sn) : Str := match firstOdd ss with
  | none => "none"
  | some _ => "paper"
def dueX (ss : List Sn) : V := match firstOdd ss with
  | none => .int 0
  | some s => s.val
theorem first_ix : ∀ {ss : List Sn}, (ss.map Sn.isOk).all id = false → ∃ (j : Nat) (s : Sn), firstOdd ss = some s ∧ ss[j]? = some s ∧ s.isOk = false ∧ ∀ (m : Nat) (s' : Sn), m < j → ss[m]? = some s' → s'.isOk = true
  | [], h => by cases h
  | s :: ss, h => by
    cases hs : s.isOk with
    | false => exact ⟨0, s, by unfold firstOdd; rw [List.find?_cons, hs]; rfl, rfl, hs, fun m s' hm _ => absurd hm (Nat.not_lt_zero m)⟩
    | true =>
      rw [List.map_cons, List.all_cons, hs] at h
      obtain ⟨j, s0, h1, h2, h3, h4⟩ := first_ix (ss := ss) (by simpa using h)
      refine ⟨j + 1, s0, ?_, h2, h3, fun m s' hm e => ?_⟩
      · unfold firstOdd at h1 ⊢
        rw [List.find?_cons, hs]
        exact h1
      · cases m with
        | zero => obtain rfl := Option.some.inj e; exact hs
        | succ m => exact h4 m s' (by omega) e
theorem first_no {ss : List Sn} (h : (ss.map Sn.isOk).all id = true) : firstOdd ss = none := firstOdd_none fun s hs => List.all_eq_true.mp h s.isOk (List.mem_map_of_mem hs)
theorem odd_sign {z y : Str} (g : Good z) {c : Nat} (h : c ∈ tl y) (n : c ∉ tl ALL) : textB 0 60 z y = false := by
  unfold textB
  have e : ((tl y).all fun c => decide (c ∈ tl z)) = false := by
    rw [List.all_eq_false]
    exact ⟨c, h, by rw [decide_eq_true_eq]; exact fun q => n (g.all c q)⟩
  rw [e, Bool.and_false, Bool.and_false]
theorem odd_long {z y : Str} (h : 60 < y.length) : textB 0 60 z y = false := by
  unfold textB
  rw [decide_eq_false (show ¬ ((y.length : Int) ≤ 60) by omega), Bool.false_and, Bool.and_false]
theorem odd_all {K : PySem.W.Frag} {H : Hp} {z : Str} {c0 c1 : Nat} {T : Addr} (g : Good z) (h0 : c0 ∈ tl z) (h1 : c1 ∈ tl z) (eT : H T = some (.tup [V.str ⟨#[c0]⟩])) {x : V}
    (hx : x ∈ [V.str "a", .str (⟨#[c0]⟩ ++ "*"), .str (repS ⟨#[c1]⟩ 61), .non, .int 5, .ref T, .str (⟨#[c0]⟩ ++ " ")]) : PapAt K H z (.odd x 1) := by
  refine ⟨rfl, ?_⟩
  have t0 : tl (⟨#[c0]⟩ : Str) = [c0] := rfl
  have b0 := all_lt c0 (g.all c0 h0)
  have b1 := all_lt c1 (g.all c1 h1)
  simp only [List.mem_cons, List.not_mem_nil, or_false] at hx
  rcases hx with rfl | rfl | rfl | rfl | rfl | rfl | rfl
  · exact ⟨_, .str _, .inl ⟨_, rfl, by decide +kernel, by decide +kernel, odd_sign g (c := 97) (by decide +kernel) (by decide +kernel)⟩⟩
  · refine ⟨_, .str _, .inl ⟨_, rfl, ?_, strOk_of fun c hc => ?_, odd_sign g (c := 42) ?_ (by decide +kernel)⟩⟩
    · rw [app_lenS]
      show 1 + _ ≤ 1000
      decide +kernel
    · rw [tl_app, t0] at hc
      rcases List.mem_append.mp hc with q | q
      · rw [List.mem_singleton.mp q]; exact b0
      · exact (show ∀ c ∈ tl "*", c < 1114112 by decide +kernel) c q
    · rw [tl_app]; exact List.mem_append_right _ (by decide +kernel)
  · have l1 : (tl (repS ⟨#[c1]⟩ 61)).length = 61 := by rw [rep_len]; rfl
    have l2 := len_tl (repS ⟨#[c1]⟩ 61)
    refine ⟨_, .str _, .inl ⟨_, rfl, by omega, strOk_of fun c hc => ?_, odd_long (by omega)⟩⟩
    have := rep_mem hc
    rw [show tl (⟨#[c1]⟩ : Str) = [c1] from rfl] at this
    rw [List.mem_singleton.mp this]; exact b1
  · exact ⟨_, .non, .inr (.inl rfl)⟩
  · exact ⟨_, .int 5, .inr (.inr (.inl ⟨5, rfl⟩))⟩
  · refine ⟨_, .tup (SqT.of eT) (.cons (.str _) .nil), .inr (.inr (.inr ⟨_, rfl, strOk_of fun c hc => ?_, by show 1 ≤ 1000; decide⟩))⟩
    rw [t0] at hc
    rw [List.mem_singleton.mp hc]; exact b0
  · refine ⟨_, .str _, .inl ⟨_, rfl, ?_, strOk_of fun c hc => ?_, odd_sign g (c := 32) ?_ (by decide +kernel)⟩⟩
    · rw [app_lenS]
      show 1 + _ ≤ 1000
      decide +kernel
    · rw [tl_app, t0] at hc
      rcases List.mem_append.mp hc with q | q
      · rw [List.mem_singleton.mp q]; exact b0
      · exact (show ∀ c ∈ tl " ", c < 1114112 by decide +kernel) c q
    · rw [tl_app]; exact List.mem_append_right _ (by decide +kernel)
section
variable {P : Program} {w : World} {K : PySem.W.Frag} {mg : Str → Option Value} {base : Heap}
theorem ok_errH {f : Addr} {fd : FuncData} (F : Fun K "_law_errors_hold" "_law_errors_hold" sLErrors f fd) (B : Bl mg) (Ob : OBagOf P w K mg base) (Oso : OSignsOf P w K mg base) (Oru : ORulesOf P w K mg base) (Op : OPick P w K mg base) (Oo : OOneOf P w K mg base) (Owr : OWrong P w K mg base)
    (Oll : OLLL 60 P w K mg base) (Old : OLL 60 P w K mg base) (Ora : ORaised P w K mg base) : FnOk P w K mg base CX0 72 f fd ["_law_script"] (spErrH K) := by
  refine F.ok scLErrors (fun vs H Q E h => ?_) (fun cdv A outer s H vs Q E hr h => ?_)
  · obtain ⟨a, ns, rfl, _⟩ := h
    rfl
  · obtain ⟨a, ns, rfl, hS, hlen, k⟩ := h
    refine ⟨_, (pss_cons (ps_set (i := 1) scLErrors.nd rfl (Or.inl rfl) (pe_own Ob (hr.mono (by omega)) (pa_cons (pv 0) (pa_cons pe_int pa_nil)))) (pss_cons (ps_set (i := 2) scLErrors.nd rfl (Or.inr rfl) (pe_own Oso (hr.mono (by omega)) (pa_cons (pv 1) (pa_cons pe_int pa_nil)))) (pss_cons (ps_set (i := 3) scLErrors.nd rfl (Or.inl rfl) (pe_own Oru (hr.mono (by omega)) (pa_cons (pv 1) (pa_cons (pv 2) pa_nil)))) (pss_cons (ps_set (i := 4) scLErrors.nd rfl (Or.inl rfl) (pe_lst (pa_cons pe_str (pa_cons pe_int pa_nil)))) (pss_cons (ps_set (i := 5) scLErrors.nd rfl (Or.inl rfl) (pe_lst (pa_cons pe_str (pa_cons (pe_op op_add_str (pe_ix ix_str (pv 2) pe_int (fun _ _ => rfl)) pe_str) (pa_cons (pe_op op_mul_str (pe_ix ix_str (pv 2) pe_int (fun _ _ => rfl)) pe_int) (pa_cons pe_non (pa_cons pe_int (pa_cons (pe_tup (pa_cons (pe_ix ix_str (pv 2) pe_int (fun _ _ => rfl)) pa_nil)) (pa_cons (pe_op op_add_str (pe_ix ix_str (pv 2) pe_int (fun _ _ => rfl)) pe_str) pa_nil))))))))) (pss_cons (ps_set (i := 6) scLErrors.nd rfl (Or.inl rfl) (pe_lst (pa_cons (pe_op op_mul_str (pe_ix ix_str (pv 2) pe_int (fun _ _ => rfl)) pe_int) (pa_cons pe_str pa_nil)))) (pss_cons (ps_for PassesOwn.never rfl (pi_range1 rfl B.range (pa_cons (pe_own Op (hr.mono (by omega)) (pa_cons (pv 1) (pa_cons pe_int pa_nil))) pa_nil)) (pg_name (i := 7) scLErrors.nd rfl (Or.inl rfl)) (pss_one (ps_expr (pe_bm PySem.F.plainAttrs_list PySem.F.slot_list_insert PySem.F.type_list_insert mt_insert (pv 6) (pa_cons (pe_own Op (hr.mono (by omega)) (pa_cons (pv 1) (pa_cons (pe_op op_add (pe_callB call_len (by rfl) B.len PySem.boot_len (pa_cons (pv 6) pa_nil)) pe_int) pa_nil))) (pa_cons (pe_own Oo (hr.mono (by omega)) (pa_cons (pv 1) (pa_cons (pv 5) pa_nil))) pa_nil)))))) (pss_cons (ps_setLc (i := 8) (own := [("_law_paper", 14)]) (g := gName 14) (tt := tYes) rfl scLErrors.nd rfl rfl (sw_true rfl rfl rfl (by decide +kernel)) (pi_list (pv 6)) (blkOk_by (N := nLErrors) (sc := defScope sLErrors) (by decide +kernel)) (fun _ _ _ _ _ => (pg_name (i := 14) scLErrors.nd rfl (Or.inl rfl))) (fun _ _ _ _ _ => pts_nil) (fun _ _ _ _ _ => (pe_and (pe_callB (id := "isinstance") (r := rIsi K) call_isi (by rfl) B.isin (by decide +kernel) (pa_cons (pv 14) (pa_cons (pe_bltn (v := .ty "str") (by rfl) B.str (by decide +kernel) rfl) pa_nil))) (pe_and (pe_cmpR op_lt (pe_callB (r := rLenK K) call_len (by rfl) B.len PySem.boot_len (pa_cons (pv 14) pa_nil)) pe_int (nomark _)) (pe_one (pe_callB (id := "all") (r := rAll K) (cr_all rfl) (by rfl) B.all (by decide +kernel) (pa_cons (pe_lc (own := [("_law_sign", 15)]) (g := gName 15) (tt := tYes) rfl scLErrors.nd (pi_str (pv 14)) (blkOk_by (N := nLErrors) (sc := scLErrI) (by decide +kernel)) (fun _ _ _ _ _ => (pg_name (i := 15) scLErrors.nd rfl (Or.inl rfl))) (fun _ _ _ _ _ => pts_nil) (fun _ _ _ _ _ => (pe_cmpR op_in_sign (pv 15) (pv 2) (by rfl)))) pa_nil))))))) (pss_cons (ps_if (pt_not (pt_val (pe_callB (cr_all rfl) (by rfl) B.all (by decide +kernel) (pa_cons (pv 8) pa_nil)))) (pss_one (ps_set (i := 4) scLErrors.nd rfl (Or.inl rfl) (pe_lst (pa_cons pe_str (pa_cons (pe_ix ix_list (pv 6) (pe_bm PySem.F.plainAttrs_list PySem.F.slot_list_index PySem.F.type_list_index mt_index (pv 8) (pa_cons pe_bl pa_nil)) (fun _ _ => rfl)) pa_nil))))) pss_nil) (pss_cons (ps_set (i := 9) scLErrors.nd rfl (Or.inl rfl) (pe_lst pa_nil)) (pss_cons (ps_for PassesOwn.never rfl (pi_range1 rfl B.range (pa_cons (pe_ix ix_list (pe_lst (pa_cons pe_int (pa_cons pe_int (pa_cons pe_int (pa_cons pe_int pa_nil))))) (pe_own Op (hr.mono (by omega)) (pa_cons (pv 1) (pa_cons pe_int pa_nil))) (fun _ _ => rfl)) pa_nil)) (pg_name (i := 7) scLErrors.nd rfl (Or.inl rfl)) (pss_one (ps_expr (pe_bm PySem.F.plainAttrs_list PySem.F.slot_list_append PySem.F.type_list_append mt_append (pv 9) (pa_cons (pe_lst (pa_cons (pe_own Op (hr.mono (by omega)) (pa_cons (pv 1) (pa_cons (pe_callB call_len (by rfl) B.len PySem.boot_len (pa_cons (pv 3) pa_nil)) pa_nil))) (pa_cons (pe_own Owr (hr.mono (by omega)) (pa_cons (pv 1) (pa_cons (pe_tup (pa_cons pe_str pa_nil)) pa_nil))) pa_nil))) pa_nil))))) (pss_cons (ps_for PassesOwn.never rfl (pi_list (pv 9)) (pg_sq rfl (pgs_cons (pg_name (i := 10) scLErrors.nd rfl (Or.inl rfl)) (pgs_cons (pg_name (i := 11) scLErrors.nd rfl (Or.inl rfl)) pgs_nil))) (pss_one (ps_asg (pe_ix ix_list (pv 11) pe_int (fun _ _ => rfl)) (pg_sub (pv 3) (pv 10) set_list)))) (pss_cons (ps_set (i := 12) scLErrors.nd rfl (Or.inl rfl) (pe_slice sl_list (pe_callB (r := rSorted K) cr_sorted (by rfl) B.sorted (by decide +kernel) (pa_cons (pe_lc (own := [("_law_at", 10), ("_law_one", 11)]) (g := gSq K 2 (gCons (gName 10) (gCons (gName 11) gNil))) (tt := tYes) rfl scLErrors.nd (pi_list (pv 9)) (blkOk_by (N := nLErrors) (sc := defScope sLErrors) (by decide +kernel)) (fun _ _ _ _ _ => (pg_sq rfl (pgs_cons (pg_name (i := 10) scLErrors.nd rfl (Or.inl rfl)) (pgs_cons (pg_name (i := 11) scLErrors.nd rfl (Or.inl rfl)) pgs_nil)))) (fun _ _ _ _ _ => pts_nil) (fun _ _ _ _ _ => (pv 10))) pa_nil)) po_none (po_some pe_int))) (pss_cons (ps_for PassesOwn.never rfl (pi_list (pv 9)) (pg_sq rfl (pgs_cons (pg_name (i := 10) scLErrors.nd rfl (Or.inl rfl)) (pgs_cons (pg_name (i := 11) scLErrors.nd rfl (Or.inl rfl)) pgs_nil))) (pss_one (ps_if (pt_cmpR (op_eqD hr.units) (pe_lst (pa_cons (pv 10) pa_nil)) (pv 12) (nomark _)) (pss_one (ps_set (i := 4) scLErrors.nd rfl (Or.inl rfl) (pe_lst (pa_cons (pe_ix ix_list (pv 11) pe_int (fun _ _ => rfl)) (pa_cons (pe_ix ix_list (pv 11) pe_int (fun _ _ => rfl)) pa_nil))))) pss_nil))) (pss_cons (ps_if (pt_cmpR op_eq (pe_own Op (hr.mono (by omega)) (pa_cons (pv 1) (pa_cons pe_int pa_nil))) pe_int (nomark _)) (pss_cons (ps_set (i := 2) scLErrors.nd rfl (Or.inr rfl) (pe_own Oo (hr.mono (by omega)) (pa_cons (pv 1) (pa_cons (pe_lst (pa_cons pe_str (pa_cons pe_str (pa_cons pe_str (pa_cons pe_str (pa_cons pe_str (pa_cons pe_str (pa_cons pe_non (pa_cons (pe_tup (pa_cons pe_str (pa_cons pe_str pa_nil))) pa_nil))))))))) pa_nil)))) (pss_one (ps_set (i := 4) scLErrors.nd rfl (Or.inl rfl) (pe_lst (pa_cons pe_str (pa_cons (pv 2) pa_nil)))))) pss_nil) (pss_cons (ps_set (i := 13) scLErrors.nd rfl (Or.inl rfl) (pv 3)) (pss_cons (ps_if (pt_cmpR op_eq (pe_own Op (hr.mono (by omega)) (pa_cons (pv 1) (pa_cons pe_int pa_nil))) pe_int (nomark _)) (pss_cons (ps_set (i := 13) scLErrors.nd rfl (Or.inl rfl) (pe_own Oll (hr.mono (by omega)) (pa_cons (pv 3) pa_nil))) (pss_one (ps_set (i := 4) scLErrors.nd rfl (Or.inl rfl) (pe_lst (pa_cons (pe_ix ix_list (pv 4) pe_int (fun _ _ => rfl)) (pa_cons (pe_ifExp (pt_cmpR op_eq (pe_ix ix_list (pv 4) pe_int (fun _ _ => rfl)) pe_str (nomark _)) (pe_own Old (hr.mono (by omega)) (pa_cons (pe_ix ix_list (pv 4) pe_int (fun _ _ => rfl)) pa_nil)) (pe_ix ix_list (pv 4) pe_int (fun _ _ => rfl))) pa_nil)))))) pss_nil) (pss_cons (ps_if (pt_cmpR (op_neD hr.units) (pe_own Ora (hr.mono (by omega)) (pa_cons pe_int (pa_cons (pv 2) (pa_cons (pv 13) (pa_cons (pv 6) pa_nil))))) (pe_op op_cat (pv 4) (pe_lst (pa_cons pe_bl pa_nil))) (nomark _)) (pss_one (ps_ret pe_bl)) pss_nil) (pss_cons (ps_if (PW.pt (pw_and (pt_cmpR op_eq (pe_ix ix_list (pv 4) pe_int (fun _ _ => rfl)) pe_str (nomark _)) (pw_and1 (pt_val (pe_ix ix_list (pv 8) pe_int (fun _ _ => rfl)))))) (pss_one (ps_set (i := 4) scLErrors.nd rfl (Or.inl rfl) (pe_lst (pa_cons pe_str (pa_cons pe_int pa_nil))))) pss_nil) (pss_one (ps_ret (pe_cmpR (op_eqD hr.units) (pe_own Ora (hr.mono (by omega)) (pa_cons pe_int (pa_cons (pv 2) (pa_cons (pv 13) (pa_cons (pv 6) pa_nil))))) (pe_op op_cat (pv 4) (pe_lst (pa_cons pe_bl pa_nil))) (nomark _))))))))))))))))))))))), ?_⟩
    try dsimp only [cxOf, Cx.nox, Cx.wish]
    walk_at "go"
    refine ⟨a, ns, 3, rfl, hS, hlen, by decide, by decide, fun H1 b s1 hb0 hb1 => ?_⟩
    walk_at "go"
    refine ⟨b, 0, rfl, hb1, by decide, fun H2 z gz z4 hb2 k2 => ?_⟩
    have z2 : 2 ≤ (tl z).length := gz.lo
    have z12 : (tl z).length ≤ 12 := gz.hi
    have lz := len_tl z
    walk_at "go"
    refine ⟨b, z, _, rfl, hb2, by decide, gz, fun H3 L vl rs hL eL dA hrs l1 l5 hb3 k3 => ?_⟩
    have nLb : L ≠ b := fun q => by
      obtain ⟨_, _, _, e, _⟩ := hb2
      rw [q, e] at hL; cases hL
    clear k3 k2 hb2 hb1 s1 hb0 hL hS
    walk_at "go"
    refine ⟨(by show 2 ≤ sizeLine; decide), fun D0 hD0 => ?_⟩
    have sD := same_new (o := HO.lst [V.str "none", V.int 0]) hD0
    have eD : (upd H3 D0 (.lst [V.str "none", V.int 0])) D0 = some (.lst [V.str "none", V.int 0]) := upd_same
    have nDb := hb3.ne hD0
    have nDL : D0 ≠ L := (ne_of_none eL hD0).symm
    have hb4 := hb3.same sD
    have eL4 := sD _ _ eL
    have dA4 := dpA_keep (Same.keeps sD) _ _ dA
    revert eD hb4 eL4 dA4
    generalize upd H3 D0 (.lst [V.str "none", V.int 0]) = H4
    clear sD dA eL hb3 hD0
    intro eD hb4 eL4 dA4
    obtain ⟨c0, zt, hz⟩ : ∃ c0 zt, tl z = c0 :: zt := by
      cases hq : tl z with
      | nil => rw [hq] at z2; exact absurd z2 (by decide)
      | cons a b => exact ⟨a, b, rfl⟩
    obtain ⟨c1, zu, rfl⟩ : ∃ c1 zu, zt = c1 :: zu := by
      cases zt with
      | nil => rw [hz] at z2; exact absurd z2 (by show ¬ 2 ≤ 1; decide)
      | cons a b => exact ⟨a, b, rfl⟩
    have i0 : atI z.cps.toList 0 = some c0 := by
      show atI (tl z) 0 = _
      rw [hz]; exact atI_nat (j := 0) rfl
    have i1 : atI z.cps.toList 1 = some c1 := by
      show atI (tl z) 1 = _
      rw [hz]; exact atI_nat (j := 1) rfl
    have zl : z.length ≤ sizeLine := Nat.le_of_lt (line60 (by omega))
    walk_at "go"
    refine r_ixS zl i0 ?_
    have o1 : ∀ c : Nat, (⟨#[c]⟩ : Str).length = 1 := fun c => rfl
    have lst1 : ("*" : Str).length = 1 := by decide +kernel
    have lsp1 : (" " : Str).length = 1 := by decide +kernel
    refine ⟨_, _, rfl, rfl, by rw [o1, lst1]; decide +kernel, ?_⟩
    walk_at "go"
    refine r_ixS zl i1 ?_
    have e61 : (61 : Int).toNat = 61 := rfl
    refine ⟨_, _, rfl, rfl, by decide, by decide, by rw [o1]; decide, by rw [o1, e61]; decide +kernel, ?_⟩
    rw [e61]
    walk_at "go"
    refine r_ixS zl i0 ?_
    refine ⟨(by show 1 ≤ sizeLine; decide), fun T hT => ?_⟩
    have sT := same_new (o := HO.tup [V.str ⟨#[c0]⟩]) hT
    have eT : (upd H4 T (.tup [V.str ⟨#[c0]⟩])) T = some (.tup [V.str ⟨#[c0]⟩]) := upd_same
    have nTb := hb4.ne hT
    revert sT eT
    generalize upd H4 T (.tup [V.str ⟨#[c0]⟩]) = H5
    intro sT eT
    walk_at "go"
    refine r_ixS zl i0 ?_
    refine ⟨_, _, rfl, rfl, by rw [o1, lsp1]; decide +kernel, ?_⟩
    walk_at "go"
    refine ⟨(by show 7 ≤ sizeLine; decide), fun O hO => ?_⟩
    have sO := same_new (o := HO.lst [V.str "a", .str (⟨#[c0]⟩ ++ "*"), .str (repS ⟨#[c1]⟩ 61), .non, .int 5, .ref T, .str (⟨#[c0]⟩ ++ " ")]) hO
    have eO : (upd H5 O (.lst [V.str "a", .str (⟨#[c0]⟩ ++ "*"), .str (repS ⟨#[c1]⟩ 61), .non, .int 5, .ref T, .str (⟨#[c0]⟩ ++ " ")])) O = some (.lst [V.str "a", .str (⟨#[c0]⟩ ++ "*"), .str (repS ⟨#[c1]⟩ 61), .non, .int 5, .ref T, .str (⟨#[c0]⟩ ++ " ")]) := upd_same
    have nOb := (hb4.same sT).ne hO
    have s46 := sT.trans sO
    have eT6 := sO _ _ eT
    have hb6 := hb4.same s46
    have eL6 := s46 _ _ eL4
    have eD6 := s46 _ _ eD
    have dA6 := dpA_keep (Same.keeps s46) _ _ dA4
    revert eO eT6 hb6 eL6 eD6 dA6
    generalize upd H5 O (.lst [V.str "a", .str (⟨#[c0]⟩ ++ "*"), .str (repS ⟨#[c1]⟩ 61), .non, .int 5, .ref T, .str (⟨#[c0]⟩ ++ " ")]) = H6
    clear s46 sO sT eT hO hT dA4 eL4 eD hb4 H5 H4
    intro eO eT6 hb6 eL6 eD6 dA6
    have m0 : c0 ∈ tl z := by rw [hz]; exact List.mem_cons_self ..
    have m1 : c1 ∈ tl z := by rw [hz]; exact List.mem_cons_of_mem _ (List.mem_cons_self ..)
    walk_at "go"
    refine r_ixS zl i0 ?_
    have e60 : (60 : Int).toNat = 60 := rfl
    refine ⟨_, _, rfl, rfl, by decide, by decide, by rw [o1]; decide, by rw [o1, e60]; decide +kernel, ?_⟩
    rw [e60]
    walk_at "go"
    refine ⟨(by show 2 ≤ sizeLine; decide), fun PA hPA => ?_⟩
    have nPb := hb6.ne hPA
    have sP := same_new (o := HO.lst [V.str (repS ⟨#[c0]⟩ 60), V.str ""]) hPA
    have eP : (upd H6 PA (.lst [V.str (repS ⟨#[c0]⟩ 60), V.str ""])) PA = some (.lst [V.str (repS ⟨#[c0]⟩ 60), V.str ""]) := upd_same
    have nPL : PA ≠ L := (ne_of_none eL6 hPA).symm
    have hb7 := hb6.same sP
    revert eP sP hb7
    generalize upd H6 PA (.lst [V.str (repS ⟨#[c0]⟩ 60), V.str ""]) = H7
    intro sP eP hb7
    walk_at "go"
    refine ⟨b, 3, _, rfl, hb7, by decide, by decide, fun m H8 m0' m1' hb8 of8 => ?_⟩
    obtain ⟨m, rfl⟩ : ∃ d : Nat, m = (d : Int) := ⟨m.toNat, by omega⟩
    have k8 : Kp b H6 H8 := (Same.kp sP).trans of8.kp
    have eP8 := of8.kp _ _ nPb eP
    walk_at "go"
    have hg60 : Pp (tl z) (tl (repS ⟨#[c0]⟩ 60)) := ⟨by rw [rep_len]; show 60 * 1 ≤ 60; decide, fun c hc => by
      have := rep_mem hc
      rw [show tl (⟨#[c0]⟩ : Str) = [c0] from rfl] at this
      rw [List.mem_singleton.mp this]; exact m0⟩
    have hg0 : Pp (tl z) (tl "") := ⟨by decide +kernel, fun c hc => by
      rw [show tl "" = [] by decide +kernel] at hc; cases hc⟩
    refine ⟨by omega, by omega, fr_range (lo := 0) (n := m) (fun i σ H' => ∃ (o7 : Option V) (ss : List Sn), σ = [some (.ref a), some (.ref b), some (.str z), some (.ref L), some (.ref D0), some (.ref O), some (.ref PA), o7, none, none, none, none, none, none, none, none] ∧ H' PA = some (.lst (ss.map Sn.val)) ∧ (∀ s ∈ ss, PapAt K H' z s) ∧ ss.length = 2 + i ∧ IsBag H' b (30041 + 2 * i) ∧ Kp b H6 H')
      ⟨none, [.good (repS ⟨#[c0]⟩ 60) 1, .good "" 1], rfl, eP8, (fun s hs => by
        simp only [List.mem_cons, List.not_mem_nil, or_false] at hs
        rcases hs with rfl | rfl
        · exact ⟨hg60, rfl⟩
        · exact ⟨hg0, rfl⟩), rfl, hb8.mono (by decide), k8⟩ ?_ ?_⟩
    · rintro i σ H9 hi ⟨o7, ss, rfl, eP9, hss, hl, hb9, k9⟩
      walk_at "go"
      refine ⟨tyL (SqL.of eP9), ?_⟩
      walk_at "go"
      refine ⟨_, _, rfl, lenL (SqL.of eP9), ?_⟩
      walk_at "go"
      rw [List.length_map]
      refine ⟨b, _, _, rfl, hb9, by omega, by omega, fun r1 Ha r10 r11 hb10 of10 => ?_⟩
      have kA := of10.kp
      walk_at "go"
      refine ⟨b, .ref O, _, _, rfl, hb10, by omega, .inr ⟨O, rfl, SqL.of (kA _ _ nOb (k9 _ _ nOb eO)), nOb, by show 7 ≤ 1000; decide⟩, by simp, fun x Hc hx hb11 of11 => ?_⟩
      have k11 := kA.trans of11.kp
      have k6 := k9.trans k11
      have ePc := k11 _ _ nPb eP9
      walk_at "go"
      refine ⟨PA, _, r1, x, rfl, rfl, ePc, line60 (by rw [List.length_map]; omega), r10, by omega, ?_⟩
      have kt : KT K H9 (upd Hc PA (.lst ((ss.map Sn.val).take r1.toNat ++ [x] ++ (ss.map Sn.val).drop r1.toNat))) := KT.trans (bag_kt hb9 k11) (kt_lst ePc)
      refine ⟨_, ss.take r1.toNat ++ [.odd x 1] ++ ss.drop r1.toNat, rfl, ?_, fun s hs => ?_, ?_, (bag_upd hb11 nPb).mono (by omega), kp_upd' k6 hPA⟩
      · rw [upd_same, List.map_append, List.map_append, List.map_take, List.map_drop]
        rfl
      · rcases List.mem_append.mp hs with q | q
        · rcases List.mem_append.mp q with q | q
          · exact PapAt.kt kt (hss s (List.mem_of_mem_take q))
          · rw [List.mem_singleton.mp q]
            have nTP : T ≠ PA := fun q => by rw [q, hPA] at eT6; cases eT6
            exact odd_all gz m0 m1 (by rw [upd_ne nTP]; exact k6 _ _ nTb eT6) hx
        · exact PapAt.kt kt (hss s (List.mem_of_mem_drop q))
      · rw [List.length_append, List.length_append, List.length_take, List.length_drop, List.length_singleton]
        omega
    rintro σ H9 ⟨o7, ss, rfl, eP9, hss, hl, hb9, k9⟩
    have eL9 := k9 _ _ nLb eL6
    have eD9 := k9 _ _ nDb eD6
    have dA9 := dpA_pure (bag_kt hb6 k9) _ _ (pureA_iff.mpr fun y hy => by obtain ⟨u, _, rfl⟩ := List.mem_map.mp hy; exact u.pure) dA6
    have nDP : D0 ≠ PA := fun q => by rw [q, hPA] at eD6; cases eD6
    clear k9 k8 eP8 of8 hb8 hb7 eP sP hPA eT6 eO dA6 eD6 eL6 hb6 hg60 hg0 H8 H7 nTb nOb
    have hl4 : ss.length ≤ 4 := by omega
    have hl2 : 2 ≤ ss.length := by omega
    have hb9' := hb9.mono (show 30041 + 2 * m ≤ 30047 by omega)
    clear hb9 hl m0' m1' m
    walk_at "go"
    refine ⟨⟨_, SqL.of eP9⟩, fun FA hFA => ?_⟩
    refine lc_gen (walk_list (K := K) (a := PA) (xs := ss.map Sn.val)) (fun _ => rfl) (fun acc H' => acc = ((ss.map Sn.isOk).take acc.length).map V.bl ∧ Same H9 H') ⟨rfl, same_new hFA⟩ (fun acc H' _ q => SqL.of (q.2 _ _ eP9)) ?_ ?_
    · rintro i x acc H' hx la hacc ⟨ha, sm⟩
      rw [List.getElem?_map] at hx
      cases hsi : ss[i]? with
      | none => rw [hsi] at hx; cases hx
      | some s =>
      rw [hsi] at hx
      obtain rfl := Option.some.inj hx
      have hil := (List.getElem?_eq_some_iff.mp hsi).1
      have fin : ∀ H2, Same H' H2 → ∃ acc, H2 FA = some (.lst acc) ∧ acc.length < sizeLine ∧ PP FA (fun acc H' => acc = ((ss.map Sn.isOk).take acc.length).map V.bl ∧ Same H9 H') (i + 1) (upd H2 FA (.lst (acc ++ [V.bl s.isOk]))) := fun H2 s2 =>
        pp_next (s2 _ _ hacc) la (line60 (by omega)) ⟨acc_next (f := V.bl) (a := s.isOk) ha la (by rw [List.getElem?_map, hsi]; rfl), same_upd (sm.trans s2) hFA⟩
      rcases pap_el (PapAt.same sm (hss s (List.mem_of_getElem? hsi))) with ⟨y, ey, ly, ty⟩ | ⟨⟨tt, h1, h2⟩, e⟩
      · rw [ey]
        rw [← ty] at fin
        unfold textB at fin
        rw [decide_eq_true (show (0 : Int) ≤ y.length by omega), Bool.true_and] at fin
        walk_at "go"
        refine r_isi (b := true) (.ty "str") (.base (.str _)) (kit_ty (by decide +kernel)) ?_
        walk_at "go"
        refine ⟨_, _, rfl, lenS (small_line ly), ?_⟩
        walk_at "go"
        by_cases h61 : (y.length : Int) ≤ 60
        · rw [decide_eq_true h61, Bool.true_and] at fin
          rw [decide_eq_true (show (y.length : Int) < 61 by omega)]
          walk_at "go"
          intro D hD
          refine lc_smap (fun c => .bl (decide (c ∈ tl z))) hD (small_line ly) (fun _ => rfl) (fun c hc H5 R sm r => ?_) ?_
          · walk_at "go"
            exact ⟨c, z, rfl, rfl, r⟩
          · walk_at "go"
            rw [all_bl]
            refine r_all (SqL.of upd_same) ?_
            have e : ((tl y).map fun c => decide (c ∈ tl z)).all id = (tl y).all fun c => decide (c ∈ tl z) := by rw [List.all_map]; rfl
            rw [e]
            exact fin _ (same_new hD)
        · rw [decide_eq_false h61, Bool.false_and] at fin
          rw [decide_eq_false (show ¬ (y.length : Int) < 61 by omega)]
          walk_at "go"
          exact fin _ (Same.refl _)
      · rw [e] at fin
        walk_at "go"
        refine r_isi (b := false) (.ty "str") h1 h2 ?_
        walk_at "go"
        exact fin _ (Same.refl _)
    rintro acc H10 la eF ⟨ha, s10⟩
    rw [List.length_map] at la
    have lF : (ss.map Sn.isOk).length = ss.length := List.length_map ..
    rw [la, ← lF, List.take_length] at ha
    subst ha
    refine r_name ?_
    try dsimp only [List.set]
    refine r_seqIf (fun σ' H' => ∃ DA : Addr, σ' = [some (.ref a), some (.ref b), some (.str z), some (.ref L), some (.ref DA), some (.ref O), some (.ref PA), o7, some (.ref FA), none, none, none, none, none, none, none] ∧ H' DA = some (.lst [.str (dueW ss), dueX ss]) ∧ Same H10 H' ∧ DA ≠ b ∧ DA ≠ L) (fun N hN => ?_) ?_
    · walk_at "go"
      refine r_all (SqL.of eF) ?_
      cases hall : (ss.map Sn.isOk).all id with
      | true =>
        walk_at "go"
        refine hN _ _ ⟨D0, rfl, ?_, Same.refl _, nDb, nDL⟩
        unfold dueW dueX
        rw [first_no hall]
        exact s10 _ _ eD9
      | false =>
        obtain ⟨j, s, h1, h2, h3, h4⟩ := first_ix hall
        walk_at "go"
        refine ⟨tyL (SqL.of eF), ?_⟩
        walk_at "go"
        refine ⟨FA, _, .bl false, j, .bl s.isOk, rfl, rfl, SqL.of eF, rfl, ?_, by rw [List.getElem?_map, List.getElem?_map, h2]; rfl, by rw [h3]; rfl, fun m z' hm hz' => ?_, ?_⟩
        · rw [List.all_eq_true]
          intro v hv
          obtain ⟨c, _, rfl⟩ := List.mem_map.mp hv
          rfl
        · rw [List.getElem?_map, List.getElem?_map] at hz'
          cases hm2 : ss[m]? with
          | none => rw [hm2] at hz'; cases hz'
          | some s' =>
            rw [hm2] at hz'
            obtain rfl := Option.some.inj hz'
            show eqV (V.bl s'.isOk) (V.bl false) = false
            rw [h4 m s' hm hm2]
            rfl
        refine r_ixL (SqL.of (s10 _ _ eP9)) (atI_nat (j := j) (by rw [List.getElem?_map, h2]; rfl)) ?_
        walk_at "go"
        refine ⟨(by show 2 ≤ sizeLine; decide), fun DA hDA => ?_⟩
        refine hN _ _ ⟨DA, rfl, ?_, same_new hDA, (hb9'.same s10).ne hDA, (ne_of_none (s10 _ _ eL9) hDA).symm⟩
        unfold dueW dueX
        rw [h1]
        exact upd_same
    rintro _ H11 ⟨DA, rfl, eDA, s11, nDAb, nDAL⟩
    have sB := s10.trans s11
    have hb11 := hb9'.same sB
    have eL11 := sB _ _ eL9
    have eP11 := sB _ _ eP9
    have eF11 := s11 _ _ eF
    have dA11 := dpA_keep (Same.keeps sB) _ _ dA9
    have hss11 : ∀ s ∈ ss, PapAt K H11 z s := fun s hs => PapAt.same sB (hss s hs)
    have nFAb := (hb9'.ne hFA)
    have nFAL : FA ≠ L := (ne_of_none eL9 hFA).symm
    clear hss dA9 eP9 eL9 eD9 hb9' sB s11 s10 eF hFA nDP nDb nDL
    have vll : vl.length = rs.length := by have := dpA_len dA11; rw [List.length_map] at this; exact this
    walk_at "go"
    refine ⟨(by show 0 ≤ sizeLine; decide), fun WA hWA => ?_⟩
    have nWAb := hb11.ne hWA
    have nWAL : WA ≠ L := (ne_of_none eL11 hWA).symm
    have nWAP : WA ≠ PA := (ne_of_none eP11 hWA).symm
    have sW := same_new (o := HO.lst []) hWA
    have eW12 : (upd H11 WA (.lst [])) WA = some (.lst []) := upd_same
    have hb12 := hb11.new (o := HO.lst []) hWA
    revert sW eW12 hb12
    generalize upd H11 WA (.lst []) = H12
    intro sW eW12 hb12
    walk_at "go"
    refine pick_new (xs := [0, 1, 1, 2]) hb12 rfl rfl (fun _ _ q => ⟨_, rfl, q⟩) (by decide) (by decide) (by decide) (fun m H13 hm hb13 k13 => ?_)
    have hm2 : m ≤ 2 := by simp only [List.mem_cons, List.not_mem_nil, or_false] at hm; omega
    have eW13 := k13 _ _ nWAb eW12
    have k113 : Kp b H11 H13 := (Same.kp sW).trans k13
    walk_at "go"
    refine ⟨by omega, by omega, fr_range (lo := 0) (n := m) (fun i σ H' => ∃ (o7 : Option V) (es : List Wn), σ = [some (.ref a), some (.ref b), some (.str z), some (.ref L), some (.ref DA), some (.ref O), some (.ref PA), o7, some (.ref FA), some (.ref WA), none, none, none, none, none, none] ∧ H' WA = some (.lst (es.map fun e => .ref e.M)) ∧ (∀ e ∈ es, WnAt K H' e ∧ e.at_ < rs.length ∧ (e.M ≠ b ∧ e.W ≠ b) ∧ (e.M ≠ WA ∧ e.W ≠ WA) ∧ e.M ≠ L ∧ e.W ≠ L) ∧ es.length = i ∧ IsBag H' b (30060 + 20 * i) ∧ Kp b H11 H')
      ⟨o7, [], rfl, eW13, (fun e h => by cases h), rfl, hb13.mono (by decide), k113⟩ ?_ ?_⟩
    · rintro i σ H14 hi ⟨o7', es, rfl, eW14, hes, hl, hb14, k14⟩
      have eL14 := k14 _ _ nLb eL11
      walk_at "go"
      refine ⟨tyL (SqL.of eW14), ?_⟩
      walk_at "go"
      refine ⟨_, _, rfl, lenL (SqL.of eL14), ?_⟩
      walk_at "go"
      refine ⟨b, _, _, rfl, hb14, by omega, by omega, fun r1 H15 r10 r11 hb15 of15 => ?_⟩
      obtain ⟨r1, rfl⟩ : ∃ d : Nat, r1 = (d : Int) := ⟨r1.toNat, by omega⟩
      have k15 : Kp b H14 H15 := of15.kp
      walk_at "go"
      refine ⟨(by show 1 ≤ sizeLine; decide), fun TA hTA => ?_⟩
      have sTA := same_new (o := HO.tup [V.str "any"]) hTA
      have k16 : Kp b H14 (upd H15 TA (.tup [V.str "any"])) := k15.trans (Same.kp sTA)
      have eL16 := k16 _ _ nLb eL14
      have eW16 := k16 _ _ nWAb eW14
      have hb16 := hb15.same sTA
      walk_at "go"
      refine ⟨b, _, .ref TA, rfl, hb16, by omega, dp_tup hTA (.cons (.str _) .nil), fun H17 W rv bv l hW eW d1 d2 ok hb17 k17 => ?_⟩
      have nWb := hb16.ne hW
      have nWW : W ≠ WA := (ne_of_none eW16 hW).symm
      have nWL : W ≠ L := (ne_of_none eL16 hW).symm
      have k147 := k16.trans k17
      have eW17 := k17 _ _ nWAb eW16
      have eL17 := k17 _ _ nLb eL16
      walk_at "go"
      refine ⟨(by show 2 ≤ sizeLine; decide), fun M hM => ?_⟩
      have sM := same_new (o := HO.lst [vi r1, V.ref W]) hM
      have eM : (upd H17 M (.lst [vi r1, V.ref W])) M = some (.lst [vi r1, V.ref W]) := upd_same
      have nMb := hb17.ne hM
      have nMW : M ≠ WA := (ne_of_none eW17 hM).symm
      have nML : M ≠ L := (ne_of_none eL17 hM).symm
      have eW18 := sM _ _ eW17
      have hb18 := hb17.same sM
      have k148 := k147.trans (Same.kp sM)
      have eWW18 := sM _ _ eW
      have d18 := dp_keep (Same.keeps sM) _ _ d1
      have d28 := dp_keep (Same.keeps sM) _ _ d2
      clear d1 d2 eW sTA k16 hTA hW k17 k147
      revert eM eW18 hb18 k148 eWW18 d18 d28
      generalize upd H17 M (.lst [vi r1, V.ref W]) = H18
      intro eM eW18 hb18 k148 eWW18 d18 d28
      walk_at "go"
      refine ⟨WA, _, .ref M, rfl, rfl, eW18, line60 (by rw [List.length_map]; omega), ?_⟩
      have kt : KT K H14 (upd H18 WA (.lst ((es.map fun e => V.ref e.M) ++ [V.ref M]))) := KT.trans (bag_kt hb14 k148) (kt_lst eW18)
      refine ⟨_, es ++ [⟨M, W, r1, rv, bv, l⟩], rfl, by rw [upd_same, List.map_append]; rfl, fun e he => ?_, by rw [List.length_append, hl]; rfl, (bag_upd hb18 nWAb).mono (by omega), kp_upd' (k14.trans k148) hWA⟩
      rcases List.mem_append.mp he with q | q
      · obtain ⟨w1, w2, ⟨w3, w4⟩, ⟨w5, w6⟩, w7⟩ := hes e q
        exact ⟨w1.keep kt (fun o h => by rw [upd_ne w5]; exact k148 _ _ w3 h) (fun o h => by rw [upd_ne w6]; exact k148 _ _ w4 h), w2, ⟨w3, w4⟩, ⟨w5, w6⟩, w7⟩
      · rw [List.mem_singleton.mp q]
        have ktL : KT K H18 (upd H18 WA (.lst ((es.map fun e => V.ref e.M) ++ [V.ref M]))) := kt_lst eW18
        exact ⟨⟨by show upd H18 WA _ M = _; rw [upd_ne nMW]; exact eM, by show upd H18 WA _ W = _; rw [upd_ne nWW]; exact eWW18, dp_nol ktL _ _ (Wl.nol ok).1 d18, dp_nol ktL _ _ (Wl.nol ok).2 d28, ok⟩, by show r1 < rs.length; omega, ⟨nMb, nWb⟩, ⟨nMW, nWW⟩, nML, nWL⟩
    rintro σ H14 ⟨o7', es, rfl, eW14, hes, hl, hb14, k14⟩
    have eL14 := k14 _ _ nLb eL11
    have eDA14 := k14 _ _ nDAb eDA
    have eP14 := k14 _ _ nPb eP11
    have eF14 := k14 _ _ nFAb eF11
    have dA14 := dpA_pure (bag_kt hb11 k14) _ _ (pureA_iff.mpr fun y hy => by obtain ⟨u, _, rfl⟩ := List.mem_map.mp hy; exact u.pure) dA11
    have hss14 : ∀ s ∈ ss, PapAt K H14 z s := fun s hs => PapAt.kt (bag_kt hb11 k14) (hss11 s hs)
    have hb14' := hb14.mono (show 30060 + 20 * m ≤ 30100 by omega)
    have hl2' : es.length ≤ 2 := by omega
    clear hb14 hl hm k113 eW13 k13 hb13 hb12 eW12 sW hWA hss11 dA11 eF11 eP11 eL11 hb11 eDA k14
    walk_at "go"
    refine ⟨⟨_, SqL.of eW14⟩, fr_list (Pv := fun i σ H' => ∃ (o10 o11 : Option V), σ = [some (.ref a), some (.ref b), some (.str z), some (.ref L), some (.ref DA), some (.ref O), some (.ref PA), o7', some (.ref FA), some (.ref WA), o10, o11, none, none, none, none] ∧ H' L = some (.lst (setV (es.take i) vl)) ∧ Kp L H14 H') ⟨none, none, rfl, eL14, Kp.refl _ _⟩ (fun i σ H' _ ⟨_, _, _, _, kk⟩ => SqL.of (kk _ _ nWAL eW14)) ?_ ?_⟩
    · rintro i x σ H15 hx ⟨o10, o11, rfl, eL15, k15⟩
      rw [List.getElem?_map] at hx
      cases hei : es[i]? with
      | none => rw [hei] at hx; cases hx
      | some e =>
      rw [hei] at hx
      obtain rfl := Option.some.inj hx
      obtain ⟨w1, w2, ⟨w3, w4⟩, ⟨w5, w6⟩, w7, w8⟩ := hes e (List.mem_of_getElem? hei)
      refine r_gSq (xs := [vi e.at_, .ref e.W]) ⟨e.M, rfl, .inl (SqL.of (k15 _ _ w7 w1.eM))⟩ rfl ?_
      walk_at "go"
      refine r_ixL (SqL.of (k15 _ _ w8 w1.eW)) at_0 ?_
      walk_at "go"
      refine ⟨L, _, (e.at_ : Int), e.at_, rfl, rfl, eL15, ixN_of (by rw [setV_len]; omega), ?_⟩
      refine ⟨_, _, rfl, by rw [upd_same, setV_take hei], fun c o n h => by rw [upd_ne n]; exact k15 c o n h⟩
    rintro σ H15 ⟨o10, o11, rfl, eL15, k15⟩
    rw [show (es.map fun e => V.ref e.M).length = es.length from List.length_map .., List.take_length] at eL15
    have ktL : KT K H14 H15 := fun a xs q => Kp.sqT k15 eL14 q
    have eW15 := k15 _ _ nWAL eW14
    have eDA15 := k15 _ _ nDAL eDA14
    have eP15 := k15 _ _ nPL eP14
    have eF15 := k15 _ _ nFAL eF14
    have hes15 : ∀ e ∈ es, WnAt K H15 e := fun e he => by
      obtain ⟨w1, w2, ⟨w3, w4⟩, ⟨w5, w6⟩, w7, w8⟩ := hes e he
      exact w1.keep ktL (fun o h => k15 _ _ w7 h) (fun o h => k15 _ _ w8 h)
    have hat : ∀ e ∈ es, e.at_ < rs.length := fun e he => (hes e he).2.1
    have e0 : (rs.map fun r => Rl.ok r true).map Rl.data = rs.map (R.data true) := by rw [List.map_map]; rfl
    have dls : DpAll K H15 (setV es vl) ((setR true es (rs.map fun r => Rl.ok r true)).map Rl.data) := dpA_setR hes15 (by rw [e0]; exact dpA_pure ktL _ _ (pureA_iff.mpr fun y hy => by obtain ⟨u, _, rfl⟩ := List.mem_map.mp hy; exact u.pure) dA14)
    have hss15 : ∀ s ∈ ss, PapAt K H15 z s := fun s hs => PapAt.kt ktL (hss14 s hs)
    have hb15 : IsBag H15 b 30100 := by
      obtain ⟨d, s, x, e, r⟩ := hb14'
      exact ⟨d, s, x, k15 _ _ nLb.symm e, r⟩
    clear hb14' hss14 dA14 eF14 eP14 eDA14 eL14 eW14 k15 ktL hes
    walk_at "go"
    refine ⟨⟨_, SqL.of eW15⟩, fun AL hAL => ?_⟩
    refine lc_it (walk_list (K := K) (a := WA) (xs := es.map fun e => V.ref e.M)) (fun i H' => H' AL = some (.lst ((es.take i).map fun e => vi e.at_)) ∧ Same H15 H') ⟨upd_same, same_new hAL⟩ (fun i H' _ q => SqL.of (q.2 _ _ eW15)) ?_ ?_
    · rintro i x H1 H1' hi ⟨eA1, sm⟩ ⟨rfl, hx⟩
      rw [List.getElem?_map] at hx
      cases hei : es[i]? with
      | none => rw [hei] at hx; cases hx
      | some e =>
      rw [hei] at hx
      obtain rfl := Option.some.inj hx
      have we := hes15 e (List.mem_of_getElem? hei)
      refine r_gSq (xs := [vi e.at_, .ref e.W]) ⟨e.M, rfl, .inl (SqL.of (sm _ _ we.eM))⟩ rfl ?_
      walk_at "go"
      refine ⟨rfl, ?_⟩
      unfold tYes
      dsimp only
      rw [if_pos rfl]
      walk_at "go"
      refine ⟨_, eA1, line60 (by rw [List.length_map, List.length_take]; omega), ?_, same_upd sm hAL⟩
      rw [upd_same, List.take_succ, hei, List.map_append]
      rfl
    rintro H16 ⟨eA16, s16⟩
    rw [List.length_map, List.take_length] at eA16
    walk_at "go"
    refine ⟨AL, es.map fun e => (e.at_ : Int), rfl, SqL.of (by rw [List.map_map]; exact eA16), by rw [List.length_map]; omega, fun ns' p perm srt hp => ?_⟩
    have s17 := s16.trans (same_new (o := HO.lst (ns'.map V.int)) hp)
    have e17 : (upd H16 p (.lst (ns'.map V.int))) p = some (.lst (ns'.map V.int)) := upd_same
    revert s17 e17
    generalize upd H16 p (.lst (ns'.map V.int)) = H17
    intro s17 e17
    walk_at "go"
    refine sl_new e17 (fun H18 A2 s18' eA2 => ?_)
    rw [cutV_1, ← List.map_take] at eA2
    have s18 := s17.trans s18'
    refine r_name ?_
    try dsimp only [List.set]
    obtain ⟨mn, hmn, m1, m2⟩ : ∃ mn : Int, (es = [] ∨ ns'.take 1 = [mn]) ∧ (∀ e ∈ es, mn ≤ (e.at_ : Int)) ∧ (es = [] ∨ ∃ e ∈ es, mn = (e.at_ : Int)) := by
      cases ns' with
      | nil =>
        have hn := perm.length_eq
        rw [List.length_map, List.length_nil] at hn
        have he := List.eq_nil_of_length_eq_zero hn.symm
        exact ⟨0, .inl he, (fun e h => by rw [he] at h; cases h), .inl he⟩
      | cons x xs =>
        refine ⟨x, .inr rfl, fun e he => ?_, .inr ?_⟩
        · have hm : (e.at_ : Int) ∈ x :: xs := perm.mem_iff.mpr (List.mem_map_of_mem (f := fun e : Wn => (e.at_ : Int)) he)
          rcases List.mem_cons.mp hm with q | q
          · omega
          · exact (List.pairwise_cons.mp srt).1 _ q
        · obtain ⟨e, he, q⟩ := List.mem_map.mp (perm.mem_iff.mp (List.mem_cons_self ..))
          exact ⟨e, he, q.symm⟩
    walk_at "go"
    refine ⟨⟨_, SqL.of (s18 _ _ eW15)⟩, fr_list (Pv := fun i σ H' => ∃ (o10 o11 : Option V) (DB : Addr), σ = [some (.ref a), some (.ref b), some (.str z), some (.ref L), some (.ref DB), some (.ref O), some (.ref PA), o7', some (.ref FA), some (.ref WA), o10, o11, some (.ref A2), none, none, none] ∧ H' DB = some (.lst [.str (dueE mn (es.take i) (dueW ss, dueX ss)).1, (dueE mn (es.take i) (dueW ss, dueX ss)).2]) ∧ Same H18 H' ∧ DB ≠ b) ⟨o10, o11, DA, rfl, s18 _ _ eDA15, Same.refl _, nDAb⟩ (fun i σ H' _ ⟨_, _, _, _, _, sm, _⟩ => SqL.of (sm _ _ (s18 _ _ eW15))) ?_ ?_⟩
    · rintro i x σ H19 hx ⟨q10, q11, DB, rfl, eDB, s19, nDB⟩
      rw [List.getElem?_map] at hx
      cases hei : es[i]? with
      | none => rw [hei] at hx; cases hx
      | some e =>
      rw [hei] at hx
      obtain rfl := Option.some.inj hx
      have hmem := List.mem_of_getElem? hei
      have we := hes15 e hmem
      have sA := s18.trans s19
      have h1 : ns'.take 1 = [mn] := hmn.resolve_left (fun q => by rw [q] at hmem; cases hmem)
      refine r_gSq (xs := [vi e.at_, .ref e.W]) ⟨e.M, rfl, .inl (SqL.of (sA _ _ we.eM))⟩ rfl ?_
      walk_at "go"
      refine ⟨(by show 1 ≤ sizeLine; decide), fun C1 hC1 => ?_⟩
      have sC := same_new (o := HO.lst [vi e.at_]) hC1
      have eC : (upd H19 C1 (.lst [vi e.at_])) C1 = some (.lst [vi e.at_]) := upd_same
      revert sC eC
      generalize upd H19 C1 (.lst [vi e.at_]) = H20
      intro sC eC
      have eA3 : H20 A2 = some (.lst [V.int mn]) := by rw [h1] at eA2; exact sC _ _ (s19 _ _ eA2)
      walk_at "go"
      refine ⟨.list [.int e.at_], .list [.int mn], .lst (SqL.of eC) (.cons (.int _) .nil), .lst (SqL.of eA3) (.cons (.int _) .nil), shaped_of (flat_sq (t := false) fun d hd => by rw [List.mem_singleton.mp hd]; rfl) (Nat.le_trans (depth_sq (t := false) (n := 0) fun d hd => by rw [List.mem_singleton.mp hd]; exact Nat.le_of_eq (by simp [PyData.depth])) (by decide)), shaped_of (flat_sq (t := false) fun d hd => by rw [List.mem_singleton.mp hd]; rfl) (Nat.le_trans (depth_sq (t := false) (n := 0) fun d hd => by rw [List.mem_singleton.mp hd]; exact Nat.le_of_eq (by simp [PyData.depth])) (by decide)), ?_⟩
      rw [eqv_ones]
      have dt := dueE_take (mn := mn) hei (dueW ss, dueX ss)
      walk_at "go"
      refine r_iteN' (fun h0 => ?_) (fun h0 => ?_)
      · rw [if_pos h0] at dt
        have s20 := sA.trans sC
        walk_at "go"
        refine r_ixL (SqL.of (s20 _ _ we.eW)) (atI_nat (j := 1) rfl) ?_
        walk_at "go"
        refine r_ixL (SqL.of (s20 _ _ we.eW)) (atI_nat (j := 2) rfl) ?_
        walk_at "go"
        refine ⟨(by show 2 ≤ sizeLine; decide), fun DC hDC => ?_⟩
        walk_at "go"
        exact ⟨_, _, DC, rfl, by rw [dt]; exact upd_same, (s19.trans sC).trans (same_new hDC), (hb15.same s20).ne hDC⟩
      · rw [if_neg h0] at dt
        walk_at "go"
        exact ⟨_, _, DB, rfl, by rw [dt]; exact sC _ _ eDB, s19.trans sC, nDB⟩
    rintro σ H19 ⟨q10, q11, DB, rfl, eDB, s19, nDB⟩
    rw [show (es.map fun e => V.ref e.M).length = es.length from List.length_map .., List.take_length] at eDB
    have s20 := s18.trans s19
    have hb19 := hb15.same s20
    have eL19 := s20 _ _ eL15
    have eP19 := s20 _ _ eP15
    have eF19 := s20 _ _ eF15
    have dls19 := dpA_keep (Same.keeps s20) _ _ dls
    have hss19 : ∀ s ∈ ss, PapAt K H19 z s := fun s hs => PapAt.same s20 (hss15 s hs)
    have hes19 : ∀ e ∈ es, Dp K H19 e.bv (e.l.what true) ∧ e.l.ok := fun e he => ⟨dp_keep (Same.keeps s20) _ _ (hes15 e he).bd, (hes15 e he).ok⟩
    clear eA2 e17 s17 eA16 s16 s18 s18' s19 s20 hes15 hss15 dls eF15 eP15 eL15 hb15 eDA15 eW15
    have hfe := first_es (ls := fun t => rs.map fun r => Rl.ok r t) hl2' (fun t e he => by rw [List.length_map]; exact hat e he) (fun t l hl => by obtain ⟨r, _, rfl⟩ := List.mem_map.mp hl; rfl) m1 m2 (dueW ss, dueX ss)
    refine r_seqIf (fun σ' H' => ∃ (sv x : V) (w : Str) (DC : Addr), σ' = [some (.ref a), some (.ref b), some sv, some (.ref L), some (.ref DC), some (.ref O), some (.ref PA), o7', some (.ref FA), some (.ref WA), q10, q11, some (.ref A2), none, none, none] ∧ H' DC = some (.lst [.str w, x]) ∧ IsBag H' b 30110 ∧ Kp b H19 H' ∧ DC ≠ b ∧
      ((∃ sd, Dp K H' sv sd ∧ x = sv ∧ signsD sd ∧ w = "signs") ∨ (sv = .str z ∧ ((∃ e ∈ es, w = e.l.word ∧ x = e.bv ∧ ∀ t, firstNo (setR t es (rs.map fun r => Rl.ok r t)) = some (e.l.rl t)) ∨ (w = dueW ss ∧ x = dueX ss ∧ ∀ t, firstNo (setR t es (rs.map fun r => Rl.ok r t)) = none))))) (fun N hN => ?_) ?_
    · walk_at "go"
      refine ⟨b, 8, _, rfl, hb19, by decide, by decide, fun r1 H20 _ _ hb20 of20 => ?_⟩
      have k20 : Kp b H19 H20 := of20.kp
      walk_at "go"
      refine r_iteN' (fun h0 => ?_) (fun h0 => ?_)
      · walk_at "go"
        refine ⟨(by show 2 ≤ sizeLine; decide), fun ST hST => ?_⟩
        have dST : Dp K (upd H20 ST (.tup [V.str "0", V.str "1"])) (.ref ST) (.tuple [.str "0", .str "1"]) := dp_tup hST (.cons (.str _) (.cons (.str _) .nil))
        have sST := same_new (o := HO.tup [V.str "0", V.str "1"]) hST
        walk_at "go"
        refine ⟨(by show 8 ≤ sizeLine; decide), fun SG hSG0 => ?_⟩
        have sSG := same_new (o := HO.lst [V.str "10", .str "0", .str "", .str "00", .str "0a", .str "0123456789ABC", .non, .ref ST]) hSG0
        have s21 := sST.trans sSG
        have hSG := sST.free hSG0
        have eSG : (upd (upd H20 ST (.tup [V.str "0", V.str "1"])) SG (.lst [V.str "10", .str "0", .str "", .str "00", .str "0a", .str "0123456789ABC", .non, .ref ST])) SG = some (.lst [V.str "10", .str "0", .str "", .str "00", .str "0a", .str "0123456789ABC", .non, .ref ST]) := upd_same
        have dSG : DpAll K (upd (upd H20 ST (.tup [V.str "0", V.str "1"])) SG (.lst [V.str "10", .str "0", .str "", .str "00", .str "0a", .str "0123456789ABC", .non, .ref ST])) [V.str "10", .str "0", .str "", .str "00", .str "0a", .str "0123456789ABC", .non, .ref ST] sgL := .cons (.str _) (.cons (.str _) (.cons (.str _) (.cons (.str _) (.cons (.str _) (.cons (.str _) (.cons .non (.cons (dp_keep (Same.keeps sSG) _ _ dST) .nil)))))))
        clear sSG hSG0 dST sST hST
        revert s21 eSG dSG
        generalize upd (upd H20 ST (.tup [V.str "0", V.str "1"])) SG (.lst [V.str "10", .str "0", .str "", .str "00", .str "0a", .str "0123456789ABC", .non, .ref ST]) = H21
        generalize hvsg : ([V.str "10", .str "0", .str "", .str "00", .str "0a", .str "0123456789ABC", .non, .ref ST] : List V) = vsg
        intro s21 eSG dSG
        walk_at "go"
        have hb21 := hb20.same s21
        have nSG := hb20.ne hSG
        have lsg := dpA_len dSG
        refine ⟨b, .ref SG, vsg, _, rfl, hb21, by decide, .inr ⟨SG, rfl, SqL.of eSG, nSG, by rw [lsg]; decide⟩, (fun q => by rw [q] at lsg; cases lsg), fun sv H22 hsv hb22 of22 => ?_⟩
        obtain ⟨i, hi⟩ := List.mem_iff_getElem?.mp hsv
        obtain ⟨sd, hsd, hd⟩ := dpA_get dSG hi
        have ssd := sg_all sd (List.mem_of_getElem? hsd)
        have hd22 := dp_nol (bag_kt hb21 of22.kp) _ _ ssd.1.1 hd
        have k22 : Kp b H19 H22 := k20.trans ((Same.kp s21).trans of22.kp)
        walk_at "go"
        refine ⟨(by show 2 ≤ sizeLine; decide), fun DC hDC => ?_⟩
        have sC := same_new (o := HO.lst [V.str "signs", sv]) hDC
        walk_at "go"
        exact hN _ _ ⟨sv, sv, "signs", DC, rfl, upd_same, (hb22.same sC).mono (by decide), k22.trans (Same.kp sC), hb22.ne hDC, .inl ⟨sd, dp_keep (Same.keeps sC) _ _ hd22, rfl, ssd, rfl⟩⟩
      · walk_at "go"
        refine hN _ _ ⟨.str z, _, _, DB, rfl, k20 _ _ nDB eDB, hb20.mono (by decide), k20, nDB, .inr ⟨rfl, ?_⟩⟩
        rcases hfe with ⟨_, h2, h3⟩ | ⟨e, he, h2, h3⟩
        · rw [h2]; exact .inr ⟨rfl, rfl, h3⟩
        · rw [h2]; exact .inl ⟨e, he, rfl, rfl, h3⟩
    clear hfe eDB nDB
    rintro _ H20 ⟨sv, x, w, DC, rfl, eDC, hb20, k20, nDC, hv⟩
    have nLb2 := nLb
    have eL20 := k20 _ _ nLb eL19
    have eP20 := k20 _ _ nPb eP19
    have eF20 := k20 _ _ nFAb eF19
    have kt20 : KT K H19 H20 := bag_kt hb19 k20
    have hss20 : ∀ s ∈ ss, PapAt K H20 z s := fun s hs => PapAt.kt kt20 (hss19 s hs)
    have hes20 : ∀ e ∈ es, Dp K H20 e.bv (e.l.what true) ∧ e.l.ok := fun e he => ⟨dp_nol kt20 _ _ (Wl.nol (hes19 e he).2).2 (hes19 e he).1, (hes19 e he).2⟩
    have lfacts : ∀ d ∈ (setR true es (rs.map fun r => Rl.ok r true)).map Rl.data, okd d = true ∧ nol d = true ∧ d.depth < 60 := fun d hd => by
      obtain ⟨l, hl, rfl⟩ := List.mem_map.mp hd
      rcases setR_mem hl with q | ⟨e, he, rfl⟩
      · obtain ⟨r, hr, rfl⟩ := List.mem_map.mp q
        have ok := good_ok gz (hrs r hr).1
        have := (R.flat true ok).2
        have := (hrs r hr).2
        have := r.depth_le
        exact ⟨R.okd true ok, nol_pure _ r.pure, by show (r.data true).depth < 60; omega⟩
      · rw [Wl.rl_data]
        have ok := (hes19 e he).2
        refine ⟨?_, (Wl.nol ok).1, ?_⟩
        · cases hel : e.l with
          | many => exact R.okd true (nest_ok 40 gz)
          | bad d b => rw [hel] at ok; exact ok.1.1
        · cases hel : e.l with
          | many =>
            have h1 := (R.flat true (nest_ok 40 gz)).2
            have h2 := (nestR 40).depth_le
            have h3 := nest_parts 40
            show ((nestR 40).data true).depth < 60
            omega
          | bad d b => rw [hel] at ok; have := ok.1.2.2; show d.depth < 60; omega
    have dls20 := dpA_nol kt20 _ _ (nolA_iff.mpr fun d hd => (lfacts d hd).2.1) dls19
    clear hss19 hes19 dls19 kt20 k20 eF19 eP19 eL19 hb19
    refine K1.r_seq (r_asg (K1.r_var rfl ?_))
    refine r_name ?_
    try dsimp only [List.set]
    refine r_seqIf (fun σ' H' => ∃ (tv : Addr) (xs : List V) (t : Bool) (DD : Addr) (x' : V) (xd : PyData), σ' = [some (.ref a), some (.ref b), some sv, some (.ref L), some (.ref DD), some (.ref O), some (.ref PA), o7', some (.ref FA), some (.ref WA), q10, q11, some (.ref A2), some (.ref tv), none, none] ∧ H' DD = some (.lst [.str w, x']) ∧ Dp K H' x' xd ∧ Verd K H' z es rs t (firstOdd ss) sv w xd ∧
      SqL K H' tv xs ∧ DpAll K H' xs ((setR t es (rs.map fun r => Rl.ok r t)).map Rl.data) ∧ Kp b H20 H') (fun N hN => ?_) ?_
    · walk_at "go"
      refine ⟨b, 2, _, rfl, hb20, by decide, by decide, fun r1 H21 _ _ hb21 of21 => ?_⟩
      have k21 : Kp b H20 H21 := of21.kp
      have kt21 : KT K H20 H21 := bag_kt hb20 k21
      have eDC21 := k21 _ _ nDC eDC
      have eL21 := k21 _ _ nLb eL20
      have dls21 := dpA_nol kt21 _ _ (nolA_iff.mpr fun d hd => (lfacts d hd).2.1) dls20
      have hC : ∃ xd, Dp K H21 (dueX ss) xd ∧ (xd.canLay0 = true ∧ xd.depth ≤ 60 ∧ PyData.strOk (dueW ss) = true) ∧ dueW ss ≠ "rule" ∧ (match firstOdd ss with
          | none => dueW ss = "none" ∧ xd = .int 0
          | some s => dueW ss = "paper" ∧ Dp K H21 s.val xd) := by
        unfold dueX dueW
        cases hfo : firstOdd ss with
        | none => exact ⟨.int 0, .int 0, ⟨by decide +kernel, by decide +kernel, by decide +kernel⟩, by decide +kernel, rfl, rfl⟩
        | some s =>
          have hm := List.mem_of_find?_eq_some hfo
          have hn := List.find?_some hfo
          have hp := PapAt.kt kt21 (hss20 s hm)
          cases s with
          | good p f => cases hn
          | odd y f =>
            obtain ⟨_, d, hd, o⟩ := hp
            exact ⟨d, hd, ⟨o.facts.2.1, by have := o.facts.2.2; omega, (show PyData.strOk "paper" = true by decide +kernel)⟩, (show ("paper" : Str) ≠ "rule" by decide +kernel), rfl, hd⟩
      have hWd : ∀ l : Wl, PyData.strOk l.word = true := fun l => by
        cases l with
        | many => exact (show PyData.strOk "many" = true by decide +kernel)
        | bad d bb => exact (show PyData.strOk "rule" = true by decide +kernel)
      have hlay : ∀ (e : Wn) (t : Bool), e ∈ es → (e.l.what t).canLay0 = true ∧ (e.l.what t).depth ≤ 60 := fun e t he => by
        have ok := (hes20 e he).2
        cases hel : e.l with
        | many => cases t <;> decide +kernel
        | bad d bb =>
          rw [hel] at ok
          obtain ⟨_, ⟨o1, o2, o3, o4⟩, _⟩ := ok
          cases t
          · exact ⟨lst_lay bb o2 o4, by show (lstd bb).depth ≤ 60; rw [lst_dep bb o2]; omega⟩
          · exact ⟨o4, by show bb.depth ≤ 60; omega⟩
      walk_at "go"
      refine r_iteN' (fun h0 => ?_) (fun h0 => ?_)
      · walk_at "go"
        refine ⟨L, setV es vl, _, rfl, SqL.of eL21, dls21, (fun d hd => (lfacts d hd).1), (fun d hd => (lfacts d hd).2.1), (fun d hd => (lfacts d hd).2.2), by rw [List.length_map, setR_len, List.length_map]; omega, fun H22 tv xs s22 htv etv dtv => ?_⟩
        rw [setR_lst (t0 := true) (l2 := rs.map fun r => Rl.ok r false) (by rw [List.map_map, List.map_map, List.map_map]; exact List.map_congr_left fun r _ => r.lst)] at dtv
        have dtv2 : DpAll K H22 xs ((setR false es (rs.map fun r => Rl.ok r false)).map Rl.data) := new_kp dtv (Kp.refl _ _)
        have k22 : Kp b H20 H22 := k21.trans (Same.kp s22)
        have eDC22 := s22 _ _ eDC21
        walk_at "go"
        refine r_ixL (SqL.of eDC22) at_0 ?_
        walk_at "go"
        refine r_ixL (SqL.of eDC22) at_0 ?_
        walk_at "go"
        refine r_iteN' (fun hw => ?_) (fun hw => ?_)
        · have hw : w = "rule" := V.str.inj hw
          walk_at "go"
          refine r_ixL (SqL.of eDC22) (atI_nat (j := 1) rfl) ?_
          walk_at "go"
          have hb : sv = .str z ∧ ∃ e ∈ es, w = e.l.word ∧ x = e.bv ∧ ∀ t, firstNo (setR t es (rs.map fun r => Rl.ok r t)) = some (e.l.rl t) := by
            rcases hv with ⟨sd, _, _, _, q⟩ | ⟨h1, h2 | ⟨q, _⟩⟩
            · rw [q] at hw; exact absurd hw (by decide +kernel)
            · exact ⟨h1, h2⟩
            · obtain ⟨_, _, _, nr, _⟩ := hC
              exact absurd (q.symm.trans hw) nr
          obtain ⟨rfl, e, he, hwe, rfl, hfn⟩ := hb
          obtain ⟨dbv, ok⟩ := hes20 e he
          have dbv22 := dp_keep (Same.keeps s22) _ _ (dp_nol kt21 _ _ (Wl.nol ok).2 dbv)
          cases hel : e.l with
          | many => rw [hwe, hel] at hw; exact absurd hw (by decide +kernel)
          | bad d bb =>
            rw [hel] at dbv22 ok
            obtain ⟨_, ⟨o1, o2, o3, o4⟩, _⟩ := id ok
            refine ⟨e.bv, bb, rfl, dbv22, o1, o2, by omega, fun H23 v' s23 dv => ?_⟩
            walk_at "go"
            refine ⟨(by show 2 ≤ sizeLine; decide), fun DD hDD => ?_⟩
            have sD := same_new (o := HO.lst [V.str w, v']) hDD
            have s2D := s23.trans sD
            have dvv := dp_keep (Same.keeps sD) _ _ (dp_keep (Same.keeps New.same) _ _ dv)
            have hl := hlay e false he
            rw [hel] at hl
            walk_at "go"
            refine hN _ _ ⟨tv, xs, false, DD, v', lstd bb, rfl, upd_same, dvv, ⟨⟨hl.1, hl.2, by rw [hwe]; exact hWd e.l⟩, .inr ⟨rfl, .inl ⟨e, he, (hes20 e he).2, hwe, by rw [hel]; rfl, hfn false⟩⟩⟩, SqL.of (s2D _ _ etv), dpA_keep (Same.keeps s2D) _ _ dtv2, k22.trans (Same.kp s2D)⟩
        · walk_at "go"
          refine r_ixL (SqL.of eDC22) (atI_nat (j := 1) rfl) ?_
          walk_at "go"
          refine ⟨(by show 2 ≤ sizeLine; decide), fun DD hDD => ?_⟩
          have sD := same_new (o := HO.lst [V.str w, x]) hDD
          have s2D := s22.trans sD
          walk_at "go"
          have hfin : ∃ xd, Dp K H21 x xd ∧ Verd K H21 z es rs false (firstOdd ss) sv w xd := by
            rcases hv with ⟨sd, a1, rfl, a3, rfl⟩ | ⟨rfl, ⟨e, he, rfl, rfl, hfn⟩ | ⟨rfl, rfl, hfn⟩⟩
            · have a1' := dp_nol kt21 _ _ a3.1.1 a1
              exact ⟨sd, a1', ⟨a3.1.2.1, by have := a3.1.2.2; omega, by decide +kernel⟩, .inl ⟨a1', a3, rfl⟩⟩
            · obtain ⟨dbv, ok⟩ := hes20 e he
              have hl := hlay e false he
              cases hel : e.l with
              | bad d bb => rw [hel] at hw; exact absurd rfl hw
              | many =>
                have dbv1 := dp_nol kt21 _ _ (Wl.nol ok).2 dbv
                rw [hel] at dbv1 hl
                exact ⟨.str "rule", dbv1, ⟨hl.1, hl.2, hWd .many⟩, .inr ⟨rfl, .inl ⟨e, he, ok, by rw [hel], by rw [hel]; rfl, hfn false⟩⟩⟩
            · obtain ⟨xd, c1, c2, _, c4⟩ := hC
              exact ⟨xd, c1, c2, .inr ⟨rfl, .inr ⟨hfn false, c4⟩⟩⟩
          obtain ⟨xd, f1, f2⟩ := hfin
          exact hN _ _ ⟨tv, xs, false, DD, x, xd, rfl, upd_same, dp_keep (Same.keeps s2D) _ _ f1, f2.same s2D, SqL.of (sD _ _ etv), dpA_keep (Same.keeps sD) _ _ dtv2, k21.trans (Same.kp s2D)⟩
      · walk_at "go"
        have hfin : ∃ xd, Dp K H21 x xd ∧ Verd K H21 z es rs true (firstOdd ss) sv w xd := by
          rcases hv with ⟨sd, a1, rfl, a3, rfl⟩ | ⟨rfl, ⟨e, he, rfl, rfl, hfn⟩ | ⟨rfl, rfl, hfn⟩⟩
          · have a1' := dp_nol kt21 _ _ a3.1.1 a1
            exact ⟨sd, a1', ⟨a3.1.2.1, by have := a3.1.2.2; omega, by decide +kernel⟩, .inl ⟨a1', a3, rfl⟩⟩
          · obtain ⟨dbv, ok⟩ := hes20 e he
            have hl := hlay e true he
            exact ⟨_, dp_nol kt21 _ _ (Wl.nol ok).2 dbv, ⟨hl.1, hl.2, hWd e.l⟩, .inr ⟨rfl, .inl ⟨e, he, ok, rfl, rfl, hfn true⟩⟩⟩
          · obtain ⟨xd, c1, c2, _, c4⟩ := hC
            exact ⟨xd, c1, c2, .inr ⟨rfl, .inr ⟨hfn true, c4⟩⟩⟩
        obtain ⟨xd, f1, f2⟩ := hfin
        exact hN _ _ ⟨L, setV es vl, true, DC, x, xd, rfl, eDC21, f1, f2, SqL.of eL21, dls21, k21⟩
    rintro _ H21 ⟨tv, xs, t, DD, x', xd, rfl, eDD, dx', hV, htv, dtv, k21⟩
    have eP21 := k21 _ _ nPb eP20
    have eF21 := k21 _ _ nFAb eF20
    have hss21 : ∀ s ∈ ss, PapAt K H21 z s := fun s hs => PapAt.kt (bag_kt hb20 k21) (hss20 s hs)
    have hok : ∀ e ∈ es, e.l.ok := fun e he => (hes20 e he).2
    have hxne : xs ≠ [] := fun q => by
      have := dpA_len dtv
      rw [q, List.length_map, setR_len, List.length_map, List.length_nil] at this
      omega
    have hsn : ss ≠ [] := fun q => by rw [q] at hl2; exact absurd hl2 (by decide)
    clear k21 hss20 hes20 lfacts dls20 eF20 eP20 eL20 hb20 eDC hv
    walk_at "go"
    refine raised_of (door := 1) gz z4 (Nat.le_refl 1) htv dtv hxne (by omega) hrs hok eP21 hss21 hsn (by omega) hV (fun H22 W1 y1 s22 _ eW1 dy1 => ?_)
    walk_at "go"
    refine cat_new (s22 _ _ eDD) (by show 2 + 1 ≤ 1000; decide) (fun H23 C1 s23 eC1 => ?_)
    obtain ⟨sh, er⟩ := told_list hV.1.1 hV.1.2.1 hV.1.2.2
    refine ⟨.list [.str w, xd, .bool true], .list [.str w, xd, .bool true], .lst (SqL.of (s23 _ _ eW1)) (.cons (.str _) (.cons (dp_keep (Same.keeps s23) _ _ dy1) (.cons (.bl _) .nil))), .lst (SqL.of eC1) (.cons (.str _) (.cons (dp_keep (Same.keeps (s22.trans s23)) _ _ dx') (.cons (.bl _) .nil))), sh, sh, ?_⟩
    rw [er]
    have sA := s22.trans s23
    have hV2 := hV.same sA
    have eDD2 := sA _ _ eDD
    have dx2 := dp_keep (Same.keeps sA) _ _ dx'
    have eF2 := sA _ _ eF21
    have htv2 := sA.seq htv
    have dtv2 := dpA_keep (Same.keeps sA) _ _ dtv
    have eP2 := sA _ _ eP21
    have hss2 : ∀ s ∈ ss, PapAt K H23 z s := fun s hs => PapAt.same sA (hss21 s hs)
    clear er sh eC1 dy1 eW1 sA s22 s23 hss21 eP21 dtv htv eF21 dx' eDD hV
    refine ⟨false, rfl, ?_⟩
    rw [if_neg Bool.false_ne_true]
    unfold tNext
    dsimp only
    refine r_seqIf (fun σ' H' => ∃ (DE : Addr) (w2 : Str) (x2 : V) (xd2 : PyData), σ' = [some (.ref a), some (.ref b), some sv, some (.ref L), some (.ref DE), some (.ref O), some (.ref PA), o7', some (.ref FA), some (.ref WA), q10, q11, some (.ref A2), some (.ref tv), none, none] ∧ H' DE = some (.lst [.str w2, x2]) ∧ Dp K H' x2 xd2 ∧ Verd K H' z es rs t (selD 0 ss) sv w2 xd2 ∧ Same H23 H') (fun N hN => ?_) ?_
    · obtain ⟨s0, st, rfl⟩ : ∃ s0 st, ss = s0 :: st := by
        cases ss with
        | nil => exact absurd rfl hsn
        | cons s0 st => exact ⟨s0, st, rfl⟩
      walk_at "go"
      refine r_ixL (SqL.of eDD2) at_0 ?_
      walk_at "go"
      refine r_iteN' (fun hw => ?_) (fun hw => ?_)
      · have hw : w = "paper" := V.str.inj hw
        have hVp : ∃ s, firstOdd (s0 :: st) = some s ∧ sv = .str z ∧ firstNo (setR t es (rs.map fun r => Rl.ok r t)) = none := by
          rcases hV2.2 with ⟨_, _, q⟩ | ⟨h1, ⟨e, _, _, q, _⟩ | ⟨fn, q⟩⟩
          · rw [q] at hw; exact absurd hw (by decide +kernel)
          · rw [q] at hw
            cases hel : e.l with
            | many => rw [hel] at hw; exact absurd hw (show ("many" : Str) ≠ "paper" by decide +kernel)
            | bad d bb => rw [hel] at hw; exact absurd hw (show ("rule" : Str) ≠ "paper" by decide +kernel)
          · cases hfo : firstOdd (s0 :: st) with
            | none => rw [hfo] at q; rw [q.1] at hw; exact absurd hw (by decide +kernel)
            | some s => exact ⟨s, rfl, h1, fn⟩
        obtain ⟨s, hfo, hsv, hfn⟩ := hVp
        walk_at "go"
        refine r_ixL (SqL.of eF2) (atI_nat (j := 0) (v := .bl s0.isOk) rfl) ?_
        cases hs0 : s0.isOk with
        | true =>
          walk_at "go"
          refine ⟨(by show 2 ≤ sizeLine; decide), fun DE hDE => ?_⟩
          walk_at "go"
          refine hN _ _ ⟨DE, "none", .int 0, .int 0, rfl, upd_same, .int 0, ⟨⟨by decide +kernel, by decide +kernel, by decide +kernel⟩, .inr ⟨hsv, .inr ⟨hfn, ?_⟩⟩⟩, same_new hDE⟩
          have e : selD 0 (s0 :: st) = none := by
            show (if (0 : Nat) = 0 then (if s0.isOk = true then none else some s0) else _) = none
            rw [if_pos rfl, if_pos hs0]
          rw [e]
          exact ⟨rfl, rfl⟩
        | false =>
          walk_at "go"
          have e : selD 0 (s0 :: st) = firstOdd (s0 :: st) := by
            show (if (0 : Nat) = 0 then (if s0.isOk = true then none else some s0) else _) = _
            rw [if_pos rfl, hs0, if_neg Bool.false_ne_true]
            unfold firstOdd
            rw [List.find?_cons, hs0]
            rfl
          exact hN _ _ ⟨DD, w, x', xd, rfl, eDD2, dx2, by rw [e]; exact hV2, Same.refl _⟩
      · have hw : w ≠ "paper" := fun q => hw (congrArg V.str q)
        walk_at "go"
        refine hN _ _ ⟨DD, w, x', xd, rfl, eDD2, dx2, ⟨hV2.1, ?_⟩, Same.refl _⟩
        rcases hV2.2 with q | ⟨h1, q | ⟨fn, q⟩⟩
        · exact .inl q
        · exact .inr ⟨h1, .inl q⟩
        · refine .inr ⟨h1, .inr ⟨fn, ?_⟩⟩
          cases hfo : firstOdd (s0 :: st) with
          | some s => rw [hfo] at q; exact absurd q.1 hw
          | none =>
            rw [hfo] at q
            have hs0 : s0.isOk = true := by
              have := List.find?_eq_none.mp hfo s0 (List.mem_cons_self ..)
              cases h : s0.isOk with
              | true => rfl
              | false => rw [h] at this; exact absurd rfl this
            have e : selD 0 (s0 :: st) = none := by
              show (if (0 : Nat) = 0 then (if s0.isOk = true then none else some s0) else _) = none
              rw [if_pos rfl, if_pos hs0]
            rw [e]
            exact q
    rintro _ H24 ⟨DE, w2, x2, xd2, rfl, eDE, dxe, hV3, s24⟩
    walk_at "go"
    refine raised_of (door := 0) gz z4 (Nat.zero_le 1) (s24.seq htv2) (dpA_keep (Same.keeps s24) _ _ dtv2) hxne (by omega) hrs hok (s24 _ _ eP2) (fun s hs => PapAt.same s24 (hss2 s hs)) hsn (by omega) hV3 (fun H25 W1 y1 s25 _ eW1 dy1 => ?_)
    walk_at "go"
    refine cat_new (s25 _ _ eDE) (by show 2 + 1 ≤ 1000; decide) (fun H26 C1 s26 eC1 => ?_)
    obtain ⟨sh, er⟩ := told_list hV3.1.1 hV3.1.2.1 hV3.1.2.2
    refine ⟨.list [.str w2, xd2, .bool true], .list [.str w2, xd2, .bool true], .lst (SqL.of (s26 _ _ eW1)) (.cons (.str _) (.cons (dp_keep (Same.keeps s26) _ _ dy1) (.cons (.bl _) .nil))), .lst (SqL.of eC1) (.cons (.str _) (.cons (dp_keep (Same.keeps (s25.trans s26)) _ _ dxe) (.cons (.bl _) .nil))), sh, sh, ?_⟩
    rw [er]
    exact k _
abbrev OErrH (P : Program) (w : World) (K : PySem.W.Frag) (mg : Str → Option Value) (base : Heap) : Prop := Own P w K mg base "_law_errors_hold" 72 ["_law_script"] (spErrH K)
end
end K4

/-! L69q -/


namespace K4
open PySem L2 K1
abbrev sLaw : Stmt := top 85
abbrev nLaw : List Str := ["_law_script"]
theorem scLaw : FnScope nLaw ["_law_script"] (defScope sLaw) := ⟨rfl, rfl, rfl, by decide +kernel, rfl, by decide +kernel, by decide +kernel⟩
def spLaw (K : PySem.W.Frag) : Sp := fun vs H Q _ => ∃ (a : Addr) (ns : List Int), vs = [.ref a] ∧ SqL K H a (ns.map V.int) ∧ ns.length ≤ 63 ∧ ∀ H', Q (.bl true) H'
section
variable {P : Program} {w : World} {K : PySem.W.Frag} {mg : Str → Option Value} {base : Heap}
theorem ok_law {f : Addr} {fd : FuncData} (F : Fun K "law" "law" sLaw f fd) (Otw : OTold P w K mg base) (Oeh : OErrH P w K mg base) : FnOk P w K mg base CX0 73 f fd ["_law_script"] (spLaw K) := by
  refine F.ok scLaw (fun vs H Q E h => ?_) (fun cdv A outer s H vs Q E hr h => ?_)
  · obtain ⟨a, ns, rfl, _⟩ := h
    rfl
  · obtain ⟨a, ns, rfl, hS, hlen, k⟩ := h
    refine ⟨_, (pss_one (ps_ret (pe_and (pe_own Otw (hr.mono (by omega)) (pa_cons (pv 0) pa_nil)) (pe_one (pe_own Oeh (hr.mono (by omega)) (pa_cons (pv 0) pa_nil)))))), ?_⟩
    try dsimp only [cxOf, Cx.nox, Cx.wish]
    walk_at "go"
    refine ⟨a, ns, rfl, hS, hlen, fun H1 s1 => ?_⟩
    walk_at "go"
    exact ⟨a, ns, rfl, s1.seq hS, hlen, fun H2 => k H2⟩
end
end K4

/-! K69H -/
namespace K4
open PySem L2 L2H K1
def Fn (K : PySem.W.Frag) (x : Str) (st : Stmt) : Prop := ∃ (f : Addr) (fd : FuncData), PySem.W.nsIn K mainGlobals x = some (some (.ref f)) ∧ Fun K x x st f fd
theorem fn_mk {K : PySem.W.Frag} {x : Str} {st : Stmt} {f : Addr} {oc : Value} {od an : Option Addr} {osl : Array (Option Value)} {kV doc pm cdv ct : Value} (a : PySem.W.nsIn K mainGlobals x = some (some (.ref f)))
    (l : K.lookup f = some ⟨oc, od, .func (PySem.W.fnOf x x (defArgs st) (defBody st) (defScope st) .none kV doc pm an cdv ct), osl⟩) (c : PySem.W.codeIn K cdv x = true) (k : PySem.W.keepIn K (.ref f) = true) : Fn K x st := ⟨f, _, a, fun_mk l c k⟩
def FnQ (K : PySem.W.Frag) (x q : Str) (st : Stmt) (f : Addr) : Prop := ∃ fd : FuncData, Fun K x q st f fd
theorem fnq_mk {K : PySem.W.Frag} {x q : Str} {st : Stmt} {f : Addr} {oc : Value} {od an : Option Addr} {osl : Array (Option Value)} {kV doc pm cdv ct : Value}
    (l : K.lookup f = some ⟨oc, od, .func (PySem.W.fnOf x q (defArgs st) (defBody st) (defScope st) .none kV doc pm an cdv ct), osl⟩) (c : PySem.W.codeIn K cdv q = true) (k : PySem.W.keepIn K (.ref f) = true) : FnQ K x q st f := ⟨_, fun_mk l c k⟩
theorem own_of {P : Program} {w : World} {K : PySem.W.Frag} {mg : Str → Option Value} {h base : Heap} {x : Str} {st : Stmt} {n : Nat} {ps : List Str} {sp : Sp} (X : K.In h) (G : h.Ns mainGlobals mg) (N : Fn K x st) (ok : ∀ f fd, Fun K x x st f fd → FnOk P w K mg base CX0 n f fd ps sp)
    (bd : ∀ (kV doc pm : Value) (an : Option Addr) (cdv ct : Value) (us : List Value), us.length = ps.length → bindArgs (PySem.W.fnOf x x (defArgs st) (defBody st) (defScope st) .none kV doc pm an cdv ct) ⟨us, []⟩ = Pure.pure (ps.zip us)) : Own P w K mg base x n ps sp := by
  obtain ⟨f, fd, a, F⟩ := N
  exact ⟨f, fd, ok f fd F, PySem.W.mg_of X G a, F.kp, F.binds bd⟩
theorem ownX_of {P : Program} {w : World} {K : PySem.W.Frag} {mg : Str → Option Value} {h base : Heap} {x : Str} {st : Stmt} {n : Nat} {ps : List Str} {sp : Sp} (X : K.In h) (G : h.Ns mainGlobals mg) (N : Fn K x st) (ok : ∀ f fd, Fun K x x st f fd → FnOk P w K mg base (L2N.CX P w) n f fd ps sp)
    (bd : ∀ (kV doc pm : Value) (an : Option Addr) (cdv ct : Value) (us : List Value), us.length = ps.length → bindArgs (PySem.W.fnOf x x (defArgs st) (defBody st) (defScope st) .none kV doc pm an cdv ct) ⟨us, []⟩ = Pure.pure (ps.zip us)) : OwnX P w K mg base x n ps sp := by
  obtain ⟨f, fd, a, F⟩ := N
  exact ⟨f, fd, ok f fd F, PySem.W.mg_of X G a, F.kp, F.binds bd⟩
theorem ns_miss {K : PySem.W.Frag} {a : Addr} {es : Array DictEntry} {n : Nat} (l : K.lookup a = some ⟨.type "dict", none, .dict es n, #[]⟩) (q : es.toList.all wdKey = true) : ∀ x : Str, (∀ k < 9, x ≠ wd k) → PySem.W.nsIn K a x = some none := by
  intro x hx
  have key : ∀ e ∈ es.toList, ∃ y t, e.key = .str y t ∧ y ≠ x := fun e he => by
    have w := List.all_eq_true.mp q e he
    unfold wdKey at w
    split at w
    · rename_i y t ek
      obtain ⟨k, hk, hd⟩ := List.any_eq_true.mp w
      exact ⟨y, t, ek, fun z => hx k (List.mem_range.mp hk) (by rw [← z]; exact of_decide_eq_true hd)⟩
    · cases w
  unfold PySem.W.nsIn
  rw [l]
  dsimp only
  have h1 : es.toList.find? (fun e => e.key.isStr x) = none := List.find?_eq_none.mpr fun e he => by
    obtain ⟨y, t, e1, e2⟩ := key e he
    rw [e1]
    simpa [Value.isStr] using e2
  have h2 : es.toList.any (·.refKey) = false := by
    rw [List.any_eq_false]
    intro e he
    obtain ⟨y, t, e1, _⟩ := key e he
    unfold DictEntry.refKey
    rw [e1]
    simp
  rw [h1]
  dsimp only
  rw [h2]
  rfl

end K4
namespace HdK69
open PySem PySem.Spec PyProof.Rows L2 L2H K1 K4 He
abbrev Says (w : World) (K : PySem.W.Frag) : Prop := Hd.SaysY fa fn ts ex fc w K
theorem exAt {w : World} {K : PySem.W.Frag} (c : Says w K) (i : Nat) {e : PySem.W.Frag → Bool} (h : exs[i]? = some e := by rfl) : e K = true :=
  List.all_eq_true.mp (show (exs.all fun e => e K) = true from c.x) e (List.mem_of_getElem? h)
theorem all_mk {w : World} {K : PySem.W.Frag} {h : Heap} {mg : Str → Option Value} {fa_ : Addr} (X : K.In h) (G : h.Ns mainGlobals mg) (hfa : mg "law" = some (.ref fa_)) (c : Says w K) :
    ∃ fd : FuncData, (∀ (s : Shared) (u : Value), BindsTo s fd ⟨[u], []⟩ [("_law_script", u)]) ∧ ∀ base : Heap, K.In base → base.Ns mainGlobals mg → FnOk PROG w K mg base CX0 73 fa_ fd ["_law_script"] (spLaw K) := by
  have n_is_whole : Fn K "is_whole" sIsWhole := by
    obtain ⟨fd, F⟩ := c.t.d.def_ 0 (d := ⟨("is_whole", none), "is_whole", "is_whole", defArgs (top 9), defBody (top 9), defScope (top 9), [], []⟩) rfl
    exact ⟨_, fd, (eqO_ok (c.t.d.fact 0 (f := .glo "is_whole") rfl)), He5.fun_of F⟩
  have n_is_within : Fn K "is_within" sIsWithin := by
    obtain ⟨fd, F⟩ := c.t.d.def_ 1 (d := ⟨("is_within", none), "is_within", "is_within", defArgs (top 10), defBody (top 10), defScope (top 10), [], []⟩) rfl
    exact ⟨_, fd, (eqO_ok (c.t.d.fact 1 (f := .glo "is_within") rfl)), He5.fun_of F⟩
  have n_is_tuple : Fn K "is_tuple" sIsTuple := by
    obtain ⟨fd, F⟩ := c.t.d.def_ 2 (d := ⟨("is_tuple", none), "is_tuple", "is_tuple", defArgs (top 11), defBody (top 11), defScope (top 11), [], []⟩) rfl
    exact ⟨_, fd, (eqO_ok (c.t.d.fact 2 (f := .glo "is_tuple") rfl)), He5.fun_of F⟩
  have n_is_tuple_of : Fn K "is_tuple_of" sIsTupleOf := by
    obtain ⟨fd, F⟩ := c.t.d.def_ 3 (d := ⟨("is_tuple_of", none), "is_tuple_of", "is_tuple_of", defArgs (top 12), defBody (top 12), defScope (top 12), [], []⟩) rfl
    exact ⟨_, fd, (eqO_ok (c.t.d.fact 3 (f := .glo "is_tuple_of") rfl)), He5.fun_of F⟩
  have n_is_text : Fn K "is_text" sIsText := by
    obtain ⟨fd, F⟩ := c.t.d.def_ 4 (d := ⟨("is_text", none), "is_text", "is_text", defArgs (top 13), defBody (top 13), defScope (top 13), [], []⟩) rfl
    exact ⟨_, fd, (eqO_ok (c.t.d.fact 4 (f := .glo "is_text") rfl)), He5.fun_of F⟩
  have n_is_ascending : Fn K "is_ascending" K1.sIsAsc := by
    obtain ⟨fd, F⟩ := c.t.d.def_ 5 (d := ⟨("is_ascending", none), "is_ascending", "is_ascending", defArgs (top 14), defBody (top 14), defScope (top 14), [], []⟩) rfl
    exact ⟨_, fd, (eqO_ok (c.t.d.fact 5 (f := .glo "is_ascending") rfl)), He5.fun_of F⟩
  have n_as_tuples : Fn K "as_tuples" sAsTuples := by
    obtain ⟨fd, F⟩ := c.t.d.def_ 6 (d := ⟨("as_tuples", none), "as_tuples", "as_tuples", defArgs (top 15), defBody (top 15), defScope (top 15), [], []⟩) rfl
    exact ⟨_, fd, (eqO_ok (c.t.d.fact 6 (f := .glo "as_tuples") rfl)), He5.fun_of F⟩
  have n_are_signs : Fn K "are_signs" sAreSigns := by
    obtain ⟨fd, F⟩ := c.t.d.def_ 7 (d := ⟨("are_signs", none), "are_signs", "are_signs", defArgs (top 21), defBody (top 21), defScope (top 21), [], []⟩) rfl
    exact ⟨_, fd, (eqO_ok (c.t.d.fact 7 (f := .glo "are_signs") rfl)), He5.fun_of F⟩
  have n_require_signs : Fn K "require_signs" sReqSigns := by
    obtain ⟨fd, F⟩ := c.t.d.def_ 8 (d := ⟨("require_signs", none), "require_signs", "require_signs", defArgs (top 22), defBody (top 22), defScope (top 22), [], []⟩) rfl
    exact ⟨_, fd, (eqO_ok (c.t.d.fact 8 (f := .glo "require_signs") rfl)), He5.fun_of F⟩
  have n_is_paper : Fn K "is_paper" sIsPaper := by
    obtain ⟨fd, F⟩ := c.t.d.def_ 9 (d := ⟨("is_paper", none), "is_paper", "is_paper", defArgs (top 23), defBody (top 23), defScope (top 23), [], []⟩) rfl
    exact ⟨_, fd, (eqO_ok (c.t.d.fact 9 (f := .glo "is_paper") rfl)), He5.fun_of F⟩
  have n_require_paper : Fn K "require_paper" sReqPaper := by
    obtain ⟨fd, F⟩ := c.t.d.def_ 10 (d := ⟨("require_paper", none), "require_paper", "require_paper", defArgs (top 24), defBody (top 24), defScope (top 24), [], []⟩) rfl
    exact ⟨_, fd, (eqO_ok (c.t.d.fact 10 (f := .glo "require_paper") rfl)), He5.fun_of F⟩
  have n_are_rows : Fn K "are_rows" sAreRows := by
    obtain ⟨fd, F⟩ := c.t.d.def_ 11 (d := ⟨("are_rows", none), "are_rows", "are_rows", defArgs (top 26), defBody (top 26), defScope (top 26), [], []⟩) rfl
    exact ⟨_, fd, (eqO_ok (c.t.d.fact 11 (f := .glo "are_rows") rfl)), He5.fun_of F⟩
  have n_is_row : Fn K "is_row" sIsRow := by
    obtain ⟨fd, F⟩ := c.t.d.def_ 12 (d := ⟨("is_row", none), "is_row", "is_row", defArgs (top 27), defBody (top 27), defScope (top 27), [], []⟩) rfl
    exact ⟨_, fd, (eqO_ok (c.t.d.fact 12 (f := .glo "is_row") rfl)), He5.fun_of F⟩
  have n_are_goals : Fn K "are_goals" sAreGoals := by
    obtain ⟨fd, F⟩ := c.t.d.def_ 13 (d := ⟨("are_goals", none), "are_goals", "are_goals", defArgs (top 28), defBody (top 28), defScope (top 28), [], []⟩) rfl
    exact ⟨_, fd, (eqO_ok (c.t.d.fact 13 (f := .glo "are_goals") rfl)), He5.fun_of F⟩
  have n_standing_in : Fn K "standing_in" sStandIn := by
    obtain ⟨fd, F⟩ := c.t.d.def_ 14 (d := ⟨("standing_in", none), "standing_in", "standing_in", defArgs (top 29), defBody (top 29), defScope (top 29), [], []⟩) rfl
    exact ⟨_, fd, (eqO_ok (c.t.d.fact 14 (f := .glo "standing_in") rfl)), He5.fun_of F⟩
  have n_own_values : Fn K "own_values" sOwnValues := by
    obtain ⟨fd, F⟩ := c.t.d.def_ 15 (d := ⟨("own_values", none), "own_values", "own_values", defArgs (top 40), defBody (top 40), defScope (top 40), [], []⟩) rfl
    exact ⟨_, fd, (eqO_ok (c.t.d.fact 15 (f := .glo "own_values") rfl)), He5.fun_of F⟩
  have n_inner_rules : Fn K "inner_rules" sInnerRules := by
    obtain ⟨fd, F⟩ := c.t.d.def_ 16 (d := ⟨("inner_rules", none), "inner_rules", "inner_rules", defArgs (top 41), defBody (top 41), defScope (top 41), [], []⟩) rfl
    exact ⟨_, fd, (eqO_ok (c.t.d.fact 16 (f := .glo "inner_rules") rfl)), He5.fun_of F⟩
  have n_is_sum : Fn K "is_sum" sIsSum := by
    obtain ⟨fd, F⟩ := c.t.d.def_ 17 (d := ⟨("is_sum", none), "is_sum", "is_sum", defArgs (top 42), defBody (top 42), defScope (top 42), [], []⟩) rfl
    exact ⟨_, fd, (eqO_ok (c.t.d.fact 17 (f := .glo "is_sum") rfl)), He5.fun_of F⟩
  have n_is_square : Fn K "is_square" sIsSquare := by
    obtain ⟨fd, F⟩ := c.t.d.def_ 18 (d := ⟨("is_square", none), "is_square", "is_square", defArgs (top 43), defBody (top 43), defScope (top 43), [], []⟩) rfl
    exact ⟨_, fd, (eqO_ok (c.t.d.fact 18 (f := .glo "is_square") rfl)), He5.fun_of F⟩
  have n_are_faces : Fn K "are_faces" sAreFaces := by
    obtain ⟨fd, F⟩ := c.t.d.def_ 19 (d := ⟨("are_faces", none), "are_faces", "are_faces", defArgs (top 44), defBody (top 44), defScope (top 44), [], []⟩) rfl
    exact ⟨_, fd, (eqO_ok (c.t.d.fact 19 (f := .glo "are_faces") rfl)), He5.fun_of F⟩
  have n_has_form : Fn K "has_form" sHasForm := by
    obtain ⟨fd, F⟩ := c.t.d.def_ 20 (d := ⟨("has_form", none), "has_form", "has_form", defArgs (top 45), defBody (top 45), defScope (top 45), [], []⟩) rfl
    exact ⟨_, fd, (eqO_ok (c.t.d.fact 20 (f := .glo "has_form") rfl)), He5.fun_of F⟩
  have n_checked_rule : Fn K "checked_rule" sChkRule := by
    obtain ⟨fd, F⟩ := c.t.d.def_ 21 (d := ⟨("checked_rule", none), "checked_rule", "checked_rule", defArgs (top 46), defBody (top 46), defScope (top 46), [], []⟩) rfl
    exact ⟨_, fd, (eqO_ok (c.t.d.fact 21 (f := .glo "checked_rule") rfl)), He5.fun_of F⟩
  have n_checked_part : Fn K "checked_part" sChkPart := by
    obtain ⟨fd, F⟩ := c.t.d.def_ 22 (d := ⟨("checked_part", none), "checked_part", "checked_part", defArgs (top 47), defBody (top 47), defScope (top 47), [], []⟩) rfl
    exact ⟨_, fd, (eqO_ok (c.t.d.fact 22 (f := .glo "checked_part") rfl)), He5.fun_of F⟩
  have n_count_parts : Fn K "count_parts" sCountParts := by
    obtain ⟨fd, F⟩ := c.t.d.def_ 23 (d := ⟨("count_parts", none), "count_parts", "count_parts", defArgs (top 48), defBody (top 48), defScope (top 48), [], []⟩) rfl
    exact ⟨_, fd, (eqO_ok (c.t.d.fact 23 (f := .glo "count_parts") rfl)), He5.fun_of F⟩
  have n_check_rule : Fn K "check_rule" sCheckRule := by
    obtain ⟨fd, F⟩ := c.t.d.def_ 24 (d := ⟨("check_rule", none), "check_rule", "check_rule", defArgs (top 50), defBody (top 50), defScope (top 50), [], []⟩) rfl
    exact ⟨_, fd, (eqO_ok (c.t.d.fact 24 (f := .glo "check_rule") rfl)), He5.fun_of F⟩
  have n_finds_right : Fn K "finds_right" sFinds := by
    obtain ⟨fd, F⟩ := c.t.d.def_ 25 (d := ⟨("finds_right", none), "finds_right", "finds_right", defArgs (top 51), defBody (top 51), defScope (top 51), [], []⟩) rfl
    exact ⟨_, fd, (eqO_ok (c.t.d.fact 25 (f := .glo "finds_right") rfl)), He5.fun_of F⟩
  have n_has_sum : Fn K "has_sum" sHasSum := by
    obtain ⟨fd, F⟩ := c.t.d.def_ 26 (d := ⟨("has_sum", none), "has_sum", "has_sum", defArgs (top 52), defBody (top 52), defScope (top 52), [], []⟩) rfl
    exact ⟨_, fd, (eqO_ok (c.t.d.fact 26 (f := .glo "has_sum") rfl)), He5.fun_of F⟩
  have n_ends_in_goal : Fn K "ends_in_goal" sEndsInGoal := by
    obtain ⟨fd, F⟩ := c.t.d.def_ 27 (d := ⟨("ends_in_goal", none), "ends_in_goal", "ends_in_goal", defArgs (top 53), defBody (top 53), defScope (top 53), [], []⟩) rfl
    exact ⟨_, fd, (eqO_ok (c.t.d.fact 27 (f := .glo "ends_in_goal") rfl)), He5.fun_of F⟩
  have n_faced : Fn K "faced" sFaced := by
    obtain ⟨fd, F⟩ := c.t.d.def_ 28 (d := ⟨("faced", none), "faced", "faced", defArgs (top 54), defBody (top 54), defScope (top 54), [], []⟩) rfl
    exact ⟨_, fd, (eqO_ok (c.t.d.fact 28 (f := .glo "faced") rfl)), He5.fun_of F⟩
  have n_signature_of : Fn K "signature_of" sSigOf := by
    obtain ⟨fd, F⟩ := c.t.d.def_ 29 (d := ⟨("signature_of", none), "signature_of", "signature_of", defArgs (top 56), defBody (top 56), defScope (top 56), [], []⟩) rfl
    exact ⟨_, fd, (eqO_ok (c.t.d.fact 29 (f := .glo "signature_of") rfl)), He5.fun_of F⟩
  have n_fitting : Fn K "fitting" sFitting := by
    obtain ⟨fd, F⟩ := c.t.d.def_ 30 (d := ⟨("fitting", none), "fitting", "fitting", defArgs (top 57), defBody (top 57), defScope (top 57), [], []⟩) rfl
    exact ⟨_, fd, (eqO_ok (c.t.d.fact 30 (f := .glo "fitting") rfl)), He5.fun_of F⟩
  have n__law_bag_of : Fn K "_law_bag_of" K1.sBagOf := by
    obtain ⟨fd, F⟩ := c.t.d.def_ 31 (d := ⟨("_law_bag_of", none), "_law_bag_of", "_law_bag_of", defArgs (top 59), defBody (top 59), defScope (top 59), [], []⟩) rfl
    exact ⟨_, fd, (eqO_ok (c.t.d.fact 31 (f := .glo "_law_bag_of") rfl)), He5.fun_of F⟩
  have n__law_pick : Fn K "_law_pick" K1.sPick := by
    obtain ⟨fd, F⟩ := c.t.d.def_ 32 (d := ⟨("_law_pick", none), "_law_pick", "_law_pick", defArgs (top 60), defBody (top 60), defScope (top 60), [], []⟩) rfl
    exact ⟨_, fd, (eqO_ok (c.t.d.fact 32 (f := .glo "_law_pick") rfl)), He5.fun_of F⟩
  have n__law_one_of : Fn K "_law_one_of" K1.sOneOf := by
    obtain ⟨fd, F⟩ := c.t.d.def_ 33 (d := ⟨("_law_one_of", none), "_law_one_of", "_law_one_of", defArgs (top 61), defBody (top 61), defScope (top 61), [], []⟩) rfl
    exact ⟨_, fd, (eqO_ok (c.t.d.fact 33 (f := .glo "_law_one_of") rfl)), He5.fun_of F⟩
  have n__law_mixed : Fn K "_law_mixed" K1.sMixed := by
    obtain ⟨fd, F⟩ := c.t.d.def_ 34 (d := ⟨("_law_mixed", none), "_law_mixed", "_law_mixed", defArgs (top 62), defBody (top 62), defScope (top 62), [], []⟩) rfl
    exact ⟨_, fd, (eqO_ok (c.t.d.fact 34 (f := .glo "_law_mixed") rfl)), He5.fun_of F⟩
  have n__law_signs_of : Fn K "_law_signs_of" sLSignsOf := by
    obtain ⟨fd, F⟩ := c.t.d.def_ 35 (d := ⟨("_law_signs_of", none), "_law_signs_of", "_law_signs_of", defArgs (top 63), defBody (top 63), defScope (top 63), [], []⟩) rfl
    exact ⟨_, fd, (eqO_ok (c.t.d.fact 35 (f := .glo "_law_signs_of") rfl)), He5.fun_of F⟩
  have n__law_paper_of : Fn K "_law_paper_of" sLPaperOf := by
    obtain ⟨fd, F⟩ := c.t.d.def_ 36 (d := ⟨("_law_paper_of", none), "_law_paper_of", "_law_paper_of", defArgs (top 64), defBody (top 64), defScope (top 64), [], []⟩) rfl
    exact ⟨_, fd, (eqO_ok (c.t.d.fact 36 (f := .glo "_law_paper_of") rfl)), He5.fun_of F⟩
  have n__law_sum : Fn K "_law_sum" sLSum := by
    obtain ⟨fd, F⟩ := c.t.d.def_ 37 (d := ⟨("_law_sum", none), "_law_sum", "_law_sum", defArgs (top 65), defBody (top 65), defScope (top 65), [], []⟩) rfl
    exact ⟨_, fd, (eqO_ok (c.t.d.fact 37 (f := .glo "_law_sum") rfl)), He5.fun_of F⟩
  have n__law_rows : Fn K "_law_rows" sLRowsOf := by
    obtain ⟨fd, F⟩ := c.t.d.def_ 38 (d := ⟨("_law_rows", none), "_law_rows", "_law_rows", defArgs (top 66), defBody (top 66), defScope (top 66), [], []⟩) rfl
    exact ⟨_, fd, (eqO_ok (c.t.d.fact 38 (f := .glo "_law_rows") rfl)), He5.fun_of F⟩
  have n__law_goals : Fn K "_law_goals" sLGoalsOf := by
    obtain ⟨fd, F⟩ := c.t.d.def_ 39 (d := ⟨("_law_goals", none), "_law_goals", "_law_goals", defArgs (top 67), defBody (top 67), defScope (top 67), [], []⟩) rfl
    exact ⟨_, fd, (eqO_ok (c.t.d.fact 39 (f := .glo "_law_goals") rfl)), He5.fun_of F⟩
  have n__law_faces : Fn K "_law_faces" sLFacesOf := by
    obtain ⟨fd, F⟩ := c.t.d.def_ 40 (d := ⟨("_law_faces", none), "_law_faces", "_law_faces", defArgs (top 68), defBody (top 68), defScope (top 68), [], []⟩) rfl
    exact ⟨_, fd, (eqO_ok (c.t.d.fact 40 (f := .glo "_law_faces") rfl)), He5.fun_of F⟩
  have n__law_rule_of : Fn K "_law_rule_of" sLRuleOf := by
    obtain ⟨fd, F⟩ := c.t.d.def_ 41 (d := ⟨("_law_rule_of", none), "_law_rule_of", "_law_rule_of", defArgs (top 69), defBody (top 69), defScope (top 69), [], []⟩) rfl
    exact ⟨_, fd, (eqO_ok (c.t.d.fact 41 (f := .glo "_law_rule_of") rfl)), He5.fun_of F⟩
  have n__law_judged : Fn K "_law_judged" sLJudged := by
    obtain ⟨fd, F⟩ := c.t.d.def_ 42 (d := ⟨("_law_judged", none), "_law_judged", "_law_judged", defArgs (top 70), defBody (top 70), defScope (top 70), [], []⟩) rfl
    exact ⟨_, fd, (eqO_ok (c.t.d.fact 42 (f := .glo "_law_judged") rfl)), He5.fun_of F⟩
  have n__law_listed : Fn K "_law_listed" sLListed := by
    obtain ⟨fd, F⟩ := c.t.d.def_ 43 (d := ⟨("_law_listed", none), "_law_listed", "_law_listed", defArgs (top 71), defBody (top 71), defScope (top 71), [], []⟩) rfl
    exact ⟨_, fd, (eqO_ok (c.t.d.fact 43 (f := .glo "_law_listed") rfl)), He5.fun_of F⟩
  have n__law_no_list : Fn K "_law_no_list" sLNoList := by
    obtain ⟨fd, F⟩ := c.t.d.def_ 44 (d := ⟨("_law_no_list", none), "_law_no_list", "_law_no_list", defArgs (top 72), defBody (top 72), defScope (top 72), [], []⟩) rfl
    exact ⟨_, fd, (eqO_ok (c.t.d.fact 44 (f := .glo "_law_no_list") rfl)), He5.fun_of F⟩
  have n__law_same_tuple : Fn K "_law_same_tuple" sLSame := by
    obtain ⟨fd, F⟩ := c.t.d.def_ 45 (d := ⟨("_law_same_tuple", none), "_law_same_tuple", "_law_same_tuple", defArgs (top 73), defBody (top 73), defScope (top 73), [], []⟩) rfl
    exact ⟨_, fd, (eqO_ok (c.t.d.fact 45 (f := .glo "_law_same_tuple") rfl)), He5.fun_of F⟩
  have n__law_large_rule : Fn K "_law_large_rule" sLLarge := by
    obtain ⟨fd, F⟩ := c.t.d.def_ 46 (d := ⟨("_law_large_rule", none), "_law_large_rule", "_law_large_rule", defArgs (top 74), defBody (top 74), defScope (top 74), [], []⟩) rfl
    exact ⟨_, fd, (eqO_ok (c.t.d.fact 46 (f := .glo "_law_large_rule") rfl)), He5.fun_of F⟩
  have n__law_rules_of : Fn K "_law_rules_of" sLRulesOf := by
    obtain ⟨fd, F⟩ := c.t.d.def_ 47 (d := ⟨("_law_rules_of", none), "_law_rules_of", "_law_rules_of", defArgs (top 75), defBody (top 75), defScope (top 75), [], []⟩) rfl
    exact ⟨_, fd, (eqO_ok (c.t.d.fact 47 (f := .glo "_law_rules_of") rfl)), He5.fun_of F⟩
  have n__law_longer_paper : Fn K "_law_longer_paper" sLLonger := by
    obtain ⟨fd, F⟩ := c.t.d.def_ 48 (d := ⟨("_law_longer_paper", none), "_law_longer_paper", "_law_longer_paper", defArgs (top 76), defBody (top 76), defScope (top 76), [], []⟩) rfl
    exact ⟨_, fd, (eqO_ok (c.t.d.fact 48 (f := .glo "_law_longer_paper") rfl)), He5.fun_of F⟩
  have n__law_flags_of : Fn K "_law_flags_of" sLFlagsOf := by
    obtain ⟨fd, F⟩ := c.t.d.def_ 49 (d := ⟨("_law_flags_of", none), "_law_flags_of", "_law_flags_of", defArgs (top 77), defBody (top 77), defScope (top 77), [], []⟩) rfl
    exact ⟨_, fd, (eqO_ok (c.t.d.fact 49 (f := .glo "_law_flags_of") rfl)), He5.fun_of F⟩
  have n__law_fit : Fn K "_law_fit" sLFit := by
    obtain ⟨fd, F⟩ := c.t.d.def_ 50 (d := ⟨("_law_fit", none), "_law_fit", "_law_fit", defArgs (top 78), defBody (top 78), defScope (top 78), [], []⟩) rfl
    exact ⟨_, fd, (eqO_ok (c.t.d.fact 50 (f := .glo "_law_fit") rfl)), He5.fun_of F⟩
  have n__law_told_well : Fn K "_law_told_well" sLTold := by
    obtain ⟨fd, F⟩ := c.t.d.def_ 51 (d := ⟨("_law_told_well", none), "_law_told_well", "_law_told_well", defArgs (top 79), defBody (top 79), defScope (top 79), [], []⟩) rfl
    exact ⟨_, fd, (eqO_ok (c.t.d.fact 51 (f := .glo "_law_told_well") rfl)), He5.fun_of F⟩
  have n__law_deep_of : Fn K "_law_deep_of" sLDeep := by
    obtain ⟨fd, F⟩ := c.t.d.def_ 52 (d := ⟨("_law_deep_of", none), "_law_deep_of", "_law_deep_of", defArgs (top 80), defBody (top 80), defScope (top 80), [], []⟩) rfl
    exact ⟨_, fd, (eqO_ok (c.t.d.fact 52 (f := .glo "_law_deep_of") rfl)), He5.fun_of F⟩
  have n__law_bad_part : Fn K "_law_bad_part" sLBadPart := by
    obtain ⟨fd, F⟩ := c.t.d.def_ 53 (d := ⟨("_law_bad_part", none), "_law_bad_part", "_law_bad_part", defArgs (top 81), defBody (top 81), defScope (top 81), [], []⟩) rfl
    exact ⟨_, fd, (eqO_ok (c.t.d.fact 53 (f := .glo "_law_bad_part") rfl)), He5.fun_of F⟩
  have n__law_wrong_rule : Fn K "_law_wrong_rule" sLWrong := by
    obtain ⟨fd, F⟩ := c.t.d.def_ 54 (d := ⟨("_law_wrong_rule", none), "_law_wrong_rule", "_law_wrong_rule", defArgs (top 82), defBody (top 82), defScope (top 82), [], []⟩) rfl
    exact ⟨_, fd, (eqO_ok (c.t.d.fact 54 (f := .glo "_law_wrong_rule") rfl)), He5.fun_of F⟩
  have n__law_raised : Fn K "_law_raised" sLRaised := by
    obtain ⟨fd, F⟩ := c.t.d.def_ 55 (d := ⟨("_law_raised", none), "_law_raised", "_law_raised", defArgs (top 83), defBody (top 83), defScope (top 83), [], []⟩) rfl
    exact ⟨_, fd, (eqO_ok (c.t.d.fact 55 (f := .glo "_law_raised") rfl)), He5.fun_of F⟩
  have n__law_errors_hold : Fn K "_law_errors_hold" sLErrors := by
    obtain ⟨fd, F⟩ := c.t.d.def_ 56 (d := ⟨("_law_errors_hold", none), "_law_errors_hold", "_law_errors_hold", defArgs (top 84), defBody (top 84), defScope (top 84), [], []⟩) rfl
    exact ⟨_, fd, (eqO_ok (c.t.d.fact 56 (f := .glo "_law_errors_hold") rfl)), He5.fun_of F⟩
  have n_law : Fn K "law" sLaw := by
    obtain ⟨fd, F⟩ := c.t.d.def_ 57 (d := ⟨("law", none), "law", "law", defArgs (top 85), defBody (top 85), defScope (top 85), [], []⟩) rfl
    exact ⟨_, fd, (eqO_ok (c.t.d.fact 57 (f := .glo "law") rfl)), He5.fun_of F⟩
  have B : Bl mg := ⟨free_ok X G (c.t.d.fact 67 (f := .free "len") rfl), free_ok X G (c.t.d.fact 68 (f := .free "sum") rfl), free_ok X G (c.t.d.fact 69 (f := .free "abs") rfl), free_ok X G (c.t.d.fact 70 (f := .free "int") rfl), free_ok X G (c.t.d.fact 71 (f := .free "range") rfl), free_ok X G (c.t.d.fact 72 (f := .free "list") rfl), free_ok X G (c.t.d.fact 73 (f := .free "tuple") rfl), free_ok X G (c.t.d.fact 74 (f := .free "str") rfl), free_ok X G (c.t.d.fact 75 (f := .free "bool") rfl), free_ok X G (c.t.d.fact 76 (f := .free "sorted") rfl), free_ok X G (c.t.d.fact 77 (f := .free "all") rfl), free_ok X G (c.t.d.fact 78 (f := .free "min") rfl), free_ok X G (c.t.d.fact 79 (f := .free "isinstance") rfl), free_ok X G (c.t.d.fact 80 (f := .free "max") rfl), free_ok X G (c.t.d.fact 81 (f := .free "any") rfl), free_ok X G (c.t.d.fact 82 (f := .free "repr") rfl)⟩
  have BZe : mg "enumerate" = none := free_ok X G (c.t.d.fact 83 (f := .free "enumerate") rfl)
  obtain ⟨esI, mI, DI⟩ := c.t.tab 0 (t := (fun K => ga K "INNER_RULES", ["sum", "square", "faces", "back", "cut", "both", "either", "not", "any"])) rfl
  obtain ⟨esO, mO, DO⟩ := c.t.tab 1 (t := (fun K => ga K "OWN_VALUES", ["sum", "square", "faces", "back", "cut", "both", "either", "not", "any"])) rfl
  have vI := (exAt c 0 (e := fun K => valsB K (ga K "INNER_RULES") vINNER_RULES) rfl)
  have vO := (exAt c 1 (e := fun K => valsB K (ga K "OWN_VALUES") vOWN_VALUES) rfl)
  have aO := Hd.allB_ok (exAt c 2 (e := fun K => Hd.allB K (ga K "OWN_VALUES") wdKey) rfl) DO.at_
  have Gk : G11 K w mg (ga K "OWN_VALUES") (ga K "INNER_RULES") := ⟨int_ok X G (c.t.d.fact 85 (f := .int "LEAST_KINDS" 2) rfl), int_ok X G (c.t.d.fact 86 (f := .int "MOST_KINDS" 12) rfl), int_ok X G (c.t.d.fact 87 (f := .int "MOST_SIGNS" 60) rfl), int_ok X G (c.t.d.fact 88 (f := .int "LEAST_MODULUS" 2) rfl), int_ok X G (c.t.d.fact 89 (f := .int "MOST_MODULUS" 60) rfl), int_ok X G (c.t.d.fact 90 (f := .int "MOST_WEIGHTS" 8) rfl), int_ok X G (c.t.d.fact 91 (f := .int "MOST_ROWS" 60) rfl), int_ok X G (c.t.d.fact 92 (f := .int "MOST_FACES" 4) rfl), int_ok X G (c.t.d.fact 93 (f := .int "MOST_CUT" 3) rfl), int_ok X G (c.t.d.fact 94 (f := .int "MOST_PARTS" 40) rfl), str_ok X G (c.t.d.fact 95 (f := .str "ALL_SIGNS" K4.ALL) rfl), (glo_ok X G (c.t.d.fact 65 (f := .glo "OWN_VALUES") rfl)),
    (fun k hk => by
      match k, hk with
      | 0, _ => exact Hd.kdct_of DO vO (x := "any") (v := .int 0) (by simp [vOWN_VALUES])
      | 1, _ => exact Hd.kdct_of DO vO (x := "back") (v := .int 0) (by simp [vOWN_VALUES])
      | 2, _ => exact Hd.kdct_of DO vO (x := "not") (v := .int 0) (by simp [vOWN_VALUES])
      | 3, _ => exact Hd.kdct_of DO vO (x := "both") (v := .int 0) (by simp [vOWN_VALUES])
      | 4, _ => exact Hd.kdct_of DO vO (x := "either") (v := .int 0) (by simp [vOWN_VALUES])
      | 5, _ => exact Hd.kdct_of DO vO (x := "sum") (v := .int 3) (by simp [vOWN_VALUES])
      | 6, _ => exact Hd.kdct_of DO vO (x := "square") (v := .int 2) (by simp [vOWN_VALUES])
      | 7, _ => exact Hd.kdct_of DO vO (x := "faces") (v := .int 1) (by simp [vOWN_VALUES])
      | 8, _ => exact Hd.kdct_of DO vO (x := "cut") (v := .int 2) (by simp [vOWN_VALUES])
      | k + 9, hk => omega),
    ⟨_, _, DO⟩, (fun k hk => by
      match k, hk with
      | 0, _ => obtain ⟨u, e, _⟩ := valsB_ok vO (q := ("any", .int 0)) (by simp [vOWN_VALUES]); exact ⟨u, e⟩
      | 1, _ => obtain ⟨u, e, _⟩ := valsB_ok vO (q := ("back", .int 0)) (by simp [vOWN_VALUES]); exact ⟨u, e⟩
      | 2, _ => obtain ⟨u, e, _⟩ := valsB_ok vO (q := ("not", .int 0)) (by simp [vOWN_VALUES]); exact ⟨u, e⟩
      | 3, _ => obtain ⟨u, e, _⟩ := valsB_ok vO (q := ("both", .int 0)) (by simp [vOWN_VALUES]); exact ⟨u, e⟩
      | 4, _ => obtain ⟨u, e, _⟩ := valsB_ok vO (q := ("either", .int 0)) (by simp [vOWN_VALUES]); exact ⟨u, e⟩
      | 5, _ => obtain ⟨u, e, _⟩ := valsB_ok vO (q := ("sum", .int 3)) (by simp [vOWN_VALUES]); exact ⟨u, e⟩
      | 6, _ => obtain ⟨u, e, _⟩ := valsB_ok vO (q := ("square", .int 2)) (by simp [vOWN_VALUES]); exact ⟨u, e⟩
      | 7, _ => obtain ⟨u, e, _⟩ := valsB_ok vO (q := ("faces", .int 1)) (by simp [vOWN_VALUES]); exact ⟨u, e⟩
      | 8, _ => obtain ⟨u, e, _⟩ := valsB_ok vO (q := ("cut", .int 2)) (by simp [vOWN_VALUES]); exact ⟨u, e⟩
      | k + 9, hk => omega), ns_miss DO.at_ aO, (glo_ok X G (c.t.d.fact 66 (f := .glo "INNER_RULES") rfl)),
    (fun k hk => by
      match k, hk with
      | 0, _ => exact Hd.kdct_of DI vI (x := "any") (v := .int 0) (by simp [vINNER_RULES])
      | 1, _ => exact Hd.kdct_of DI vI (x := "back") (v := .int 1) (by simp [vINNER_RULES])
      | 2, _ => exact Hd.kdct_of DI vI (x := "not") (v := .int 1) (by simp [vINNER_RULES])
      | 3, _ => exact Hd.kdct_of DI vI (x := "both") (v := .int 2) (by simp [vINNER_RULES])
      | 4, _ => exact Hd.kdct_of DI vI (x := "either") (v := .int 2) (by simp [vINNER_RULES])
      | 5, _ => exact Hd.kdct_of DI vI (x := "sum") (v := .int 0) (by simp [vINNER_RULES])
      | 6, _ => exact Hd.kdct_of DI vI (x := "square") (v := .int 0) (by simp [vINNER_RULES])
      | 7, _ => exact Hd.kdct_of DI vI (x := "faces") (v := .int 1) (by simp [vINNER_RULES])
      | 8, _ => exact Hd.kdct_of DI vI (x := "cut") (v := .int 1) (by simp [vINNER_RULES])
      | k + 9, hk => omega)⟩
  obtain ⟨fdS, TS⟩ : ∃ fd, ErrS PROG K mg (ga K "BadSigns") (ma K (ga K "BadSigns") "__init__") fd := by
    obtain ⟨sin, subC, subV⟩ := Hd.supB_ok (exAt c 6 (e := fun K => Hd.supB K (ga K "BadSigns")) rfl)
    obtain ⟨oc, od, kV, doc, pm, an, ct, osl, cda, cc, ccl, cdd, vs, ccs, file, tf, cl0, cld, csl, lk, hcd, lcd, hvs, hfile, lcc⟩ := Hd.init_ok (P := PROG) (d := ⟨("BadSigns", some "__init__"), "BadSigns.__init__", defArgs (inClass (top 4) 0), defBody (inClass (top 4) 0), defScope (inClass (top 4) 0)⟩) (c.init 0 rfl) (exAt c 9 (e := fun K => Hd.initB PROG K ("BadSigns", some "__init__") "BadSigns.__init__" (ga K "BadSigns")) rfl)
    exact ⟨_, ⟨⟨⟨oc, od, kV, doc, pm, an, ct, osl, cda, cc, ccl, cdd, vs, ccs, file, tf, cl0, cld, csl, rfl, lk, hcd, lcd, hvs, hfile, lcc⟩, by kernel_rfl, eqO_ok (exAt c 3 (e := fun K => eqO (PySem.W.nsIn K cStatics "thirdparty.any") (some none)) rfl), free_ok X G (c.t.d.fact 84 (f := .free "super") rfl), Hd.oexB_ok (exAt c 4 (e := fun K => Hd.oexB K (ga K "BadSigns")) rfl), sin, subC, subV, eqO_ok (exAt c 10 (e := fun K => eqO (PySem.W.findIn K (.ref (ga K "BadSigns")) "signs") (some none)) rfl)⟩, (glo_ok X G (c.t.d.fact 61 (f := .glo "BadSigns") rfl)), eqO_ok (exAt c 11 (e := fun K => eqO (PySem.W.findIn K (.ref (ga K "BadSigns")) "__init__") (some (some (.ref (ma K (ga K "BadSigns") "__init__"))))) rfl), of_decide_eq_true (exAt c 12 (e := fun K => decide (PySem.W.typeIn K (.ref (ma K (ga K "BadSigns") "__init__")) = some (.type "function"))) rfl), fun s us _ hl => match us, hl with | [_, _], _ => .of_eq rfl⟩⟩
  obtain ⟨fdR, TR⟩ : ∃ fd, ErrR PROG K mg (ga K "BadRule") (ma K (ga K "BadRule") "__init__") fd := by
    obtain ⟨sin, subC, subV⟩ := Hd.supB_ok (exAt c 17 (e := fun K => Hd.supB K (ga K "BadRule")) rfl)
    obtain ⟨oc, od, kV, doc, pm, an, ct, osl, cda, cc, ccl, cdd, vs, ccs, file, tf, cl0, cld, csl, lk, hcd, lcd, hvs, hfile, lcc⟩ := Hd.init_ok (P := PROG) (d := ⟨("BadRule", some "__init__"), "BadRule.__init__", defArgs (inClass (top 6) 0), defBody (inClass (top 6) 0), defScope (inClass (top 6) 0)⟩) (c.init 1 rfl) (exAt c 20 (e := fun K => Hd.initB PROG K ("BadRule", some "__init__") "BadRule.__init__" (ga K "BadRule")) rfl)
    exact ⟨_, ⟨⟨⟨oc, od, kV, doc, pm, an, ct, osl, cda, cc, ccl, cdd, vs, ccs, file, tf, cl0, cld, csl, rfl, lk, hcd, lcd, hvs, hfile, lcc⟩, by kernel_rfl, eqO_ok (exAt c 3 (e := fun K => eqO (PySem.W.nsIn K cStatics "thirdparty.any") (some none)) rfl), free_ok X G (c.t.d.fact 84 (f := .free "super") rfl), Hd.oexB_ok (exAt c 15 (e := fun K => Hd.oexB K (ga K "BadRule")) rfl), sin, subC, subV, eqO_ok (exAt c 21 (e := fun K => eqO (PySem.W.findIn K (.ref (ga K "BadRule")) "rule") (some none)) rfl)⟩, (glo_ok X G (c.t.d.fact 62 (f := .glo "BadRule") rfl)), eqO_ok (exAt c 22 (e := fun K => eqO (PySem.W.findIn K (.ref (ga K "BadRule")) "__init__") (some (some (.ref (ma K (ga K "BadRule") "__init__"))))) rfl), of_decide_eq_true (exAt c 23 (e := fun K => decide (PySem.W.typeIn K (.ref (ma K (ga K "BadRule") "__init__")) = some (.type "function"))) rfl), fun s us _ hl => match us, hl with | [_, _], _ => .of_eq rfl⟩⟩
  obtain ⟨fdP, TP⟩ : ∃ fd, ErrP PROG K mg (ga K "BadPaper") (ma K (ga K "BadPaper") "__init__") fd := by
    obtain ⟨sin, subC, subV⟩ := Hd.supB_ok (exAt c 28 (e := fun K => Hd.supB K (ga K "BadPaper")) rfl)
    obtain ⟨oc, od, kV, doc, pm, an, ct, osl, cda, cc, ccl, cdd, vs, ccs, file, tf, cl0, cld, csl, lk, hcd, lcd, hvs, hfile, lcc⟩ := Hd.init_ok (P := PROG) (d := ⟨("BadPaper", some "__init__"), "BadPaper.__init__", defArgs (inClass (top 5) 0), defBody (inClass (top 5) 0), defScope (inClass (top 5) 0)⟩) (c.init 2 rfl) (exAt c 31 (e := fun K => Hd.initB PROG K ("BadPaper", some "__init__") "BadPaper.__init__" (ga K "BadPaper")) rfl)
    exact ⟨_, ⟨⟨⟨oc, od, kV, doc, pm, an, ct, osl, cda, cc, ccl, cdd, vs, ccs, file, tf, cl0, cld, csl, rfl, lk, hcd, lcd, hvs, hfile, lcc⟩, by kernel_rfl, eqO_ok (exAt c 3 (e := fun K => eqO (PySem.W.nsIn K cStatics "thirdparty.any") (some none)) rfl), free_ok X G (c.t.d.fact 84 (f := .free "super") rfl), Hd.oexB_ok (exAt c 26 (e := fun K => Hd.oexB K (ga K "BadPaper")) rfl), sin, subC, subV, eqO_ok (exAt c 32 (e := fun K => eqO (PySem.W.findIn K (.ref (ga K "BadPaper")) "paper") (some none)) rfl)⟩, (glo_ok X G (c.t.d.fact 64 (f := .glo "BadPaper") rfl)), eqO_ok (exAt c 33 (e := fun K => eqO (PySem.W.findIn K (.ref (ga K "BadPaper")) "__init__") (some (some (.ref (ma K (ga K "BadPaper") "__init__"))))) rfl), of_decide_eq_true (exAt c 34 (e := fun K => decide (PySem.W.typeIn K (.ref (ma K (ga K "BadPaper") "__init__")) = some (.type "function"))) rfl), fun s us _ hl => match us, hl with | [_, _], _ => .of_eq rfl⟩⟩
  obtain ⟨fdM, TM⟩ : ∃ fd, ErrM PROG K mg (ga K "TooMany") (ma K (ga K "TooMany") "__init__") fd := by
    obtain ⟨sin, subC, subV⟩ := Hd.supB_ok (exAt c 39 (e := fun K => Hd.supB K (ga K "TooMany")) rfl)
    obtain ⟨oc, od, kV, doc, pm, an, ct, osl, cda, cc, ccl, cdd, vs, ccs, file, tf, cl0, cld, csl, lk, hcd, lcd, hvs, hfile, lcc⟩ := Hd.init_ok (P := PROG) (d := ⟨("TooMany", some "__init__"), "TooMany.__init__", defArgs (inClass (top 7) 0), defBody (inClass (top 7) 0), defScope (inClass (top 7) 0)⟩) (c.init 3 rfl) (exAt c 42 (e := fun K => Hd.initB PROG K ("TooMany", some "__init__") "TooMany.__init__" (ga K "TooMany")) rfl)
    exact ⟨_, ⟨⟨⟨oc, od, kV, doc, pm, an, ct, osl, cda, cc, ccl, cdd, vs, ccs, file, tf, cl0, cld, csl, rfl, lk, hcd, lcd, hvs, hfile, lcc⟩, by kernel_rfl, eqO_ok (exAt c 3 (e := fun K => eqO (PySem.W.nsIn K cStatics "thirdparty.any") (some none)) rfl), free_ok X G (c.t.d.fact 84 (f := .free "super") rfl), Hd.oexB_ok (exAt c 37 (e := fun K => Hd.oexB K (ga K "TooMany")) rfl), sin, subC, subV, eqO_ok (exAt c 43 (e := fun K => eqO (PySem.W.findIn K (.ref (ga K "TooMany")) "what") (some none)) rfl)⟩, (glo_ok X G (c.t.d.fact 63 (f := .glo "TooMany") rfl)), eqO_ok (exAt c 44 (e := fun K => eqO (PySem.W.findIn K (.ref (ga K "TooMany")) "__init__") (some (some (.ref (ma K (ga K "TooMany") "__init__"))))) rfl), of_decide_eq_true (exAt c 45 (e := fun K => decide (PySem.W.typeIn K (.ref (ma K (ga K "TooMany") "__init__")) = some (.type "function"))) rfl), fun s us _ hl => match us, hl with | [_, _], _ => .of_eq rfl⟩⟩
  have FS : KF K (ga K "BadSigns") (ga K "Malformed") [(ga K "BadRule"), (ga K "BadPaper"), (ga K "Refused")] := ⟨Hd.excB_ok (exAt c 5 (e := fun K => Hd.excB K (ga K "BadSigns")) rfl), xfB_ok (exAt c 7 (e := fun K => xfB K (ga K "BadSigns")) rfl), (exAt c 8 (e := fun K => (PySem.W.clsIn K (ga K "BadSigns")).isSome) rfl), of_decide_eq_true (exAt c 13 (e := fun K => Hd.kitB1 K (ga K "BadSigns") (ga K "Malformed") true) rfl), of_decide_eq_true (exAt c 14 (e := fun K => decide (PySem.W.kitAny K (.ref (ga K "BadSigns")) [.ref (ga K "BadRule"), .ref (ga K "BadPaper"), .ref (ga K "Refused")] = some false)) rfl)⟩
  have FR : KF K (ga K "BadRule") (ga K "Malformed") [(ga K "BadPaper"), (ga K "Refused")] := ⟨Hd.excB_ok (exAt c 16 (e := fun K => Hd.excB K (ga K "BadRule")) rfl), xfB_ok (exAt c 18 (e := fun K => xfB K (ga K "BadRule")) rfl), (exAt c 19 (e := fun K => (PySem.W.clsIn K (ga K "BadRule")).isSome) rfl), of_decide_eq_true (exAt c 24 (e := fun K => Hd.kitB1 K (ga K "BadRule") (ga K "Malformed") true) rfl), of_decide_eq_true (exAt c 25 (e := fun K => decide (PySem.W.kitAny K (.ref (ga K "BadRule")) [.ref (ga K "BadPaper"), .ref (ga K "Refused")] = some false)) rfl)⟩
  have FP : KF K (ga K "BadPaper") (ga K "Malformed") [] := ⟨Hd.excB_ok (exAt c 27 (e := fun K => Hd.excB K (ga K "BadPaper")) rfl), xfB_ok (exAt c 29 (e := fun K => xfB K (ga K "BadPaper")) rfl), (exAt c 30 (e := fun K => (PySem.W.clsIn K (ga K "BadPaper")).isSome) rfl), of_decide_eq_true (exAt c 35 (e := fun K => Hd.kitB1 K (ga K "BadPaper") (ga K "Malformed") true) rfl), of_decide_eq_true (exAt c 36 (e := fun K => decide (PySem.W.kitAny K (.ref (ga K "BadPaper")) [] = some false)) rfl)⟩
  have FM : KF K (ga K "TooMany") (ga K "CarryError") [(ga K "Malformed"), (ga K "Refused")] := ⟨Hd.excB_ok (exAt c 38 (e := fun K => Hd.excB K (ga K "TooMany")) rfl), xfB_ok (exAt c 40 (e := fun K => xfB K (ga K "TooMany")) rfl), (exAt c 41 (e := fun K => (PySem.W.clsIn K (ga K "TooMany")).isSome) rfl), of_decide_eq_true (exAt c 46 (e := fun K => Hd.kitB1 K (ga K "TooMany") (ga K "CarryError") true) rfl), of_decide_eq_true (exAt c 47 (e := fun K => decide (PySem.W.kitAny K (.ref (ga K "TooMany")) [.ref (ga K "Malformed"), .ref (ga K "Refused")] = some false)) rfl)⟩
  have Nk : KN K mg (ga K "CarryError") (ga K "Malformed") (ga K "Refused") (ga K "BadSigns") (ga K "BadRule") (ga K "TooMany") (ga K "BadPaper") := ⟨(glo_ok X G (c.t.d.fact 58 (f := .glo "CarryError") rfl)), (glo_ok X G (c.t.d.fact 59 (f := .glo "Malformed") rfl)), (glo_ok X G (c.t.d.fact 60 (f := .glo "Refused") rfl)), (glo_ok X G (c.t.d.fact 61 (f := .glo "BadSigns") rfl)), (glo_ok X G (c.t.d.fact 62 (f := .glo "BadRule") rfl)), (glo_ok X G (c.t.d.fact 63 (f := .glo "TooMany") rfl)), (glo_ok X G (c.t.d.fact 64 (f := .glo "BadPaper") rfl)), eqO_ok (exAt c 10 (e := fun K => eqO (PySem.W.findIn K (.ref (ga K "BadSigns")) "signs") (some none)) rfl), eqO_ok (exAt c 21 (e := fun K => eqO (PySem.W.findIn K (.ref (ga K "BadRule")) "rule") (some none)) rfl), eqO_ok (exAt c 43 (e := fun K => eqO (PySem.W.findIn K (.ref (ga K "TooMany")) "what") (some none)) rfl), eqO_ok (exAt c 32 (e := fun K => eqO (PySem.W.findIn K (.ref (ga K "BadPaper")) "paper") (some none)) rfl), exm_ok (c.t.d.fact 96 (f := .exm "BadSigns" "BadSigns" true) rfl), exm_ok (c.t.d.fact 97 (f := .exm "BadRule" "BadSigns" false) rfl), exm_ok (c.t.d.fact 98 (f := .exm "BadRule" "BadRule" true) rfl), exm_ok (c.t.d.fact 99 (f := .exm "TooMany" "BadSigns" false) rfl), exm_ok (c.t.d.fact 100 (f := .exm "TooMany" "BadRule" false) rfl), exm_ok (c.t.d.fact 101 (f := .exm "TooMany" "TooMany" true) rfl), exm_ok (c.t.d.fact 102 (f := .exm "BadPaper" "BadSigns" false) rfl), exm_ok (c.t.d.fact 103 (f := .exm "BadPaper" "BadRule" false) rfl), exm_ok (c.t.d.fact 104 (f := .exm "BadPaper" "TooMany" false) rfl), exm_ok (c.t.d.fact 105 (f := .exm "BadPaper" "BadPaper" true) rfl), of_decide_eq_true (exAt c 48 (e := fun K => Hd.kitB1 K (ga K "BadPaper") (ga K "Refused") false) rfl)⟩
  obtain ⟨flw, fdlw, alw, Flw⟩ := n_law
  have e := hfa.symm.trans (PySem.W.mg_of X G alw)
  cases e
  refine ⟨fdlw, fun s u => ?_, fun base _ _ => ?_⟩
  · obtain ⟨oc, od, kV, doc, pm, an, cdv, ct, osl, rfl, _⟩ := Flw.ex
    exact .of_eq rfl
  · skip
    have Ot := own_of (P := PROG) (w := w) (base := base) X G n_is_text (fun f fd F => ok_isText F B) (fun _ _ _ _ _ _ us hl => match us, hl with | [_, _, _, _], _ => rfl)
    have Oa := own_of (P := PROG) (w := w) (base := base) X G n_is_ascending (fun f fd F => ok_isAsc F B) (fun _ _ _ _ _ _ us hl => match us, hl with | [_], _ => rfl)
    have Oars := own_of (P := PROG) (w := w) (base := base) X G n_are_signs (fun f fd F => ok_areSigns F Gk Ot Oa) (fun _ _ _ _ _ _ us hl => match us, hl with | [_], _ => rfl)
    have Owh := own_of (P := PROG) (w := w) (base := base) X G n_is_whole (fun f fd F => ok_wholeG F B) (fun _ _ _ _ _ _ us hl => match us, hl with | [_], _ => rfl)
    have Owi := own_of (P := PROG) (w := w) (base := base) X G n_is_within (fun f fd F => ok_withinG F B Owh) (fun _ _ _ _ _ _ us hl => match us, hl with | [_, _, _], _ => rfl)
    have Oit := own_of (P := PROG) (w := w) (base := base) X G n_is_tuple (fun f fd F => ok_isTuple F B) (fun _ _ _ _ _ _ us hl => match us, hl with | [_], _ => rfl)
    have Ito := own_of (P := PROG) (w := w) (base := base) X G n_is_tuple_of (fun f fd F => ok_isTupleOf F B Oit) (fun _ _ _ _ _ _ us hl => match us, hl with | [_, _, _], _ => rfl)
    have Oan := own_of (P := PROG) (w := w) (base := base) X G n_is_ascending (fun f fd F => ok_ascN F B) (fun _ _ _ _ _ _ us hl => match us, hl with | [_], _ => rfl)
    have Oip := own_of (P := PROG) (w := w) (base := base) X G n_is_paper (fun f fd F => ok_isPaper F Gk Ot) (fun _ _ _ _ _ _ us hl => match us, hl with | [_, _], _ => rfl)
    have Oov := own_of (P := PROG) (w := w) (base := base) X G n_own_values (fun f fd F => ok_ownValues F B Gk) (fun _ _ _ _ _ _ us hl => match us, hl with | [_], _ => rfl)
    have Oin := own_of (P := PROG) (w := w) (base := base) X G n_inner_rules (fun f fd F => ok_innerRules F B Gk) (fun _ _ _ _ _ _ us hl => match us, hl with | [_], _ => rfl)
    have Oir := own_of (P := PROG) (w := w) (base := base) X G n_is_row (fun f fd F => ok_rowG F B Ito Owi) (fun _ _ _ _ _ _ us hl => match us, hl with | [_, _, _], _ => rfl)
    have Oar := own_of (P := PROG) (w := w) (base := base) X G n_are_rows (fun f fd F => ok_rowsC F B Ito Oir) (fun _ _ _ _ _ _ us hl => match us, hl with | [_, _, _], _ => rfl)
    have Oag := own_of (P := PROG) (w := w) (base := base) X G n_are_goals (fun f fd F => ok_goalsC F B Oit Owi Oan) (fun _ _ _ _ _ _ us hl => match us, hl with | [_, _], _ => rfl)
    have Osu := own_of (P := PROG) (w := w) (base := base) X G n_is_sum (fun f fd F => ok_sumC F B Gk Ito Owi) (fun _ _ _ _ _ _ us hl => match us, hl with | [_], _ => rfl)
    have Osq := own_of (P := PROG) (w := w) (base := base) X G n_is_square (fun f fd F => ok_squareC F B Gk Oar Oag) (fun _ _ _ _ _ _ us hl => match us, hl with | [_, _], _ => rfl)
    have Ofa := own_of (P := PROG) (w := w) (base := base) X G n_are_faces (fun f fd F => ok_facesC F B Gk Ito Ot) (fun _ _ _ _ _ _ us hl => match us, hl with | [_, _], _ => rfl)
    have Oas : OAsT 4 PROG w K mg base := by
      obtain ⟨f, fd, a, F⟩ := id n_as_tuples
      exact as_all F B Oit (PySem.W.mg_of X G a) (F.binds (fun _ _ _ _ _ _ us hl => match us, hl with | [_], _ => rfl)) 4
    have Ohf := own_of (P := PROG) (w := w) (base := base) X G n_has_form (fun f fd F => ok_formG F B Gk Ito Owi Oov Osu Osq Ofa) (fun _ _ _ _ _ _ us hl => match us, hl with | [_, _], _ => rfl)
    have Ocp : OCount 57 PROG w K mg base := by
      obtain ⟨f, fd, a, F⟩ := id n_count_parts
      exact cp_all F B Oin (PySem.W.mg_of X G a) (F.binds (fun _ _ _ _ _ _ us hl => match us, hl with | [_], _ => rfl)) 57
    have Ock : OChkE (ga K "BadRule") 60 PROG w K mg base := by
      obtain ⟨f, fd, a, F⟩ := id n_checked_part
      exact chkG_all F B TR Ohf Oin Oov Oas (PySem.W.mg_of X G a) (F.binds (fun _ _ _ _ _ _ us hl => match us, hl with | [_, _], _ => rfl)) 60
    have Ocr := ownX_of (P := PROG) (w := w) (base := base) X G n_checked_rule (fun f fd F => ok_chkRG F B Gk TM Ock Ocp) (fun _ _ _ _ _ _ us hl => match us, hl with | [_, _], _ => rfl)
    have Ors := ownX_of (P := PROG) (w := w) (base := base) X G n_require_signs (fun f fd F => ok_reqS F TS Oars) (fun _ _ _ _ _ _ us hl => match us, hl with | [_], _ => rfl)
    have Orp := ownX_of (P := PROG) (w := w) (base := base) X G n_require_paper (fun f fd F => ok_reqP F TP Oip) (fun _ _ _ _ _ _ us hl => match us, hl with | [_, _], _ => rfl)
    have Ochk := ownX_of (P := PROG) (w := w) (base := base) X G n_check_rule (fun f fd F => ok_checkG F Ors Ocr) (fun _ _ _ _ _ _ us hl => match us, hl with | [_, _], _ => rfl)
    have Osi := own_of (P := PROG) (w := w) (base := base) X G n_standing_in (fun f fd F => ok_standIn F B) (fun _ _ _ _ _ _ us hl => match us, hl with | [_, _, _, _], _ => rfl)
    have Ohs := own_of (P := PROG) (w := w) (base := base) X G n_has_sum (fun f fd F => ok_hasSum F B BZe) (fun _ _ _ _ _ _ us hl => match us, hl with | [_, _, _], _ => rfl)
    have Ofc := own_of (P := PROG) (w := w) (base := base) X G n_faced (fun f fd F => ok_faced F B BZe) (fun _ _ _ _ _ _ us hl => match us, hl with | [_, _, _], _ => rfl)
    have Oeg := own_of (P := PROG) (w := w) (base := base) X G n_ends_in_goal (fun f fd F => ok_ends F B Osi) (fun _ _ _ _ _ _ us hl => match us, hl with | [_, _, _], _ => rfl)
    have Ofi : OFinds 40 PROG w K mg base := by
      obtain ⟨f, fd, a, F⟩ := id n_finds_right
      exact fi_all F B Oin Oov Ohs Oeg Ofc (PySem.W.mg_of X G a) (F.binds (fun _ _ _ _ _ _ us hl => match us, hl with | [_, _, _], _ => rfl)) 40
    obtain ⟨fV, fdV, aV, FVt⟩ := id n_signature_of
    have GV := ok_sigOf (P := PROG) (w := w) (base := base) FVt B Ochk Orp Ofi
    have bV := FVt.binds (ps := ["signs", "rules", "paper"]) (fun _ _ _ _ _ _ us hl => match us, hl with | [_, _, _], _ => rfl)
    have Osg : OSigC PROG w K mg base := ⟨fV, fdV, sig_calm GV, PySem.W.mg_of X G aV, FVt.kp, bV⟩
    obtain ⟨fW, fdW, aW, FWt⟩ := id n_fitting
    have GW := ok_fitting (P := PROG) (w := w) (base := base) FWt B BZe Ochk Orp Ofi
    have bW := FWt.binds (ps := ["signs", "rules", "seen"]) (fun _ _ _ _ _ _ us hl => match us, hl with | [_, _, _], _ => rfl)
    have Oft : OFitC PROG w K mg base := ⟨fW, fdW, fit_calm GW, PySem.W.mg_of X G aW, FWt.kp, bW⟩
    have Op := own_of (P := PROG) (w := w) (base := base) X G n__law_pick (fun f fd F => ok_pick F B) (fun _ _ _ _ _ _ us hl => match us, hl with | [_, _], _ => rfl)
    have Ob := own_of (P := PROG) (w := w) (base := base) X G n__law_bag_of (fun f fd F => ok_bagOf F B) (fun _ _ _ _ _ _ us hl => match us, hl with | [_, _], _ => rfl)
    have Oo := own_of (P := PROG) (w := w) (base := base) X G n__law_one_of (fun f fd F => ok_oneOf F B Op) (fun _ _ _ _ _ _ us hl => match us, hl with | [_, _], _ => rfl)
    have Omx := own_of (P := PROG) (w := w) (base := base) X G n__law_mixed (fun f fd F => ok_mixed F B Op) (fun _ _ _ _ _ _ us hl => match us, hl with | [_, _], _ => rfl)
    have OmxL := own_of (P := PROG) (w := w) (base := base) X G n__law_mixed (fun f fd F => ok_mixedL F B Op) (fun _ _ _ _ _ _ us hl => match us, hl with | [_, _], _ => rfl)
    have Olj : OJudged 41 PROG w K mg base := by
      obtain ⟨f, fd, a, F⟩ := id n__law_judged
      exact lj_all F B (PySem.W.mg_of X G a) (F.binds (fun _ _ _ _ _ _ us hl => match us, hl with | [_, _, _], _ => rfl)) 41
    have Old46 : OLL 46 PROG w K mg base := by
      obtain ⟨f, fd, a, F⟩ := id n__law_listed
      exact ll_all F B (PySem.W.mg_of X G a) (F.binds (fun _ _ _ _ _ _ us hl => match us, hl with | [_], _ => rfl)) 46
    have Old : OLL 60 PROG w K mg base := by
      obtain ⟨f, fd, a, F⟩ := id n__law_listed
      exact ll_all F B (PySem.W.mg_of X G a) (F.binds (fun _ _ _ _ _ _ us hl => match us, hl with | [_], _ => rfl)) 60
    have Oll46 := own_of (P := PROG) (w := w) (base := base) X G n__law_listed (fun f fd F => ok_listedL F B Old46) (fun _ _ _ _ _ _ us hl => match us, hl with | [_], _ => rfl)
    have Oll := own_of (P := PROG) (w := w) (base := base) X G n__law_listed (fun f fd F => ok_listedL F B Old) (fun _ _ _ _ _ _ us hl => match us, hl with | [_], _ => rfl)
    have Opo := own_of (P := PROG) (w := w) (base := base) X G n__law_paper_of (fun f fd F => ok_paperOf F B Op Oo) (fun _ _ _ _ _ _ us hl => match us, hl with | [_, _, _], _ => rfl)
    have Osm := own_of (P := PROG) (w := w) (base := base) X G n__law_sum (fun f fd F => ok_sumG F B Op) (fun _ _ _ _ _ _ us hl => match us, hl with | [_, _], _ => rfl)
    have Oso := own_of (P := PROG) (w := w) (base := base) X G n__law_signs_of (fun f fd F => ok_signsOf F B Op) (fun _ _ _ _ _ _ us hl => match us, hl with | [_, _], _ => rfl)
    have Ogo := own_of (P := PROG) (w := w) (base := base) X G n__law_goals (fun f fd F => ok_goalsOf F B Op) (fun _ _ _ _ _ _ us hl => match us, hl with | [_, _], _ => rfl)
    have Ofo := own_of (P := PROG) (w := w) (base := base) X G n__law_faces (fun f fd F => ok_facesOf F B Op Omx) (fun _ _ _ _ _ _ us hl => match us, hl with | [_, _], _ => rfl)
    have Oro := own_of (P := PROG) (w := w) (base := base) X G n__law_rows (fun f fd F => ok_rowsOf F B Op OmxL) (fun _ _ _ _ _ _ us hl => match us, hl with | [_, _, _], _ => rfl)
    have Oru : ORuleOf 3 PROG w K mg base := by
      obtain ⟨f, fd, a, F⟩ := id n__law_rule_of
      exact ro_all F B Op Osm Oro Ogo Ofo (PySem.W.mg_of X G a) (F.binds (fun _ _ _ _ _ _ us hl => match us, hl with | [_, _, _], _ => rfl)) 3
    have Onl : ONL 3 PROG w K mg base := by
      obtain ⟨f, fd, a, F⟩ := id n__law_no_list
      exact nl_all F B (PySem.W.mg_of X G a) (F.binds (fun _ _ _ _ _ _ us hl => match us, hl with | [_], _ => rfl)) 3
    have Ost := own_of (P := PROG) (w := w) (base := base) X G n__law_same_tuple (fun f fd F => ok_same F B Onl) (fun _ _ _ _ _ _ us hl => match us, hl with | [_, _], _ => rfl)
    have Ola := own_of (P := PROG) (w := w) (base := base) X G n__law_large_rule (fun f fd F => ok_large F B Op Oo) (fun _ _ _ _ _ _ us hl => match us, hl with | [_], _ => rfl)
    have Ors_ := own_of (P := PROG) (w := w) (base := base) X G n__law_rules_of (fun f fd F => ok_rulesOf F B Op Ola Oru) (fun _ _ _ _ _ _ us hl => match us, hl with | [_, _], _ => rfl)
    have Olg := own_of (P := PROG) (w := w) (base := base) X G n__law_longer_paper (fun f fd F => ok_longer F B Op Oo Opo) (fun _ _ _ _ _ _ us hl => match us, hl with | [_, _], _ => rfl)
    have Ofl := own_of (P := PROG) (w := w) (base := base) X G n__law_flags_of (fun f fd F => ok_flags F B Olj) (fun _ _ _ _ _ _ us hl => match us, hl with | [_, _, _], _ => rfl)
    have Olf := own_of (P := PROG) (w := w) (base := base) X G n__law_fit (fun f fd F => ok_lfit F B Ofl) (fun _ _ _ _ _ _ us hl => match us, hl with | [_, _, _], _ => rfl)
    have Otw := own_of (P := PROG) (w := w) (base := base) X G n__law_told_well (fun f fd F => ok_told F B Ob Oso Ors_ Op Olg Olj Ost Osg Oft Ofl Olf Oll46) (fun _ _ _ _ _ _ us hl => match us, hl with | [_], _ => rfl)
    have Odp := own_of (P := PROG) (w := w) (base := base) X G n__law_deep_of (fun f fd F => ok_deep F B) (fun _ _ _ _ _ _ us hl => match us, hl with | [_, _], _ => rfl)
    have Obd := own_of (P := PROG) (w := w) (base := base) X G n__law_bad_part (fun f fd F => ok_badPart F B Oo) (fun _ _ _ _ _ _ us hl => match us, hl with | [_], _ => rfl)
    have Owr := own_of (P := PROG) (w := w) (base := base) X G n__law_wrong_rule (fun f fd F => ok_wrong F B Op Obd Odp) (fun _ _ _ _ _ _ us hl => match us, hl with | [_, _], _ => rfl)
    have Ora := own_of (P := PROG) (w := w) (base := base) X G n__law_raised (fun f fd F => ok_raised F B GV (PySem.W.mg_of X G aV) FVt.kp bV GW (PySem.W.mg_of X G aW) FWt.kp bW Nk FS FR FM FP) (fun _ _ _ _ _ _ us hl => match us, hl with | [_, _, _, _], _ => rfl)
    have Oeh := own_of (P := PROG) (w := w) (base := base) X G n__law_errors_hold (fun f fd F => ok_errH F B Ob Oso Ors_ Op Oo Owr Oll Old Ora) (fun _ _ _ _ _ _ us hl => match us, hl with | [_], _ => rfl)
    exact ok_law Flw Otw Oeh

end HdK69

/-! K69E -/
open PySem PySem.W PySem.Calls PyProof.Rows
set_option maxRecDepth 100000 in
set_option maxHeartbeats 0 in
theorem PySem.Challenge.cw_handcarried_k69_fitting_holds : PySem.Challenge.rw_handcarried_k69_fitting.Holds := by
  w_on; o_law
  refine HandSHeadRun.head_any (r := OpenLaw.row PySem.Challenge.rw_handcarried_k69_fitting) (q := HdK69.qv) (H := HdK69.hk) (ob := HdK69.ob) (M := 9000) (loose := HdK69.names) (d := HandSHeadRun.topDef (OpenLaw.row PySem.Challenge.rw_handcarried_k69_fitting).prog 85) (kwd := []) HdK69.ob_eq
    (by kernel_rfl) (fun s => by kernel_rfl) HdK69.run (by kernel_rfl) (by kernel_rfl) (by kernel_rfl) (by rfl) (by first | assumption | decide +kernel) (by decide +kernel) ⟨rfl, rfl, rfl, rfl, rfl, by decide +kernel⟩ ?hw ?hc
  case hw => w_witness2
  case hc =>
    refine L2.walk_ofE (l := PySem.Challenge.rw_handcarried_k69_fitting) (n := 63) (k := 73) (x := "_law_script") (CX := L2.CX0) rfl (by decide) (by kernel_rfl) ⟨rfl, by decide, by decide⟩ ?F (fun _ _ _ _ z => z)
    intro w mg fa h Y G hmg0
    obtain ⟨K, KX, c⟩ := Y
    have hmg : mg ("law" : PySem.Str) = some (.ref fa) := by
      have e : (HandSHeadRun.topDef (OpenLaw.row PySem.Challenge.rw_handcarried_k69_fitting).prog 85).name = ("law" : PySem.Str) := by kernel_rfl
      rw [← e]
      exact hmg0
    obtain ⟨fd, hb, hF⟩ := HdK69.all_mk (w := w) KX G hmg c
    exact ⟨K, fd, K4.spLaw K, KX, hb, fun H a ns hl _ hS => ⟨a, ns, rfl, hS, hl, fun _ => rfl⟩, hF⟩
