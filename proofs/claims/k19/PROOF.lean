import PyProof.Rows.All
import Wide.All
import OpenK.AllK
import Wide.FinOn
import HandS.Base
import HandS.Call
import HandS.List
import HandS.Text
import PyProof.ListStr
import PyProof.StrOps2
import PyProof.SliceStr2
import KE.KRevSl
import HandS.ForMost
import HandS.Star
import HandS.TupAny
import HandS.IsInst
import HandS.NoneIn
import HandS.More
import HandS.Walk
import KE.DataEq
import HandS.ExcIs
import HandS.ExcField
import HandS.ExcInit
import HandS.ExcSuper
import KE.KExcSuper
import KE.KSuper
import HandS.Head0
import HandS.Head1
import HandS.Head2
import HandS.HeadEnd
import HandS.HeadHook1
import HandS.HeadHook2
import HandS.HeadHook3
import HandS.HeadNt
import HandS.Deep
import KE.KDictCopyH
import PyProof.P3Eq
import HandS.Exc
import HandS.ExcOwn
import HandS.ExcCtx
import HandS.WordsExc
import HandS.SetFor
import PyProof.Rows.SetFrom
import HandS.Strs
import HandS.Zip
import HandS.SetKeys
import KE.GoesEnum
import HandS.Style
import HandS.DictComp
import HandS.StrMore
import HandS.Conv
import HandS.CallSlots
import HandS.Replace
import HandS.HotCalls
import KE.KExcIs
import PySem.Challenge.RW_handcarried_k19_readings
set_option Elab.async false
set_option linter.all false
set_option maxRecDepth 100000
set_option maxHeartbeats 0
/-! Br1 -/
/-! Rules of my own over the layer: list(text), text * n, text[::-1]. -/
namespace K1
open PySem PySem.Spec PyProof.Rows L2

theorem vals_pt : ∀ {xs : List V} {us : List Value}, xs.length = us.length → (∀ (j : Nat) (x : V) (u : Value), xs[j]? = some x → us[j]? = some u → RelV x u) → Vals xs us
  | [], [], _, _ => .nil
  | [], _ :: _, h, _ => by simp at h
  | _ :: _, [], h, _ => by simp at h
  | x :: xs, u :: us, h, k => .cons (k 0 x u rfl rfl) (vals_pt (by simpa using h) fun j y w a b => k (j + 1) y w (by simpa using a) (by simpa using b))

/-- the signs of a text, each a text -/
def sgn (z : Str) : List Str := z.cps.toList.map fun c => ⟨#[c]⟩

theorem call_listS {X : Cx} (hh : X.A.handled = none) : CallR X (.type "list") (fun xs H Q => ∃ z : Str, xs = [.str z] ∧ z.length ≤ sizeLine ∧ ∀ l, H l = none → Q (.ref l) (upd H l (.lst ((sgn z).map V.str)))) := by
  intro pins s σ H xs us Q I r h
  obtain ⟨z, rfl, hz, q⟩ := h
  obtain ⟨u, rfl, rx⟩ := vals1 r
  obtain ⟨t, rfl⟩ := rx
  refine call_list_str hh z t (hn := hz) fun h' tk acc c kp hS hacc => ?_
  refine ⟨.ref s.heap.objs.size, _, I.laid (t' := tk) (o := .lst ((sgn z).map V.str)) kp (Nat.le_refl _) ?_, rfl, q _ (I.hok.fresh (Nat.le_refl _))⟩
  refine ⟨?_, acc.toList, c, ?_, ?_⟩
  · have e : ((sgn z).map V.str).length = z.length := by simp [sgn, Str.length]
    rw [e]; exact hz
  · refine vals_pt ?_ ?_
    · simp [sgn, hacc.1]
    · intro j x u hx hu
      obtain ⟨c, w, hc, rfl⟩ := hacc.2 j u (by simpa using hu)
      have : x = V.str ⟨#[c]⟩ := by
        simp [sgn, hc] at hx
        exact hx.symm
      subst this
      exact ⟨w, rfl⟩
  · simpa using hS

/-- a text n times -/
def repS (z : Str) (n : Nat) : Str := ⟨(List.replicate n z.cps).foldl (· ++ ·) #[]⟩
theorem op_mul_str {X : Cx} : OpR X (binaryOp .Mult) (fun x y H Q => ∃ (z : Str) (k : Int), x = .str z ∧ y = .int k ∧ 1 ≤ k ∧ k ≤ 1000000 ∧ 1 ≤ z.length ∧ z.length * k.toNat ≤ sizeLine ∧ Q (.str (repS z k.toNat)) H) := by
  intro pins s σ H x y v u Q I rx ry h
  obtain ⟨z, k, rfl, rfl, h1, h2, h3, h4, q⟩ := h
  obtain ⟨t, rfl⟩ := rx
  obtain ⟨w, rfl⟩ := ry
  have hsl := sizeLine_eq
  refine P.mul_str ?_ ?_ ?_ ?_
  · have a1 : ¬ k < -(2 ^ 63 : Int) := by omega
    have a2 : ¬ k ≥ 2 ^ 63 := by omega
    rw [decide_eq_false a1, decide_eq_false a2]; rfl
  · intro _ _ hgt
    have hlen : (z.length : Int) ≤ 16777216 := by
      have : z.length * 1 ≤ z.length * k.toNat := Nat.mul_le_mul_left _ (by omega)
      omega
    have hq : (16777216 : Int) ≤ (2 ^ 63 - 1) / k := by
      rw [Int.le_ediv_iff_mul_le (by omega)]
      omega
    omega
  · intro _ _
    unfold Builtin.Str.tooLong
    exact decide_eq_false (by omega)
  · rw [if_neg (by omega)]
    by_cases c : (k == 1 || z.length == 0) = true
    · rw [if_pos c]
      have hk : k = 1 := by
        have h0 : (z.length == 0) = false := by simp; omega
        rw [h0, Bool.or_false] at c
        exact eq_of_beq c
      subst hk
      have e : repS z (1 : Int).toNat = z := by
        show (⟨(List.replicate 1 z.cps).foldl (· ++ ·) #[]⟩ : Str) = z
        simp [List.replicate]
      rw [e] at q
      exact ⟨.str z, H, I, ⟨t, rfl⟩, q⟩
    · rw [if_neg c]
      refine ⟨?_, .str _, H, I.tok _, ⟨_, rfl⟩, q⟩
      have e : ∀ (n : Nat) (a : Array Nat), ((List.replicate n z.cps).foldl (· ++ ·) a).size = a.size + n * z.cps.size := by
        intro n
        induction n with
        | zero => intro a; simp
        | succ n ih => intro a; rw [List.replicate_succ, List.foldl_cons, ih, Array.size_append, Nat.add_mul]; omega
      show ((List.replicate k.toNat z.cps).foldl (· ++ ·) #[]).size ≤ sizeLine
      rw [e]
      have : k.toNat * z.cps.size = z.length * k.toNat := Nat.mul_comm _ _
      simp only [Array.size_empty, Nat.zero_add]
      omega

/-- a text read from its end -/
def revS (z : Str) : Str := ⟨z.cps.toList.reverse.toArray⟩
def tRevS (te : TE) : TE := fun σ H Q => te σ H fun x H1 => ∃ z : Str, x = .str z ∧ z.length ≤ sizeLine ∧ Q (.str (revS z)) H1
theorem picked_rev (z : Str) (u : Tok) : ((slicePicked z none none (some (-1, u))).filterMap (z.cps[·]?)).toArray = z.cps.toList.reverse.toArray := by
  have e : slicePicked z none none (some (-1, u)) = sliceRange ((z.cps.size : Int) - 1) (-1) (-1) := by
    first
      | rfl
      | simp [slicePicked, Builtin.Str.strSliceIndices, Str.length]
  rw [e, PySem.W.krv_sliceRange, PySem.W.krv_range, List.filterMap_reverse, PySem.W.krv_all]
section
variable {X : Cx}
theorem pe_revS {e : Expr} {te : TE} {k : Nat} {p1 p2 p3 pos : Pos} (he : PE X e te) : PE X (.Subscript e (.Slice none none (some (.UnaryOp .USub (.Constant (.int 1) k p1) p2)) p3) pos) (tRevS te) := by
  refine ⟨fun pins s σ H Q I h => ?_⟩
  refine Subscript_ (thn (he.run pins s σ H _ I h) fun v s1 ⟨x, H1, I1, r1, z, ez, hz, q⟩ => ?_)
  subst ez
  obtain ⟨t, rfl⟩ := r1
  have hst : PO X (some (.UnaryOp .USub (.Constant (.int 1) k p1) p2)) (tPart (tUn (rU fun i => .int (-i)) (tC (.int 1)))) := po_some (pe_un un_neg pe_int)
  refine wpAny_Slice (thn (po_none.run pins s1 σ H1 (fun o G => o = none ∧ G = H1) I1 ⟨rfl, rfl⟩) fun vl s2 ⟨l, G2, I2, pl, el, g2⟩ => ?_)
  subst el g2
  refine thn (po_none.run pins s2 σ G2 (fun o G => o = none ∧ G = G2) I2 ⟨rfl, rfl⟩) fun vu s3 ⟨u, G3, I3, pu, eu, g3⟩ => ?_
  subst eu g3
  refine thn (hst.run pins s3 σ G3 (fun o G => o = some (-1) ∧ G = G3) I3 ⟨1, rfl, -1, rfl, rfl, rfl⟩) fun vs s4 ⟨o, G4, I4, ps, eo, g4⟩ => ?_
  subst eo g4
  obtain ⟨l', el, fl⟩ := IsPart.raw pl
  obtain ⟨u', eu, fu⟩ := IsPart.raw pu
  obtain ⟨w', ew, fw⟩ := IsPart.raw ps
  have l0 : l' = none := by cases l' <;> simp_all
  have u0 : u' = none := by cases u' <;> simp_all
  obtain ⟨tw, w0⟩ : ∃ tw, w' = some (-1, tw) := by
    cases w' with
    | none => simp at fw
    | some p => obtain ⟨a, b⟩ := p; simp at fw; exact ⟨b, by rw [← fw]⟩
  subst l0 u0 w0
  have I5 : Inv X pins σ G4 { s4 with heap := s4.heap.push { cls := .type "slice", data := .fields #[vl, vu, vs] } } := I4.kept (t' := s4.toks) fun b ob q => Heap.get?_push_of_some _ q
  show wpAny (model X.prog X.w) X.A (subscriptTail e (.Slice none none (some (.UnaryOp .USub (.Constant (.int 1) k p1) p2)) p3) (.str z t) (.ref s4.heap.objs.size)) (EP X pins σ Q) X.xe { s4 with heap := s4.heap.push { cls := .type "slice", data := .fields #[vl, vu, vs] } }
  refine tail_any (ops := [.str z t, .ref s4.heap.objs.size]) (typeIs_str _ _ _) (PySem.F.slot_str_getitem.lookup) ?_ (by with_unfolding_all rfl)
  have hsl : Heap.IsSlice (s4.heap.push { cls := .type "slice", data := .fields #[vl, vu, vs] }) s4.heap.objs.size none none (some (-1, tw)) := by
    rw [el, eu, ew]
    exact ⟨_, Heap.get?_push_size _ rfl, rfl, rfl⟩
  refine wpAny_getItem_str_slice (l := none) (u := none) (st := some (-1, tw)) hsl rfl ?_
  have em : sliceMade z t none none (some (-1, tw)) = Made.str (revS z) := by
    unfold sliceMade
    rw [if_neg (by simp), picked_rev]
    rfl
  rw [em]
  refine ⟨?_, .str _, G4, I5.tok _, ⟨_, rfl⟩, q⟩
  simpa [revS, Str.length] using hz
end
end K1

/-! Br2 -/
/-! Readings, backwards: one lemma for each word of a reading, so that straight code runs by itself. -/
namespace K1
open PySem L2
section
variable {σ : L2.St} {H : Hp} {Q : VK} {v : V} {i : Nat} {ta tb te : TE} {t : TA} {nx : L2.St → Hp → Prop} {rt : VK} {bk ct : L2.St → Hp → Prop}
theorem r_var (h : σ[i]? = some (some v)) (q : Q v H) : tVar i σ H Q := ⟨v, h, q⟩
theorem r_c (q : Q v H) : tC v σ H Q := q
theorem r_op {r : R2} (q : ta σ H fun x H1 => tb σ H1 fun y H2 => r x y H2 Q) : tOp r ta tb σ H Q := q
theorem r_un {r : V → Hp → VK → Prop} (q : ta σ H fun x H1 => r x H1 Q) : tUn r ta σ H Q := q
theorem r_I0 {g : Int → Int → V} {a b : Int} (q : Q (g a b) H) : rI0 g (.int a) (.int b) H Q := ⟨a, b, rfl, rfl, q⟩
theorem r_I {C : Int → Int → Prop} {g : Int → Int → V} {a b : Int} (c : C a b) (q : Q (g a b) H) : rI C g (.int a) (.int b) H Q := ⟨a, b, rfl, rfl, c, q⟩
theorem r_test {R : Bool → Hp → Prop} (q : te σ H fun x H' => ∃ k, x = .bl k ∧ R k H') : tTest te σ H R := q
theorem r_bl {b : Bool} {R : Bool → Hp → Prop} (q : R b H) : ∃ k, V.bl b = .bl k ∧ R k H := ⟨b, rfl, q⟩
theorem r_if {c : TT} (q : c σ H fun b H1 => if b = true then ta σ H1 Q else tb σ H1 Q) : tIf c ta tb σ H Q := q
theorem r_ifs {c : TT} {u w : TS} {D : Ends} (q : c σ H fun b H1 => if b = true then u D σ H1 else w D σ H1) : tIfS c u w D σ H := q
theorem r_ite {p : Prop} {dp : Decidable p} {A B : Prop} (h1 : p → A) (h2 : ¬ p → B) : if decide p = true then A else B := by
  by_cases h : p
  · rw [decide_eq_true h, if_pos rfl]; exact h1 h
  · rw [decide_eq_false h, if_neg Bool.false_ne_true]; exact h2 h
theorem r_iteN {p : Prop} {dp : Decidable p} {A B : Prop} (h1 : ¬ p → A) (h2 : p → B) : if (!decide p) = true then A else B := by
  by_cases h : p
  · rw [decide_eq_true h]; exact h2 h
  · rw [decide_eq_false h]; exact h1 h
theorem r_iteT {A B : Prop} (h1 : A) : if true = true then A else B := h1
theorem r_iteF {A B : Prop} (h1 : B) : if false = true then A else B := h1
theorem r_iteB {b : Bool} {A B : Prop} (h1 : b = true → A) (h2 : b = false → B) : if b = true then A else B := by
  cases b
  · exact h2 rfl
  · exact h1 rfl
theorem r_and {c d : TT} {R : Bool → Hp → Prop} (q : c σ H fun b H1 => if b = true then d σ H1 R else R false H1) : tAnd c d σ H R := q
theorem r_or {c d : TT} {R : Bool → Hp → Prop} (q : c σ H fun b H1 => if b = true then R true H1 else d σ H1 R) : tOr c d σ H R := q
theorem r_not {c : TT} {R : Bool → Hp → Prop} (q : c σ H fun b H1 => R (!b) H1) : tNot c σ H R := q
theorem r_tB {R : Bool → Hp → Prop} (q : te σ H fun x H' => ∃ k, x = .bl k ∧ R k H') : tB te σ H R := q
theorem r_andV (q : ta σ H fun x H1 => ∃ c, x = .bl c ∧ if c = true then tb σ H1 Q else Q (.bl false) H1) : tAndV ta tb σ H Q := q
theorem r_orV (q : ta σ H fun x H1 => ∃ c, x = .bl c ∧ if c = true then Q (.bl true) H1 else tb σ H1 Q) : tOrV ta tb σ H Q := q
theorem r_notV (q : ta σ H fun x H1 => ∃ c, x = .bl c ∧ Q (.bl (!c)) H1) : tNotV ta σ H Q := q
theorem r_cb {r : List V → Hp → VK → Prop} (q : t σ H fun vs H1 => r vs H1 Q) : tCB r t σ H Q := q
theorem r_cons {tr : TA} {R : List V → Hp → Prop} (q : ta σ H fun x H1 => tr σ H1 fun xs H2 => R (x :: xs) H2) : tCons ta tr σ H R := q
theorem r_nil {R : List V → Hp → Prop} (q : R [] H) : tNil σ H R := q
theorem r_seq {u w : TS} (q : u ⟨w ⟨nx, rt, bk, ct⟩, rt, bk, ct⟩ σ H) : tSeq u w ⟨nx, rt, bk, ct⟩ σ H := q
theorem r_asg {g : TG} (q : te σ H fun x H1 => g x σ H1 nx) : tAsg te g ⟨nx, rt, bk, ct⟩ σ H := q
theorem r_name {R : L2.St → Hp → Prop} (q : R (σ.set i (some v)) H) : gName i v σ H R := q
theorem r_ret (q : te σ H rt) : tRet te ⟨nx, rt, bk, ct⟩ σ H := q
theorem r_next (q : nx σ H) : tNext ⟨nx, rt, bk, ct⟩ σ H := q
theorem r_drop (q : te σ H fun _ H1 => nx σ H1) : tDrop te ⟨nx, rt, bk, ct⟩ σ H := q
theorem r_lst (q : t σ H fun xs H1 => xs.length ≤ sizeLine ∧ ∀ p, H1 p = none → Q (.ref p) (upd H1 p (.lst xs))) : tLst t σ H Q := q
theorem r_tup (q : t σ H fun xs H1 => xs.length ≤ sizeLine ∧ ∀ p, H1 p = none → Q (.ref p) (upd H1 p (.tup xs))) : tTup t σ H Q := q
theorem r_call {sp : Sp} {dvs : List V} {E : XK} (q : t σ H fun vs H1 => sp (vs ++ dvs) H1 Q E) : tCall sp dvs E t σ H Q := q
theorem r_gsub {to ti : TE} {s : TSet} {R : L2.St → Hp → Prop} (q : to σ H fun o H1 => ti σ H1 fun i H2 => s o i v H2 fun H3 => R σ H3) : gSub to ti s v σ H R := q
theorem r_for {wi : TI} {g : TG} {u : TS} {D : Ends} (q : wi σ H fun J H1 => ∃ W : Nat → Nat → L2.St → Hp → Prop, (∃ m, W 0 m σ H1) ∧ ∀ i m σ H, W i m σ H →
    ((J.stop i H ∧ D.nx σ H) ∨ (J.go i H ∧ ∃ N : L2.St → Hp → Prop, (∀ σ' H', N σ' H' → ∃ m', m' < m ∧ W (i + 1) m' σ' H') ∧ ∀ x H', J.yld i H x H' → g x σ H' fun σ2 H2 => u { D with nx := N, ct := N, bk := D.nx } σ2 H2))) : tFor wi g u D σ H := q
end
section
variable {K : PySem.W.Frag} {σ : L2.St} {H : Hp} {Q : VK} {v : V} {a : Addr} {xs : List V}
theorem lenL (h : SqL K H a xs) : LenV K (.ref a) H xs.length := .inl ⟨_, h, rfl⟩
theorem lenT (h : SqT K H a xs) : LenV K (.ref a) H xs.length := .inr ⟨_, h, rfl⟩
theorem lenS {x : Str} (h : x.length ≤ sizeLine) : LenV K (.str x) H x.length := ⟨h, rfl⟩
theorem r_len {y : V} {n : Nat} {R : VK} (h : LenV K y H n) (q : R (.int n) H) : ∃ x n, [y] = [x] ∧ LenV K x H n ∧ R (V.int n) H := ⟨y, n, rfl, h, q⟩
theorem r_ixL {i : Int} (h : SqL K H a xs) (e : atI xs i = some v) (q : Q v H) : rIxL K (.ref a) (.int i) H Q := ⟨a, xs, i, v, rfl, rfl, h, e, q⟩
theorem r_ixT {i : Int} (h : SqT K H a xs) (e : atI xs i = some v) (q : Q v H) : rIxT K (.ref a) (.int i) H Q := ⟨a, xs, i, v, rfl, rfl, h, e, q⟩
theorem r_ixS {x : Str} {i : Int} {c : Nat} (h : x.length ≤ sizeLine) (e : atI x.cps.toList i = some c) (q : Q (.str ⟨#[c]⟩) H) : rIxS (.str x) (.int i) H Q := ⟨x, i, c, rfl, rfl, h, e, q⟩
theorem r_sum {ns : List Int} (h : SqL K H a (ns.map V.int)) (q : Q (.int ns.sum) H) : rSum K [.ref a] H Q := ⟨a, ns, rfl, h, q⟩
theorem at_int {ns : List Int} {i : Int} (h0 : 0 ≤ i) (h1 : i < ns.length) : ∃ z, atI (ns.map V.int) i = some (.int z) ∧ z ∈ ns := by
  obtain ⟨j, rfl⟩ : ∃ j : Nat, i = j := ⟨i.toNat, by omega⟩
  have hj : j < ns.length := by omega
  exact ⟨ns[j], atI_nat (by simp [hj]), List.getElem_mem _⟩
theorem r_setL {i : Int} {j : Nat} {R : Hp → Prop} (h : H a = some (.lst xs)) (e : ixN xs.length i = some j) (q : R (upd H a (.lst (xs.set j v)))) : rSetL (.ref a) (.int i) v H R := ⟨a, xs, i, j, rfl, rfl, h, e, q⟩
end
section
variable {K : PySem.W.Frag} {σ : L2.St} {H : Hp} {a D : Addr} {xs : List V} {vs : List Nat} {te : TE} {Qd : Hp → Prop}
theorem same_new {o : HO} (h : H D = none) : Same H (upd H D o) := fun b u e => by
  rw [upd_ne (ne_of_none e h)]
  exact e
theorem sqL_new {o : HO} (h : H D = none) (q : SqL K H a xs) : SqL K (upd H D o) a xs := (same_new h).seq q
/-- [f x for x in xs], the element's value told, the heap left as it was -/
theorem lc_map {i : Nat} (f : V → V) (hS : SqL K H a xs) (hD : H D = none) (hz : xs.length ≤ sizeLine) (hw : ∀ x, wipe ((wipe σ vs).set i (some x)) vs = wipe σ vs)
    (he : ∀ x ∈ xs, ∀ (H' : Hp) (R : VK), Same H H' → R (f x) H' → te ((wipe σ vs).set i (some x)) H' R) (hd : Qd (upd H D (.lst (xs.map f)))) :
    ∃ W : Nat → Nat → Hp → Prop, (∃ m, W 0 m (upd H D (.lst []))) ∧ ∀ i₁ m H, W i₁ m H →
      ((Itl K a).stop i₁ H ∧ Qd H) ∨ ((Itl K a).go i₁ H ∧ ∃ Nx : Hp → Prop, (∀ H', Nx H' → ∃ m', m' < m ∧ W (i₁ + 1) m' H') ∧ ∀ x H', (Itl K a).yld i₁ H x H' → gName i x (wipe σ vs) H' fun σ2 H2 => wipe σ2 vs = wipe σ vs ∧ tYes σ2 H2 fun b H3 =>
        if b = true then te σ2 H3 fun y H4 => ∃ acc, H4 D = some (.lst acc) ∧ acc.length < sizeLine ∧ Nx (upd H4 D (.lst (acc ++ [y]))) else Nx H3) := by
  refine lc_list (K := K) (a := a) (xs := xs) (fun j H' => H' = upd H D (.lst ((xs.take j).map f))) (by simp) (fun j H' _ e => by rw [e]; exact sqL_new hD hS) ?_ (fun H' e => by rw [e, List.take_length]; exact hd)
  rintro j x H' hx rfl
  have hj : j < xs.length := (List.getElem?_eq_some_iff.mp hx).1
  have hm : x ∈ xs := List.mem_of_getElem? hx
  refine ⟨hw x, ?_⟩
  show te _ _ _
  refine he x hm _ _ (same_new hD) ⟨_, upd_same, ?_, ?_⟩
  · simp only [List.length_map, List.length_take]
    omega
  · rw [upd_upd, List.take_succ, hx]
    simp
end
/-! ### own defs -/
def Own (P : Program) (w : World) (K : PySem.W.Frag) (mg : Str → Option Value) (base : Heap) (x : Str) (k : Nat) (ps : List Str) (sp : Sp) : Prop :=
  ∃ (f : Addr) (fd : FuncData), FnOk P w K mg base CX0 k f fd ps sp ∧ mg x = some (.ref f) ∧ PySem.W.keepIn K (.ref f) = true ∧ Binds K fd ps []
theorem pe_own {X : Cx} {x : Str} {k : Nat} {ps : List Str} {sp : Sp} {e : Expr} {es : List Expr} {t : TA} {p pos : Pos} (O : Own X.prog X.w X.K X.mg X.base x k ps sp) (hr : Room k X.A) (ha : PA X (e :: es) t) (hg : Gl X x := by rfl)
    (hdb : (x == ("__debug__" : Str)) = false := by decide) (he : starEach (e :: es) X.env = (false, eval e X.env) :: starEach es X.env := by rfl) (hpl : (backTo pos (starEach es X.env)).any (·.1) = false := by rfl) :
    PE X (.Call (.Name x p) (e :: es) [] pos) (tCall sp [] E0 t) := by
  obtain ⟨f, fd, G, m, kp, b⟩ := O
  exact pe_call G hr hg m kp b .nil pass0 ha hdb he hpl
theorem Own.imp {P : Program} {w : World} {K : PySem.W.Frag} {mg : Str → Option Value} {base : Heap} {x : Str} {k : Nat} {ps : List Str} {sp sp' : Sp} (O : Own P w K mg base x k ps sp) (h : ∀ vs H Q E, sp' vs H Q E → sp vs H Q E) : Own P w K mg base x k ps sp' := by
  obtain ⟨f, fd, G, r⟩ := O
  exact ⟨f, fd, G.imp h, r⟩
/-- everywhere but at b the heap is the same -/
def Off (b : Addr) (H H' : Hp) : Prop := ∀ c, c ≠ b → H' c = H c
theorem Off.refl (b : Addr) (H : Hp) : Off b H H := fun _ _ => rfl
theorem Off.trans {b : Addr} {H H1 H2 : Hp} (x : Off b H H1) (y : Off b H1 H2) : Off b H H2 := fun c h => (y c h).trans (x c h)
theorem Off.upd {b : Addr} {H : Hp} {o : HO} : Off b H (upd H b o) := fun _ h => upd_ne h
theorem Off.at {b c : Addr} {H H' : Hp} {o : HO} (x : Off b H H') (h : c ≠ b) (e : H c = some o) : H' c = some o := (x c h).trans e
theorem Off.none {b c : Addr} {H H' : Hp} {u : HO} (x : Off b H H') (hb : H b = some u) (hb' : ∃ u, H' b = some u) (e : H c = none) : H' c = none := by
  by_cases h : c = b
  · subst h; rw [hb] at e; cases e
  · exact (x c h).trans e
theorem Off.free {b c : Addr} {H H' : Hp} (x : Off b H H') (hb' : ∃ u, H' b = some u) (e : H' c = Option.none) : c ≠ b ∧ H c = Option.none := by
  have h : c ≠ b := fun h => by obtain ⟨u, q⟩ := hb'; rw [h, q] at e; cases e
  exact ⟨h, (x c h).symm.trans e⟩
section
variable {K : PySem.W.Frag} {σ : L2.St} {H : Hp} {Q : VK} {v : V} {a : Addr} {xs : List V} {te to : TE} {t : TA} {lo hi : Option Int}
theorem r_bm {T : String} {r : V → List V → Hp → VK → Prop} (q : to σ H fun x H1 => tyV K T x H1 ∧ t σ H1 fun ys H2 => r x ys H2 Q) : tBM K T r to t σ H Q := q
theorem r_bm0 {T : String} {r : V → List V → Hp → VK → Prop} (q : to σ H fun x H1 => tyV K T x H1 ∧ r x [] H1 Q) : tBM0 K T r to σ H Q := q
theorem r_sl {r : V → Option Int → Option Int → Hp → VK → Prop} {tl th : TO} (q : te σ H fun x H1 => tl σ H1 fun l H2 => th σ H2 fun u H3 => r x l u H3 Q) : tSl r te tl th σ H Q := q
theorem r_noPart {R : Option Int → Hp → Prop} (q : R none H) : tNoPart σ H R := q
theorem r_part {R : Option Int → Hp → Prop} (q : te σ H fun x H1 => ∃ i, x = .int i ∧ R (some i) H1) : tPart te σ H R := q
theorem r_slS {z : Str} (h : z.length ≤ sizeLine) (q : Q (.str (cutS z lo hi)) H) : rSlS (.str z) lo hi H Q := ⟨z, rfl, h, q⟩
theorem r_slL (h : SqL K H a xs) (q : ∀ p, H p = none → Q (.ref p) (upd H p (.lst (cutV xs lo hi)))) : rSlL K (.ref a) lo hi H Q := ⟨a, xs, rfl, h, q⟩
theorem r_iStr {R : It → Hp → Prop} (q : te σ H fun w H1 => ∃ x, w = .str x ∧ R (Its x) H1) : iStr te σ H R := q
theorem r_iRng1 {R : It → Hp → Prop} (q : t σ H fun vs H1 => ∃ j : Int, vs = [.int j] ∧ -(2 ^ 62) ≤ j ∧ j < 2 ^ 62 ∧ R (Itr 0 j.toNat) H1) : iRng1 t σ H R := q
theorem r_m1 {r : V → List V → Hp → VK → Prop} (q : to σ H fun x H1 => (∃ z, x = .str z) ∧ te σ H1 fun y H2 => r x [y] H2 Q) : tM1 r to te σ H Q := q
theorem tyL {H : Hp} (h : SqL K H a xs) : tyV K "list" (.ref a) H := .inl ⟨rfl, _, h⟩
theorem SqL.off {b : Addr} {H' : Hp} (h : SqL K H a xs) (n : a ≠ b) (o : Off b H H') : SqL K H' a xs := by
  rcases h with (h | ⟨u, h⟩) | h
  · exact .inl (.inl (o.at n h))
  · exact .inl (.inr ⟨u, o.at n h⟩)
  · exact .inr h
/-- what was tracked stands, but at b -/
def Kp (b : Addr) (H H' : Hp) : Prop := ∀ c o, c ≠ b → H c = some o → H' c = some o
theorem Kp.refl (b : Addr) (H : Hp) : Kp b H H := fun _ _ _ e => e
theorem Kp.trans {b : Addr} {H H1 H2 : Hp} (x : Kp b H H1) (y : Kp b H1 H2) : Kp b H H2 := fun c o n e => y c o n (x c o n e)
theorem Off.kp {b : Addr} {H H' : Hp} (x : Off b H H') : Kp b H H' := fun c o n e => x.at n e
theorem Same.kp {b : Addr} {H H' : Hp} (x : Same H H') : Kp b H H' := fun c o _ e => x c o e
theorem Kp.seq {b : Addr} {H' : Hp} (o : Kp b H H') (n : a ≠ b) (h : SqL K H a xs) : SqL K H' a xs := by
  rcases h with (h | ⟨u, h⟩) | h
  · exact .inl (.inl (o _ _ n h))
  · exact .inl (.inr ⟨u, o _ _ n h⟩)
  · exact .inr h
theorem Kp.free {b c : Addr} {H' : Hp} {u : HO} (o : Kp b H H') (hb : H' b = some u) (e : H' c = none) : H c = none := by
  cases q : H c with
  | none => rfl
  | some w =>
    have n : c ≠ b := fun z => by rw [z, hb] at e; cases e
    rw [o c w n q] at e
    cases e
theorem Kp.off {b c : Addr} {H' H2 : Hp} {u : HO} (o : Kp b H H') (x : Off c H' H2) (hc : H c = none) (hb : H b = some u) : Kp b H H2 := fun d w n e => by
  have z : d ≠ c := fun z => by rw [z, hc] at e; cases e
  exact x.at z (o d w n e)
theorem Kp.same {b : Addr} {H' : Hp} (o : Kp b H H') (hb : H b = none) : Same H H' := fun c w e => o c w (fun z => by rw [z, hb] at e; cases e) e
/-- a row: a text's signs, or a list's items -/
def RowAt (K : PySem.W.Frag) (H : Hp) (b : Addr) (r : V) (items : List V) : Prop :=
  (∃ z : Str, r = .str z ∧ items = (sgn z).map V.str ∧ z.length ≤ 1000) ∨ ∃ l, r = .ref l ∧ SqL K H l items ∧ l ≠ b ∧ items.length ≤ 1000
theorem sgn_len (z : Str) : (sgn z).length = z.length := by simp [sgn, Str.length]
theorem small_line {n : Nat} (h : n ≤ 1000) : n ≤ sizeLine := Nat.le_of_lt (small1000 h)
theorem RowAt.len {K : PySem.W.Frag} {H : Hp} {b : Addr} {r : V} {items : List V} (h : RowAt K H b r items) : LenV K r H items.length ∧ items.length ≤ 1000 := by
  rcases h with ⟨z, rfl, rfl, hz⟩ | ⟨l, rfl, h, _, hz⟩
  · rw [List.length_map, sgn_len]
    exact ⟨lenS (small_line hz), hz⟩
  · exact ⟨lenL h, hz⟩
theorem r_rowix {b : Addr} {r : V} {items : List V} {i : Int} {x : V} (h : RowAt K H b r items) (e : atI items i = some x) (q : Q x H) : rIx K r (.int i) H Q := by
  rcases h with ⟨z, rfl, rfl, hz⟩ | ⟨l, rfl, h, _, hz⟩
  · refine .inr (.inr ?_)
    have e' : atI z.cps.toList i = (atI z.cps.toList i) := rfl
    unfold atI at e
    have el : ((sgn z).map V.str).length = z.cps.toList.length := by simp [sgn]
    rw [el] at e
    cases hj : ixN z.cps.toList.length i with
    | none => rw [hj] at e; cases e
    | some j =>
      rw [hj] at e
      have e2 : ((sgn z).map V.str)[j]? = some x := e
      cases hc : z.cps.toList[j]? with
      | none =>
        rw [sgn, List.map_map, List.getElem?_map, hc] at e2
        cases e2
      | some c =>
        rw [sgn, List.map_map, List.getElem?_map, hc] at e2
        have e3 : x = V.str ⟨#[c]⟩ := (Option.some.inj e2).symm
        subst e3
        exact r_ixS (small_line hz) (by unfold atI; rw [hj]; exact hc) q
  · exact .inl (r_ixL h e q)
theorem RowAt.off {b : Addr} {r : V} {items : List V} {H' : Hp} (h : RowAt K H b r items) (o : Off b H H') : RowAt K H' b r items := by
  rcases h with ⟨z, e⟩ | ⟨l, rfl, h, n, hz⟩
  · exact .inl ⟨z, e⟩
  · exact .inr ⟨l, rfl, SqL.off h n o, n, hz⟩
theorem at_nat' {α : Type} {xs : List α} {i : Int} (h0 : 0 ≤ i) (h1 : i < xs.length) : ∃ x, atI xs i = some x ∧ x ∈ xs ∧ xs[i.toNat]? = some x := by
  obtain ⟨j, rfl⟩ : ∃ j : Nat, i = j := ⟨i.toNat, by omega⟩
  have hj : j < xs.length := by omega
  exact ⟨xs[j], atI_nat (by simp [hj]), List.getElem_mem _, by simp [hj]⟩
end
section
variable {K : PySem.W.Frag} {a : Addr} {xs : List V} {lo : Int} {n : Nat} {g : TG} {tb : TS} {nx : L2.St → Hp → Prop} {rt : VK} {σ : L2.St} {H : Hp}
/-- a for over a range, the ends written out -/
theorem fr_range (Pv : Nat → L2.St → Hp → Prop) (h0 : Pv 0 σ H)
    (hs : ∀ i σ H, i < n → Pv i σ H → g (.int (lo + i)) σ H fun σ2 H2 => tb ⟨Pv (i + 1), rt, nx, Pv (i + 1)⟩ σ2 H2) (hd : ∀ σ H, Pv n σ H → nx σ H) :
    ∃ W : Nat → Nat → L2.St → Hp → Prop, (∃ m, W 0 m σ H) ∧ ∀ i m σ H, W i m σ H →
      ((Itr lo n).stop i H ∧ nx σ H) ∨ ((Itr lo n).go i H ∧ ∃ N : L2.St → Hp → Prop, (∀ σ' H', N σ' H' → ∃ m', m' < m ∧ W (i + 1) m' σ' H') ∧ ∀ x H', (Itr lo n).yld i H x H' → g x σ H' fun σ2 H2 => tb ⟨N, rt, nx, N⟩ σ2 H2) :=
  for_range (D := ⟨nx, rt, nx, nx⟩) Pv h0 hs hd
/-- a for over a list -/
theorem fr_list (Pv : Nat → L2.St → Hp → Prop) (h0 : Pv 0 σ H) (hl : ∀ i σ H, i ≤ xs.length → Pv i σ H → SqL K H a xs)
    (hs : ∀ i x σ H, xs[i]? = some x → Pv i σ H → g x σ H fun σ2 H2 => tb ⟨Pv (i + 1), rt, nx, Pv (i + 1)⟩ σ2 H2) (hd : ∀ σ H, Pv xs.length σ H → nx σ H) :
    ∃ W : Nat → Nat → L2.St → Hp → Prop, (∃ m, W 0 m σ H) ∧ ∀ i m σ H, W i m σ H →
      ((Itl K a).stop i H ∧ nx σ H) ∨ ((Itl K a).go i H ∧ ∃ N : L2.St → Hp → Prop, (∀ σ' H', N σ' H' → ∃ m', m' < m ∧ W (i + 1) m' σ' H') ∧ ∀ x H', (Itl K a).yld i H x H' → g x σ H' fun σ2 H2 => tb ⟨N, rt, nx, N⟩ σ2 H2) :=
  for_list (D := ⟨nx, rt, nx, nx⟩) Pv h0 hl hs hd
theorem fr_tup (Pv : Nat → L2.St → Hp → Prop) (h0 : Pv 0 σ H) (hl : ∀ i σ H, i ≤ xs.length → Pv i σ H → SqT K H a xs)
    (hs : ∀ i x σ H, xs[i]? = some x → Pv i σ H → g x σ H fun σ2 H2 => tb ⟨Pv (i + 1), rt, nx, Pv (i + 1)⟩ σ2 H2) (hd : ∀ σ H, Pv xs.length σ H → nx σ H) :
    ∃ W : Nat → Nat → L2.St → Hp → Prop, (∃ m, W 0 m σ H) ∧ ∀ i m σ H, W i m σ H →
      ((Itt K a).stop i H ∧ nx σ H) ∨ ((Itt K a).go i H ∧ ∃ N : L2.St → Hp → Prop, (∀ σ' H', N σ' H' → ∃ m', m' < m ∧ W (i + 1) m' σ' H') ∧ ∀ x H', (Itt K a).yld i H x H' → g x σ H' fun σ2 H2 => tb ⟨N, rt, nx, N⟩ σ2 H2) :=
  for_tup (D := ⟨nx, rt, nx, nx⟩) Pv h0 hl hs hd
end
end K1

/-! B4 -/
namespace K1
open PySem L2 PyProof.Rows
abbrev tl (z : Str) : List Nat := z.cps.toList
section
variable {K : PySem.W.Frag} {σ : L2.St} {H : Hp} {Q : VK} {x y v : V} {vs : List V}
theorem r_eq (h : scal x y = true) (q : Q (.bl (decide (x = y))) H) : rEq x y H Q := ⟨h, q⟩
theorem r_ne (h : scal x y = true) (q : Q (.bl (!decide (x = y))) H) : rNe x y H Q := ⟨h, q⟩
theorem r_gnil {R : L2.St → Hp → Prop} (q : R σ H) : gNil [] σ H R := ⟨rfl, q⟩
theorem r_gcons {t : TG} {u : TGs} {R : L2.St → Hp → Prop} (q : t v σ H fun σ' H' => u vs σ' H' R) : gCons t u (v :: vs) σ H R := ⟨v, vs, rfl, q⟩
theorem r_isi {c : V} {t u : Value} {b : Bool} (hc : ClsV c u) (ht : TyX K H x t) (hk : PySem.W.kitOne K t u = some b) (q : Q (.bl b) H) : rIsi K [x, c] H Q := ⟨x, c, t, u, b, rfl, hc, ht, hk, q⟩
theorem r_all {a : Addr} {bs : List Bool} (h : SqL K H a (bs.map V.bl)) (q : Q (.bl (bs.all id)) H) : rAll K [.ref a] H Q := ⟨a, bs, rfl, h, q⟩
theorem r_yes {p : Prop} {dp : Decidable p} {A B : Prop} (h : p) (q : A) : if decide p = true then A else B := by
  rw [decide_eq_true h, if_pos rfl]; exact q
theorem r_no {p : Prop} {dp : Decidable p} {A B : Prop} (h : ¬ p) (q : B) : if decide p = true then A else B := by
  rw [decide_eq_false h, if_neg Bool.false_ne_true]; exact q
theorem tyL' {T : String} (e : T = "list") {a : Addr} {xs : List V} (h : SqL K H a xs) : tyV K T (.ref a) H := by rw [e]; exact tyL h
end
section
variable {K : PySem.W.Frag} {σ : L2.St} {H : Hp} {Q : VK} {D : Addr} {vs : List Nat} {te : TE} {Qd : Hp → Prop} {ta tb tc : TE}
theorem r_chain {r r' : R2} (q : ta σ H fun x H1 => tb σ H1 fun y H2 => r x y H2 fun z H3 => ∃ k, z = .bl k ∧ (if k = true then tc σ H3 fun w' H4 => r' y w' H4 Q else Q (.bl false) H3)) : tChain r r' ta tb tc σ H Q := q
/-- [f c for c in text] -/
theorem lc_smap {i : Nat} {z : Str} (f : Nat → V) (hD : H D = none) (hz : z.length ≤ sizeLine) (hw : ∀ x, wipe ((wipe σ vs).set i (some x)) vs = wipe σ vs)
    (he : ∀ c ∈ tl z, ∀ (H' : Hp) (R : VK), Same H H' → R (f c) H' → te ((wipe σ vs).set i (some (.str ⟨#[c]⟩))) H' R) (hd : Qd (upd H D (.lst ((tl z).map f)))) :
    ∃ W : Nat → Nat → Hp → Prop, (∃ m, W 0 m (upd H D (.lst []))) ∧ ∀ i₁ m H, W i₁ m H →
      ((Its z).stop i₁ H ∧ Qd H) ∨ ((Its z).go i₁ H ∧ ∃ Nx : Hp → Prop, (∀ H', Nx H' → ∃ m', m' < m ∧ W (i₁ + 1) m' H') ∧ ∀ x H', (Its z).yld i₁ H x H' → gName i x (wipe σ vs) H' fun σ2 H2 => wipe σ2 vs = wipe σ vs ∧ tYes σ2 H2 fun b H3 =>
        if b = true then te σ2 H3 fun y H4 => ∃ acc, H4 D = some (.lst acc) ∧ acc.length < sizeLine ∧ Nx (upd H4 D (.lst (acc ++ [y]))) else Nx H3) := by
  have hl : z.length = (tl z).length := by simp [Str.length]
  have hsz : z.cps.size = (tl z).length := by simp
  refine ⟨fun j m H' => m = (tl z).length - j ∧ j ≤ (tl z).length ∧ H' = upd H D (.lst (((tl z).take j).map f)), ⟨_, rfl, Nat.zero_le _, rfl⟩, ?_⟩
  rintro j m H' ⟨rfl, hj, rfl⟩
  by_cases hlt : j < (tl z).length
  · refine .inr ⟨by show j < z.cps.size; omega, fun H' => j + 1 ≤ (tl z).length ∧ H' = upd H D (.lst (((tl z).take (j + 1)).map f)), fun H' ⟨a, b⟩ => ⟨(tl z).length - (j + 1), by omega, rfl, a, b⟩, ?_⟩
    rintro x H' ⟨rfl, c, hc, rfl⟩
    have hc' : (tl z)[j]? = some c := by simpa using hc
    refine ⟨hw _, ?_⟩
    show te _ _ _
    refine he c (List.mem_of_getElem? hc') _ _ (same_new hD) ⟨_, upd_same, ?_, by omega, ?_⟩
    · simp only [List.length_map, List.length_take]; omega
    · rw [upd_upd, List.take_succ, hc']; simp
  · have e : j = (tl z).length := by omega
    refine .inl ⟨by show z.cps.size ≤ j; omega, ?_⟩
    rw [e, List.take_length]; exact hd
end
/-! ### a list or a tuple -/
def SqIt (K : PySem.W.Frag) (x : V) (R : It → Hp → Prop) (H1 : Hp) : Prop := ∃ a, x = .ref a ∧ (((∃ xs, SqL K H1 a xs) ∧ R (Itl K a) H1) ∨ ((∃ xs, SqT K H1 a xs) ∧ R (Itt K a) H1))
def iSq (K : PySem.W.Frag) (tl : TE) : TI := fun σ H R => tl σ H fun x H1 => SqIt K x R H1
theorem r_iSq {K : PySem.W.Frag} {te : TE} {σ : L2.St} {H : Hp} {R : It → Hp → Prop} (q : te σ H fun x H1 => SqIt K x R H1) : iSq K te σ H R := q
/-- an iterator that has just been made stands for its walk -/
theorem sq_born {X : Cx} {pins : List (Addr × Obj)} {σ : L2.St} {tg : Expr} {H : Hp} {s : Shared} {J : It} {tn : Nat → Heap → Prop} {R : It → Hp → Prop} {cls : String} {held : Array Value} (known : Inv X pins σ H s)
    (turns : Turn X.prog X.w X.K tg J [s.heap.objs.size] s.heap.objs.size tn) (z : tn 0 (s.heap.push { cls := .type cls, data := .fields held })) (r : R J H) :
    PIE X pins σ tg R (.ref s.heap.objs.size) { s with heap := s.heap.push { cls := .type cls, data := .fields held } } := by
  have still : Inv X pins σ H { s with heap := s.heap.push { cls := .type cls, data := .fields held } } := known.kept (t' := s.toks) fun _ _ => Heap.get?_push_of_some _
  have young : ∀ b ∈ [s.heap.objs.size], FpOk X pins H b := by
    intro b mem
    rw [List.mem_singleton.mp mem]
    exact known.fpOk Nat.le.refl (known.hok.fresh Nat.le.refl)
  exact ⟨_, _, tn, J, H, rfl, still, turns, z, young, r⟩
theorem pi_sq {X : Cx} {tg walked : Expr} {te : TE} (he : PE X walked te) : PI X tg walked (iSq X.K te) where
  run := fun pins s σ H R known reads => by
    refine thn (he.run pins s σ H _ known reads) ?_
    rintro v s1 ⟨x, H1, known1, rel, a, rfl, ⟨⟨xs, isList⟩, r⟩ | ⟨⟨xs, isTup⟩, r⟩⟩
    · obtain ⟨_, _, there, _⟩ := known1.list isList
      cases rel
      exact wpAny_pyIter_list there.isList (sq_born known1 (turn_list a _) ⟨_, Heap.get?_push_size _ rfl, rfl, rfl⟩ r)
    · obtain ⟨cells, _, there, _⟩ := known1.tuple isTup
      cases rel
      exact wpAny_pyIter_tuple (items := cells.toArray) there (sq_born known1 (turn_tuple a _) ⟨_, Heap.get?_push_size _ rfl, rfl, rfl⟩ r)
theorem sl_sq {X : Cx} : SlR X (fun x lo hi H Q => rSlL X.K x lo hi H Q ∨ rSlA X.K x lo hi H Q) := SlR.or sl_list sl_tupA
def Sq (K : PySem.W.Frag) (H : Hp) (v : V) (xs : List V) : Prop := ∃ a, v = .ref a ∧ (SqL K H a xs ∨ SqT K H a xs)
section
variable {K : PySem.W.Frag} {H H' : Hp} {a : Addr} {xs : List V} {v : V}
theorem Same.sqT (e : Same H H') (h : SqT K H a xs) : SqT K H' a xs := by
  rcases h with (h | ⟨o, h⟩) | h
  · exact .inl (.inl (e _ _ h))
  · exact .inl (.inr ⟨o, e _ _ h⟩)
  · exact .inr h
/-- lists and tuples stand -/
def Keeps (K : PySem.W.Frag) (H H' : Hp) : Prop := (∀ a xs, SqL K H a xs → SqL K H' a xs) ∧ ∀ a xs, SqT K H a xs → SqT K H' a xs
theorem Keeps.refl : Keeps K H H := ⟨fun _ _ h => h, fun _ _ h => h⟩
theorem Keeps.trans {H2 : Hp} (x : Keeps K H H') (y : Keeps K H' H2) : Keeps K H H2 := ⟨fun a xs h => y.1 a xs (x.1 a xs h), fun a xs h => y.2 a xs (x.2 a xs h)⟩
theorem Same.keeps (e : Same H H') : Keeps K H H' := ⟨fun _ _ h => e.seq h, fun _ _ h => Same.sqT e h⟩
theorem Kp.keeps {b : Addr} {C dx : Addr} {fs : List (Str × V)} (e : Kp b H H') (hb : H b = some (.ins C dx fs)) : Keeps K H H' := by
  have n1 : ∀ {c : Addr} {o : HO}, H c = some o → (∀ C dx fs, o ≠ .ins C dx fs) → H' c = some o := fun {c o} h k => e c o (fun z => by rw [z, hb] at h; exact k _ _ _ (Option.some.inj h).symm) h
  refine ⟨fun a xs h => ?_, fun a xs h => ?_⟩
  · rcases h with (h | ⟨o, h⟩) | h
    · exact .inl (.inl (n1 h (fun _ _ _ z => by cases z)))
    · exact .inl (.inr ⟨o, n1 h (fun _ _ _ z => by cases z)⟩)
    · exact .inr h
  · rcases h with (h | ⟨o, h⟩) | h
    · exact .inl (.inl (n1 h (fun _ _ _ z => by cases z)))
    · exact .inl (.inr ⟨o, n1 h (fun _ _ _ z => by cases z)⟩)
    · exact .inr h
theorem Kp.sqT {b : Addr} {ys : List V} (e : Kp b H H') (hb : H b = some (.lst ys)) (h : SqT K H a xs) : SqT K H' a xs := by
  have n1 : ∀ {c : Addr} {o : HO}, H c = some o → (∀ ys, o ≠ .lst ys) → H' c = some o := fun {c o} h k => e c o (fun z => by rw [z, hb] at h; exact k _ (Option.some.inj h).symm) h
  rcases h with (h | ⟨o, h⟩) | h
  · exact .inl (.inl (n1 h (fun _ z => by cases z)))
  · exact .inl (.inr ⟨o, n1 h (fun _ z => by cases z)⟩)
  · exact .inr h
theorem Sq.keep (e : Keeps K H H') (h : Sq K H v xs) : Sq K H' v xs := by
  obtain ⟨a, rfl, h | h⟩ := h
  · exact ⟨a, rfl, .inl (e.1 _ _ h)⟩
  · exact ⟨a, rfl, .inr (e.2 _ _ h)⟩
theorem Sq.same (e : Same H H') (h : Sq K H v xs) : Sq K H' v xs := h.keep (Same.keeps e)
theorem Sq.len (h : Sq K H v xs) : LenV K v H xs.length := by
  obtain ⟨a, rfl, h | h⟩ := h
  · exact lenL h
  · exact lenT h
variable {Q : VK} {σ : L2.St}
theorem r_ixSq {i : Int} {y : V} (h : Sq K H v xs) (e : atI xs i = some y) (q : Q y H) : rIx K v (.int i) H Q := by
  obtain ⟨a, rfl, h | h⟩ := h
  · exact .inl (r_ixL h e q)
  · exact .inr (.inl (r_ixT h e q))
theorem r_slSq {lo hi : Option Int} (h : Sq K H v xs) (q : ∀ v' H', Same H H' → Sq K H' v' (cutV xs lo hi) → Q v' H') : rSlL K v lo hi H Q ∨ rSlA K v lo hi H Q := by
  obtain ⟨a, rfl, h | h⟩ := h
  · exact .inl ⟨a, xs, rfl, h, fun p np => q _ _ (same_new np) ⟨p, rfl, .inl (SqL.of upd_same)⟩⟩
  · refine .inr ⟨a, xs, rfl, h, fun w => ?_, fun _ p np => q _ _ (same_new np) ⟨p, rfl, .inr (SqT.of upd_same)⟩⟩
    have e : cutV xs lo hi = xs := by
      unfold cutV
      rw [w.1, w.2, List.drop_zero, Nat.sub_zero, List.take_length]
    exact q _ _ (Same.refl _) (by rw [e]; exact ⟨a, rfl, .inr h⟩)
theorem r_star {te : TE} {t : TA} {R : List V → Hp → Prop} (q : te σ H fun x H1 => ∃ p xs, x = V.ref p ∧ (SqT K H1 p xs ∨ SqL K H1 p xs) ∧ t σ H1 fun ys H2 => R (xs ++ ys) H2) : StX.tStar K te t σ H R := q
theorem r_starSq {R : List V → Prop} (h : Sq K H v xs) (q : R xs) : ∃ p zs, v = V.ref p ∧ (SqT K H p zs ∨ SqL K H p zs) ∧ R zs := by
  obtain ⟨a, rfl, h | h⟩ := h
  · exact ⟨a, xs, rfl, .inr h, q⟩
  · exact ⟨a, xs, rfl, .inl h, q⟩
end
section
variable {K : PySem.W.Frag} {v : V} {xs : List V} {g : TG} {tb : TS} {nx : L2.St → Hp → Prop} {rt : VK} {σ : L2.St} {H : Hp}
/-- what stands at v stands on -/
def KeepAt (K : PySem.W.Frag) (v : V) (H H' : Hp) : Prop := ∀ a xs, v = .ref a → (SqL K H a xs → SqL K H' a xs) ∧ (SqT K H a xs → SqT K H' a xs)
theorem Keeps.at {v : V} {H' : Hp} (k : Keeps K H H') : KeepAt K v H H' := fun a xs _ => ⟨k.1 a xs, k.2 a xs⟩
theorem Kp.at {v : V} {H' : Hp} {L : Addr} (k : Kp L H H') (n : v ≠ .ref L) : KeepAt K v H H' := fun a xs e => by
  have na : a ≠ L := fun q => n (by rw [e, q])
  refine ⟨k.seq na, fun h => ?_⟩
  rcases h with (h | ⟨u, h⟩) | h
  · exact .inl (.inl (k _ _ na h))
  · exact .inl (.inr ⟨u, k _ _ na h⟩)
  · exact .inr h
theorem KeepAt.sq {v : V} {H' : Hp} (k : KeepAt K v H H') (h : Sq K H v xs) : Sq K H' v xs := by
  obtain ⟨a, e, h | h⟩ := h
  · exact ⟨a, e, .inl ((k a xs e).1 h)⟩
  · exact ⟨a, e, .inr ((k a xs e).2 h)⟩
/-- a for over a list or a tuple -/
theorem fr_sq {R : It → Hp → Prop} (h : Sq K H v xs) (Pv : Nat → L2.St → Hp → Prop) (h0 : Pv 0 σ H) (hl : ∀ i σ H', i ≤ xs.length → Pv i σ H' → KeepAt K v H H')
    (hs : ∀ i x σ H, xs[i]? = some x → Pv i σ H → g x σ H fun σ2 H2 => tb ⟨Pv (i + 1), rt, nx, Pv (i + 1)⟩ σ2 H2) (hd : ∀ σ H, Pv xs.length σ H → nx σ H)
    (hR : ∀ J, (∃ W : Nat → Nat → L2.St → Hp → Prop, (∃ m, W 0 m σ H) ∧ ∀ i m σ H, W i m σ H →
      ((It.stop J i H ∧ nx σ H) ∨ (It.go J i H ∧ ∃ N : L2.St → Hp → Prop, (∀ σ' H', N σ' H' → ∃ m', m' < m ∧ W (i + 1) m' σ' H') ∧ ∀ x H', It.yld J i H x H' → g x σ H' fun σ2 H2 => tb ⟨N, rt, nx, N⟩ σ2 H2))) → R J H) :
    SqIt K v R H := by
  obtain ⟨a, rfl, h | h⟩ := h
  · exact ⟨a, rfl, .inl ⟨⟨xs, h⟩, hR _ (fr_list Pv h0 (fun i σ H' hi p => (hl i σ H' hi p a xs rfl).1 h) hs hd)⟩⟩
  · exact ⟨a, rfl, .inr ⟨⟨xs, h⟩, hR _ (fr_tup Pv h0 (fun i σ H' hi p => (hl i σ H' hi p a xs rfl).2 h) hs hd)⟩⟩
/-- a slice that is not the whole: a new thing -/
theorem r_slNew {lo hi : Option Int} {Q : VK} (h : Sq K H v xs) (nw : ¬ (HT.sIx xs.length 0 lo = 0 ∧ HT.sIx xs.length xs.length hi = xs.length)) (q : ∀ p H', H p = none → Same H H' → Sq K H' (.ref p) (cutV xs lo hi) → Q (.ref p) H') : rSlL K v lo hi H Q ∨ rSlA K v lo hi H Q := by
  obtain ⟨a, rfl, h | h⟩ := h
  · exact .inl ⟨a, xs, rfl, h, fun p np => q p _ np (same_new np) ⟨p, rfl, .inl (SqL.of upd_same)⟩⟩
  · exact .inr ⟨a, xs, rfl, h, fun w => absurd w nw, fun _ p np => q p _ np (same_new np) ⟨p, rfl, .inr (SqT.of upd_same)⟩⟩
end
theorem walk_rng {lo : Int} {n : Nat} : Walk (Itr lo n) ((List.range n).map fun i : Nat => V.int (lo + i)).length (fun _ => True) (YAt ((List.range n).map fun i : Nat => V.int (lo + i))) := by
  rw [List.length_map, List.length_range]
  exact walk_range.mono (fun _ h => h) fun i H x H' hi _ y => ⟨y.1, by rw [y.2]; simp [hi]⟩
theorem walk_sgn {z : Str} : Walk (Its z) ((sgn z).map V.str).length (fun _ => True) (YAt ((sgn z).map V.str)) := by
  have e : ((sgn z).map V.str).length = z.cps.size := by simp [sgn]
  rw [e]
  refine walk_str.mono (fun _ h => h) fun i H x H' hi _ y => ⟨y.1, ?_⟩
  obtain ⟨c, hc, rfl⟩ := y.2
  have hc' : z.cps.toList[i]? = some c := by simpa using hc
  simp [sgn, hc']

/-- the list at D holds i things, of which P holds -/
def PP (D : Addr) (P : List V → Hp → Prop) (i : Nat) (H : Hp) : Prop := ∃ acc, acc.length = i ∧ H D = some (.lst acc) ∧ P acc H
theorem pp_next {D : Addr} {P : List V → Hp → Prop} {i : Nat} {H : Hp} {y : V} {acc : List V} (e : H D = some (.lst acc)) (l : acc.length = i) (hi : i < sizeLine) (p : P (acc ++ [y]) (upd H D (.lst (acc ++ [y])))) :
    ∃ acc, H D = some (.lst acc) ∧ acc.length < sizeLine ∧ PP D P (i + 1) (upd H D (.lst (acc ++ [y]))) :=
  ⟨acc, e, by omega, acc ++ [y], by rw [List.length_append, l]; rfl, upd_same, p⟩
section
variable {σ : L2.St} {H : Hp} {D : Addr} {vs : List Nat} {te : TE} {Qd : Hp → Prop} {J : It} {xs : List V} {G : Hp → Prop} {slot : Nat}
/-- [e for x in xs]: P of what is made so far and the heap -/
theorem lc_gen (w : Walk J xs.length G (YAt xs)) (hw : ∀ x, wipe ((wipe σ vs).set slot (some x)) vs = wipe σ vs) (P : List V → Hp → Prop) (h0 : P [] (upd H D (.lst [])))
    (hG : ∀ acc H', H' D = some (.lst acc) → P acc H' → G H')
    (hs : ∀ i x acc H', xs[i]? = some x → acc.length = i → H' D = some (.lst acc) → P acc H' → te ((wipe σ vs).set slot (some x)) H' fun y H4 => ∃ acc, H4 D = some (.lst acc) ∧ acc.length < sizeLine ∧ PP D P (i + 1) (upd H4 D (.lst (acc ++ [y]))))
    (hd : ∀ acc H', acc.length = xs.length → H' D = some (.lst acc) → P acc H' → Qd H') :
    ∃ W : Nat → Nat → Hp → Prop, (∃ m, W 0 m (upd H D (.lst []))) ∧ ∀ i m H, W i m H →
      (J.stop i H ∧ Qd H) ∨ (J.go i H ∧ ∃ Nx : Hp → Prop, (∀ H', Nx H' → ∃ m', m' < m ∧ W (i + 1) m' H') ∧ ∀ x H', J.yld i H x H' → gName slot x (wipe σ vs) H' fun σ2 H2 => wipe σ2 vs = wipe σ vs ∧ tYes σ2 H2 fun b H3 =>
        if b = true then te σ2 H3 fun y H4 => ∃ acc, H4 D = some (.lst acc) ∧ acc.length < sizeLine ∧ Nx (upd H4 D (.lst (acc ++ [y]))) else Nx H3) := by
  refine lc_it w (PP D P) ⟨[], rfl, upd_same, h0⟩ (fun i H' _ ⟨acc, _, e, p⟩ => hG acc H' e p) ?_ (fun H' ⟨acc, l, e, p⟩ => hd acc H' l e p)
  rintro i x H1 H2 hi ⟨acc, l, e, p⟩ ⟨rfl, hx⟩
  refine ⟨hw x, ?_⟩
  show te _ _ _
  exact hs i x acc _ hx l e p
/-- the same over a list or a tuple -/
theorem lc_sq {K : PySem.W.Frag} {v : V} {R : It → Hp → Prop} (h : Sq K H v xs) (hw : ∀ x, wipe ((wipe σ vs).set slot (some x)) vs = wipe σ vs) (P : List V → Hp → Prop) (h0 : ∀ D, H D = none → P [] (upd H D (.lst [])))
    (hG : ∀ D acc H', H D = none → H' D = some (.lst acc) → P acc H' → Keeps K H H')
    (hs : ∀ D i x acc H', H D = none → xs[i]? = some x → acc.length = i → H' D = some (.lst acc) → P acc H' → te ((wipe σ vs).set slot (some x)) H' fun y H4 => ∃ acc, H4 D = some (.lst acc) ∧ acc.length < sizeLine ∧ PP D P (i + 1) (upd H4 D (.lst (acc ++ [y]))))
    (Qe : Addr → Hp → Prop) (hd : ∀ D acc H', H D = none → acc.length = xs.length → H' D = some (.lst acc) → P acc H' → Qe D H')
    (hR : ∀ J, (∀ D, H D = none → ∃ W : Nat → Nat → Hp → Prop, (∃ m, W 0 m (upd H D (.lst []))) ∧ ∀ i m H, W i m H →
      (It.stop J i H ∧ Qe D H) ∨ (It.go J i H ∧ ∃ Nx : Hp → Prop, (∀ H', Nx H' → ∃ m', m' < m ∧ W (i + 1) m' H') ∧ ∀ x H', It.yld J i H x H' → gName slot x (wipe σ vs) H' fun σ2 H2 => wipe σ2 vs = wipe σ vs ∧ tYes σ2 H2 fun b H3 =>
        if b = true then te σ2 H3 fun y H4 => ∃ acc, H4 D = some (.lst acc) ∧ acc.length < sizeLine ∧ Nx (upd H4 D (.lst (acc ++ [y]))) else Nx H3)) → R J H) :
    SqIt K v R H := by
  obtain ⟨a, rfl, h | h⟩ := h
  · exact ⟨a, rfl, .inl ⟨⟨xs, h⟩, hR _ fun D hD => lc_gen walk_list hw P (h0 D hD) (fun acc H' e p => (hG D acc H' hD e p).1 _ _ h) (fun i x acc H' hx l e p => hs D i x acc H' hD hx l e p) (fun acc H' l e p => hd D acc H' hD l e p)⟩⟩
  · exact ⟨a, rfl, .inr ⟨⟨xs, h⟩, hR _ fun D hD => lc_gen walk_tup hw P (h0 D hD) (fun acc H' e p => (hG D acc H' hD e p).2 _ _ h) (fun i x acc H' hx l e p => hs D i x acc H' hD hx l e p) (fun acc H' l e p => hd D acc H' hD l e p)⟩⟩
end
section
variable {K : PySem.W.Frag} {C : Addr}
theorem r_tfld {σ : L2.St} {H : Hp} {Q : VK} {ta : TE} {f : Str} (q : ta σ H fun x H1 => ∃ a C dx fs v, x = .ref a ∧ H1 a = some (.ins C dx fs) ∧ Cls K C ∧ NoAttr K C f ∧ fs.lookup f = some v ∧ Q v H1) : tFld K ta f σ H Q := q
theorem r_sfld {σ : L2.St} {H : Hp} {D : Ends} {ta tv : TE} {f : Str} (q : tv σ H fun y H1 => ta σ H1 fun x H2 => ∃ a C dx fs, x = .ref a ∧ H2 a = some (.ins C dx fs) ∧ Cls K C ∧ NoAttr K C f ∧ fs.length < 1000 ∧
  D.nx σ (upd H2 a (.ins C dx (putF f y fs)))) : sFld K ta tv f D σ H := q
theorem r_meth {σ : L2.St} {H : Hp} {Q : VK} {m : Str} {sp : Sp} {dvs : List V} {E : XK} {ta : TE} {t : TA} (q : ta σ H fun x H1 => ∃ a dx fs, x = .ref a ∧ H1 a = some (.ins C dx fs) ∧ fs.lookup m = none ∧
  t σ H1 fun vs H2 => sp (x :: (vs ++ dvs)) H2 Q E) : tMeth C m sp dvs E ta t σ H Q := q
end
def rTupOf (K : PySem.W.Frag) : List V → Hp → VK → Prop := fun xs H Q => ∃ p ys, xs = [.ref p] ∧ ((SqL K H p ys ∧ ∀ l, H l = none → Q (.ref l) (upd H l (.tup ys))) ∨ (SqT K H p ys ∧ Q (.ref p) H))
theorem call_tupOf {X : Cx} : CallR X (.type "tuple") (rTupOf X.K) := call_tuple_of
end K1

/-! A5 -/
/-! The law's draws: a bag off a cell, a number off a bag. -/

local macro_rules | `(tactic| walk_at "go") => `(tactic| repeat (first
  | with_reducible apply K1.r_seq
  | with_reducible apply K1.r_asg
  | ((with_reducible apply K1.r_name); (try dsimp only [List.set]))
  | ((with_reducible apply K1.r_var); (focus rfl))
  | with_reducible apply K1.r_c
  | with_reducible apply K1.r_op
  | with_reducible apply K1.r_un
  | with_reducible apply K1.r_I0
  | with_reducible apply K1.r_test
  | with_reducible apply K1.r_if
  | with_reducible apply K1.r_ifs
  | with_reducible apply K1.r_iteT
  | with_reducible apply K1.r_iteF
  | with_reducible apply K1.r_and
  | with_reducible apply K1.r_or
  | with_reducible apply K1.r_not
  | with_reducible apply K1.r_tB
  | with_reducible apply K1.r_andV
  | with_reducible apply K1.r_orV
  | with_reducible apply K1.r_notV
  | with_reducible apply K1.r_cb
  | with_reducible apply K1.r_cons
  | with_reducible apply K1.r_nil
  | with_reducible apply K1.r_ret
  | with_reducible apply K1.r_next
  | with_reducible apply K1.r_drop
  | with_reducible apply K1.r_lst
  | with_reducible apply K1.r_tup
  | with_reducible apply K1.r_call
  | with_reducible apply K1.r_gsub
  | with_reducible apply K1.r_for
  | refine ⟨_, rfl, ?_⟩
  | refine Or.inl ⟨_, rfl, ?_⟩
  | dsimp only))

namespace K1
open PySem L2

def top (i : Nat) : Stmt := PySem.Challenge.pw_handcarried_k19_readings.main.body.getD i (.Pass ⟨0, 0, 0, 0⟩)

/-- the built-ins that the module's names leave alone -/
structure Bl (mg : Str → Option Value) : Prop where
  len : mg "len" = none
  sum : mg "sum" = none
  abs : mg "abs" = none
  int : mg "int" = none
  range : mg "range" = none
  list : mg "list" = none
  tuple : mg "tuple" = none
  str : mg "str" = none
  bool : mg "bool" = none
  sorted : mg "sorted" = none
  all : mg "all" = none
  min : mg "min" = none
  isin : mg "isinstance" = none
  max : mg "max" = none
  any : mg "any" = none
  repr : mg "repr" = none
  set : mg "set" = none
  zip : mg "zip" = none
  enumerate : mg "enumerate" = none

/-- a bag: digits that are left, salt, count of mixed draws (at most n) -/
def IsBag (H : Hp) (b : Addr) (n : Nat) : Prop := ∃ d s c : Int, H b = some (.lst [.int d, .int s, .int c]) ∧ 0 ≤ d ∧ 0 ≤ s ∧ s < 2 ^ 40 ∧ 0 ≤ c ∧ c ≤ n

abbrev sBagOf : Stmt := top 47
abbrev sPick : Stmt := top 48
abbrev nBagOf : List Str := ["_law_script", "_law_at", "_law_cell", "_law_size", "_law_digits", "_law_one"]
theorem scBagOf : FnScope nBagOf ["_law_script", "_law_at"] (defScope sBagOf) := ⟨rfl, rfl, rfl, by decide +kernel, rfl, by decide +kernel, by decide +kernel⟩
abbrev nPick : List Str := ["_law_bag", "_law_many", "_law_digit", "_law_one", "_law_two"]
theorem scPick : FnScope nPick ["_law_bag", "_law_many"] (defScope sPick) := ⟨rfl, rfl, rfl, by decide +kernel, rfl, by decide +kernel, by decide +kernel⟩

def spBagOf (K : PySem.W.Frag) : Sp := fun vs H Q _ => ∃ (a : Addr) (ns : List Int) (at_ : Int), vs = [.ref a, .int at_] ∧ SqL K H a (ns.map V.int) ∧ ns.length ≤ 63 ∧ 0 ≤ at_ ∧ at_ ≤ 1000 ∧
  ∀ H' p, Same H H' → H p = none → IsBag H' p 0 → Q (.ref p) H'

section
variable {P : Program} {w : World} {K : PySem.W.Frag} {mg : Str → Option Value} {base : Heap}

theorem ok_bagOf {f : Addr} {fd : FuncData} (F : Fun K "_law_bag_of" "_law_bag_of" sBagOf f fd) (B : Bl mg) : FnOk P w K mg base CX0 1 f fd ["_law_script", "_law_at"] (spBagOf K) := by
  refine F.ok scBagOf (fun vs H Q E h => ?_) (fun cdv A outer s H vs Q E hr h => ?_)
  · obtain ⟨a, ns, at_, rfl, _⟩ := h
    rfl
  · obtain ⟨a, ns, at_, rfl, hS, hlen, h0, h1, k⟩ := h
    refine ⟨_, pss_cons (ps_set (i := 2) scBagOf.nd rfl (Or.inl rfl)
        (pe_ifExp (pt_cmpR op_lt (pv 1) (pe_callB call_len (by rfl) B.len PySem.boot_len (pa_cons (pv 0) pa_nil)) (nomark _))
          (pe_ix ix_list (pv 0) (pv 1) (fun _ _ => rfl))
          (pe_op op_add (pe_callB (cr_sum rfl) (by rfl) B.sum (by decide +kernel) (pa_cons
              (pe_lc (own := [("_law_one", 5)]) (g := gName 5) (tt := tYes) rfl scBagOf.nd (pi_list (pv 0)) (blkOk_by (N := nBagOf) (sc := defScope sBagOf) (by decide +kernel)) (fun _ _ _ _ _ => pg_name (i := 5) scBagOf.nd rfl (Or.inl rfl)) (fun _ _ _ _ _ => pts_nil)
                (fun _ _ _ _ _ => pe_op op_add (pe_op op_fdiv (pe_callB call_abs (by rfl) B.abs (by decide +kernel) (pa_cons (pv 5) pa_nil)) pe_int) pe_int)) pa_nil))
            (pe_op op_mul pe_int (pe_op op_add (pv 1) pe_int)))))
      (pss_cons (ps_set (i := 3) scBagOf.nd rfl (Or.inl rfl) (pe_callB call_abs (by rfl) B.abs (by decide +kernel) (pa_cons (pv 2) pa_nil)))
      (pss_cons (ps_set (i := 4) scBagOf.nd rfl (Or.inl rfl) (pe_ifExp (pt_cmpR op_ge (pv 3) pe_int (nomark _)) (pv 3) pe_int))
      (pss_one (ps_ret (pe_lst (pa_cons (pv 4) (pa_cons (pe_op op_add (pe_op op_add (pe_op op_mod (pe_callTy call_int1 (by rfl) B.int (by decide +kernel) (pa_cons (pv 3) pa_nil)) pe_int) (pe_op op_mul pe_int (pv 1)))
        (pe_ifExp (pt_cmpR op_lt (pv 2) pe_int (nomark _)) pe_int pe_int)) (pa_cons pe_int pa_nil)))))))), ?_⟩
    dsimp only [cxOf, Cx.nox, Cx.wish]
    walk_at "go"
    refine ⟨_, _, rfl, lenL hS, ?_⟩
    walk_at "go"
    refine r_ite (fun h => ?_) (fun h => ?_)
    rotate_left
    walk_at "go"
    refine ⟨⟨_, hS⟩, fun D hD => lc_map (fun x => match x with | .int z => .int ((if z < 0 then -z else z) / 3 + 5) | y => y) hS hD (by rw [List.length_map, sizeLine_eq]; omega) (fun _ => rfl) (fun x hx H' R sm r => ?_) ?_⟩
    · obtain ⟨z, _, rfl⟩ := List.mem_map.mp hx
      walk_at "go"
      refine r_I ⟨by decide, by decide⟩ ?_
      walk_at "go"
      exact r
    walk_at "go"
    have hD' : (upd H D (.lst ((ns.map V.int).map fun x => match x with | .int z => .int ((if z < 0 then -z else z) / 3 + 5) | y => y))) D = some (.lst ((ns.map fun z => (if z < 0 then -z else z) / 3 + 5).map V.int)) := by
      rw [upd_same, List.map_map, List.map_map]
      rfl
    refine r_sum (SqL.of hD') ?_
    walk_at "go"
    refine r_I (.inl ⟨by decide, by decide⟩) ?_
    walk_at "go"
    have sm := same_new (o := HO.lst ((ns.map V.int).map fun x => match x with | .int z => .int ((if z < 0 then -z else z) / 3 + 5) | y => y)) hD
    revert sm
    generalize (ns.map fun z => (if z < 0 then -z else z) / 3 + 5).sum + 7919 * (at_ + 1) = zz
    rotate_left
    obtain ⟨z, hz, _⟩ := at_int (ns := ns) h0 (by simpa using h)
    walk_at "go"
    refine r_ixL hS hz ?_
    walk_at "go"
    have sm : Same H H := Same.refl H
    revert sm
    all_goals
      intro sm
      refine r_ite (fun hh => ?_) (fun hh => ?_)
    all_goals
      walk_at "go"
      refine r_I (by decide) ?_
      walk_at "go"
      refine r_I (.inl ⟨by decide, by decide⟩) ?_
      walk_at "go"
      refine r_ite (fun hn => ?_) (fun hn => ?_)
    all_goals
      walk_at "go"
      refine ⟨(by show 3 ≤ sizeLine; decide), fun p hp => ?_⟩
      refine k _ p (sm.trans (same_new hp)) (sm.free hp) ⟨_, _, _, upd_same, ?_, ?_, ?_, ?_, ?_⟩
    all_goals (first | omega | (split <;> omega))

def spPick : Sp := fun vs H Q _ => ∃ (b : Addr) (m : Int) (n : Nat), vs = [.ref b, .int m] ∧ IsBag H b n ∧ n ≤ 2 ^ 40 ∧ m < 1073741824 ∧
  ∀ r H', 0 ≤ r → (r < m ∨ (m < 2 ∧ r = 0)) → IsBag H' b (n + 1) → Off b H H' → Q (.int r) H'

theorem ok_pick {f : Addr} {fd : FuncData} (F : Fun K "_law_pick" "_law_pick" sPick f fd) (B : Bl mg) : FnOk P w K mg base CX0 1 f fd ["_law_bag", "_law_many"] spPick := by
  refine F.ok scPick (fun vs H Q E h => ?_) (fun cdv A outer s H vs Q E hr h => ?_)
  · obtain ⟨a, m, n, rfl, _⟩ := h
    rfl
  · obtain ⟨b, m, n, rfl, ⟨d, sl, c, hb, d0, s0, s1, c0, c1⟩, hn, hm, k⟩ := h
    refine ⟨_, pss_cons (ps_if (pt_cmpR op_lt (pv 1) pe_int (nomark _)) (pss_one (ps_ret pe_int)) pss_nil)
      (pss_cons (ps_if (pt_cmpR op_gt (pe_ix ix_list (pv 0) pe_int (fun _ _ => rfl)) pe_int (nomark _))
        (pss_cons (ps_set (i := 2) scPick.nd rfl (Or.inl rfl) (pe_op op_modN (pe_callTy call_int1 (by rfl) B.int (by decide +kernel) (pa_cons (pe_ix ix_list (pv 0) pe_int (fun _ _ => rfl)) pa_nil)) (pv 1)))
        (pss_cons (ps_asg (pe_op op_fdivN (pe_ix ix_list (pv 0) pe_int (fun _ _ => rfl)) (pv 1)) (pg_sub (pv 0) pe_int set_list))
        (pss_one (ps_ret (pv 2))))) pss_nil)
      (pss_cons (ps_asg (pe_op op_add (pe_ix ix_list (pv 0) pe_int (fun _ _ => rfl)) pe_int) (pg_sub (pv 0) pe_int set_list))
      (pss_cons (ps_set (i := 3) scPick.nd rfl (Or.inl rfl) (pe_op op_mod (pe_callTy call_int1 (by rfl) B.int (by decide +kernel) (pa_cons
          (pe_op op_add (pe_op op_mul (pe_ix ix_list (pv 0) pe_int (fun _ _ => rfl)) pe_int) (pe_op op_mul (pe_ix ix_list (pv 0) pe_int (fun _ _ => rfl)) pe_int)) pa_nil)) pe_int))
      (pss_cons (ps_set (i := 4) scPick.nd rfl (Or.inl rfl) (pe_op op_mod (pe_callTy call_int1 (by rfl) B.int (by decide +kernel) (pa_cons
          (pe_op op_add (pe_op op_add (pe_op op_mul (pv 3) (pv 3)) (pe_ix ix_list (pv 0) pe_int (fun _ _ => rfl))) (pe_op op_mul (pe_ix ix_list (pv 0) pe_int (fun _ _ => rfl)) pe_int)) pa_nil)) pe_int))
      (pss_one (ps_ret (pe_op op_modN (pe_callTy call_int1 (by rfl) B.int (by decide +kernel) (pa_cons (pe_op op_fdiv (pv 4) pe_int) pa_nil)) (pv 1)))))))), ?_⟩
    dsimp only [cxOf, Cx.nox, Cx.wish]
    walk_at "go"
    refine r_ite (fun h => ?_) (fun h => ?_)
    · walk_at "go"
      exact k 0 H (Int.le_refl 0) (.inr ⟨h, rfl⟩) ⟨d, sl, c, hb, d0, s0, s1, c0, by omega⟩ (Off.refl _ _)
    walk_at "go"
    refine r_ixL (SqL.of hb) rfl ?_
    walk_at "go"
    refine r_ite (fun h2 => ?_) (fun h2 => ?_)
    · walk_at "go"
      refine r_ixL (SqL.of hb) rfl ?_
      walk_at "go"
      refine r_I (by omega) ?_
      walk_at "go"
      refine r_ixL (SqL.of hb) rfl ?_
      walk_at "go"
      refine r_I ⟨by omega, by omega⟩ ?_
      walk_at "go"
      refine r_setL hb rfl ?_
      walk_at "go"
      refine k _ _ ?_ (.inl ?_) ⟨_, _, _, upd_same, ?_, s0, s1, c0, by omega⟩ Off.upd
      · exact Int.fmod_nonneg (by omega) (by omega)
      · exact Int.fmod_lt_of_pos _ (by omega)
      · exact Int.fdiv_nonneg (by omega) (by omega)
    walk_at "go"
    refine r_ixL (SqL.of hb) rfl ?_
    walk_at "go"
    refine r_setL hb rfl ?_
    have hb2 := upd_same (H := H) (a := b) (o := HO.lst (List.set [V.int d, V.int sl, V.int c] 2 (V.int (c + 1))))
    walk_at "go"
    refine r_ixL (SqL.of hb2) rfl ?_
    walk_at "go"
    refine r_I (.inr ⟨by decide, by decide⟩) ?_
    walk_at "go"
    refine r_ixL (SqL.of hb2) rfl ?_
    walk_at "go"
    refine r_I (.inr ⟨by decide, by decide⟩) ?_
    walk_at "go"
    refine r_I (by decide) ?_
    have o0 := Int.emod_nonneg (sl * 48271 + (c + 1) * 69621) (show (2147483647 : Int) ≠ 0 by decide)
    have o1 := Int.emod_lt_of_pos (sl * 48271 + (c + 1) * 69621) (show (0 : Int) < 2147483647 by decide)
    revert o0 o1
    generalize (sl * 48271 + (c + 1) * 69621) % 2147483647 = one
    intro o0 o1
    walk_at "go"
    refine r_I (.inl ⟨by omega, by omega⟩) ?_
    walk_at "go"
    refine r_ixL (SqL.of hb2) rfl ?_
    walk_at "go"
    refine r_ixL (SqL.of hb2) rfl ?_
    walk_at "go"
    refine r_I (.inr ⟨by decide, by decide⟩) ?_
    walk_at "go"
    refine r_I (by decide) ?_
    walk_at "go"
    refine r_I ⟨by decide, by decide⟩ ?_
    walk_at "go"
    refine r_I (by omega) ?_
    walk_at "go"
    refine k _ _ ?_ (.inl ?_) ⟨_, _, _, upd_same, d0, s0, s1, by omega, by omega⟩ Off.upd
    · exact Int.fmod_nonneg (by omega) (by omega)
    · exact Int.fmod_lt_of_pos _ (by omega)
end
end K1

/-! M4 -/
/-! Rules, their words, their data. -/
namespace K4
open PySem L2 PyProof.Rows
abbrev tl (z : Str) : List Nat := z.cps.toList
abbrev ALL : Str := "0123456789ABCDEFGHIJKLMNOPQRSTUVWXYZ"
theorem str_ext {x y : Str} (h : tl x = tl y) : x = y := by
  cases x with | mk a => cases y with | mk b => exact congrArg Str.mk (Array.toList_inj.mp h)
theorem len_tl (x : Str) : x.length = (tl x).length := by simp [Str.length]
/-- a number's word -/
def num (n : Nat) : Str := Str.ofString (toString ((n : Nat) : Int))
theorem tl_numL (n : Nat) : tl (num n) = TL.numL n := TL.tl_num n
def numOk (n : Nat) : Bool := (TL.numL n).all (fun c => 48 ≤ c && c ≤ 57) && 1 ≤ (TL.numL n).length && (TL.numL n).length ≤ 2 && ((TL.numL n).head? != some 48 || TL.numL n == [48])
theorem num_all : (List.range 61).all numOk = true := by decide +kernel
theorem num_ok {n : Nat} (h : n ≤ 60) : (∀ c ∈ tl (num n), 48 ≤ c ∧ c ≤ 57) ∧ 1 ≤ (tl (num n)).length ∧ (tl (num n)).length ≤ 2 ∧ ((tl (num n)).head? ≠ some 48 ∨ tl (num n) = [48]) := by
  have a := List.all_eq_true.mp num_all n (List.mem_range.mpr (by omega))
  rw [tl_numL]
  simpa [numOk, and_assoc] using a
theorem num_int {n : Nat} (h : n ≤ 60) : intText? (num n) = some (n : Int) := TL.int_num (by have := (num_ok h).2.2.1; rw [tl_numL] at this; omega)
theorem num_inj {n m : Nat} (hn : n ≤ 60) (hm : m ≤ 60) (e : num n = num m) : n = m := by
  have a := num_int hn
  rw [e, num_int hm] at a
  have b := Option.some.inj a
  omega
theorem num_no {n c : Nat} (h : n ≤ 60) (hc : c < 48) : c ∉ tl (num n) := fun q => by have := ((num_ok h).1 c q).1; omega
abbrev CM : Str := ","
abbrev SL : Str := "/"
abbrev SP : Str := " "
theorem tl_CM : tl CM = [44] := by decide +kernel
theorem tl_SL : tl SL = [47] := by decide +kernel
theorem tl_SP : tl SP = [32] := by decide +kernel
/-! ### joined -/
theorem spl_CM {ys : List Str} (h : ys ≠ []) (k : ∀ y ∈ ys, 44 ∉ tl y) : Txt.split (Txt.join CM ys) CM = ys := TL.split_join tl_CM (by decide +kernel) h k
theorem spl_SL {ys : List Str} (h : ys ≠ []) (k : ∀ y ∈ ys, 47 ∉ tl y) : Txt.split (Txt.join SL ys) SL = ys := TL.split_join tl_SL (by decide +kernel) h k
theorem spl_SP {ys : List Str} (h : ys ≠ []) (k : ∀ y ∈ ys, 32 ∉ tl y) : Txt.split (Txt.join SP ys) SP = ys := TL.split_join tl_SP (by decide +kernel) h k
theorem tl_joinL (y : Str) (ys : List Str) : tl (Txt.join y ys) = TL.joinL (tl y) (ys.map tl) := by
  show TL.tl _ = _
  rw [TL.join_eq, TL.tl_join]
theorem mem_joinL {S : List Nat} {c : Nat} : ∀ {ps : List (List Nat)}, c ∈ TL.joinL S ps → c ∈ S ∨ ∃ p ∈ ps, c ∈ p
  | [], h => by simp [TL.joinL] at h
  | [p], h => .inr ⟨p, List.mem_singleton.mpr rfl, h⟩
  | p :: q :: r, h => by
    have h' : c ∈ p ++ (S ++ TL.joinL S (q :: r)) := h
    rcases List.mem_append.mp h' with h' | h'
    · exact .inr ⟨p, List.mem_cons_self .., h'⟩
    rcases List.mem_append.mp h' with h' | h'
    · exact .inl h'
    rcases mem_joinL h' with h' | ⟨z, hz, hc⟩
    · exact .inl h'
    · exact .inr ⟨z, List.mem_cons_of_mem _ hz, hc⟩
theorem mem_join {y : Str} {c : Nat} {ys : List Str} (h : c ∈ tl (Txt.join y ys)) : c ∈ tl y ∨ ∃ p ∈ ys, c ∈ tl p := by
  rw [tl_joinL] at h
  rcases mem_joinL h with h | ⟨p, hp, hc⟩
  · exact .inl h
  · obtain ⟨z, hz, rfl⟩ := List.mem_map.mp hp
    exact .inr ⟨z, hz, hc⟩
theorem len_joinL {S : List Nat} {b : Nat} : ∀ {ps : List (List Nat)}, (∀ p ∈ ps, p.length ≤ b) → (TL.joinL S ps).length ≤ ps.length * (b + S.length)
  | [], _ => by simp [TL.joinL]
  | [p], h => by
    have := h p (List.mem_singleton.mpr rfl)
    show p.length ≤ _
    simp only [List.length_cons, List.length_nil]; omega
  | p :: q :: r, h => by
    have a := h p (List.mem_cons_self ..)
    have b' := len_joinL (S := S) (ps := q :: r) fun z hz => h z (List.mem_cons_of_mem _ hz)
    show (p ++ (S ++ TL.joinL S (q :: r))).length ≤ (((q :: r).length) + 1) * (b + S.length)
    rw [List.length_append, List.length_append, Nat.add_mul]
    omega
theorem len_join {y : Str} {b : Nat} {ys : List Str} (h : ∀ p ∈ ys, (tl p).length ≤ b) : (tl (Txt.join y ys)).length ≤ ys.length * (b + (tl y).length) := by
  rw [tl_joinL]
  have := len_joinL (S := tl y) (b := b) (ps := ys.map tl) (fun p hp => by obtain ⟨z, hz, rfl⟩ := List.mem_map.mp hp; exact h z hz)
  rw [List.length_map] at this
  exact this
theorem sum_le {ys : List Str} {b : Nat} (h : ∀ p ∈ ys, (tl p).length ≤ b) : (ys.map (·.length)).sum ≤ ys.length * b := by
  induction ys with
  | nil => simp
  | cons y ys ih =>
    have a := h y (List.mem_cons_self ..)
    have := ih fun p hp => h p (List.mem_cons_of_mem _ hp)
    rw [List.map_cons, List.sum_cons, List.length_cons, Nat.add_mul, len_tl]
    omega
/-- numbers joined by commas -/
def commas (ns : List Nat) : Str := Txt.join CM (ns.map num)
def Nums (b : Nat) (ns : List Nat) : Prop := ns ≠ [] ∧ ns.length ≤ 60 ∧ ∀ n ∈ ns, n ≤ b
theorem Nums.mono {a b : Nat} {ns : List Nat} (h : Nums a ns) (l : a ≤ b) : Nums b ns := ⟨h.1, h.2.1, fun n q => Nat.le_trans (h.2.2 n q) l⟩
theorem split_commas {ns : List Nat} (h : Nums 60 ns) : Txt.split (commas ns) CM = ns.map num :=
  spl_CM (fun e => h.1 (List.map_eq_nil_iff.mp e)) fun y hy => by
    obtain ⟨n, hn, rfl⟩ := List.mem_map.mp hy
    exact num_no (h.2.2 n hn) (by decide)
theorem map_num_inj : ∀ {xs ys : List Nat}, (∀ n ∈ xs, n ≤ 60) → (∀ n ∈ ys, n ≤ 60) → xs.map num = ys.map num → xs = ys
  | [], [], _, _, _ => rfl
  | [], _ :: _, _, _, h => by simp at h
  | _ :: _, [], _, _, h => by simp at h
  | x :: xs, y :: ys, a, b, h => by
    rw [List.map_cons, List.map_cons] at h
    have h1 := (List.cons.inj h)
    rw [num_inj (a x (List.mem_cons_self ..)) (b y (List.mem_cons_self ..)) h1.1, map_num_inj (fun n q => a n (List.mem_cons_of_mem _ q)) (fun n q => b n (List.mem_cons_of_mem _ q)) h1.2]
theorem commas_inj {xs ys : List Nat} (hx : Nums 60 xs) (hy : Nums 60 ys) (e : commas xs = commas ys) : xs = ys :=
  map_num_inj hx.2.2 hy.2.2 (by rw [← split_commas hx, ← split_commas hy, e])
theorem commas_no {ns : List Nat} {c : Nat} (h : Nums 60 ns) (hc : c < 48) (h44 : c ≠ 44) : c ∉ tl (commas ns) := fun q => by
  rcases mem_join q with q | ⟨p, hp, q⟩
  · rw [tl_CM] at q; simp at q; exact h44 q
  · obtain ⟨n, hn, rfl⟩ := List.mem_map.mp hp
    exact num_no (h.2.2 n hn) hc q
theorem commas_no47 {ns : List Nat} (h : Nums 60 ns) : 47 ∉ tl (commas ns) := commas_no h (by decide) (by decide)
theorem commas_len {ns : List Nat} (h : Nums 60 ns) : (tl (commas ns)).length ≤ ns.length * 3 := by
  have := len_join (y := CM) (b := 2) (ys := ns.map num) (fun p hp => by obtain ⟨n, hn, rfl⟩ := List.mem_map.mp hp; exact (num_ok (h.2.2 n hn)).2.2.1)
  rw [List.length_map, tl_CM] at this
  exact this
/-! ### parts -/
inductive Ow
  | any | back | not | both | either
  | sum (m : Nat) (ws : List Nat) (g : Nat)
  | square (rows : List (List Nat)) (gs : List Nat)
  | faces (fs : List Str)
  | cut (a b : Nat)
def Ow.kind : Ow → Nat
  | .any => 0 | .back => 1 | .not => 2 | .both => 3 | .either => 4 | .sum .. => 5 | .square .. => 6 | .faces .. => 7 | .cut .. => 8
def wd : Nat → Str
  | 0 => "any" | 1 => "back" | 2 => "not" | 3 => "both" | 4 => "either" | 5 => "sum" | 6 => "square" | 7 => "faces" | _ => "cut"
def ar : Nat → Nat
  | 0 => 0 | 1 => 1 | 2 => 1 | 3 => 2 | 4 => 2 | 5 => 0 | 6 => 0 | 7 => 1 | _ => 1
def mn : Nat → Nat
  | 5 => 3 | 6 => 2 | 7 => 1 | 8 => 2 | _ => 0
abbrev Ow.word (o : Ow) : Str := wd o.kind
theorem Ow.kind_lt (o : Ow) : o.kind < 9 := by cases o <;> (show (_ : Nat) < 9; simp only [Ow.kind]; decide)
theorem wd_inj : ∀ i < 9, ∀ j < 9, wd i = wd j → i = j := by decide +kernel
theorem wd_ok : ∀ i < 9, 32 ∉ tl (wd i) ∧ (tl (wd i)).length ≤ 6 ∧ 1 ≤ (tl (wd i)).length := by decide +kernel
def Ow.words : Ow → List Str
  | .sum m ws g => [num m, commas ws, num g]
  | .square rows gs => [Txt.join SL (rows.map commas), commas gs]
  | .faces fs => [Txt.join CM fs]
  | .cut a b => [num a, num b]
  | _ => []
def sq (t : Bool) (ds : List PyData) : PyData := if t = true then .tuple ds else .list ds
def pn (n : Nat) : PyData := .int n
def Ow.data (t : Bool) : Ow → List PyData
  | .sum m ws g => [pn m, sq t (ws.map pn), pn g]
  | .square rows gs => [sq t (rows.map fun row => sq t (row.map pn)), sq t (gs.map pn)]
  | .faces fs => [sq t (fs.map .str)]
  | .cut a b => [pn a, pn b]
  | _ => []
def Face (f : Str) : Prop := 2 ≤ (tl f).length ∧ (tl f).length ≤ 12 ∧ ∀ c ∈ tl f, c ∈ tl ALL
def Row (r : List Nat) : Prop := 2 ≤ r.length ∧ r.length ≤ 12 ∧ ∀ x ∈ r, x ≤ 59
def Ow.ok : Ow → Prop
  | .sum m ws g => 2 ≤ m ∧ m ≤ 60 ∧ Nums 59 ws ∧ ws.length ≤ 8 ∧ g ≤ 59
  | .square rows gs => rows ≠ [] ∧ rows.length ≤ 60 ∧ (∀ r ∈ rows, Row r) ∧ Nums 59 gs
  | .faces fs => fs ≠ [] ∧ fs.length ≤ 4 ∧ ∀ f ∈ fs, Face f
  | .cut a b => a ≤ 3 ∧ b ≤ 3
  | _ => True
theorem Row.nums {r : List Nat} (h : Row r) : Nums 60 r := ⟨fun e => by rw [e] at h; exact absurd h.1 (by decide), by have := h.2.1; omega, fun n q => Nat.le_trans (h.2.2 n q) (by decide)⟩
theorem all_ge : ∀ c ∈ tl ALL, 48 ≤ c := by decide +kernel
theorem Face.no {f : Str} {c : Nat} (h : Face f) (hc : c < 48) : c ∉ tl f := fun q => by have := all_ge c (h.2.2 c q); omega
theorem Ow.words_len (o : Ow) : o.words.length = mn o.kind := by cases o <;> rfl
theorem Ow.data_len (t : Bool) (o : Ow) : (o.data t).length = mn o.kind := by cases o <;> rfl

theorem Ow.words_ok {o : Ow} (h : o.ok) : ∀ w ∈ o.words, 32 ∉ tl w ∧ (tl w).length ≤ 2500 := by
  cases o with
  | sum m ws g =>
    obtain ⟨h1, h2, h3, h4, h5⟩ := h
    have c := commas_len (h3.mono (by decide : 59 ≤ 60))
    intro w hw
    simp only [Ow.words, List.mem_cons, List.not_mem_nil, or_false] at hw
    rcases hw with rfl | rfl | rfl
    · exact ⟨num_no h2 (by decide), by have := (num_ok h2).2.2.1; omega⟩
    · exact ⟨commas_no (h3.mono (by decide)) (by decide) (by decide), by omega⟩
    · exact ⟨num_no (by omega) (by decide), by have := (num_ok (show g ≤ 60 by omega)).2.2.1; omega⟩
  | square rows gs =>
    obtain ⟨h1, h2, h3, h4⟩ := h
    intro w hw
    simp only [Ow.words, List.mem_cons, List.not_mem_nil, or_false] at hw
    rcases hw with rfl | rfl
    · refine ⟨fun q => ?_, ?_⟩
      · rcases mem_join q with q | ⟨p, hp, q⟩
        · rw [tl_SL] at q; simp at q
        · obtain ⟨r, hr, rfl⟩ := List.mem_map.mp hp
          exact commas_no (h3 r hr).nums (by decide) (by decide) q
      · have := len_join (y := SL) (b := 36) (ys := rows.map commas) (fun p hp => by
          obtain ⟨r, hr, rfl⟩ := List.mem_map.mp hp
          have a := commas_len (h3 r hr).nums
          have b := (h3 r hr).2.1
          omega)
        rw [List.length_map, tl_SL] at this
        simp only [List.length_cons, List.length_nil] at this
        omega
    · have c := commas_len (h4.mono (by decide : 59 ≤ 60))
      have := h4.2.1
      exact ⟨commas_no (h4.mono (by decide)) (by decide) (by decide), by omega⟩
  | faces fs =>
    obtain ⟨h1, h2, h3⟩ := h
    intro w hw
    simp only [Ow.words, List.mem_cons, List.not_mem_nil, or_false] at hw
    subst hw
    refine ⟨fun q => ?_, ?_⟩
    · rcases mem_join q with q | ⟨p, hp, q⟩
      · rw [tl_CM] at q; simp at q
      · exact (h3 p hp).no (by decide) q
    · have := len_join (y := CM) (b := 12) (ys := fs) (fun p hp => (h3 p hp).2.1)
      rw [tl_CM] at this
      simp only [List.length_cons, List.length_nil] at this
      omega
  | cut a b =>
    obtain ⟨h1, h2⟩ := h
    intro w hw
    simp only [Ow.words, List.mem_cons, List.not_mem_nil, or_false] at hw
    rcases hw with rfl | rfl
    · exact ⟨num_no (by omega) (by decide), by have := (num_ok (show a ≤ 60 by omega)).2.2.1; omega⟩
    · exact ⟨num_no (by omega) (by decide), by have := (num_ok (show b ≤ 60 by omega)).2.2.1; omega⟩
  | _ => intro w hw; simp [Ow.words] at hw
theorem rows_split {rows : List (List Nat)} (h1 : rows ≠ []) (h3 : ∀ r ∈ rows, Row r) : Txt.split (Txt.join SL (rows.map commas)) SL = rows.map commas :=
  spl_SL (fun e => h1 (List.map_eq_nil_iff.mp e)) fun y hy => by
    obtain ⟨r, hr, rfl⟩ := List.mem_map.mp hy
    exact commas_no47 (h3 r hr).nums
theorem faces_split {fs : List Str} (h1 : fs ≠ []) (h3 : ∀ f ∈ fs, Face f) : Txt.split (Txt.join CM fs) CM = fs := spl_CM h1 fun y hy => (h3 y hy).no (by decide)
theorem map_commas_inj : ∀ {xs ys : List (List Nat)}, (∀ r ∈ xs, Row r) → (∀ r ∈ ys, Row r) → xs.map commas = ys.map commas → xs = ys
  | [], [], _, _, _ => rfl
  | [], _ :: _, _, _, h => by simp at h
  | _ :: _, [], _, _, h => by simp at h
  | x :: xs, y :: ys, a, b, h => by
    rw [List.map_cons, List.map_cons] at h
    have h1 := (List.cons.inj h)
    rw [commas_inj (a x (List.mem_cons_self ..)).nums (b y (List.mem_cons_self ..)).nums h1.1, map_commas_inj (fun n q => a n (List.mem_cons_of_mem _ q)) (fun n q => b n (List.mem_cons_of_mem _ q)) h1.2]
theorem Ow.words_inj {o p : Ow} (ho : o.ok) (hp : p.ok) (k : o.kind = p.kind) (e : o.words = p.words) : o = p := by
  cases o <;> cases p <;> first
    | rfl
    | (exact absurd k (by simp only [Ow.kind]; decide))
    | skip
  · rename_i m ws g m' ws' g'
    simp only [Ow.words, List.cons.injEq, and_true] at e
    obtain ⟨h1, h2, h3, h4, h5⟩ := ho
    obtain ⟨k1, k2, k3, k4, k5⟩ := hp
    rw [num_inj h2 k2 e.1, commas_inj (h3.mono (by decide)) (k3.mono (by decide)) e.2.1, num_inj (by omega) (by omega) e.2.2]
  · rename_i rows gs rows' gs'
    simp only [Ow.words, List.cons.injEq, and_true] at e
    obtain ⟨h1, h2, h3, h4⟩ := ho
    obtain ⟨k1, k2, k3, k4⟩ := hp
    have a : rows.map commas = rows'.map commas := by rw [← rows_split h1 h3, ← rows_split k1 k3, e.1]
    rw [map_commas_inj h3 k3 a, commas_inj (h4.mono (by decide)) (k4.mono (by decide)) e.2]
  · rename_i fs fs'
    simp only [Ow.words, List.cons.injEq, and_true] at e
    have a : fs = fs' := by rw [← faces_split ho.1 ho.2.2, ← faces_split hp.1 hp.2.2, e]
    rw [a]
  · rename_i a b a' b'
    simp only [Ow.words, List.cons.injEq, and_true] at e
    have h1 := ho.1
    have h2 := ho.2
    have k1 := hp.1
    have k2 := hp.2
    rw [num_inj (by omega) (by omega) e.1, num_inj (by omega) (by omega) e.2]
/-! ### rules -/
inductive R
  | n0 (o : Ow) | n1 (o : Ow) (a : R) | n2 (o : Ow) (a b : R)
def R.ow : R → Ow
  | .n0 o => o | .n1 o _ => o | .n2 o _ _ => o
def R.inner : R → List R
  | .n0 _ => [] | .n1 _ a => [a] | .n2 _ a b => [a, b]
def R.ok : R → Prop
  | .n0 o => o.ok ∧ ar o.kind = 0 | .n1 o a => o.ok ∧ ar o.kind = 1 ∧ a.ok | .n2 o a b => o.ok ∧ ar o.kind = 2 ∧ a.ok ∧ b.ok
def R.words : R → List Str
  | .n0 o => o.word :: o.words
  | .n1 o a => o.word :: (o.words ++ a.words)
  | .n2 o a b => o.word :: (o.words ++ (a.words ++ b.words))
def R.data (t : Bool) : R → PyData
  | .n0 o => sq t (.str o.word :: o.data t)
  | .n1 o a => sq t (.str o.word :: (o.data t ++ [a.data t]))
  | .n2 o a b => sq t (.str o.word :: (o.data t ++ [a.data t, b.data t]))
def R.parts : R → Nat
  | .n0 _ => 1 | .n1 _ a => a.parts + 1 | .n2 _ a b => a.parts + b.parts + 1
def R.depth : R → Nat
  | .n0 _ => 1 | .n1 _ a => a.depth + 1 | .n2 _ a b => max a.depth b.depth + 1
theorem R.depth_le : ∀ r : R, r.depth ≤ r.parts
  | .n0 _ => Nat.le_refl _
  | .n1 _ a => Nat.succ_le_succ a.depth_le
  | .n2 _ a b => by have h1 := a.depth_le; have h2 := b.depth_le; show max a.depth b.depth + 1 ≤ a.parts + b.parts + 1; omega
theorem R.parts_pos : ∀ r : R, 1 ≤ r.parts
  | .n0 _ => Nat.le_refl _
  | .n1 _ a => Nat.succ_le_succ (Nat.zero_le _)
  | .n2 _ a b => Nat.succ_le_succ (Nat.zero_le _)
theorem R.ok_ow : ∀ {r : R}, r.ok → r.ow.ok
  | .n0 _, h => h.1
  | .n1 _ _, h => h.1
  | .n2 _ _ _, h => h.1
theorem R.ok_ar : ∀ {r : R}, r.ok → r.inner.length = ar r.ow.kind
  | .n0 _, h => h.2.symm
  | .n1 _ _, h => h.2.1.symm
  | .n2 _ _ _, h => h.2.1.symm
theorem R.ok_in : ∀ {r : R}, r.ok → ∀ i ∈ r.inner, i.ok
  | .n0 _, _, i, q => by simp [R.inner] at q
  | .n1 _ _, h, i, q => by simp only [R.inner, List.mem_cons, List.not_mem_nil, or_false] at q; rw [q]; exact h.2.2
  | .n2 _ _ _, h, i, q => by
    simp only [R.inner, List.mem_cons, List.not_mem_nil, or_false] at q
    rcases q with rfl | rfl
    · exact h.2.2.1
    · exact h.2.2.2
theorem R.in_depth : ∀ {r : R}, ∀ i ∈ r.inner, i.depth + 1 ≤ r.depth
  | .n0 _, i, q => by simp [R.inner] at q
  | .n1 _ a, i, q => by simp only [R.inner, List.mem_cons, List.not_mem_nil, or_false] at q; rw [q]; exact Nat.le_refl _
  | .n2 _ a b, i, q => by
    simp only [R.inner, List.mem_cons, List.not_mem_nil, or_false] at q
    show i.depth + 1 ≤ max a.depth b.depth + 1
    rcases q with rfl | rfl <;> omega
theorem R.words_eq : ∀ r : R, r.words = r.ow.word :: (r.ow.words ++ (r.inner.map R.words).flatten)
  | .n0 o => by simp [R.words, R.ow, R.inner]
  | .n1 o a => by simp [R.words, R.ow, R.inner]
  | .n2 o a b => by simp [R.words, R.ow, R.inner]
theorem R.data_eq (t : Bool) : ∀ r : R, r.data t = sq t (.str r.ow.word :: (r.ow.data t ++ r.inner.map (R.data t)))
  | .n0 o => by simp [R.data, R.ow, R.inner]
  | .n1 o a => by simp [R.data, R.ow, R.inner]
  | .n2 o a b => by simp [R.data, R.ow, R.inner]
theorem R.parts_eq : ∀ r : R, r.parts = (r.inner.map R.parts).sum + 1
  | .n0 o => rfl
  | .n1 o a => by simp [R.parts, R.inner]
  | .n2 o a b => by simp [R.parts, R.inner]
theorem mn_le (k : Nat) : mn k ≤ 3 := by
  unfold mn
  split <;> decide
theorem R.words_len : ∀ r : R, r.words.length ≤ 4 * r.parts
  | .n0 o => by have := mn_le o.kind; simp only [R.words, R.parts, List.length_cons, Ow.words_len]; omega
  | .n1 o a => by have := mn_le o.kind; have := a.words_len; simp only [R.words, R.parts, List.length_cons, List.length_append, Ow.words_len]; omega
  | .n2 o a b => by have := mn_le o.kind; have := a.words_len; have := b.words_len; simp only [R.words, R.parts, List.length_cons, List.length_append, Ow.words_len]; omega
theorem R.words_ok : ∀ {r : R}, r.ok → ∀ w ∈ r.words, 32 ∉ tl w ∧ (tl w).length ≤ 2500
  | .n0 o, h, w, q => by
    have hw := wd_ok o.kind o.kind_lt
    simp only [R.words, List.mem_cons] at q
    rcases q with rfl | q
    · exact ⟨hw.1, Nat.le_trans hw.2.1 (by decide)⟩
    · exact Ow.words_ok h.1 w q
  | .n1 o a, h, w, q => by
    have hw := wd_ok o.kind o.kind_lt
    simp only [R.words, List.mem_cons, List.mem_append] at q
    rcases q with rfl | q | q
    · exact ⟨hw.1, Nat.le_trans hw.2.1 (by decide)⟩
    · exact Ow.words_ok h.1 w q
    · exact R.words_ok h.2.2 w q
  | .n2 o a b, h, w, q => by
    have hw := wd_ok o.kind o.kind_lt
    simp only [R.words, List.mem_cons, List.mem_append] at q
    rcases q with rfl | q | q | q
    · exact ⟨hw.1, Nat.le_trans hw.2.1 (by decide)⟩
    · exact Ow.words_ok h.1 w q
    · exact R.words_ok h.2.2.1 w q
    · exact R.words_ok h.2.2.2 w q
theorem R.words_ne (r : R) : r.words ≠ [] := by rw [r.words_eq]; simp
def R.text (r : R) : Str := Txt.join SP r.words
theorem R.split {r : R} (h : r.ok) : Txt.split r.text SP = r.words := spl_SP r.words_ne fun w q => (R.words_ok h w q).1
theorem R.text_len {r : R} (h : r.ok) : (tl r.text).length ≤ 10004 * r.parts := by
  have a := len_join (y := SP) (b := 2500) (ys := r.words) fun w q => (R.words_ok h w q).2
  rw [tl_SP] at a
  have b := r.words_len
  have c : (tl r.text).length ≤ r.words.length * (2500 + 1) := a
  omega
/-- the words tell the rule -/
theorem R.words_pre : ∀ {r s : R} {x y : List Str}, r.ok → s.ok → r.words ++ x = s.words ++ y → r = s ∧ x = y := by
  have kd : ∀ {o p : Ow} {x y : List Str}, o.ok → p.ok → o.word :: (o.words ++ x) = p.word :: (p.words ++ y) → o = p ∧ x = y := by
    intro o p x y ho hp e
    have e1 := List.cons.inj e
    have k := wd_inj _ o.kind_lt _ p.kind_lt e1.1
    have l : o.words.length = p.words.length := by rw [o.words_len, p.words_len, k]
    have e2 := List.append_inj e1.2 l
    exact ⟨Ow.words_inj ho hp k e2.1, e2.2⟩
  have sh : ∀ r : R, ∀ z : List Str, r.words ++ z = r.ow.word :: (r.ow.words ++ ((r.inner.map R.words).flatten ++ z)) := fun r z => by rw [r.words_eq]; simp
  intro r
  induction r with
  | n0 o =>
    intro s x y hr hs e
    rw [sh, sh] at e
    have k := kd hr.1 (R.ok_ow hs) e
    have a := R.ok_ar hs
    rw [← k.1, hr.2] at a
    cases s with
    | n0 p => exact ⟨by rw [show o = p from k.1], k.2⟩
    | n1 p c => simp [R.inner] at a
    | n2 p c d => simp [R.inner] at a
  | n1 o c ih =>
    intro s x y hr hs e
    rw [sh, sh] at e
    have k := kd hr.1 (R.ok_ow hs) e
    have a := R.ok_ar hs
    rw [← k.1, hr.2.1] at a
    cases s with
    | n0 p => simp [R.inner] at a
    | n1 p d =>
      have k2 : c.words ++ x = d.words ++ y := by simpa [R.inner] using k.2
      have q := ih hr.2.2 hs.2.2 k2
      exact ⟨by rw [show o = p from k.1, q.1], q.2⟩
    | n2 p c d => simp [R.inner] at a
  | n2 o c d ihc ihd =>
    intro s x y hr hs e
    rw [sh, sh] at e
    have k := kd hr.1 (R.ok_ow hs) e
    have a := R.ok_ar hs
    rw [← k.1, hr.2.1] at a
    cases s with
    | n0 p => simp [R.inner] at a
    | n1 p d => simp [R.inner] at a
    | n2 p c' d' =>
      have k2 : c.words ++ (d.words ++ x) = c'.words ++ (d'.words ++ y) := by simpa [R.inner] using k.2
      have q := ihc hr.2.2.1 hs.2.2.1 k2
      have q2 := ihd hr.2.2.2 hs.2.2.2 q.2
      exact ⟨by rw [show o = p from k.1, q.1, q2.1], q2.2⟩
theorem R.text_inj {r s : R} (hr : r.ok) (hs : s.ok) (e : r.text = s.text) : r = s :=
  (R.words_pre (x := []) (y := []) hr hs (by rw [List.append_nil, List.append_nil, ← R.split hr, ← R.split hs, e])).1
/-! ### data that are equal are the same -/
mutual
def pure : PyData → Bool
  | .none => true
  | .int _ => true
  | .str _ => true
  | .tuple ds => pureA ds
  | _ => false
def pureA : List PyData → Bool
  | [] => true
  | d :: ds => pure d && pureA ds
end
mutual
theorem eqv_pure : ∀ (d e : PyData), pure d = true → PyData.eqv d e = true → pure e = true → d = e
  | .int i, e, _, h, q => by cases e <;> simp_all [PyData.eqv, pure]
  | .str i, e, _, h, q => by cases e <;> simp_all [PyData.eqv, pure]
  | .tuple ds, e, p, h, q => by
    cases e with
    | tuple es => rw [eqvA_pure ds es (by simpa [pure] using p) (by simpa [PyData.eqv] using h) (by simpa [pure] using q)]
    | _ => simp_all [PyData.eqv, pure]
  | .none, e, _, h, q => by cases e <;> simp_all [PyData.eqv, pure]
  | .bool _, _, p, _, _ => by simp [pure] at p
  | .list _, _, p, _, _ => by simp [pure] at p
  | .dict _, _, p, _, _ => by simp [pure] at p
theorem eqvA_pure : ∀ (ds es : List PyData), pureA ds = true → PyData.eqvAll ds es = true → pureA es = true → ds = es
  | [], [], _, _, _ => rfl
  | [], _ :: _, _, h, _ => by simp [PyData.eqvAll] at h
  | _ :: _, [], _, h, _ => by simp [PyData.eqvAll] at h
  | d :: ds, e :: es, p, h, q => by
    simp only [pureA, Bool.and_eq_true] at p q
    simp only [PyData.eqvAll, Bool.and_eq_true] at h
    rw [eqv_pure d e p.1 h.1 q.1, eqvA_pure ds es p.2 h.2 q.2]
end
theorem pureA_iff : ∀ {ds : List PyData}, pureA ds = true ↔ ∀ d ∈ ds, pure d = true
  | [] => by simp [pureA]
  | d :: ds => by simp [pureA, pureA_iff]
theorem pure_nums (ns : List Nat) : pureA (ns.map pn) = true := pureA_iff.mpr fun d hd => by obtain ⟨n, _, rfl⟩ := List.mem_map.mp hd; rfl
theorem Ow.pure (o : Ow) : pureA (o.data true) = true := by
  cases o <;> simp only [Ow.data, pureA, sq, if_true, pn, K4.pure, pure_nums, Bool.and_true, Bool.true_and]
  · exact pureA_iff.mpr fun d hd => by obtain ⟨r, _, rfl⟩ := List.mem_map.mp hd; exact pure_nums r
  · exact pureA_iff.mpr fun d hd => by obtain ⟨r, _, rfl⟩ := List.mem_map.mp hd; rfl
theorem pureA_app {xs ys : List PyData} (h : pureA xs = true) (k : pureA ys = true) : pureA (xs ++ ys) = true :=
  pureA_iff.mpr fun d hd => by rcases List.mem_append.mp hd with q | q; exact pureA_iff.mp h d q; exact pureA_iff.mp k d q
theorem R.pure : ∀ r : R, K4.pure (r.data true) = true
  | .n0 o => by simpa [R.data, sq, K4.pure, pureA] using o.pure
  | .n1 o a => by simpa [R.data, sq, K4.pure, pureA] using pureA_app o.pure (by simpa [pureA] using a.pure)
  | .n2 o a b => by simpa [R.data, sq, K4.pure, pureA] using pureA_app o.pure (by simpa [pureA] using ⟨a.pure, b.pure⟩)

theorem pn_inj : ∀ {a b : Nat}, pn a = pn b → a = b := fun h => by
  have := PyData.int.inj h
  omega
theorem mapinj {α β : Type} {f : α → β} (hf : ∀ {a b}, f a = f b → a = b) : ∀ {xs ys : List α}, xs.map f = ys.map f → xs = ys
  | [], [], _ => rfl
  | [], _ :: _, h => by simp at h
  | _ :: _, [], h => by simp at h
  | x :: xs, y :: ys, h => by
    rw [List.map_cons, List.map_cons] at h
    have h1 := (List.cons.inj h)
    rw [hf h1.1, mapinj hf h1.2]
theorem Ow.data_inj {o p : Ow} (k : o.kind = p.kind) (e : o.data true = p.data true) : o = p := by
  cases o <;> cases p <;> first
    | rfl
    | (exact absurd k (by simp only [Ow.kind]; decide))
    | skip
  · simp only [Ow.data, sq, if_true, List.cons.injEq, and_true, PyData.tuple.injEq] at e
    rw [pn_inj e.1, mapinj pn_inj e.2.1, pn_inj e.2.2]
  · simp only [Ow.data, sq, if_true, List.cons.injEq, and_true, PyData.tuple.injEq] at e
    rw [mapinj (fun h => mapinj pn_inj (PyData.tuple.inj h)) e.1, mapinj pn_inj e.2]
  · simp only [Ow.data, sq, if_true, List.cons.injEq, and_true, PyData.tuple.injEq] at e
    rw [mapinj (fun h => PyData.str.inj h) e]
  · simp only [Ow.data, List.cons.injEq, and_true] at e
    rw [pn_inj e.1, pn_inj e.2]
theorem R.data_inj : ∀ {r s : R}, r.ok → s.ok → r.data true = s.data true → r = s := by
  have kd : ∀ {o p : Ow} {x y : List PyData}, PyData.tuple (.str o.word :: (o.data true ++ x)) = .tuple (.str p.word :: (p.data true ++ y)) → o = p ∧ x = y := by
    intro o p x y e
    have e1 := List.cons.inj (PyData.tuple.inj e)
    have k := wd_inj _ o.kind_lt _ p.kind_lt (PyData.str.inj e1.1)
    have l : (o.data true).length = (p.data true).length := by rw [o.data_len, p.data_len, k]
    have e2 := List.append_inj e1.2 l
    exact ⟨Ow.data_inj k e2.1, e2.2⟩
  have sh : ∀ r : R, r.data true = .tuple (.str r.ow.word :: (r.ow.data true ++ r.inner.map (R.data true))) := fun r => by rw [r.data_eq]; rfl
  intro r
  induction r with
  | n0 o =>
    intro s hr hs e
    rw [sh, sh] at e
    have k := kd e
    have a := R.ok_ar hs
    rw [← k.1] at a
    cases s with
    | n0 p => exact by rw [show o = p from k.1]
    | n1 p c => exact absurd k.2 (by simp [R.inner])
    | n2 p c d => exact absurd k.2 (by simp [R.inner])
  | n1 o c ih =>
    intro s hr hs e
    rw [sh, sh] at e
    have k := kd e
    cases s with
    | n0 p => exact absurd k.2 (by simp [R.inner])
    | n1 p d =>
      have k2 : c.data true = d.data true := by simpa [R.inner] using k.2
      rw [show o = p from k.1, ih hr.2.2 hs.2.2 k2]
    | n2 p c d => exact absurd k.2 (by simp [R.inner])
  | n2 o c d ihc ihd =>
    intro s hr hs e
    rw [sh, sh] at e
    have k := kd e
    cases s with
    | n0 p => exact absurd k.2 (by simp [R.inner])
    | n1 p d => exact absurd k.2 (by simp [R.inner])
    | n2 p c' d' =>
      have k2 : c.data true = c'.data true ∧ d.data true = d'.data true := by simpa [R.inner] using k.2
      rw [show o = p from k.1, ihc hr.2.2.1 hs.2.2.1 k2.1, ihd hr.2.2.2 hs.2.2.2 k2.2]
mutual
def flatN : PyData → Bool
  | .none => true
  | .int _ => true
  | .str z => PyData.strOk z
  | .tuple ds => flatA ds
  | .list ds => flatA ds
  | _ => false
def flatA : List PyData → Bool
  | [] => true
  | d :: ds => flatN d && flatA ds
end
mutual
theorem canLay_flat : ∀ d : PyData, flatN d = true → PyData.canLay0 d = true
  | .int _, _ => by simp [PyData.canLay0]
  | .str _, h => by simpa [PyData.canLay0, flatN] using h
  | .tuple ds, h => by rw [PyData.canLay0]; exact canLayA_flat ds (by simpa [flatN] using h)
  | .list ds, h => by rw [PyData.canLay0]; exact canLayA_flat ds (by simpa [flatN] using h)
  | .none, _ => by simp [PyData.canLay0]
  | .bool _, h => by simp [flatN] at h
  | .dict _, h => by simp [flatN] at h
theorem canLayA_flat : ∀ ds : List PyData, flatA ds = true → PyData.canLayAll0 ds = true
  | [], _ => by simp [PyData.canLayAll0]
  | d :: ds, h => by
    simp only [flatA, Bool.and_eq_true] at h
    rw [PyData.canLayAll0, canLay_flat d h.1, canLayA_flat ds h.2]
    rfl
end

theorem flatA_iff : ∀ {ds : List PyData}, flatA ds = true ↔ ∀ d ∈ ds, flatN d = true
  | [] => by simp [flatA]
  | d :: ds => by simp [flatA, flatA_iff]
theorem depthA_le {n : Nat} : ∀ {ds : List PyData}, (∀ d ∈ ds, d.depth ≤ n) → PyData.depthAll ds ≤ n
  | [], _ => Nat.zero_le _
  | d :: ds, h => by
    rw [PyData.depthAll]
    have := h d (List.mem_cons_self ..)
    have := depthA_le fun e q => h e (List.mem_cons_of_mem _ q)
    omega
theorem flat_sq {t : Bool} {ds : List PyData} (h : ∀ d ∈ ds, flatN d = true) : flatN (sq t ds) = true := by
  cases t <;> exact flatA_iff.mpr h
theorem depth_sq {t : Bool} {ds : List PyData} {n : Nat} (h : ∀ d ∈ ds, d.depth ≤ n) : (sq t ds).depth ≤ n + 1 := by
  cases t <;> exact Nat.succ_le_succ (depthA_le h)
theorem mem_map_pn {ns : List Nat} {d : PyData} (h : d ∈ ns.map pn) : flatN d = true ∧ d.depth ≤ 0 := by
  obtain ⟨n, _, rfl⟩ := List.mem_map.mp h
  exact ⟨rfl, Nat.le_refl _⟩
end K4

/-! HdG -/
/-! What the top left, read by one kernel run: tables, tuples, errors with an own __init__. -/
namespace Hd
open PySem PySem.Spec PyProof.Rows L2 He
/-! ### a def that names __class__ -/
abbrev FnL : Type := Option (Str × Str × Arguments × FuncBody × Scope × Addr × List Str × Value × Addr)
def fnL (K : PySem.W.Frag) (p : Str × Option Str) : FnL := match K.lookup (fAd K p) with
  | some ⟨_, _, .func fd, _⟩ => some (fd.name, fd.qualname, fd.params, fd.body, fd.scope, fd.globals, fd.closure.map (·.1), fd.defaults, fd.builtins)
  | _ => none
structure DefC where
  at_ : Str × Option Str
  qual : Str
  params : Arguments
  body : List Stmt
  scope : Scope
def DefC.val (d : DefC) : FnL := some ("__init__", d.qual, d.params, .stmts d.body, d.scope, mainGlobals, ["__class__"], .none, builtinsNs)
/-- its code's file is the program's, its cell holds the class -/
def initB (P : Program) (K : PySem.W.Frag) (p : Str × Option Str) (q : Str) (C : Addr) : Bool := match K.lookup (fAd K p) with
  | some ⟨_, _, .func fd, _⟩ => (match fd.code, fd.closure with
    | .ref cda, [(_, cc)] => PySem.W.codeIn K (.ref cda) q && ((match K.lookup cda with
      | some ⟨_, _, .fields vs, _⟩ => (match (vs[2]? : Option Value) with
        | some (.str f _) => P.main.file == f
        | _ => false)
      | _ => false) && (match K.lookup cc with
      | some ⟨_, _, .cell (some (.ref C')), _⟩ => decide (C' = C)
      | _ => false))
    | _, _ => false)
  | _ => false
theorem init_ok {P : Program} {K : PySem.W.Frag} {d : DefC} {C : Addr} (e : fnL K d.at_ = d.val) (c : initB P K d.at_ d.qual C = true) :
    ∃ (oc : Value) (od : Option Addr) (kV doc pm : Value) (an : Option Addr) (ct : Value) (osl : Array (Option Value)) (cda cc : Addr) (ccl : Value) (cdd : Option Addr) (vs : Array Value) (ccs : Array (Option Value)) (file : Str) (tf : Tok) (cl : Value) (cld : Option Addr) (csl : Array (Option Value)),
      K.lookup (fAd K d.at_) = some ⟨oc, od, .func (PySem.W.ksFn "__init__" d.qual d.params d.body d.scope .none kV doc pm an (.ref cda) ct cc), osl⟩ ∧ PySem.W.codeIn K (.ref cda) d.qual = true ∧
      K.lookup cda = some ⟨ccl, cdd, .fields vs, ccs⟩ ∧ vs[2]? = some (.str file tf) ∧ (P.main.file == file) = true ∧ K.lookup cc = some ⟨cl, cld, .cell (some (.ref C)), csl⟩ := by
  unfold fnL at e
  unfold initB at c
  cases q : K.lookup (fAd K d.at_) with
  | none => rw [q] at c; cases c
  | some o =>
    obtain ⟨oc, od, dt, osl⟩ := o
    rw [q] at c e
    cases dt with
    | func fd =>
      obtain ⟨n1, n2, n3, n4, n5, n6, n7, n8, n9, n10, n11, n12, n13, n14, n15⟩ := fd
      have e2 : (some (n1, n2, n3, n4, n5, n6, n7.map (·.1), n8, n15) : FnL) = DefC.val d := e
      unfold DefC.val at e2
      simp only [Option.some.injEq, Prod.mk.injEq] at e2
      obtain ⟨h1, h2, h3, h4, h5, h6, h7, h8, h9⟩ := e2
      subst h1 h2 h3 h4 h5 h6 h8 h9
      cases n13 with
      | ref cda =>
        match n7, h7 with
        | [(k, cc)], h7 =>
          have hk : k = "__class__" := by simpa using h7
          subst hk
          obtain ⟨c1, c⟩ := ba (show (PySem.W.codeIn K (.ref cda) d.qual && ((match K.lookup cda with
            | some ⟨_, _, .fields vs, _⟩ => (match (vs[2]? : Option Value) with
              | some (.str f _) => P.main.file == f
              | _ => false)
            | _ => false) && (match K.lookup cc with
            | some ⟨_, _, .cell (some (.ref C')), _⟩ => decide (C' = C)
            | _ => false))) = true from c)
          obtain ⟨c2, c3⟩ := ba c
          cases q2 : K.lookup cda with
          | none => rw [q2] at c2; cases c2
          | some o2 =>
            obtain ⟨ccl, cdd, dt2, ccs⟩ := o2
            rw [q2] at c2
            cases dt2 with
            | fields vs =>
              have c2' : (match (vs[2]? : Option Value) with
                | some (.str f _) => P.main.file == f
                | _ => false) = true := c2
              cases q4 : vs[2]? with
              | none => rw [q4] at c2'; cases c2'
              | some u =>
                rw [q4] at c2'
                cases u with
                | str file tf =>
                  cases q3 : K.lookup cc with
                  | none => rw [q3] at c3; cases c3
                  | some o3 =>
                    obtain ⟨cl, cld, dt3, csl⟩ := o3
                    rw [q3] at c3
                    cases dt3 with
                    | cell v =>
                      cases v with
                      | none => cases c3
                      | some v =>
                        cases v with
                        | ref C' =>
                          have e3 : C' = C := of_decide_eq_true c3
                          subst e3
                          exact ⟨oc, od, n9, n10, n11, n12, n14, osl, cda, cc, ccl, cdd, vs, ccs, file, tf, cl, cld, csl, rfl, c1, q2, q4, c2', q3⟩
                        | _ => cases c3
                    | _ => cases c3
                | _ => cases c2'
            | _ => cases c2
        | [], h7 => simp at h7
        | _ :: _ :: _, h7 => simp at h7
      | _ => cases c
    | _ => cases c
/-- a class over ValueError, with an own __init__ -/
def oexB (K : PySem.W.Frag) (C : Addr) : Bool := (match K.lookup C with
  | some ⟨.type "type", _, .cls cd, sl⟩ => (match cd.mro, sl.toList with
    | .ref C' :: bm, [_, _, _, _, some (.builtin n), _] => C' == C && (n == "ValueError.__new__" && (!cd.hasDel && (PySem.HandSPX.refsVE bm && cd.hasDict)))
    | _, _ => false)
  | _ => false) && (eqO (PySem.W.findIn K (.ref C) "__setattr__") (some (some (.builtin "object.__setattr__"))) && (decide (PySem.W.subIn K (.ref C) (.type "BaseException") = some true) && (decide (PySem.W.typeIn K (.ref C) = some (.type "type")) && PySem.W.keepIn K (.ref C))))
theorem oexB_ok {K : PySem.W.Frag} {C : Addr} (h : oexB K C = true) : OexC K C := by
  obtain ⟨h0, h⟩ := ba h
  obtain ⟨h1, h⟩ := ba h
  obtain ⟨h2, h⟩ := ba h
  obtain ⟨h3, h4⟩ := ba h
  refine ⟨?_, eqO_ok h1, of_decide_eq_true h2, of_decide_eq_true h3, h4⟩
  split at h0
  · rename_i dd cd sl ho
    split at h0
    · rename_i C' bm k0 k1 k2 k3 n k5 hm hs
      simp only [Bool.and_eq_true, beq_iff_eq, Bool.not_eq_true'] at h0
      obtain ⟨rfl, rfl, hdel, hr, hd⟩ := h0
      obtain ⟨nm, bs, mro, ns, qn, hdc, sn, sub, ab, col, del⟩ := cd
      dsimp only at hm hdel hd
      subst hm hdel hd
      have hsl : sl = #[k0, k1, k2, k3, some (.builtin "ValueError.__new__"), k5] := by
        obtain ⟨l⟩ := sl
        simp only at hs
        rw [hs]
      subst hsl
      exact ⟨nm, qn, ns, bs, bm, sn, sub, ab, col, dd, k0, k1, k2, k3, k5, ho, hr⟩
    · cases h0
  · cases h0
def excB (K : PySem.W.Frag) (D : Addr) : Bool := decide (PySem.W.findIn K (.ref D) "__getattribute__" = some (some (.builtin "BaseException.__getattribute__"))) && (decide (PySem.W.findIn K (.ref D) "__getattr__" = some none) && (decide (PySem.W.subIn K (.ref D) (.type "BaseException") = some true) && (PySem.W.hasDictIn K D &&
  (decide (PySem.W.findIn K (.ref D) "__class__" = some (some (.builtin "object.__class__"))) && (decide (PySem.W.specialIn K (.builtin "object.__class__") "__get__" = some (some (.builtin "getset_descriptor.__get__"))) && (decide (PySem.W.takesIn K (.builtin "object.__class__") = some true) && decide (PySem.W.mroIn K D (.type "object") = some true)))))))
theorem excB_ok {K : PySem.W.Frag} {D : Addr} (h : excB K D = true) : ExcC K D := by
  obtain ⟨h1, h⟩ := ba h
  obtain ⟨h2, h⟩ := ba h
  obtain ⟨h3, h⟩ := ba h
  obtain ⟨h4, h⟩ := ba h
  obtain ⟨h5, h⟩ := ba h
  obtain ⟨h6, h⟩ := ba h
  obtain ⟨h7, h8⟩ := ba h
  exact ⟨of_decide_eq_true h1, of_decide_eq_true h2, of_decide_eq_true h3, h4, of_decide_eq_true h5, of_decide_eq_true h6, of_decide_eq_true h7, of_decide_eq_true h8⟩
/-- what super().__init__ asks of the class -/
def supB (K : PySem.W.Frag) (C : Addr) : Bool := decide (PySem.W.ks_superIn K C C "__init__" = some (some (.builtin "ValueError.__init__"))) && (decide (PySem.W.mroIn K C (.ref C) = some true) && decide (PySem.W.subIn K (.ref C) (.type "ValueError") = some true))
theorem supB_ok {K : PySem.W.Frag} {C : Addr} (h : supB K C = true) : PySem.W.ks_superIn K C C "__init__" = some (some (.builtin "ValueError.__init__")) ∧ PySem.W.mroIn K C (.ref C) = some true ∧ PySem.W.subIn K (.ref C) (.type "ValueError") = some true := by
  obtain ⟨h1, h⟩ := ba h
  obtain ⟨h2, h3⟩ := ba h
  exact ⟨of_decide_eq_true h1, of_decide_eq_true h2, of_decide_eq_true h3⟩
def kitB1 (K : PySem.W.Frag) (C a : Addr) (b : Bool) : Bool := decide (PySem.W.kitOne K (.ref C) (.ref a) = some b)
/-! ### tuples, tables -/
def tupAtB (K : PySem.W.Frag) (a : Addr) (vs : List Str) : Bool := match K.lookup a with
  | some ⟨.type c, _, .seq its _, _⟩ => decide (c = "tuple") && (decide (its.size ≤ sizeLine) && relAll (vs.map V.str) its.toList)
  | _ => false
theorem tupAtB_ok {K : PySem.W.Frag} {a : Addr} {vs : List Str} (h : tupAtB K a vs = true) (H : Hp) : SqT K H a (vs.map V.str) := by
  unfold tupAtB at h
  cases q : K.lookup a with
  | none => rw [q] at h; cases h
  | some o =>
    obtain ⟨oc, od, dt, osl⟩ := o
    rw [q] at h
    cases oc with
    | type c =>
      cases dt with
      | seq its n =>
        obtain ⟨h1, h2⟩ := ba (show (decide (c = "tuple") && (decide (its.size ≤ sizeLine) && relAll (vs.map V.str) its.toList)) = true from h)
        obtain ⟨h3, h4⟩ := ba h2
        exact .inr ⟨_, its, n, q, congrArg Value.type (of_decide_eq_true h1), rfl, of_decide_eq_true h3, relAll_ok h4⟩
      | _ => cases h
    | _ => cases dt <;> cases h
def dAt (K : PySem.W.Frag) (d : Addr) (x : Str) : Addr := match PySem.W.nsIn K d x with
  | some (some (.ref a)) => a
  | _ => 0
theorem keys_vals {P : Params} : ∀ {l : List DictEntry} {ks : List Str}, l.map He.keyOf = keysIn P ks → Vals (ks.map V.str) (l.map (·.key))
  | [], [], _ => .nil
  | [], _ :: _, h => by cases h
  | e :: r, [], h => by cases h
  | e :: r, k :: ks, h => by
    have h1 : He.keyOf e :: r.map He.keyOf = some (k, PyData.keyHash P k) :: keysIn P ks := h
    injection h1 with h2 h3
    refine .cons ?_ (keys_vals h3)
    unfold He.keyOf at h2
    split at h2
    · rename_i x t q
      have h4 := Option.some.inj h2
      obtain ⟨h5, h6⟩ := Prod.mk.inj h4
      exact ⟨t, by show e.key = _; rw [q, h5]⟩
    · cases h2
theorem dicW_keys {K : PySem.W.Frag} {w : World} {a : Addr} {ks : List Str} (h : dicW K a = some (keysIn w.params ks)) {es : Array DictEntry} {n : Nat} (q : K.lookup a = some ⟨.type "dict", none, .dict es n, #[]⟩) : Vals (ks.map V.str) (es.toList.map (·.key)) := by
  unfold dicW at h
  rw [q] at h
  have h1 : (match decide ("dict" = "dict") && ((#[] : Array (Option Value)).isEmpty && !(a == sysModules)) with
    | true => some (es.toList.map He.keyOf)
    | false => none) = some (keysIn w.params ks) := h
  cases z : decide ("dict" = "dict") && ((#[] : Array (Option Value)).isEmpty && !(a == sysModules)) with
  | false => rw [z] at h1; cases h1
  | true =>
    rw [z] at h1
    exact keys_vals (Option.some.inj h1)
def allB (K : PySem.W.Frag) (a : Addr) (f : DictEntry → Bool) : Bool := match K.lookup a with
  | some ⟨_, _, .dict es _, _⟩ => es.toList.all f
  | _ => false
theorem allB_ok {K : PySem.W.Frag} {a : Addr} {f : DictEntry → Bool} (h : allB K a f = true) {es : Array DictEntry} {n : Nat} (q : K.lookup a = some ⟨.type "dict", none, .dict es n, #[]⟩) : es.toList.all f = true := by
  unfold allB at h
  rw [q] at h
  exact h
/-! ### the Hook -/
/-- what an object names: no more than the facts ask for -/
def ref1 (o : Obj) : List Addr := match o.data with
  | .dict es _ => es.toList.flatMap fun e => refV e.val
  | .func fd => refV fd.code ++ fd.closure.map (·.2)
  | .cls cd => [cd.ns]
  | _ => []
def lv (g : Addr → Option Obj) (as : List Addr) : List Addr := as.flatMap fun a => match g a with
  | some o => ref1 o
  | none => []
/-- the list, worked out ahead of what follows -/
def frL {α : Type} : List Addr → (List Addr → α) → α
  | [], k => k []
  | a :: r, k => HandSHeadRun.frNat a fun a => frL r fun r => k (a :: r)
theorem frL_eq {α : Type} : ∀ (l : List Addr) (k : List Addr → α), frL l k = k l
  | [], _ => rfl
  | a :: r, k => by
    show HandSHeadRun.frNat a (fun a => frL r fun r => k (a :: r)) = _
    rw [HandSHeadRun.frNat_eq, frL_eq r]
/-- the objects at these places, worked out ahead of what follows -/
def mkK {α : Type} (g : Addr → Option Obj) : List Addr → (PySem.W.Frag → α) → α
  | [], k => k []
  | a :: r, k => match g a with
    | some o => mkK g r fun K => k ((a, o) :: K)
    | none => mkK g r k
theorem mkK_eq {α : Type} (g : Addr → Option Obj) : ∀ (l : List Addr) (k : PySem.W.Frag → α), mkK g l k = k (frG g l)
  | [], _ => rfl
  | a :: r, k => by
    unfold mkK frG
    rw [List.filterMap_cons]
    cases e : g a with
    | none => exact mkK_eq g r k
    | some o => exact mkK_eq g r fun K => k ((a, o) :: K)
abbrev AlY : Type := AlT × Bool × List FnL
def obsYK (fa : List Fa) (fn : List DefD) (ts : List Tab) (ex : PySem.W.Frag → Bool) (fc : List DefC) (K : PySem.W.Frag) : AlY := (obsT fa fn ts K, ex K, fc.map fun d => fnL K d.at_)
def valY (fn : List DefD) (ts : List Tab) (fc : List DefC) (w : World) : AlY := (valT fn ts w, true, fc.map DefC.val)
def obsY (fa : List Fa) (fn : List DefD) (ts : List Tab) (ex : PySem.W.Frag → Bool) (fc : List DefC) (g : Addr → Option Obj) : AlY :=
  frL (lv g [mainGlobals]) fun l1 => frL (lv g l1) fun l2 => frL (lv g l2) fun l3 => frL (lv g l3) fun l4 => mkK g (mainGlobals :: cStatics :: (l1 ++ (l2 ++ (l3 ++ l4)))) fun K => obsYK fa fn ts ex fc K
theorem obsY_at (fa : List Fa) (fn : List DefD) (ts : List Tab) (ex : PySem.W.Frag → Bool) (fc : List DefC) (g : Addr → Option Obj) : ∃ as, obsY fa fn ts ex fc g = obsYK fa fn ts ex fc (frG g as) := by
  unfold obsY
  rw [frL_eq, frL_eq, frL_eq, frL_eq, mkK_eq]
  exact ⟨_, rfl⟩
def SaysY (fa : List Fa) (fn : List DefD) (ts : List Tab) (ex : PySem.W.Frag → Bool) (fc : List DefC) (w : World) (K : PySem.W.Frag) : Prop := obsYK fa fn ts ex fc K = valY fn ts fc w
def hookY (fa : List Fa) (fn : List DefD) (ts : List Tab) (ex : PySem.W.Frag → Bool) (fc : List DefC) : PySem.W.Hook where
  α := AlY
  obs := fun s => obsY fa fn ts ex fc s.heap.get?
  val := fun w => valY fn ts fc w
  says := fun w h => ∃ K : PySem.W.Frag, K.In h ∧ SaysY fa fn ts ex fc w K
  of := fun _ s e => by
    obtain ⟨as, q⟩ := obsY_at fa fn ts ex fc s.heap.get?
    exact ⟨_, frG_in, q.symm.trans e⟩
  keeps := fun _ _ _ ⟨K, hK, c⟩ k => ⟨K, PySem.W.Frag.In.keeps hK k, c⟩
theorem obsY_eq {fa : List Fa} {fn : List DefD} {ts : List Tab} {ex : PySem.W.Frag → Bool} {fc : List DefC} {g : Addr → Option Obj} {s : Shared} (h : ∀ a, g a = s.heap.get? a) : obsY fa fn ts ex fc g = (hookY fa fn ts ex fc).obs s := by
  have e : g = s.heap.get? := funext h
  rw [e] <;> rfl
section
variable {fa : List Fa} {fn : List DefD} {ts : List Tab} {ex : PySem.W.Frag → Bool} {fc : List DefC} {w : World} {K : PySem.W.Frag}
theorem SaysY.t (c : SaysY fa fn ts ex fc w K) : SaysT fa fn ts w K := congrArg (fun z : AlY => z.1) c
theorem SaysY.x (c : SaysY fa fn ts ex fc w K) : ex K = true := congrArg (fun z : AlY => z.2.1) c
theorem SaysY.tabW (c : SaysY fa fn ts ex fc w K) (i : Nat) {t : Tab} (h : ts[i]? = some t := by rfl) : dicW K (t.1 K) = some (keysIn w.params t.2) := by
  have e : ts.map (fun t => dicW K (t.1 K)) = ts.map fun t => some (keysIn w.params t.2) := congrArg (fun z : AlT => z.2) c.t
  have e2 : (ts.map fun t => dicW K (t.1 K))[i]? = (ts.map fun t => some (keysIn w.params t.2))[i]? := by rw [e]
  rw [List.getElem?_map, List.getElem?_map, h] at e2
  exact Option.some.inj e2
theorem SaysY.init (c : SaysY fa fn ts ex fc w K) (i : Nat) {d : DefC} (h : fc[i]? = some d := by rfl) : fnL K d.at_ = d.val := by
  have e : fc.map (fun d => fnL K d.at_) = fc.map DefC.val := congrArg (fun z : AlY => z.2.2) c
  have e2 : (fc.map fun d => fnL K d.at_)[i]? = (fc.map DefC.val)[i]? := by rw [e]
  rw [List.getElem?_map, List.getElem?_map, h] at e2
  exact Option.some.inj e2
theorem kdct_of {a : Addr} {es : Array DictEntry} {n : Nat} (D : KDict K w a es n) {kvs : List (Str × He.Dv)} (h : valsB K a kvs = true) {x : Str} {v : Dv} (hq : (x, v) ∈ kvs) : KDct K w a x (v.v K) := by
  obtain ⟨u, e, r⟩ := valsB_ok h hq
  exact ⟨es, n, u, D.at_, D.lit, e, r⟩
end
end Hd

/-! K19Q -/
namespace K4
open PySem L2 K1
def nnQ : List Str := ["signs", "series", "run", "words", "rule", "any", "sum", "square", "faces", "back", "cut", "both", "either", "not", "hand", "slip", "way", "desk", "clerk", "spell", "echo", "issue", "block", "use", "void", "again", "day", "edition"]
end K4
namespace HdK19
open PySem PySem.Spec PyProof.Rows L2 K1 K4 He
abbrev PROG : Program := (PySem.Challenge.rw_handcarried_k19_readings).prog
def fa0 : List Fa := [.glo "is_whole", .glo "is_within", .glo "is_tuple", .glo "is_tuple_of", .glo "is_text", .glo "is_ascending", .glo "as_tuples", .glo "first_double", .glo "is_name", .glo "are_signs", .glo "require_signs", .glo "is_paper", .glo "require_paper", .glo "check_form", .glo "readings", .glo "checked_form", .glo "is_field", .glo "is_run", .glo "are_words", .glo "part_lengths", .glo "field_lengths", .glo "_law_bag_of", .glo "_law_pick", .glo "_law_one_of", .glo "_law_mixed", .glo "_law_name_of", .glo "_law_names_of", .glo "_law_signs_of", .glo "_law_paper", .glo "_law_allowed"]
def fa1 : List Fa := [.glo "_law_field_ends", .glo "_law_listed", .glo "_law_no_list", .glo "_law_same_tuple", .glo "_law_any_field", .glo "_law_any_form", .glo "_law_paper_of", .glo "_law_spoilt", .glo "_law_wide_signs", .glo "_law_rests_of", .glo "_law_cuts", .glo "_law_wanted_of", .glo "_law_told_of", .glo "_law_refuses", .glo "_law_many_ways", .glo "_law_bad_paper", .glo "_law_cuttings", .glo "_law_same", .glo "law", .glo "CarryError", .glo "Malformed", .glo "TooMany", .glo "BadPaper", .glo "NO_NAMES", .free "len", .free "sum", .free "abs", .free "int", .free "range", .free "list"]
def fa2 : List Fa := [.free "tuple", .free "str", .free "bool", .free "sorted", .free "all", .free "min", .free "isinstance", .free "max", .free "any", .free "repr", .free "set", .free "zip", .free "enumerate", .free "super", .int "LEAST_KINDS" 2, .int "MOST_KINDS" 12, .int "MOST_SIGNS" 60, .int "MOST_LETTERS" 8, .int "MOST_FIELDS" 6, .int "MOST_LEAST" 12, .int "MOST_RUN" 12, .int "MOST_WORDS" 12, .int "MOST_WORD_SIGNS" 4, .int "MOST_READINGS" 500, .str "ALL_SIGNS" K4.ALL, .str "LETTERS" "abcdefghijklmnopqrstuvwxyz", .exm "TooMany" "TooMany" true, .exm "BadPaper" "CarryError" true]
def fa : List Fa := fa0 ++ fa1 ++ fa2

def fn0 : List DefD := [⟨("is_whole", none), "is_whole", "is_whole", defArgs (top 9), defBody (top 9), defScope (top 9), [], []⟩, ⟨("is_within", none), "is_within", "is_within", defArgs (top 10), defBody (top 10), defScope (top 10), [], []⟩, ⟨("is_tuple", none), "is_tuple", "is_tuple", defArgs (top 11), defBody (top 11), defScope (top 11), [], []⟩, ⟨("is_tuple_of", none), "is_tuple_of", "is_tuple_of", defArgs (top 12), defBody (top 12), defScope (top 12), [], []⟩, ⟨("is_text", none), "is_text", "is_text", defArgs (top 13), defBody (top 13), defScope (top 13), [], []⟩, ⟨("is_ascending", none), "is_ascending", "is_ascending", defArgs (top 14), defBody (top 14), defScope (top 14), [], []⟩, ⟨("as_tuples", none), "as_tuples", "as_tuples", defArgs (top 15), defBody (top 15), defScope (top 15), [], []⟩, ⟨("first_double", none), "first_double", "first_double", defArgs (top 16), defBody (top 16), defScope (top 16), [], []⟩, ⟨("is_name", none), "is_name", "is_name", defArgs (top 21), defBody (top 21), defScope (top 21), [], []⟩, ⟨("are_signs", none), "are_signs", "are_signs", defArgs (top 27), defBody (top 27), defScope (top 27), [], []⟩, ⟨("require_signs", none), "require_signs", "require_signs", defArgs (top 28), defBody (top 28), defScope (top 28), [], []⟩, ⟨("is_paper", none), "is_paper", "is_paper", defArgs (top 29), defBody (top 29), defScope (top 29), [], []⟩, ⟨("require_paper", none), "require_paper", "require_paper", defArgs (top 30), defBody (top 30), defScope (top 30), [], []⟩, ⟨("check_form", none), "check_form", "check_form", defArgs (top 38), defBody (top 38), defScope (top 38), [], []⟩, ⟨("readings", none), "readings", "readings", defArgs (top 39), defBody (top 39), defScope (top 39), [], []⟩, ⟨("checked_form", none), "checked_form", "checked_form", defArgs (top 40), defBody (top 40), defScope (top 40), [], []⟩, ⟨("is_field", none), "is_field", "is_field", defArgs (top 41), defBody (top 41), defScope (top 41), [], []⟩, ⟨("is_run", none), "is_run", "is_run", defArgs (top 42), defBody (top 42), defScope (top 42), [], []⟩, ⟨("are_words", none), "are_words", "are_words", defArgs (top 43), defBody (top 43), defScope (top 43), [], []⟩, ⟨("part_lengths", none), "part_lengths", "part_lengths", defArgs (top 44), defBody (top 44), defScope (top 44), [], []⟩, ⟨("field_lengths", none), "field_lengths", "field_lengths", defArgs (top 45), defBody (top 45), defScope (top 45), [], []⟩, ⟨("_law_bag_of", none), "_law_bag_of", "_law_bag_of", defArgs (top 47), defBody (top 47), defScope (top 47), [], []⟩, ⟨("_law_pick", none), "_law_pick", "_law_pick", defArgs (top 48), defBody (top 48), defScope (top 48), [], []⟩, ⟨("_law_one_of", none), "_law_one_of", "_law_one_of", defArgs (top 49), defBody (top 49), defScope (top 49), [], []⟩, ⟨("_law_mixed", none), "_law_mixed", "_law_mixed", defArgs (top 50), defBody (top 50), defScope (top 50), [], []⟩, ⟨("_law_name_of", none), "_law_name_of", "_law_name_of", defArgs (top 51), defBody (top 51), defScope (top 51), [], []⟩, ⟨("_law_names_of", none), "_law_names_of", "_law_names_of", defArgs (top 52), defBody (top 52), defScope (top 52), [], []⟩, ⟨("_law_signs_of", none), "_law_signs_of", "_law_signs_of", defArgs (top 53), defBody (top 53), defScope (top 53), [], []⟩, ⟨("_law_paper", none), "_law_paper", "_law_paper", defArgs (top 54), defBody (top 54), defScope (top 54), [], []⟩, ⟨("_law_allowed", none), "_law_allowed", "_law_allowed", defArgs (top 55), defBody (top 55), defScope (top 55), [], []⟩]
def fn1 : List DefD := [⟨("_law_field_ends", none), "_law_field_ends", "_law_field_ends", defArgs (top 56), defBody (top 56), defScope (top 56), [], []⟩, ⟨("_law_listed", none), "_law_listed", "_law_listed", defArgs (top 57), defBody (top 57), defScope (top 57), [], []⟩, ⟨("_law_no_list", none), "_law_no_list", "_law_no_list", defArgs (top 58), defBody (top 58), defScope (top 58), [], []⟩, ⟨("_law_same_tuple", none), "_law_same_tuple", "_law_same_tuple", defArgs (top 59), defBody (top 59), defScope (top 59), [], []⟩, ⟨("_law_any_field", none), "_law_any_field", "_law_any_field", defArgs (top 60), defBody (top 60), defScope (top 60), [], []⟩, ⟨("_law_any_form", none), "_law_any_form", "_law_any_form", defArgs (top 61), defBody (top 61), defScope (top 61), [], []⟩, ⟨("_law_paper_of", none), "_law_paper_of", "_law_paper_of", defArgs (top 62), defBody (top 62), defScope (top 62), [], []⟩, ⟨("_law_spoilt", none), "_law_spoilt", "_law_spoilt", defArgs (top 63), defBody (top 63), defScope (top 63), [], []⟩, ⟨("_law_wide_signs", none), "_law_wide_signs", "_law_wide_signs", defArgs (top 64), defBody (top 64), defScope (top 64), [], []⟩, ⟨("_law_rests_of", none), "_law_rests_of", "_law_rests_of", defArgs (top 65), defBody (top 65), defScope (top 65), [], []⟩, ⟨("_law_cuts", none), "_law_cuts", "_law_cuts", defArgs (top 66), defBody (top 66), defScope (top 66), [], []⟩, ⟨("_law_wanted_of", none), "_law_wanted_of", "_law_wanted_of", defArgs (top 67), defBody (top 67), defScope (top 67), [], []⟩, ⟨("_law_told_of", none), "_law_told_of", "_law_told_of", defArgs (top 68), defBody (top 68), defScope (top 68), [], []⟩, ⟨("_law_refuses", none), "_law_refuses", "_law_refuses", defArgs (top 69), defBody (top 69), defScope (top 69), [], []⟩, ⟨("_law_many_ways", none), "_law_many_ways", "_law_many_ways", defArgs (top 70), defBody (top 70), defScope (top 70), [], []⟩, ⟨("_law_bad_paper", none), "_law_bad_paper", "_law_bad_paper", defArgs (top 71), defBody (top 71), defScope (top 71), [], []⟩, ⟨("_law_cuttings", none), "_law_cuttings", "_law_cuttings", defArgs (top 72), defBody (top 72), defScope (top 72), [], []⟩, ⟨("_law_same", none), "_law_same", "_law_same", defArgs (top 73), defBody (top 73), defScope (top 73), [], []⟩, ⟨("law", none), "law", "law", defArgs (top 74), defBody (top 74), defScope (top 74), [], []⟩]
def fn : List DefD := fn0 ++ fn1

def ts : List Tab := []
def exs0 : List (PySem.W.Frag → Bool) := [fun K => Hd.tupAtB K (ga K "NO_NAMES") K4.nnQ, fun K => eqO (PySem.W.nsIn K cStatics "thirdparty.any") (some none), fun K => Hd.oexB K (ga K "BadPaper"), fun K => Hd.excB K (ga K "BadPaper"), fun K => Hd.supB K (ga K "BadPaper"), fun K => xfB K (ga K "BadPaper"), fun K => (PySem.W.clsIn K (ga K "BadPaper")).isSome, fun K => Hd.initB PROG K ("BadPaper", some "__init__") "BadPaper.__init__" (ga K "BadPaper"), fun K => eqO (PySem.W.findIn K (.ref (ga K "BadPaper")) "paper") (some none), fun K => eqO (PySem.W.findIn K (.ref (ga K "BadPaper")) "__init__") (some (some (.ref (ma K (ga K "BadPaper") "__init__")))), fun K => decide (PySem.W.typeIn K (.ref (ma K (ga K "BadPaper") "__init__")) = some (.type "function")), fun K => Hd.oexB K (ga K "TooMany"), fun K => Hd.excB K (ga K "TooMany"), fun K => Hd.supB K (ga K "TooMany"), fun K => xfB K (ga K "TooMany"), fun K => (PySem.W.clsIn K (ga K "TooMany")).isSome, fun K => Hd.initB PROG K ("TooMany", some "__init__") "TooMany.__init__" (ga K "TooMany"), fun K => eqO (PySem.W.findIn K (.ref (ga K "TooMany")) "what") (some none), fun K => eqO (PySem.W.findIn K (.ref (ga K "TooMany")) "__init__") (some (some (.ref (ma K (ga K "TooMany") "__init__")))), fun K => decide (PySem.W.typeIn K (.ref (ma K (ga K "TooMany") "__init__")) = some (.type "function")), fun K => Hd.kitB1 K (ga K "BadPaper") (ga K "BadPaper") true, fun K => Hd.kitB1 K (ga K "BadPaper") (ga K "Malformed") true, fun K => Hd.kitB1 K (ga K "BadPaper") (ga K "TooMany") false]
def exs : List (PySem.W.Frag → Bool) := exs0

def ex (K : PySem.W.Frag) : Bool := exs.all fun e => e K
def fc : List Hd.DefC := [⟨("BadPaper", some "__init__"), "BadPaper.__init__", defArgs (inClass (top 4) 0), defBody (inClass (top 4) 0), defScope (inClass (top 4) 0)⟩, ⟨("TooMany", some "__init__"), "TooMany.__init__", defArgs (inClass (top 6) 0), defBody (inClass (top 6) 0), defScope (inClass (top 6) 0)⟩]
end HdK19
namespace HdK19
open PySem PySem.W PySem.Calls PyProof.Rows
def names0 : List PySem.Str := ["CarryError", "Malformed", "BadSigns", "BadPaper", "BadForm", "TooMany", "Twice", "is_whole", "is_within", "is_tuple", "is_tuple_of", "is_text", "is_ascending", "as_tuples", "first_double", "LETTERS", "MOST_LETTERS", "NO_NAMES", "is_name", "ALL_SIGNS", "LEAST_KINDS", "MOST_KINDS", "MOST_SIGNS", "are_signs", "require_signs", "is_paper", "require_paper", "MOST_FIELDS", "MOST_LEAST", "MOST_RUN"]
def names1 : List PySem.Str := ["MOST_WORDS", "MOST_WORD_SIGNS", "MOST_READINGS", "check_form", "readings", "checked_form", "is_field", "is_run", "are_words", "part_lengths", "field_lengths", "_law_bag_of", "_law_pick", "_law_one_of", "_law_mixed", "_law_name_of", "_law_names_of", "_law_signs_of", "_law_paper", "_law_allowed", "_law_field_ends", "_law_listed", "_law_no_list", "_law_same_tuple", "_law_any_field", "_law_any_form", "_law_paper_of", "_law_spoilt", "_law_wide_signs", "_law_rests_of"]
def names2 : List PySem.Str := ["_law_cuts", "_law_wanted_of", "_law_told_of", "_law_refuses", "_law_many_ways", "_law_bad_paper", "_law_cuttings", "_law_same"]
def names : List PySem.Str := names0 ++ names1 ++ names2

abbrev R : OpenRow := OpenLaw.row PySem.Challenge.rw_handcarried_k19_readings
abbrev qv : Program := view R.prog [74]
abbrev hk : Hook := Hd.hookY fa fn ts ex fc
def ob (s : SharedT) : Hd.AlY := Hd.obsY fa fn ts ex fc (HandSHeadRun.getT s)
theorem ob_eq (s : SharedT) : ob s = hk.obs s.abs := Hd.obsY_eq (HandSHeadRun.getT_eq s)
theorem runF (w : World) : HandSHeadRun.RunEq R qv hk ob 9000 names (w.withFollow "special-get-raises" false) := by
  intro os
  kernel_rfl
theorem runT (w : World) : HandSHeadRun.RunEq R qv hk ob 9000 names (w.withFollow "special-get-raises" true) := by
  intro os
  kernel_rfl
theorem run (w : World) : HandSHeadRun.RunEq R qv hk ob 9000 names w := byRow2 "special-get-raises" (P := fun w => HandSHeadRun.RunEq R qv hk ob 9000 names w) runF runT w
end HdK19

/-! H4 -/
/-! Rules in a heap. -/
namespace K4
open PySem L2 K1 PyProof.Rows
abbrev vi (n : Nat) : V := .int n
section
variable {K : PySem.W.Frag} {H H' : Hp}
mutual
theorem dp_keep (k : Keeps K H H') : ∀ (d : PyData) (v : V), Dp K H v d → Dp K H' v d
  | .none, _, h => by cases h; exact .non
  | .bool b, _, h => by cases h; exact .bl b
  | .int i, _, h => by cases h; exact .int i
  | .str x, _, h => by cases h; exact .str x
  | .list ds, _, h => by
    cases h with
    | lst hs ha => exact .lst (k.1 _ _ hs) (dpA_keep k ds _ ha)
  | .tuple ds, _, h => by
    cases h with
    | tup hs ha => exact .tup (k.2 _ _ hs) (dpA_keep k ds _ ha)
  | .dict _, _, h => by cases h
theorem dpA_keep (k : Keeps K H H') : ∀ (ds : List PyData) (vs : List V), DpAll K H vs ds → DpAll K H' vs ds
  | [], _, h => by cases h; exact .nil
  | d :: ds, _, h => by
    cases h with
    | cons a b => exact .cons (dp_keep k d _ a) (dpA_keep k ds _ b)
end
abbrev KT (K : PySem.W.Frag) (H H' : Hp) : Prop := ∀ a xs, SqT K H a xs → SqT K H' a xs
mutual
theorem dp_pure (k : KT K H H') : ∀ (d : PyData) (v : V), pure d = true → Dp K H v d → Dp K H' v d
  | .none, _, _, h => by cases h; exact .non
  | .bool b, _, p, _ => by simp [pure] at p
  | .int i, _, _, h => by cases h; exact .int i
  | .str x, _, _, h => by cases h; exact .str x
  | .list ds, _, p, _ => by simp [pure] at p
  | .tuple ds, _, p, h => by
    cases h with
    | tup hs ha => exact .tup (k _ _ hs) (dpA_pure k ds _ (by simpa [pure] using p) ha)
  | .dict _, _, _, h => by cases h
theorem dpA_pure (k : KT K H H') : ∀ (ds : List PyData) (vs : List V), pureA ds = true → DpAll K H vs ds → DpAll K H' vs ds
  | [], _, _, h => by cases h; exact .nil
  | d :: ds, _, p, h => by
    simp only [pureA, Bool.and_eq_true] at p
    cases h with
    | cons a b => exact .cons (dp_pure k d _ p.1 a) (dpA_pure k ds _ p.2 b)
end
theorem kt_lst {D : Addr} {xs ys : List V} (e : H D = some (.lst xs)) : KT K H (upd H D (.lst ys)) := fun a zs h =>
  Kp.sqT (b := D) (fun c o n q => by rw [upd_ne n]; exact q) e h
theorem kt_ins {D : Addr} {C dx : Addr} {fs gs : List (Str × V)} (e : H D = some (.ins C dx fs)) : KT K H (upd H D (.ins C dx gs)) := fun a zs h =>
  (Kp.keeps (b := D) (fun c o n q => by rw [upd_ne n]; exact q) e).2 _ _ h
theorem KT.trans {H2 : Hp} (x : KT K H H') (y : KT K H' H2) : KT K H H2 := fun a xs h => y a xs (x a xs h)
theorem Same.kt (e : Same H H') : KT K H H' := (Same.keeps e).2
theorem dpA_app : ∀ {vs : List V} {ds : List PyData} {ws : List V} {es : List PyData}, DpAll K H vs ds → DpAll K H ws es → DpAll K H (vs ++ ws) (ds ++ es)
  | _, _, _, _, .nil, h => h
  | _, _, _, _, .cons a b, h => .cons a (dpA_app b h)
theorem dpA_split : ∀ {ds es : List PyData} {vs : List V}, DpAll K H vs (ds ++ es) → ∃ xs ys, vs = xs ++ ys ∧ DpAll K H xs ds ∧ DpAll K H ys es
  | [], es, vs, h => ⟨[], vs, rfl, .nil, h⟩
  | d :: ds, es, _, h => by
    cases h with
    | cons a b =>
      obtain ⟨xs, ys, rfl, p, q⟩ := dpA_split b
      exact ⟨_ :: xs, ys, rfl, .cons a p, q⟩
theorem dpA_len : ∀ {vs : List V} {ds : List PyData}, DpAll K H vs ds → vs.length = ds.length
  | _, _, .nil => rfl
  | _, _, .cons _ b => congrArg (· + 1) (dpA_len b)
theorem dpA_get : ∀ {vs : List V} {ds : List PyData}, DpAll K H vs ds → ∀ {i : Nat} {v : V}, vs[i]? = some v → ∃ d, ds[i]? = some d ∧ Dp K H v d
  | _, _, .nil, i, v, h => by simp at h
  | _, _, .cons a b, 0, v, h => ⟨_, rfl, by simp at h; rw [← h]; exact a⟩
  | _, _, .cons a b, i + 1, v, h => dpA_get b (by simpa using h)
theorem dpA_nums : ∀ {ns : List Nat} {vs : List V}, DpAll K H vs (ns.map pn) ↔ vs = ns.map vi
  | [], vs => ⟨fun h => by cases h; rfl, fun h => by subst h; exact .nil⟩
  | n :: ns, vs => ⟨fun h => by
      cases h with
      | cons a b => cases a; rw [dpA_nums.mp b]; rfl, fun h => by subst h; exact .cons (.int _) (dpA_nums.mpr rfl)⟩
theorem dpA_strs : ∀ {ns : List Str} {vs : List V}, DpAll K H vs (ns.map .str) ↔ vs = ns.map V.str
  | [], vs => ⟨fun h => by cases h; rfl, fun h => by subst h; exact .nil⟩
  | n :: ns, vs => ⟨fun h => by
      cases h with
      | cons a b => cases a; rw [dpA_strs.mp b]; rfl, fun h => by subst h; exact .cons (.str _) (dpA_strs.mpr rfl)⟩
theorem dp_sq {t : Bool} {v : V} {ds : List PyData} (h : Dp K H v (sq t ds)) : ∃ xs, Sq K H v xs ∧ DpAll K H xs ds := by
  cases t
  · cases h with
    | lst a b => exact ⟨_, ⟨_, rfl, .inl a⟩, b⟩
  · cases h with
    | tup a b => exact ⟨_, ⟨_, rfl, .inr a⟩, b⟩
/-- numbers -/
def NumsAt (K : PySem.W.Frag) (H : Hp) (v : V) (ns : List Nat) : Prop := Sq K H v (ns.map vi)
def RowsAt (K : PySem.W.Frag) (H : Hp) : List V → List (List Nat) → Prop
  | [], [] => True
  | v :: vs, r :: rs => NumsAt K H v r ∧ RowsAt K H vs rs
  | _, _ => False
def OwAt (K : PySem.W.Frag) (H : Hp) (xs : List V) : Ow → Prop
  | .sum m ws g => ∃ w, xs = [vi m, w, vi g] ∧ NumsAt K H w ws
  | .square rows gs => ∃ a g rvs, xs = [a, g] ∧ Sq K H a rvs ∧ RowsAt K H rvs rows ∧ NumsAt K H g gs
  | .faces fs => ∃ f, xs = [f] ∧ Sq K H f (fs.map V.str)
  | .cut a b => xs = [vi a, vi b]
  | _ => xs = []
theorem RowsAt.keep (k : Keeps K H H') : ∀ {vs : List V} {rs : List (List Nat)}, RowsAt K H vs rs → RowsAt K H' vs rs
  | [], [], _ => trivial
  | v :: vs, r :: rs, h => ⟨h.1.keep k, RowsAt.keep k h.2⟩
  | [], _ :: _, h => h.elim
  | _ :: _, [], h => h.elim
theorem RowsAt.len : ∀ {vs : List V} {rs : List (List Nat)}, RowsAt K H vs rs → vs.length = rs.length
  | [], [], _ => rfl
  | v :: vs, r :: rs, h => congrArg (· + 1) (RowsAt.len h.2)
  | [], _ :: _, h => h.elim
  | _ :: _, [], h => h.elim
theorem RowsAt.get : ∀ {vs : List V} {rs : List (List Nat)}, RowsAt K H vs rs → ∀ {i : Nat} {v : V}, vs[i]? = some v → ∃ r, rs[i]? = some r ∧ NumsAt K H v r
  | [], [], _, i, v, e => by simp at e
  | v :: vs, r :: rs, h, 0, w, e => ⟨r, rfl, by simp at e; rw [← e]; exact h.1⟩
  | v :: vs, r :: rs, h, i + 1, w, e => RowsAt.get h.2 (by simpa using e)
  | [], _ :: _, h, _, _, _ => h.elim
  | _ :: _, [], h, _, _, _ => h.elim
theorem OwAt.keep (k : Keeps K H H') : ∀ {o : Ow} {xs : List V}, OwAt K H xs o → OwAt K H' xs o
  | .sum .., _, ⟨w, e, h⟩ => ⟨w, e, h.keep k⟩
  | .square .., _, ⟨a, g, rvs, e, h1, h2, h3⟩ => ⟨a, g, rvs, e, h1.keep k, h2.keep k, h3.keep k⟩
  | .faces .., _, ⟨f, e, h⟩ => ⟨f, e, h.keep k⟩
  | .cut .., _, h => h
  | .any, _, h => h
  | .back, _, h => h
  | .not, _, h => h
  | .both, _, h => h
  | .either, _, h => h
theorem OwAt.len : ∀ {o : Ow} {xs : List V}, OwAt K H xs o → xs.length = mn o.kind
  | .sum .., _, ⟨w, e, h⟩ => by rw [e]; rfl
  | .square .., _, ⟨a, g, rvs, e, h1, h2, h3⟩ => by rw [e]; rfl
  | .faces .., _, ⟨f, e, h⟩ => by rw [e]; rfl
  | .cut .., _, h => by rw [show _ = _ from h]; rfl
  | .any, _, h => by rw [show _ = _ from h]; rfl
  | .back, _, h => by rw [show _ = _ from h]; rfl
  | .not, _, h => by rw [show _ = _ from h]; rfl
  | .both, _, h => by rw [show _ = _ from h]; rfl
  | .either, _, h => by rw [show _ = _ from h]; rfl
theorem rows_of {t : Bool} : ∀ {rs : List (List Nat)} {vs : List V}, DpAll K H vs (rs.map fun row => sq t (row.map pn)) → RowsAt K H vs rs
  | [], _, .nil => trivial
  | r :: rs, _, .cons a b => by
    obtain ⟨xs, hx, hd⟩ := dp_sq a
    rw [dpA_nums.mp hd] at hx
    exact ⟨hx, rows_of b⟩
theorem nums_of {t : Bool} {v : V} {ns : List Nat} (h : Dp K H v (sq t (ns.map pn))) : NumsAt K H v ns := by
  obtain ⟨xs, hx, hd⟩ := dp_sq h
  rw [dpA_nums.mp hd] at hx
  exact hx
theorem ow_of {t : Bool} : ∀ {o : Ow} {xs : List V}, DpAll K H xs (o.data t) → OwAt K H xs o
  | .sum m ws g, _, .cons (.int _) (.cons b (.cons (.int _) .nil)) => ⟨_, rfl, nums_of b⟩
  | .square rows gs, _, .cons a (.cons b .nil) => by
    obtain ⟨rvs, h1, h2⟩ := dp_sq a
    exact ⟨_, _, rvs, rfl, h1, rows_of h2, nums_of b⟩
  | .faces fs, _, .cons a .nil => by
    obtain ⟨xs, h1, h2⟩ := dp_sq a
    rw [dpA_strs.mp h2] at h1
    exact ⟨_, rfl, h1⟩
  | .cut a b, _, .cons (.int _) (.cons (.int _) .nil) => rfl
  | .any, _, .nil => rfl
  | .back, _, .nil => rfl
  | .not, _, .nil => rfl
  | .both, _, .nil => rfl
  | .either, _, .nil => rfl
/-- a rule, of lists and tuples -/
def RAt (K : PySem.W.Frag) (H : Hp) : V → R → Prop
  | v, .n0 o => ∃ xs, Sq K H v (.str o.word :: (xs ++ [])) ∧ OwAt K H xs o
  | v, .n1 o a => ∃ xs i, Sq K H v (.str o.word :: (xs ++ [i])) ∧ OwAt K H xs o ∧ RAt K H i a
  | v, .n2 o a b => ∃ xs i j, Sq K H v (.str o.word :: (xs ++ [i, j])) ∧ OwAt K H xs o ∧ RAt K H i a ∧ RAt K H j b
def RAll (K : PySem.W.Frag) (H : Hp) : List V → List R → Prop
  | [], [] => True
  | v :: vs, r :: rs => RAt K H v r ∧ RAll K H vs rs
  | _, _ => False
theorem RAt.keep (k : Keeps K H H') : ∀ {r : R} {v : V}, RAt K H v r → RAt K H' v r
  | .n0 _, _, ⟨xs, h, o⟩ => ⟨xs, h.keep k, o.keep k⟩
  | .n1 _ _, _, ⟨xs, i, h, o, a⟩ => ⟨xs, i, h.keep k, o.keep k, RAt.keep k a⟩
  | .n2 _ _ _, _, ⟨xs, i, j, h, o, a, b⟩ => ⟨xs, i, j, h.keep k, o.keep k, RAt.keep k a, RAt.keep k b⟩
theorem RAll.keep (k : Keeps K H H') : ∀ {vs : List V} {rs : List R}, RAll K H vs rs → RAll K H' vs rs
  | [], [], _ => trivial
  | v :: vs, r :: rs, h => ⟨h.1.keep k, RAll.keep k h.2⟩
  | [], _ :: _, h => h.elim
  | _ :: _, [], h => h.elim
theorem RAll.get : ∀ {vs : List V} {rs : List R}, RAll K H vs rs → ∀ {i : Nat} {v : V}, vs[i]? = some v → ∃ r, rs[i]? = some r ∧ RAt K H v r
  | [], [], _, i, v, e => by simp at e
  | v :: vs, r :: rs, h, 0, w, e => ⟨r, rfl, by simp at e; rw [← e]; exact h.1⟩
  | v :: vs, r :: rs, h, i + 1, w, e => RAll.get h.2 (by simpa using e)
  | [], _ :: _, h, _, _, _ => h.elim
  | _ :: _, [], h, _, _, _ => h.elim
theorem RAll.len : ∀ {vs : List V} {rs : List R}, RAll K H vs rs → vs.length = rs.length
  | [], [], _ => rfl
  | v :: vs, r :: rs, h => congrArg (· + 1) (RAll.len h.2)
  | [], _ :: _, h => h.elim
  | _ :: _, [], h => h.elim
theorem RAt.open : ∀ {r : R} {v : V}, RAt K H v r → ∃ xs is, Sq K H v (.str r.ow.word :: (xs ++ is)) ∧ OwAt K H xs r.ow ∧ RAll K H is r.inner
  | .n0 _, _, ⟨xs, h, o⟩ => ⟨xs, [], h, o, trivial⟩
  | .n1 _ _, _, ⟨xs, i, h, o, a⟩ => ⟨xs, [i], h, o, a, trivial⟩
  | .n2 _ _ _, _, ⟨xs, i, j, h, o, a, b⟩ => ⟨xs, [i, j], h, o, a, b, trivial⟩
theorem RAt.of {t : Bool} : ∀ {r : R} {v : V}, Dp K H v (r.data t) → RAt K H v r
  | .n0 o, v, h => by
    obtain ⟨xs, h1, h2⟩ := dp_sq (show Dp K H v (sq t _) from h)
    cases h2 with
    | cons a b =>
      cases a
      exact ⟨_, by rw [List.append_nil]; exact h1, ow_of b⟩
  | .n1 o a, v, h => by
    obtain ⟨xs, h1, h2⟩ := dp_sq (show Dp K H v (sq t _) from h)
    cases h2 with
    | cons a b =>
      cases a
      obtain ⟨ys, zs, rfl, p, q⟩ := dpA_split b
      cases q with
      | cons q1 q2 =>
        cases q2
        exact ⟨ys, _, h1, ow_of p, RAt.of q1⟩
  | .n2 o a b, v, h => by
    obtain ⟨xs, h1, h2⟩ := dp_sq (show Dp K H v (sq t _) from h)
    cases h2 with
    | cons a b =>
      cases a
      obtain ⟨ys, zs, rfl, p, q⟩ := dpA_split b
      cases q with
      | cons q1 q2 =>
        cases q2 with
        | cons q2 q3 =>
          cases q3
          exact ⟨ys, _, _, h1, ow_of p, RAt.of q1, RAt.of q2⟩
end
end K4

/-! C5 -/
local macro_rules | `(tactic| walk_at "go") => `(tactic| repeat (first
  | with_reducible apply K1.r_seq
  | with_reducible apply K1.r_asg
  | ((with_reducible apply K1.r_name); (try dsimp only [List.set]))
  | ((with_reducible apply K1.r_var); (focus rfl))
  | with_reducible apply K1.r_c
  | with_reducible apply K1.r_op
  | with_reducible apply K1.r_un
  | with_reducible apply K1.r_I0
  | with_reducible apply K1.r_test
  | with_reducible apply K1.r_if
  | with_reducible apply K1.r_ifs
  | with_reducible apply K1.r_iteT
  | with_reducible apply K1.r_iteF
  | with_reducible apply K1.r_and
  | with_reducible apply K1.r_or
  | with_reducible apply K1.r_not
  | with_reducible apply K1.r_tB
  | with_reducible apply K1.r_andV
  | with_reducible apply K1.r_orV
  | with_reducible apply K1.r_notV
  | with_reducible apply K1.r_cb
  | with_reducible apply K1.r_cons
  | with_reducible apply K1.r_nil
  | with_reducible apply K1.r_ret
  | with_reducible apply K1.r_next
  | with_reducible apply K1.r_drop
  | with_reducible apply K1.r_lst
  | with_reducible apply K1.r_tup
  | with_reducible apply K1.r_call
  | with_reducible apply K1.r_gsub
  | with_reducible apply K1.r_for
  | with_reducible apply K1.r_bm
  | with_reducible apply K1.r_bm0
  | with_reducible apply K1.r_sl
  | with_reducible apply K1.r_noPart
  | with_reducible apply K1.r_part
  | with_reducible apply K1.r_iStr
  | with_reducible apply K1.r_iRng1
  | with_reducible apply K1.r_m1
  | refine ⟨_, rfl, ?_⟩
  | refine Or.inl ⟨_, rfl, ?_⟩
  | dsimp only))
namespace K1
open PySem L2
abbrev sOneOf : Stmt := top 49
abbrev sMixed : Stmt := top 50
theorem scOneOf : FnScope ["_law_bag", "_law_row"] ["_law_bag", "_law_row"] (defScope sOneOf) := ⟨rfl, rfl, rfl, by decide +kernel, rfl, by decide +kernel, by decide +kernel⟩
abbrev nMixed : List Str := ["_law_bag", "_law_row", "_law_left", "_law_told", "_law_k"]
theorem scMixed : FnScope nMixed ["_law_bag", "_law_row"] (defScope sMixed) := ⟨rfl, rfl, rfl, by decide +kernel, rfl, by decide +kernel, by decide +kernel⟩

abbrev OPick (P : Program) (w : World) (K : PySem.W.Frag) (mg : Str → Option Value) (base : Heap) : Prop := Own P w K mg base "_law_pick" 1 ["_law_bag", "_law_many"] spPick
def spOneOf (K : PySem.W.Frag) : Sp := fun vs H Q _ => ∃ (b : Addr) (r : V) (items : List V) (n : Nat), vs = [.ref b, r] ∧ IsBag H b n ∧ n ≤ 2 ^ 40 ∧ RowAt K H b r items ∧ items ≠ [] ∧
  ∀ x H', x ∈ items → IsBag H' b (n + 1) → Off b H H' → Q x H'
abbrev OOneOf (P : Program) (w : World) (K : PySem.W.Frag) (mg : Str → Option Value) (base : Heap) : Prop := Own P w K mg base "_law_one_of" 2 ["_law_bag", "_law_row"] (spOneOf K)
def spMixed : Sp := fun vs H Q _ => ∃ (b : Addr) (z : Str) (n : Nat), vs = [.ref b, .str z] ∧ IsBag H b n ∧ n + z.length ≤ 2 ^ 40 ∧ z.length ≤ 1000 ∧
  ∀ (ys : List Str) H' p, ys.Perm (sgn z) → IsBag H' b (n + z.length) → Kp b H H' → H p = none → H' p = some (.lst (ys.map V.str)) → p ≠ b → Q (.ref p) H'
theorem IsBag.mono {H : Hp} {b : Addr} {n m : Nat} (h : IsBag H b n) (l : n ≤ m) : IsBag H b m := by
  obtain ⟨d, s, c, e, a1, a2, a3, a4, a5⟩ := h
  exact ⟨d, s, c, e, a1, a2, a3, a4, by omega⟩

section
variable {P : Program} {w : World} {K : PySem.W.Frag} {mg : Str → Option Value} {base : Heap}
theorem ok_oneOf {f : Addr} {fd : FuncData} (F : Fun K "_law_one_of" "_law_one_of" sOneOf f fd) (B : Bl mg) (Op : OPick P w K mg base) : FnOk P w K mg base CX0 2 f fd ["_law_bag", "_law_row"] (spOneOf K) := by
  refine F.ok scOneOf (fun vs H Q E h => ?_) (fun cdv A outer s H vs Q E hr h => ?_)
  · obtain ⟨b, r, items, n, rfl, _⟩ := h
    rfl
  · obtain ⟨b, r, items, n, rfl, hb, hn, hrow, hne, k⟩ := h
    refine ⟨_, pss_one (ps_ret (pe_ix ix_seq (pv 1) (pe_own Op hr (pa_cons (pv 0) (pa_cons (pe_callB call_len (by rfl) B.len PySem.boot_len (pa_cons (pv 1) pa_nil)) pa_nil))) (fun _ _ => rfl))), ?_⟩
    try dsimp only [cxOf, Cx.nox, Cx.wish]
    walk_at "go"
    refine ⟨_, _, rfl, hrow.len.1, ?_⟩
    walk_at "go"
    have hl := hrow.len.2
    have hpos : 0 < items.length := List.length_pos_iff.mpr hne
    refine ⟨_, _, n, rfl, hb, hn, by omega, fun r' H' r0 r1 hb' off => ?_⟩
    obtain ⟨x, ex, hx, _⟩ := at_nat' (xs := items) r0 (by omega)
    exact r_rowix (hrow.off off) ex (k x H' hx hb' off)

theorem seqIx {n : Nat} {i : Int} (h0 : 0 ≤ i) (h1 : i < n) : seqIndex? i n = some i.toNat := by
  have e : ixN n i = some i.toNat := by
    unfold ixN
    rw [if_pos h0, if_pos h1]
  exact (ixN_seq e).1
theorem erase_map {α β : Type} (f : α → β) : ∀ (l : List α) (i : Nat), (l.map f).eraseIdx i = (l.eraseIdx i).map f
  | [], _ => rfl
  | _ :: _, 0 => rfl
  | x :: l, i + 1 => by
    show f x :: (l.map f).eraseIdx i = f x :: (l.eraseIdx i).map f
    rw [erase_map f l i]
theorem erase_perm {α : Type} : ∀ {l : List α} {i : Nat} (h : i < l.length), (l[i] :: l.eraseIdx i).Perm l
  | [], _, h => absurd h (by simp)
  | _ :: _, 0, _ => List.Perm.refl _
  | x :: l, i + 1, h => by
    have h' : i < l.length := by simpa using h
    show (l[i] :: x :: l.eraseIdx i).Perm (x :: l)
    exact (List.Perm.swap x l[i] _).trans (List.Perm.cons x (erase_perm h'))
theorem ok_mixed {f : Addr} {fd : FuncData} (F : Fun K "_law_mixed" "_law_mixed" sMixed f fd) (B : Bl mg) (Op : OPick P w K mg base) : FnOk P w K mg base CX0 2 f fd ["_law_bag", "_law_row"] spMixed := by
  refine F.ok scMixed (fun vs H Q E h => ?_) (fun cdv A outer s H vs Q E hr h => ?_)
  · obtain ⟨b, z, n, rfl, _⟩ := h
    rfl
  · obtain ⟨b, z, n, rfl, hb, hn, hz, k⟩ := h
    have hd := hr.hd
    refine ⟨_, pss_cons (ps_set (i := 2) scMixed.nd rfl (Or.inl rfl) (pe_callTy (call_listS hd) (by rfl) B.list (by decide +kernel) (pa_cons (pv 1) pa_nil)))
      (pss_cons (ps_set (i := 3) scMixed.nd rfl (Or.inl rfl) (pe_lst pa_nil))
      (pss_cons (ps_for PassesOwn.never rfl (pi_range1 rfl B.range (pa_cons (pe_callB call_len (by rfl) B.len PySem.boot_len (pa_cons (pv 1) pa_nil)) pa_nil)) (pg_name (i := 4) scMixed.nd rfl (Or.inl rfl))
        (pss_one (ps_expr (pe_bm PySem.F.plainAttrs_list PySem.F.slot_list_append PySem.F.type_list_append mt_append (pv 3) (pa_cons
          (pe_bm PySem.F.plainAttrs_list PySem.F.slot_list_pop PySem.F.type_list_pop mt_popAt (pv 2) (pa_cons
            (pe_own Op hr (pa_cons (pv 0) (pa_cons (pe_callB call_len (by rfl) B.len PySem.boot_len (pa_cons (pv 2) pa_nil)) pa_nil))) pa_nil)) pa_nil)))))
      (pss_one (ps_ret (pv 3))))), ?_⟩
    try dsimp only [cxOf, Cx.nox, Cx.wish]
    have hsl := small_line hz
    walk_at "go"
    refine ⟨hsl, fun L hL => ?_⟩
    walk_at "go"
    refine ⟨Nat.zero_le _, fun T hT => ?_⟩
    have nLb : L ≠ b := fun q => by obtain ⟨_, _, _, e, _⟩ := hb; rw [q, e] at hL; cases hL
    have nTL : T ≠ L := fun q => by rw [q, upd_same] at hT; cases hT
    rw [upd_ne nTL] at hT
    have nTb : T ≠ b := fun q => by obtain ⟨_, _, _, e, _⟩ := hb; rw [q, e] at hT; cases hT
    walk_at "go"
    refine ⟨_, _, rfl, lenS hsl, ?_⟩
    walk_at "go"
    refine ⟨by omega, by omega, fr_range (lo := 0) (n := z.length) (fun i σ H' => ∃ (kk : Option V) (xs ys : List Str), σ = [some (.ref b), some (.str z), some (.ref L), some (.ref T), kk] ∧ H' L = some (.lst (xs.map V.str)) ∧ H' T = some (.lst (ys.map V.str)) ∧
        (ys ++ xs).Perm (sgn z) ∧ ys.length = i ∧ IsBag H' b (n + i) ∧ Kp b H H') ?_ ?_ ?_⟩
    · refine ⟨none, sgn z, [], rfl, ?_, upd_same, List.Perm.refl _, rfl, ?_, ?_⟩
      · rw [upd_ne nTL.symm, upd_same]
      · obtain ⟨d, s, c, e, r⟩ := hb
        exact ⟨d, s, c, by rw [upd_ne nTb.symm, upd_ne nLb.symm]; exact e, r⟩
      · exact Same.kp (Same.trans (same_new (o := HO.lst ((sgn z).map V.str)) hL) (same_new (by rw [upd_ne nTL]; exact hT)))
    · rintro i σ H' hi ⟨kk, xs, ys, rfl, eL, eT, pm, ly, hb', kp⟩
      have lxs : xs.length = z.length - i := by
        have := pm.length_eq
        rw [List.length_append, sgn_len] at this
        omega
      walk_at "go"
      refine ⟨tyL (SqL.of eT), ?_⟩
      walk_at "go"
      refine ⟨tyL (SqL.of eL), ?_⟩
      walk_at "go"
      refine ⟨_, _, rfl, lenL (SqL.of eL), ?_⟩
      walk_at "go"
      refine ⟨_, _, _, rfl, hb', by omega, by rw [List.length_map]; omega, fun r H2 r0 r1 hb2 off => ?_⟩
      rw [List.length_map] at r1
      have hr1 : r < xs.length := by omega
      have hj : r.toNat < xs.length := by omega
      walk_at "go"
      have eL2 := off.at nLb eL
      have eT2 := off.at nTb eT
      refine ⟨L, xs.map V.str, r, r.toNat, .str xs[r.toNat], rfl, rfl, eL2, by omega, by omega, by rw [List.length_map]; exact seqIx r0 hr1, by simp [hj], ?_⟩
      walk_at "go"
      refine ⟨T, ys.map V.str, _, rfl, rfl, by rw [upd_ne nTL]; exact eT2, by rw [List.length_map]; exact small1000 (by omega), ?_⟩
      walk_at "go"
      refine ⟨some (.int (0 + i)), xs.eraseIdx r.toNat, ys ++ [xs[r.toNat]], rfl, ?_, ?_, ?_, by simp [ly], ?_, ?_⟩
      · rw [upd_ne nTL.symm, upd_same, erase_map]
      · rw [upd_same]; simp
      · refine List.Perm.trans ?_ pm
        rw [List.append_assoc]
        exact (List.Perm.append_left ys (erase_perm hj))
      · obtain ⟨d, s, c, e, q⟩ := hb2
        exact ⟨d, s, c, by rw [upd_ne nTb.symm, upd_ne nLb.symm]; exact e, q⟩
      · intro c o hc e
        have n1 : c ≠ L := fun q => by rw [q, hL] at e; cases e
        have n2 : c ≠ T := fun q => by rw [q, hT] at e; cases e
        rw [upd_ne n2, upd_ne n1]
        exact off.at hc (kp c o hc e)
    · rintro σ H' ⟨kk, xs, ys, rfl, eL, eT, pm, ly, hb', kp⟩
      walk_at "go"
      have lx : xs = [] := by
        have := pm.length_eq
        rw [List.length_append, sgn_len] at this
        exact List.eq_nil_of_length_eq_zero (by omega)
      subst lx
      rw [List.append_nil] at pm
      exact k ys H' T pm hb' kp hT eT nTb

theorem app_cps (x y : Str) : (x ++ y).cps.toList = x.cps.toList ++ y.cps.toList := by
  show (x.cps ++ y.cps).toList = _
  exact Array.toList_append
theorem len_cps (x : Str) : x.length = x.cps.toList.length := by simp [Str.length]
theorem mem_sgn {z : Str} {x : V} (h : x ∈ (sgn z).map V.str) : ∃ c, c ∈ z.cps.toList ∧ x = .str ⟨#[c]⟩ := by
  obtain ⟨y, hy, rfl⟩ := List.mem_map.mp h
  obtain ⟨c, hc, rfl⟩ := List.mem_map.mp hy
  exact ⟨c, hc, rfl⟩
end
end K1

/-! S5 -/
/-! Texts as lists of signs; the good signs. -/
namespace K1
open PySem L2 PyProof.Rows
def one (c : Nat) : Str := ⟨#[c]⟩
theorem str_ext {x y : Str} (h : tl x = tl y) : x = y := by
  cases x with | mk a => cases y with | mk b => exact congrArg Str.mk (Array.toList_inj.mp h)
theorem tl_inj {x y : Str} : tl x = tl y ↔ x = y := ⟨str_ext, fun h => by rw [h]⟩
theorem one_inj {a b : Nat} (h : one a = one b) : a = b := by
  have := congrArg tl h
  simpa [one] using this
abbrev ALL : Str := "0123456789ABCDEFGHIJKLMNOPQRSTUVWXYZ"
/-- signs of a house -/
structure Good (z : Str) : Prop where
  lo : 2 ≤ (tl z).length
  hi : (tl z).length ≤ 12
  up : (tl z).Pairwise (· < ·)
  all : ∀ c ∈ tl z, c ∈ tl ALL
theorem sgn_one (z : Str) : sgn z = (tl z).map one := rfl
theorem ones : ∀ {zs : List Str}, (∀ y ∈ zs, ∃ c, y = one c) → ∃ l : List Nat, zs = l.map one
  | [], _ => ⟨[], rfl⟩
  | y :: zs, h => by
    obtain ⟨c, rfl⟩ := h y (by simp)
    obtain ⟨l, rfl⟩ := ones (zs := zs) fun z hz => h z (List.mem_cons_of_mem _ hz)
    exact ⟨c :: l, rfl⟩
theorem lt_one (a b : Nat) : Spec.ltCps (tl (one a)) (tl (one b)) = decide (a < b) := by
  show (decide (a < b) || (a == b && false)) = decide (a < b)
  rw [Bool.and_false, Bool.or_false]
theorem rising_le : ∀ (l : List Nat) (p : Nat), risingS (one p) (l.map one) = true → (p :: l).Pairwise (· ≤ ·)
  | [], p, _ => by simp
  | c :: l, p, h => by
    have h1 : p ≤ c ∧ risingS (one c) (l.map one) = true := by
      have e : risingS (one p) ((c :: l).map one) = (!Spec.ltCps (tl (one c)) (tl (one p)) && risingS (one c) (l.map one)) := rfl
      rw [e, lt_one] at h
      simpa using h
    have h2 := rising_le l c h1.2
    rw [List.pairwise_cons] at h2 ⊢
    refine ⟨fun d hd => ?_, by rw [List.pairwise_cons]; exact h2⟩
    rcases List.mem_cons.mp hd with rfl | hd
    · exact h1.1
    · exact Nat.le_trans h1.1 (h2.1 d hd)
theorem sorted_le (l : List Nat) (h : sortedS (l.map one) = true) : l.Pairwise (· ≤ ·) := by
  cases l with
  | nil => exact List.Pairwise.nil
  | cons c l => exact rising_le l c h
theorem join_ones : ∀ l : List Nat, tl (Str.join "" (l.map one)) = l
  | [] => rfl
  | [c] => rfl
  | c :: d :: l => by
    have ih := join_ones (d :: l)
    show tl (one c ++ "" ++ Str.join "" ((d :: l).map one)) = _
    rw [tl, app_cps, app_cps]
    rw [tl] at ih
    rw [ih]
    rfl
theorem nodup_all : (sgn ALL).Nodup := by decide +kernel
/-- what sorted of the first m of a mixed row of all signs, put together, is -/
theorem good_of {ys zs : List Str} {m : Nat} (hy : ys.Perm (sgn ALL)) (h2 : 2 ≤ m) (h12 : m ≤ 12) (hz : zs.Perm (ys.take m)) (hs : sortedS zs = true) :
    Good (Str.join "" zs) ∧ (tl (Str.join "" zs)).length = m ∧ (∀ y ∈ zs, y.length = 1) ∧ zs.length = m := by
  have hlen : ys.length = 36 := by rw [hy.length_eq]; decide +kernel
  have ht : (ys.take m).length = m := by rw [List.length_take]; omega
  have hzl : zs.length = m := by rw [hz.length_eq, ht]
  have hmem : ∀ y ∈ zs, ∃ c, y = one c ∧ c ∈ tl ALL := fun y q => by
    have a := hz.mem_iff.mp q
    have b := hy.mem_iff.mp (List.mem_of_mem_take a)
    obtain ⟨c, hc, rfl⟩ := List.mem_map.mp b
    exact ⟨c, rfl, hc⟩
  obtain ⟨l, rfl⟩ := ones (zs := zs) fun y q => by obtain ⟨c, e, _⟩ := hmem y q; exact ⟨c, e⟩
  have hnd : (l.map one).Nodup := hz.nodup_iff.mpr ((hy.nodup_iff.mpr nodup_all).sublist (List.take_sublist _ _))
  have hne : l.Pairwise (· ≠ ·) := (List.pairwise_map.mp hnd).imp fun h e => h (by rw [e])
  have hlt : l.Pairwise (· < ·) := ((sorted_le l hs).and hne).imp fun ⟨a, b⟩ => by omega
  have hl : l.length = m := by rw [← hzl, List.length_map]
  refine ⟨⟨?_, ?_, ?_, ?_⟩, ?_, ?_, hzl⟩
  · rw [join_ones, hl]; exact h2
  · rw [join_ones, hl]; exact h12
  · rw [join_ones]; exact hlt
  · rw [join_ones]
    intro c hc
    obtain ⟨d, e, hd⟩ := hmem (one c) (List.mem_map_of_mem hc)
    rw [one_inj e]; exact hd
  · rw [join_ones, hl]
  · intro y q
    obtain ⟨c, rfl, _⟩ := hmem y q
    rfl
end K1

/-! B11 -/

/-! Rules for names of the module, unpacking of a list or tuple; new lists. -/
namespace K4
open PySem L2 K1 PyProof.Rows
def GI (mg : Str → Option Value) (x : Str) (i : Int) : Prop := ∃ t, mg x = some (.int i t)
def GS (mg : Str → Option Value) (x : Str) (z : Str) : Prop := ∃ t, mg x = some (.str z t)
section
variable {X : Cx} {x : Str} {i : Int} {z : Str} {a : Addr} {pos : Pos}
theorem pe_gI (h : GI X.mg x i) (hg : Gl X x := by rfl) (hd : (x == ("__debug__" : Str)) = false := by decide) : PE X (.Name x pos) (tC (.int i)) := by
  obtain ⟨t, h⟩ := h
  exact pe_glob hg h ⟨t, rfl⟩ hd
theorem pe_gS (h : GS X.mg x z) (hg : Gl X x := by rfl) (hd : (x == ("__debug__" : Str)) = false := by decide) : PE X (.Name x pos) (tC (.str z)) := by
  obtain ⟨t, h⟩ := h
  exact pe_glob hg h ⟨t, rfl⟩ hd
theorem pe_gR (h : X.mg x = some (.ref a)) (hg : Gl X x := by rfl) (hd : (x == ("__debug__" : Str)) = false := by decide) : PE X (.Name x pos) (tC (.ref a)) := pe_glob hg h rfl hd
def gSq (K : PySem.W.Frag) (n : Nat) (t : TGs) : TG := fun v σ H Q => gTup K n t v σ H Q ∨ gUnl K n t v σ H Q
theorem pg_sq {es : List Expr} {k : Nat} {t : TGs} {n : Nat} (hc : X.calm = true) (h : PGs X es t)
    (hn : (assignEach es X.env).length = n := by rfl) (hst : (assignEach es X.env).findIdx? (·.1) = none := by rfl) : PG X (.Tuple es k pos) (gSq X.K n t) := by
  refine ⟨fun pins s σ H v u Q I r hw => ?_⟩
  rcases hw with hw | hw
  · exact (pg_tup (pos := pos) (k := k) hc h hn hst).run pins s σ H v u Q I r hw
  · exact (pg_unl (pos := pos) (k := k) hc h hn hst).run pins s σ H v u Q I r hw
end
theorem r_gSq {K : PySem.W.Frag} {n : Nat} {t : TGs} {v : V} {xs : List V} {σ : L2.St} {H : Hp} {Q : L2.St → Hp → Prop} (h : Sq K H v xs) (hn : xs.length = n) (q : t xs σ H Q) : gSq K n t v σ H Q := by
  obtain ⟨a, rfl, h | h⟩ := h
  · exact .inr ⟨a, xs, rfl, h, hn, q⟩
  · exact .inl ⟨a, xs, rfl, h, hn, q⟩
theorem r_kd {K : PySem.W.Frag} {w : World} {a : Addr} {z : Str} {v : V} {H : Hp} {Q : VK} (h : KDct K w a z v) (q : Q v H) : rIxD K w (.ref a) (.str z) H Q := ⟨a, z, v, rfl, rfl, h, q⟩
/-! ### texts that begin with a text -/
theorem pref_take : ∀ (y x : List Nat), y.isPrefixOf x = (decide (y.length ≤ x.length) && (x.take y.length == y))
  | [], x => by simp
  | b :: y, [] => by simp
  | b :: y, a :: x => by
    rw [List.isPrefixOf, pref_take y x]
    simp only [List.length_cons, List.take_succ_cons, Nat.add_le_add_iff_right]
    by_cases e : b = a
    · subst e; simp
    · have e' : ¬ a = b := fun q => e q.symm
      have b1 : (b == a) = false := by simpa using e
      have b3 : (a :: x.take y.length == b :: y) = false := by simp [e']
      rw [b1, Bool.false_and]
      simp [e']
theorem starts_iff (x y : Str) : Txt.startswith x y = (tl y).isPrefixOf (tl x) := by
  unfold Txt.startswith
  rw [PySem.StrLaws.subAt_eq, pref_take, List.drop_zero, Nat.zero_add, len_tl x, len_tl y]
theorem starts_app (x y : Str) : Txt.startswith x y = true ↔ ∃ r, tl x = tl y ++ r := by
  rw [starts_iff, List.isPrefixOf_iff_prefix]
  exact ⟨fun ⟨r, h⟩ => ⟨r, h.symm⟩, fun ⟨r, h⟩ => ⟨r, h.symm⟩⟩
theorem cutV_mid {xs : List V} (i j : Nat) : cutV xs (some (i : Int)) (some (j : Int)) = (xs.drop i).take (j - i) := by
  unfold cutV
  rw [HT.sIx_nat, HT.sIx_nat]
  by_cases h : i ≤ xs.length
  · rw [Nat.min_eq_left h]
    by_cases h2 : j ≤ xs.length
    · rw [Nat.min_eq_left h2]
    · rw [Nat.min_eq_right (by omega), List.take_of_length_le (by rw [List.length_drop]; omega), List.take_of_length_le (by rw [List.length_drop]; omega)]
  · have hi : min i xs.length = xs.length := Nat.min_eq_right (by omega)
    rw [hi]
    have e1 : xs.drop i = [] := List.drop_eq_nil_of_le (by omega)
    have e2 : xs.drop xs.length = [] := List.drop_eq_nil_of_le (by omega)
    rw [e1, e2]; simp
theorem cutV_from {xs : List V} (i : Nat) : cutV xs (some (i : Int)) none = xs.drop i := by
  unfold cutV
  rw [HT.sIx_nat, HT.sIx_none]
  by_cases h : i ≤ xs.length
  · rw [Nat.min_eq_left h, List.take_of_length_le (by rw [List.length_drop]; omega)]
  · have hi : min i xs.length = xs.length := Nat.min_eq_right (by omega)
    rw [hi]
    have e1 : xs.drop i = [] := List.drop_eq_nil_of_le (by omega)
    have e2 : xs.drop xs.length = [] := List.drop_eq_nil_of_le (by omega)
    rw [e1, e2]; simp
theorem r_iteN' {p : Prop} {dp : Decidable p} {A B : Prop} (y : p → A) (n : ¬ p → B) : if decide p = true then A else B := by
  by_cases h : p
  · rw [decide_eq_true h]; exact y h
  · rw [decide_eq_false h]; exact n h
theorem at_0 {x : V} {xs : List V} : atI (x :: xs) 0 = some x := atI_nat (xs := x :: xs) (j := 0) rfl
theorem at_1 {x y : V} {xs : List V} : atI (x :: y :: xs) 1 = some y := atI_nat (xs := x :: y :: xs) (j := 1) rfl
theorem at_2 {x y z : V} {xs : List V} : atI (x :: y :: z :: xs) 2 = some z := atI_nat (xs := x :: y :: z :: xs) (j := 2) rfl
theorem tru_l {K : PySem.W.Frag} {H : Hp} {a : Addr} {xs : List V} {k : Bool} (h : SqL K H a xs) (e : k = !xs.isEmpty) : TruV K (.ref a) H k := .inl ⟨xs, h, e⟩
theorem hu65_of {k : Nat} {A : Around} (r : Room k A) : A.units + 65 < cLine := by have := r.un; omega
theorem shaped_of {d : PyData} (h : flatN d = true) (k : d.depth ≤ 64) : SeqAt.shaped d = true := by
  unfold SeqAt.shaped
  rw [canLay_flat d h, decide_eq_true k]
  rfl
theorem same_upd {H H' : Hp} {D : Addr} {o : HO} (s : Same H H') (h : H D = none) : Same H (upd H' D o) := fun c u e => by
  rw [upd_ne (ne_of_none e h)]
  exact s c u e
theorem all_bl (l : List Nat) (f : Nat → Bool) : l.map (fun c => V.bl (f c)) = (l.map f).map V.bl := by rw [List.map_map]; rfl
theorem get_map {α : Type} {f : α → V} {l : List α} {i : Nat} {x : V} (h : (l.map f)[i]? = some x) : ∃ a, l[i]? = some a ∧ x = f a := by
  rw [List.getElem?_map] at h
  cases e : l[i]? with
  | none => rw [e] at h; cases h
  | some a => rw [e] at h; exact ⟨a, rfl, (Option.some.inj h).symm⟩
theorem take_next {α β : Type} {f : α → β} {l : List α} {i : Nat} {a : α} (h : l[i]? = some a) : (l.take i).map f ++ [f a] = (l.take (i + 1)).map f := by
  rw [List.take_succ, h]; simp
theorem acc_next {α : Type} {f : α → V} {l : List α} {acc : List V} {i : Nat} {a : α} (ha : acc = (l.take acc.length).map f) (hl : acc.length = i) (h : l[i]? = some a) : acc ++ [f a] = (l.take (acc ++ [f a]).length).map f := by
  subst hl
  rw [List.length_append]
  show _ = (l.take (acc.length + 1)).map f
  rw [← take_next h, ← ha]
theorem tru_lst {K : PySem.W.Frag} {H : Hp} {a : Addr} {xs : List V} {k : Bool} (h : SqL K H a xs) (e : k = !xs.isEmpty) : TruV K (.ref a) H k := .inl ⟨xs, h, e⟩
theorem new_end {H H1 : Hp} {p : Addr} {o : HO} (hp : H p = none) (e : upd H p o = H1) : Same H H1 ∧ H1 p = some o := by
  subst e
  exact ⟨same_new hp, upd_same⟩
theorem line_small {n : Nat} (h : n ≤ 1000) : n < sizeLine := small1000 h
theorem hu1 {k : Nat} {A : Around} (r : Room k A) : A.units + 1 < cLine := by have := r.un; omega
theorem cat_new {H : Hp} {Q : VK} {p0 : Addr} {xs ys : List V} (e : H p0 = some (.lst xs)) (l : xs.length + ys.length ≤ 1000) (q : ∀ H' p, Same H H' → H' p = some (.lst (xs ++ ys)) → Q (.ref p) H') :
    ys.length ≤ sizeLine ∧ ∀ p, H p = none → rCat (.ref p0) (.ref p) (upd H p (.lst ys)) Q :=
  ⟨Nat.le_of_lt (line_small (by omega)), fun p hp => ⟨p0, p, xs, ys, rfl, rfl, same_new hp _ _ e, upd_same, Nat.le_of_lt (line_small l), fun r hr => q _ r (Same.trans (same_new hp) (same_new hr)) upd_same⟩⟩
theorem cat_two {H : Hp} {Q : VK} {p0 p1 : Addr} {xs ys : List V} (e : H p0 = some (.lst xs)) (e1 : H p1 = some (.lst ys)) (l : xs.length + ys.length ≤ 1000) (q : ∀ H' p, Same H H' → H' p = some (.lst (xs ++ ys)) → Q (.ref p) H') : rCat (.ref p0) (.ref p1) H Q :=
  ⟨p0, p1, xs, ys, rfl, rfl, e, e1, Nat.le_of_lt (line_small l), fun r hr => q _ r (same_new hr) upd_same⟩
theorem sl_new {K : PySem.W.Frag} {H : Hp} {Q : VK} {p0 : Addr} {xs : List V} {lo hi : Option Int} (e : H p0 = some (.lst xs)) (q : ∀ H' p, Same H H' → H' p = some (.lst (cutV xs lo hi)) → Q (.ref p) H') : rSlL K (.ref p0) lo hi H Q :=
  r_slL (SqL.of e) fun p hp => q _ p (same_new hp) upd_same
theorem _root_.K1.IsBag.same {H H' : Hp} {b : Addr} {n : Nat} (h : IsBag H b n) (s : Same H H') : IsBag H' b n := by
  obtain ⟨d, x, c, e, r⟩ := h
  exact ⟨d, x, c, s _ _ e, r⟩
theorem cat_twoF {H : Hp} {Q : VK} {p0 p1 : Addr} {xs ys : List V} (e : H p0 = some (.lst xs)) (e1 : H p1 = some (.lst ys)) (l : xs.length + ys.length ≤ 1000) (q : ∀ H' p, H p = none → Same H H' → H' p = some (.lst (xs ++ ys)) → Q (.ref p) H') : rCat (.ref p0) (.ref p1) H Q :=
  ⟨p0, p1, xs, ys, rfl, rfl, e, e1, Nat.le_of_lt (line_small l), fun r hr => q _ r hr (same_new hr) upd_same⟩
theorem sl_newF {K : PySem.W.Frag} {H : Hp} {Q : VK} {p0 : Addr} {xs : List V} {lo hi : Option Int} (e : H p0 = some (.lst xs)) (q : ∀ H' p, H p = none → Same H H' → H' p = some (.lst (cutV xs lo hi)) → Q (.ref p) H') : rSlL K (.ref p0) lo hi H Q :=
  r_slL (SqL.of e) fun p hp => q _ p hp (same_new hp) upd_same
theorem none_ok {P : Program} {w : World} {K : PySem.W.Frag} {mg : Str → Option Value} {base : Heap} {f : Addr} {fd : FuncData} {k : Nat} {ps : List Str} {sp : Sp} (no : ∀ vs H Q E, ¬ sp vs H Q E) : FnOk P w K mg base CX0 k f fd ps sp :=
  ⟨fun vs H Q E h => absurd h (no vs H Q E), fun A outer s H args us vs Q E _ _ _ _ h => absurd h (no vs H Q E)⟩
section
variable {X : Cx} {T : String} {name : Str} {id : String} {r : V → List V → Hp → VK → Prop} {o : Expr} {to : TE} {e : Expr} {es : List Expr} {t : TA} {apos cpos : Pos}
theorem pe_bmK {K : PySem.W.Frag} (hK : X.K = K) (pa : PlainAttrs T) (slot : Slot T name id) (hty : typeOf (.builtin id) = Pure.pure (.type "method_descriptor")) (hm : MtR X id r) (ho : PE X o to) (ha : PA X (e :: es) t)
    (hbase : attributeBase o name X.env (eval o X.env) = eval o X.env := by rfl)
    (hfew : ((backTo cpos (starEach (e :: es) X.env)).all (fun x => !x.1) && (backToKw cpos (keywordEach [] X.env)).all (fun x => x.1.isSome)
      && decide ((e :: es).length + ([] : List Keyword).length + (if ([] : List Keyword).isEmpty then 0 else 1) < 30)) = true := by rfl)
    (hline : (apos.endLine == cpos.line) = true := by rfl) (hs : starEach (e :: es) X.env = (false, eval e X.env) :: starEach es X.env := by rfl) (hplain : (backTo cpos (starEach es X.env)).any (·.1) = false := by rfl) :
    PE X (.Call (.Attribute o name apos) (e :: es) [] cpos) (tBM K T r to t) := by
  subst hK
  exact pe_bm pa slot hty hm ho ha hbase hfew hline hs hplain
end
end K4

/-! D11 -/
/-! The data of rules: their shapes; lists in place of tuples; what a new thing holds; ends of texts. -/
namespace K4
open PySem L2 K1
theorem line60 {n : Nat} (h : n ≤ 1000) : n < sizeLine := small1000 h
def spIntsWord (K : PySem.W.Frag) : Sp := fun vs H Q _ => ∃ (v : V) (ns : List Nat), vs = [v] ∧ NumsAt K H v ns ∧ ns.length ≤ 60 ∧ (∀ n ∈ ns, n ≤ 60) ∧ ∀ H', Same H H' → Q (.str (commas ns)) H'
def spRW (K : PySem.W.Frag) (n : Nat) : Sp := fun vs H Q _ => ∃ (v : V) (r : R), vs = [v] ∧ RAt K H v r ∧ r.ok ∧ r.parts ≤ 100 ∧ r.depth ≤ n ∧ ∀ H' p, Same H H' → H p = none → H' p = some (.lst (r.words.map V.str)) → Q (.ref p) H'
theorem kind_of {o : Ow} {k : Nat} (hk : k < 9) (h : V.str o.word = V.str (wd k)) : o.kind = k := wd_inj _ o.kind_lt _ hk (V.str.inj h)
theorem at0 {x : V} {xs : List V} : atI (x :: xs) 0 = some x := at_0
theorem strOk_of {z : Str} (h : ∀ c ∈ tl z, c < 1114112) : PyData.strOk z = true := by
  unfold PyData.strOk
  rw [← Array.all_toList]
  exact List.all_eq_true.mpr fun c hc => decide_eq_true (h c hc)
theorem all_lt : ∀ c ∈ tl K4.ALL, c < 1114112 := by decide +kernel
theorem wd_str : ∀ i < 9, PyData.strOk (wd i) = true := by decide +kernel
theorem Face.str {f : Str} (h : Face f) : PyData.strOk f = true := strOk_of fun c hc => all_lt c (h.2.2 c hc)
theorem Ow.flat {o : Ow} (h : o.ok) (t : Bool) : ∀ d ∈ o.data t, flatN d = true ∧ d.depth ≤ 2 := by
  have nums : ∀ ns : List Nat, flatN (sq t (ns.map pn)) = true ∧ (sq t (ns.map pn)).depth ≤ 1 := fun ns =>
    ⟨flat_sq fun d hd => (mem_map_pn hd).1, depth_sq (n := 0) fun d hd => (mem_map_pn hd).2⟩
  cases o with
  | sum m ws g =>
    intro d hd
    simp only [Ow.data, List.mem_cons, List.not_mem_nil, or_false] at hd
    rcases hd with rfl | rfl | rfl
    · exact ⟨rfl, Nat.zero_le _⟩
    · exact ⟨(nums ws).1, Nat.le_trans (nums ws).2 (by decide)⟩
    · exact ⟨rfl, Nat.zero_le _⟩
  | square rows gs =>
    intro d hd
    simp only [Ow.data, List.mem_cons, List.not_mem_nil, or_false] at hd
    rcases hd with rfl | rfl
    · exact ⟨flat_sq fun d hd => by obtain ⟨r, _, rfl⟩ := List.mem_map.mp hd; exact (nums r).1, depth_sq (n := 1) fun d hd => by obtain ⟨r, _, rfl⟩ := List.mem_map.mp hd; exact (nums r).2⟩
    · exact ⟨(nums gs).1, Nat.le_trans (nums gs).2 (by decide)⟩
  | faces fs =>
    intro d hd
    simp only [Ow.data, List.mem_cons, List.not_mem_nil, or_false] at hd
    subst hd
    refine ⟨flat_sq fun d hd => by obtain ⟨r, hr, rfl⟩ := List.mem_map.mp hd; exact (h.2.2 r hr).str, Nat.le_trans (depth_sq (n := 0) fun d hd => ?_) (by decide)⟩
    obtain ⟨r, hr, rfl⟩ := List.mem_map.mp hd
    exact Nat.le_refl _
  | cut a b =>
    intro d hd
    simp only [Ow.data, List.mem_cons, List.not_mem_nil, or_false] at hd
    rcases hd with rfl | rfl <;> exact ⟨rfl, Nat.zero_le _⟩
  | _ => intro d hd; simp [Ow.data] at hd
theorem R.flat (t : Bool) : ∀ {r : R}, r.ok → flatN (r.data t) = true ∧ (r.data t).depth ≤ r.depth + 2
  | .n0 o, h => by
    have a := Ow.flat h.1 t
    refine ⟨flat_sq fun d hd => ?_, depth_sq (n := 2) fun d hd => ?_⟩
    all_goals
      simp only [List.mem_cons] at hd
      rcases hd with rfl | hd
    · exact wd_str _ o.kind_lt
    · exact (a d hd).1
    · exact Nat.zero_le _
    · exact (a d hd).2
  | .n1 o r, h => by
    have a := Ow.flat h.1 t
    have b := R.flat t h.2.2
    refine ⟨flat_sq fun d hd => ?_, depth_sq (n := r.depth + 2) fun d hd => ?_⟩
    all_goals
      simp only [List.mem_cons, List.mem_append, List.not_mem_nil, or_false] at hd
      rcases hd with rfl | hd | rfl
    · exact wd_str _ o.kind_lt
    · exact (a d hd).1
    · exact b.1
    · exact Nat.zero_le _
    · exact Nat.le_trans (a d hd).2 (by omega)
    · exact b.2
  | .n2 o r s, h => by
    have a := Ow.flat h.1 t
    have b := R.flat t h.2.2.1
    have c := R.flat t h.2.2.2
    refine ⟨flat_sq fun d hd => ?_, depth_sq (n := max r.depth s.depth + 2) fun d hd => ?_⟩
    all_goals
      simp only [List.mem_cons, List.mem_append, List.not_mem_nil, or_false] at hd
      rcases hd with rfl | hd | rfl | rfl
    · exact wd_str _ o.kind_lt
    · exact (a d hd).1
    · exact b.1
    · exact c.1
    · exact Nat.zero_le _
    · exact Nat.le_trans (a d hd).2 (by omega)
    · exact Nat.le_trans b.2 (by omega)
    · exact Nat.le_trans c.2 (by omega)
theorem R.shaped (t : Bool) {r : R} (h : r.ok) (k : r.depth ≤ 62) : SeqAt.shaped (r.data t) = true := shaped_of (R.flat t h).1 (Nat.le_trans (R.flat t h).2 (by omega))
theorem R.refl (t : Bool) {r : R} (h : r.ok) : PyData.eqv (r.data t) (r.data t) = true := SeqAt.eqv_refl _ (canLay_flat _ (R.flat t h).1)
mutual
def lstd : PyData → PyData
  | .tuple ds => .list (lstA ds)
  | d => d
def lstA : List PyData → List PyData
  | [] => []
  | d :: ds => lstd d :: lstA ds
end
theorem lstA_map : ∀ ds : List PyData, lstA ds = ds.map lstd
  | [] => rfl
  | d :: ds => by rw [lstA, lstA_map ds]; rfl
theorem lstd_nums (ns : List Nat) : (ns.map pn).map lstd = ns.map pn := by
  rw [List.map_map]
  exact List.map_congr_left fun n _ => by simp [pn, lstd]
theorem lstd_tup (ds : List PyData) : lstd (.tuple ds) = .list (ds.map lstd) := by rw [lstd, lstA_map]
theorem Ow.lst (o : Ow) : (o.data true).map lstd = o.data false := by
  cases o with
  | sum m ws g => simp only [Ow.data, List.map_cons, List.map_nil, sq, if_true, lstd_tup, lstd_nums]; simp [pn, lstd]
  | square rows gs =>
    simp only [Ow.data, List.map_cons, List.map_nil, sq, if_true, lstd_tup, lstd_nums, List.map_map]
    simp only [Bool.false_eq_true, if_false]
    refine congrArg (fun x => [PyData.list x, PyData.list (gs.map pn)]) ?_
    exact List.map_congr_left fun r _ => by show lstd (.tuple (r.map pn)) = _; rw [lstd_tup, lstd_nums]
  | faces fs =>
    simp only [Ow.data, List.map_cons, List.map_nil, sq, if_true, lstd_tup, List.map_map]
    simp only [Bool.false_eq_true, if_false]
    refine congrArg (fun x => [PyData.list x]) ?_
    exact List.map_congr_left fun r _ => by simp [lstd]
  | cut a b => simp [Ow.data, pn, lstd]
  | _ => simp [Ow.data]
theorem R.lst : ∀ r : R, lstd (r.data true) = r.data false
  | .n0 o => by
    show lstd (.tuple _) = .list _
    rw [lstd_tup, List.map_cons, o.lst]
    simp [lstd]
  | .n1 o a => by
    show lstd (.tuple _) = .list _
    rw [lstd_tup, List.map_cons, List.map_append, o.lst, List.map_cons, a.lst]
    simp [lstd]
  | .n2 o a b => by
    show lstd (.tuple _) = .list _
    rw [lstd_tup, List.map_cons, List.map_append, o.lst, List.map_cons, List.map_cons, a.lst, b.lst]
    simp [lstd]
mutual
def wide : PyData → Bool
  | .tuple ds => decide (ds.length ≤ 1000) && wideA ds
  | _ => true
def wideA : List PyData → Bool
  | [] => true
  | d :: ds => wide d && wideA ds
end
theorem wideA_iff : ∀ {ds : List PyData}, wideA ds = true ↔ ∀ d ∈ ds, wide d = true
  | [] => by simp [wideA]
  | d :: ds => by simp [wideA, wideA_iff]
theorem wide_tup {ds : List PyData} (h : ds.length ≤ 1000) (k : ∀ d ∈ ds, wide d = true) : wide (.tuple ds) = true := by
  rw [wide, decide_eq_true h, wideA_iff.mpr k]
  rfl
theorem wide_nums {ns : List Nat} (h : ns.length ≤ 1000) : wide (.tuple (ns.map pn)) = true := wide_tup (by rw [List.length_map]; exact h) fun d hd => by obtain ⟨n, _, rfl⟩ := List.mem_map.mp hd; rfl
theorem Ow.wide {o : Ow} (h : o.ok) : ∀ d ∈ o.data true, K4.wide d = true := by
  cases o with
  | sum m ws g =>
    intro d hd
    simp only [Ow.data, List.mem_cons, List.not_mem_nil, or_false] at hd
    rcases hd with rfl | rfl | rfl
    · rfl
    · exact wide_nums (by have := h.2.2.1.2.1; omega)
    · rfl
  | square rows gs =>
    intro d hd
    simp only [Ow.data, List.mem_cons, List.not_mem_nil, or_false] at hd
    rcases hd with rfl | rfl
    · exact wide_tup (by rw [List.length_map]; have := h.2.1; omega) fun d hd => by obtain ⟨r, hr, rfl⟩ := List.mem_map.mp hd; exact wide_nums (by have := (h.2.2.1 r hr).2.1; omega)
    · exact wide_nums (by have := h.2.2.2.2.1; omega)
  | faces fs =>
    intro d hd
    simp only [Ow.data, List.mem_cons, List.not_mem_nil, or_false] at hd
    subst hd
    exact wide_tup (by rw [List.length_map]; have := h.2.1; omega) fun d hd => by obtain ⟨r, hr, rfl⟩ := List.mem_map.mp hd; rfl
  | cut a b =>
    intro d hd
    simp only [Ow.data, List.mem_cons, List.not_mem_nil, or_false] at hd
    rcases hd with rfl | rfl <;> rfl
  | _ => intro d hd; simp [Ow.data] at hd
theorem R.wide : ∀ {r : R}, r.ok → K4.wide (r.data true) = true
  | .n0 o, h => wide_tup (by have := mn_le o.kind; rw [List.length_cons, Ow.data_len]; omega) fun d hd => by
      simp only [List.mem_cons] at hd
      rcases hd with rfl | hd
      · rfl
      · exact Ow.wide h.1 d hd
  | .n1 o a, h => wide_tup (by have := mn_le o.kind; rw [List.length_cons, List.length_append, Ow.data_len]; simp only [List.length_cons, List.length_nil]; omega) fun d hd => by
      simp only [List.mem_cons, List.mem_append, List.not_mem_nil, or_false] at hd
      rcases hd with rfl | hd | rfl
      · rfl
      · exact Ow.wide h.1 d hd
      · exact R.wide h.2.2
  | .n2 o a b, h => wide_tup (by have := mn_le o.kind; rw [List.length_cons, List.length_append, Ow.data_len]; simp only [List.length_cons, List.length_nil]; omega) fun d hd => by
      simp only [List.mem_cons, List.mem_append, List.not_mem_nil, or_false] at hd
      rcases hd with rfl | hd | rfl | rfl
      · rfl
      · exact Ow.wide h.1 d hd
      · exact R.wide h.2.2.1
      · exact R.wide h.2.2.2
/-! ### what is new in a heap -/
def New (H H' : Hp) : Hp := fun c => match H c with | none => H' c | some _ => none
theorem New.same {H H' : Hp} : Same (New H H') H' := fun c u e => by
  unfold New at e
  cases h : H c with
  | none => rw [h] at e; exact e
  | some o => rw [h] at e; cases e
theorem New.at {H H' : Hp} {c : Addr} (h : H c = none) : New H H' c = H' c := by unfold New; rw [h]
theorem New.le {H0 H1 H H' : Hp} (a : ∀ c, H1 c = none → H0 c = none) (s : ∀ c u, H1 c = none → H c = some u → H' c = some u) : Same (New H1 H) (New H0 H') := fun c u e => by
  unfold New at e
  cases h : H1 c with
  | none => rw [h] at e; rw [New.at (a c h)]; exact s c u h e
  | some o => rw [h] at e; cases e
section
variable {K : PySem.W.Frag} {H : Hp} {a : Addr} {xs : List V}
theorem tyxT (h : SqT K H a xs) : TyX K H (.ref a) (.type "tuple") := by
  rcases h with (h | ⟨u, h⟩) | ⟨o, its, n, e, c, _⟩
  · exact .base (.tup h)
  · exact .fTuple h
  · exact .kTuple e c
theorem tyxL (h : SqL K H a xs) : TyX K H (.ref a) (.type "list") := by
  rcases h with (h | ⟨u, h⟩) | ⟨o, its, n, e, c, _⟩
  · exact .base (.lst h)
  · exact .base (.frz h)
  · exact .kList e c
end
/-! ### ends of texts -/
theorem ends_app (x y r : Str) (h : tl x = tl r ++ tl y) : Txt.endswith x y = true := by
  have lx : x.length = r.length + y.length := by rw [len_tl x, len_tl r, len_tl y, h, List.length_append]
  unfold Txt.endswith
  rw [PySem.StrLaws.subAt_eq]
  have e : x.length - y.length = (tl r).length := by rw [lx, ← len_tl r]; omega
  have e2 : y.length = (tl y).length := len_tl y
  show (decide (0 + y.length ≤ x.length) && (((tl x).drop (x.length - y.length)).take y.length == tl y)) = true
  rw [e, h, List.drop_left, e2, List.take_length, decide_eq_true (by omega)]
  simp
theorem joinL_app {S : List Nat} : ∀ {xs ys : List (List Nat)}, xs ≠ [] → ys ≠ [] → TL.joinL S (xs ++ ys) = TL.joinL S xs ++ (S ++ TL.joinL S ys)
  | [], _, h, _ => absurd rfl h
  | [x], [], _, h => absurd rfl h
  | [x], y :: ys, _, _ => rfl
  | x :: z :: xs, ys, _, h => by
    show x ++ (S ++ TL.joinL S (z :: xs ++ ys)) = x ++ (S ++ TL.joinL S (z :: xs)) ++ _
    rw [joinL_app (by simp) h]
    simp
theorem join_app {s : Str} {xs ys : List Str} (h : xs ≠ []) (k : ys ≠ []) : tl (Txt.join s (xs ++ ys)) = tl (Txt.join s xs) ++ (tl s ++ tl (Txt.join s ys)) := by
  rw [tl_joinL, tl_joinL, tl_joinL, List.map_append, joinL_app (by simpa using h) (by simpa using k)]
end K4

/-! Q11 -/

/-! Rules that fit signs, and what they say of a paper: pure. -/
namespace K4
open PySem L2
def Ow.fit (z : List Nat) : Ow → Prop
  | .sum m ws g => 2 ≤ m ∧ m ≤ 60 ∧ ws ≠ [] ∧ ws.length ≤ 8 ∧ (∀ w ∈ ws, w < m) ∧ g < m
  | .square rows gs => rows ≠ [] ∧ rows.length ≤ 60 ∧ (∀ r ∈ rows, r.length = z.length ∧ ∀ x ∈ r, x < rows.length) ∧ gs ≠ [] ∧ gs.Pairwise (· < ·) ∧ ∀ g ∈ gs, g < rows.length
  | .faces fs => fs ≠ [] ∧ fs.length ≤ 4 ∧ ∀ f ∈ fs, (tl f).length = z.length ∧ ∀ c ∈ tl f, c ∈ z
  | .cut a b => a ≤ 3 ∧ b ≤ 3
  | _ => True
def R.fit (z : List Nat) : R → Prop
  | .n0 o => o.fit z ∧ ar o.kind = 0 | .n1 o a => o.fit z ∧ ar o.kind = 1 ∧ a.fit z | .n2 o a b => o.fit z ∧ ar o.kind = 2 ∧ a.fit z ∧ b.fit z
theorem R.fit_ow {z : List Nat} : ∀ {r : R}, r.fit z → r.ow.fit z ∧ r.inner.length = ar r.ow.kind
  | .n0 _, h => ⟨h.1, h.2.symm⟩
  | .n1 _ _, h => ⟨h.1, h.2.1.symm⟩
  | .n2 _ _ _, h => ⟨h.1, h.2.1.symm⟩
theorem R.fit_in {z : List Nat} : ∀ {r : R}, r.fit z → ∀ i ∈ r.inner, i.fit z
  | .n0 _, _, i, q => by simp [R.inner] at q
  | .n1 _ _, h, i, q => by simp only [R.inner, List.mem_cons, List.not_mem_nil, or_false] at q; rw [q]; exact h.2.2
  | .n2 _ _ _, h, i, q => by
    simp only [R.inner, List.mem_cons, List.not_mem_nil, or_false] at q
    rcases q with rfl | rfl
    · exact h.2.2.1
    · exact h.2.2.2
/-- ascending numbers below n are at most n many -/
theorem asc_len : ∀ {gs : List Nat} {n : Nat} (k : Nat), gs.Pairwise (· < ·) → (∀ g ∈ gs, k ≤ g ∧ g < n) → gs.length + k ≤ max n k
  | [], n, k, _, _ => by simp; omega
  | g :: gs, n, k, h, b => by
    rw [List.pairwise_cons] at h
    have b0 := b g (List.mem_cons_self ..)
    have ih := asc_len (gs := gs) (n := n) (g + 1) h.2 fun y hy => ⟨h.1 y hy, (b y (List.mem_cons_of_mem _ hy)).2⟩
    rw [List.length_cons]
    omega
theorem Ow.fit_ok {z : List Nat} (z2 : 2 ≤ z.length) (z12 : z.length ≤ 12) (zA : ∀ c ∈ z, c ∈ tl ALL) : ∀ {o : Ow}, o.fit z → o.ok
  | .sum m ws g, ⟨h1, h2, h3, h4, h5, h6⟩ => ⟨h1, h2, ⟨h3, by omega, fun n q => by have := h5 n q; omega⟩, h4, by omega⟩
  | .square rows gs, ⟨h1, h2, h3, h4, h5, h6⟩ => ⟨h1, h2, fun r q => ⟨by have := (h3 r q).1; omega, by have := (h3 r q).1; omega, fun x hx => by have := (h3 r q).2 x hx; omega⟩,
      h4, by have := asc_len (n := rows.length) 0 h5 fun g q => ⟨Nat.zero_le _, h6 g q⟩; omega, fun n q => by have := h6 n q; omega⟩
  | .faces fs, ⟨h1, h2, h3⟩ => ⟨h1, h2, fun f q => ⟨by have := (h3 f q).1; omega, by have := (h3 f q).1; omega, fun c hc => zA c ((h3 f q).2 c hc)⟩⟩
  | .cut a b, h => h
  | .any, _ => trivial
  | .back, _ => trivial
  | .not, _ => trivial
  | .both, _ => trivial
  | .either, _ => trivial
theorem R.fit_ok {z : List Nat} (z2 : 2 ≤ z.length) (z12 : z.length ≤ 12) (zA : ∀ c ∈ z, c ∈ tl ALL) : ∀ {r : R}, r.fit z → r.ok
  | .n0 _, h => ⟨Ow.fit_ok z2 z12 zA h.1, h.2⟩
  | .n1 _ _, h => ⟨Ow.fit_ok z2 z12 zA h.1, h.2.1, R.fit_ok z2 z12 zA h.2.2⟩
  | .n2 _ _ _, h => ⟨Ow.fit_ok z2 z12 zA h.1, h.2.1, R.fit_ok z2 z12 zA h.2.2.1, R.fit_ok z2 z12 zA h.2.2.2⟩
def wat (ws : List Nat) (k : Nat) : Nat := ws.getD (k % ws.length) 0
def term (z ws p : List Nat) (k : Nat) : Nat := wat ws k * z.idxOf (p.getD k 0)
def tot (z ws p : List Nat) (n : Nat) : Nat := ((List.range n).map (term z ws p)).sum
def fch (z : List Nat) (fs : List Str) (p : List Nat) (k : Nat) : Nat := (tl (fs.getD (k % fs.length) "")).getD (z.idxOf (p.getD k 0)) 0
def faced (z : List Nat) (fs : List Str) (p : List Nat) : List Nat := (List.range p.length).map (fch z fs p)
def stp (z : List Nat) (rows : List (List Nat)) (at_ c : Nat) : Nat := (rows.getD at_ []).getD (z.idxOf c) 0
def runs (z : List Nat) (rows : List (List Nat)) (at_ : Nat) (p : List Nat) : Nat := p.foldl (stp z rows) at_
def ev (z : List Nat) : R → List Nat → Bool
  | .n0 (.sum m ws g), p => decide (tot z ws p p.length % m = g)
  | .n0 (.square rows gs), p => decide (runs z rows 0 p ∈ gs)
  | .n0 _, _ => true
  | .n1 (.faces fs) a, p => ev z a (faced z fs p)
  | .n1 .back a, p => ev z a p.reverse
  | .n1 (.cut x y) a, p => decide (x + y ≤ p.length) && ev z a ((p.drop x).take (p.length - y - x))
  | .n1 _ a, p => !ev z a p
  | .n2 .both a b, p => ev z a p && ev z b p
  | .n2 _ a b, p => ev z a p || ev z b p
theorem tot_succ (z ws p : List Nat) (n : Nat) : tot z ws p (n + 1) = tot z ws p n + term z ws p n := by
  unfold tot
  rw [List.range_succ, List.map_append, List.sum_append]
  simp
/-- a paper over signs -/
structure Pp (z : List Nat) (p : List Nat) : Prop where
  le : p.length ≤ 60
  all : ∀ c ∈ p, c ∈ z
theorem mod_lt {α : Type} {xs : List α} (h : xs ≠ []) (k : Nat) : k % xs.length < xs.length := Nat.mod_lt _ (List.length_pos_iff.mpr h)
theorem getD_mem {α : Type} {xs : List α} {i : Nat} {d : α} (h : i < xs.length) : xs.getD i d ∈ xs := by
  rw [List.getD_eq_getElem?_getD, List.getElem?_eq_getElem h]
  exact List.getElem_mem h
theorem getD_at {α : Type} {xs : List α} {i : Nat} {d : α} (h : i < xs.length) : xs[i]? = some (xs.getD i d) := by
  rw [List.getD_eq_getElem?_getD, List.getElem?_eq_getElem h]; rfl
theorem idx_lt {z : List Nat} {c : Nat} (h : c ∈ z) : z.idxOf c < z.length := List.idxOf_lt_length_iff.mpr h
theorem idx_at {z : List Nat} {c : Nat} (h : c ∈ z) : z[z.idxOf c]? = some c := by
  rw [List.getElem?_eq_getElem (idx_lt h)]
  exact congrArg some (List.getElem_idxOf (idx_lt h))
theorem faced_len (z : List Nat) (fs : List Str) (p : List Nat) : (faced z fs p).length = p.length := by rw [faced, List.length_map, List.length_range]
theorem fch_mem {z : List Nat} {fs : List Str} {p : List Nat} (h : Ow.fit z (.faces fs)) (hp : Pp z p) {k : Nat} (hk : k < p.length) : fch z fs p k ∈ z := by
  have hf := h.2.2 (fs.getD (k % fs.length) "") (getD_mem (mod_lt h.1 k))
  refine hf.2 _ (getD_mem ?_)
  rw [hf.1]
  exact idx_lt (hp.all _ (getD_mem hk))
theorem Pp.faced {z : List Nat} {fs : List Str} {p : List Nat} (h : Ow.fit z (.faces fs)) (hp : Pp z p) : Pp z (faced z fs p) := by
  refine ⟨by rw [faced_len]; exact hp.le, fun c hc => ?_⟩
  obtain ⟨k, hk, rfl⟩ := List.mem_map.mp hc
  exact fch_mem h hp (List.mem_range.mp hk)
theorem Pp.rev {z p : List Nat} (hp : Pp z p) : Pp z p.reverse := ⟨by rw [List.length_reverse]; exact hp.le, fun c hc => hp.all c (List.mem_reverse.mp hc)⟩
theorem Pp.cut {z p : List Nat} (hp : Pp z p) (i j : Nat) : Pp z ((p.drop i).take j) := ⟨by rw [List.length_take, List.length_drop]; have := hp.le; omega, fun c hc => hp.all c (List.mem_of_mem_drop (List.mem_of_mem_take hc))⟩
theorem stp_lt {z : List Nat} {rows : List (List Nat)} {gs : List Nat} (h : Ow.fit z (.square rows gs)) {a c : Nat} (ha : a < rows.length) (hc : c ∈ z) : stp z rows a c < rows.length := by
  have hr := h.2.2.1 _ (getD_mem (d := ([] : List Nat)) ha)
  exact hr.2 _ (getD_mem (by rw [hr.1]; exact idx_lt hc))
theorem runs_lt {z : List Nat} {rows : List (List Nat)} (h : ∀ a c, a < rows.length → c ∈ z → stp z rows a c < rows.length) : ∀ {p : List Nat} {a : Nat}, a < rows.length → (∀ c ∈ p, c ∈ z) → runs z rows a p < rows.length
  | [], _, ha, _ => ha
  | c :: p, a, ha, hp => by
    show runs z rows (stp z rows a c) p < _
    exact runs_lt h (h a c ha (hp c (List.mem_cons_self ..))) fun x hx => hp x (List.mem_cons_of_mem _ hx)
theorem runs_snoc (z : List Nat) (rows : List (List Nat)) (a : Nat) (p : List Nat) (c : Nat) : runs z rows a (p ++ [c]) = stp z rows (runs z rows a p) c := by
  unfold runs
  rw [List.foldl_append]
  rfl
end K4

/-! P11a -/

local macro_rules | `(tactic| walk_at "go") => `(tactic| repeat (first
  | with_reducible apply K1.r_seq
  | with_reducible apply K1.r_asg
  | ((with_reducible apply K1.r_name); (try dsimp only [List.set]))
  | ((with_reducible apply K1.r_var); (focus rfl))
  | with_reducible apply K1.r_c
  | with_reducible apply K1.r_op
  | with_reducible apply K1.r_un
  | with_reducible apply K1.r_I0
  | with_reducible apply K1.r_test
  | with_reducible apply K1.r_if
  | with_reducible apply K1.r_ifs
  | with_reducible apply K1.r_iteT
  | with_reducible apply K1.r_iteF
  | with_reducible apply K1.r_and
  | with_reducible apply K1.r_or
  | with_reducible apply K1.r_not
  | with_reducible apply K1.r_tB
  | with_reducible apply K1.r_andV
  | with_reducible apply K1.r_orV
  | with_reducible apply K1.r_notV
  | with_reducible apply K1.r_cb
  | with_reducible apply K1.r_cons
  | with_reducible apply K1.r_star
  | with_reducible apply K1.r_nil
  | with_reducible apply K1.r_ret
  | with_reducible apply K1.r_next
  | with_reducible apply K1.r_drop
  | with_reducible apply K1.r_lst
  | with_reducible apply K1.r_tup
  | with_reducible apply K1.r_call
  | with_reducible apply K1.r_gsub
  | with_reducible apply K1.r_for
  | with_reducible apply K1.r_bm
  | with_reducible apply K1.r_bm0
  | with_reducible apply K1.r_sl
  | with_reducible apply K1.r_noPart
  | with_reducible apply K1.r_part
  | with_reducible apply K1.r_iStr
  | with_reducible apply K1.r_iSq
  | with_reducible apply K1.r_iRng1
  | with_reducible apply K1.r_m1
  | with_reducible apply K1.r_chain
  | ((with_reducible apply K1.r_eq); (focus rfl))
  | ((with_reducible apply K1.r_ne); (focus rfl))
  | with_reducible apply K1.r_gnil
  | with_reducible apply K1.r_gcons
  | with_reducible apply K1.r_tfld
  | with_reducible apply K1.r_sfld
  | with_reducible apply K1.r_meth
  | refine ⟨_, rfl, ?_⟩
  | refine ⟨⟨_, rfl⟩, ?_⟩
  | refine Or.inl ⟨_, rfl, ?_⟩
  | dsimp only))
namespace K4
open PySem L2 K1
/-- words that are no names -/
def noNames : List Str := ["signs", "series", "run", "words", "rule", "any", "sum", "square", "faces", "back", "cut", "both", "either", "not", "hand", "slip", "way", "desk", "clerk", "spell", "echo", "issue", "block", "use", "void", "again", "day", "edition"]
/-- the program's constants -/
structure G11 (K : PySem.W.Frag) (w : World) (mg : Str → Option Value) (tN dI : Addr) : Prop where
  LEAST_KINDS : GI mg "LEAST_KINDS" 2
  MOST_KINDS : GI mg "MOST_KINDS" 12
  MOST_SIGNS : GI mg "MOST_SIGNS" 60
  MOST_LETTERS : GI mg "MOST_LETTERS" 8
  MOST_FIELDS : GI mg "MOST_FIELDS" 6
  MOST_LEAST : GI mg "MOST_LEAST" 12
  MOST_RUN : GI mg "MOST_RUN" 12
  MOST_WORDS : GI mg "MOST_WORDS" 12
  MOST_WORD_SIGNS : GI mg "MOST_WORD_SIGNS" 4
  MOST_READINGS : GI mg "MOST_READINGS" 500
  ALL_SIGNS : GS mg "ALL_SIGNS" K4.ALL
  LETTERS : GS mg "LETTERS" "abcdefghijklmnopqrstuvwxyz"
  NN : mg "NO_NAMES" = some (.ref tN)
  nn : ∀ H : Hp, SqT K H tN (noNames.map V.str)
end K4
namespace K1
open PySem L2
abbrev sIsText : Stmt := top 13
abbrev nIsText : List Str := ["thing", "least", "most", "characters", "character"]
theorem scIsText : FnScope nIsText ["thing", "least", "most", "characters"] (defScope sIsText) := ⟨rfl, rfl, rfl, by decide +kernel, rfl, by decide +kernel, by decide +kernel⟩
abbrev sIsAsc : Stmt := top 14
abbrev nIsAsc : List Str := ["things", "k"]
theorem scIsAsc : FnScope nIsAsc ["things"] (defScope sIsAsc) := ⟨rfl, rfl, rfl, by decide +kernel, rfl, by decide +kernel, by decide +kernel⟩
abbrev sAreSigns : Stmt := top 27
abbrev nAreSigns : List Str := ["thing"]
theorem scAreSigns : FnScope nAreSigns ["thing"] (defScope sAreSigns) := ⟨rfl, rfl, rfl, by decide +kernel, rfl, by decide +kernel, by decide +kernel⟩
section
variable {K : PySem.W.Frag} {σ : L2.St} {H : Hp} {Q : VK} {D : Addr} {vs : List Nat} {te : TE} {Qd : Hp → Prop} {ta tb tc : TE}
/-- [f i for i in range(n)], the heap left as it was -/
theorem lc_rmap {i n : Nat} (f : Nat → V) (hD : H D = none) (hz : n ≤ sizeLine) (hw : ∀ x, wipe ((wipe σ vs).set i (some x)) vs = wipe σ vs)
    (he : ∀ j, j < n → ∀ (H' : Hp) (R : VK), Same H H' → R (f j) H' → te ((wipe σ vs).set i (some (.int (0 + j)))) H' R) (hd : Qd (upd H D (.lst ((List.range n).map f)))) :
    ∃ W : Nat → Nat → Hp → Prop, (∃ m, W 0 m (upd H D (.lst []))) ∧ ∀ i₁ m H, W i₁ m H →
      ((Itr 0 n).stop i₁ H ∧ Qd H) ∨ ((Itr 0 n).go i₁ H ∧ ∃ Nx : Hp → Prop, (∀ H', Nx H' → ∃ m', m' < m ∧ W (i₁ + 1) m' H') ∧ ∀ x H', (Itr 0 n).yld i₁ H x H' → gName i x (wipe σ vs) H' fun σ2 H2 => wipe σ2 vs = wipe σ vs ∧ tYes σ2 H2 fun b H3 =>
        if b = true then te σ2 H3 fun y H4 => ∃ acc, H4 D = some (.lst acc) ∧ acc.length < sizeLine ∧ Nx (upd H4 D (.lst (acc ++ [y]))) else Nx H3) := by
  refine lc_range (lo := 0) (n := n) (fun j H' => j ≤ n ∧ H' = upd H D (.lst ((List.range j).map f))) ⟨Nat.zero_le _, rfl⟩ ?_ (fun H' ⟨_, e⟩ => by rw [e]; exact hd)
  rintro j H' hj ⟨_, rfl⟩
  refine ⟨hw _, ?_⟩
  show te _ _ _
  refine he j hj _ _ (same_new hD) ⟨_, upd_same, ?_, ?_⟩
  · simp only [List.length_map, List.length_range]; omega
  · refine ⟨by omega, ?_⟩
    rw [upd_upd, List.range_succ, List.map_append]; rfl
end
theorem len_tl' (x : Str) : x.length = (tl x).length := by simp [Str.length]
def ascL (l : List Nat) : Bool := (List.range (l.length - 1)).all fun k => decide (l.getD k 0 < l.getD (k + 1) 0)
def textB (lo hi : Int) (cs y : Str) : Bool := decide (lo ≤ y.length) && (decide ((y.length : Int) ≤ hi) && (tl y).all fun c => decide (c ∈ tl cs))
def signsB (y : Str) : Bool := textB 2 12 ALL y && ascL (tl y)
def NoText (K : PySem.W.Frag) (H : Hp) (x : V) : Prop := ∃ t, TyX K H x (.type t) ∧ PySem.W.kitOne K (.type t) (.type "str") = some false
def spIsText (K : PySem.W.Frag) : Sp := fun vs H Q _ => ∃ (x : V) (lo hi : Int) (cs : Str), vs = [x, .int lo, .int hi, .str cs] ∧ ((∃ y : Str, x = .str y ∧ y.length ≤ 1000 ∧ ∀ H', Same H H' → Q (.bl (textB lo hi cs y)) H') ∨ (NoText K H x ∧ Q (.bl false) H))
def spIsAsc : Sp := fun vs H Q _ => ∃ y : Str, vs = [.str y] ∧ y.length ≤ 1000 ∧ ∀ H', Same H H' → Q (.bl (ascL (tl y))) H'
def spAreSigns (K : PySem.W.Frag) : Sp := fun vs H Q _ => ∃ x : V, vs = [x] ∧ ((∃ y : Str, x = .str y ∧ y.length ≤ 1000 ∧ ∀ H', Same H H' → Q (.bl (signsB y)) H') ∨ (NoText K H x ∧ Q (.bl false) H))
theorem all_bl (l : List Nat) (f : Nat → Bool) : l.map (fun c => V.bl (f c)) = (l.map f).map V.bl := by rw [List.map_map]; rfl
section
variable {P : Program} {w : World} {K : PySem.W.Frag} {mg : Str → Option Value} {base : Heap}
theorem ok_isText {f : Addr} {fd : FuncData} (F : Fun K "is_text" "is_text" sIsText f fd) (B : Bl mg) : FnOk P w K mg base CX0 1 f fd ["thing","least","most","characters"] (spIsText K) := by
  refine F.ok scIsText (fun vs H Q E h => ?_) (fun cdv A outer s H vs Q E hr h => ?_)
  · obtain ⟨x, lo, hi, cs, rfl, _⟩ := h
    rfl
  · obtain ⟨x, lo, hi, cs, rfl, h⟩ := h
    refine ⟨_, (pss_cons (ps_if (PW.pt (pw_or (pt_not (pt_val (pe_callB (id := "isinstance") (r := rIsi K) call_isi (by rfl) B.isin (by decide +kernel) (pa_cons (pv 0) (pa_cons (pe_bltn (v := .ty "str") (by rfl) B.str (by decide +kernel) rfl) pa_nil))))) (pw_or1 (pt_not (pt_chain op_le op_le (pv 1) (pe_callB call_len (by rfl) B.len PySem.boot_len (pa_cons (pv 0) pa_nil)) (pv 2)))))) (pss_one (ps_ret pe_bl)) pss_nil) (pss_one (ps_ret (pe_callB (cr_all rfl) (by rfl) B.all (by decide +kernel) (pa_cons (pe_lc (own := [("character", 4)]) (g := gName 4) (tt := tYes) rfl scIsText.nd (pi_str (pv 0)) (blkOk_by (N := nIsText) (sc := defScope sIsText) (by decide +kernel)) (fun _ _ _ _ _ => (pg_name (i := 4) scIsText.nd rfl (Or.inl rfl))) (fun _ _ _ _ _ => pts_nil) (fun _ _ _ _ _ => (pe_cmpR op_in_sign (pv 4) (pv 3) rfl))) pa_nil))))), ?_⟩
    try dsimp only [cxOf, Cx.nox, Cx.wish]
    rcases h with ⟨y, rfl, hy, k⟩ | ⟨⟨t, ht, hk⟩, k⟩
    · walk_at "go"
      refine r_isi (b := true) (.ty "str") (.base (.str _)) (kit_ty (by decide +kernel)) ?_
      walk_at "go"
      refine ⟨_, _, rfl, lenS (small_line hy), ?_⟩
      walk_at "go"
      unfold textB at k
      refine r_ite (fun h1 => ?_) (fun h1 => ?_)
      · rw [decide_eq_true h1, Bool.true_and] at k
        walk_at "go"
        by_cases h2 : (y.length : Int) ≤ hi
        · rw [decide_eq_true h2] at k ⊢
          rw [Bool.true_and] at k
          walk_at "go"
          intro D hD
          refine lc_smap (fun c => .bl (decide (c ∈ tl cs))) hD (small_line hy) (fun _ => rfl) (fun c hc H' R sm r => ?_) ?_
          · walk_at "go"
            exact ⟨c, cs, rfl, rfl, r⟩
          · walk_at "go"
            rw [all_bl]
            refine r_all (SqL.of upd_same) ?_
            have e : ((tl y).map fun c => decide (c ∈ tl cs)).all id = (tl y).all fun c => decide (c ∈ tl cs) := by rw [List.all_map]; rfl
            rw [e]
            exact k _ (same_new hD)
        · rw [decide_eq_false h2] at k ⊢
          walk_at "go"
          exact k H (Same.refl _)
      · rw [decide_eq_false h1] at k
        walk_at "go"
        exact k H (Same.refl _)
    · walk_at "go"
      refine r_isi (b := false) (.ty "str") ht hk ?_
      walk_at "go"
      exact k
theorem lt_ones (a b : Nat) : decide ((⟨#[a]⟩ : Str).cps.toList < (⟨#[b]⟩ : Str).cps.toList) = decide (a < b) := by
  show decide ([a] < [b]) = decide (a < b)
  have : [a] < [b] ↔ a < b := by
    rw [List.cons_lt_cons_iff]
    simp
  by_cases h : a < b
  · rw [decide_eq_true h, decide_eq_true (this.mpr h)]
  · rw [decide_eq_false h, decide_eq_false (fun q => h (this.mp q))]
theorem ok_isAsc {f : Addr} {fd : FuncData} (F : Fun K "is_ascending" "is_ascending" sIsAsc f fd) (B : Bl mg) : FnOk P w K mg base CX0 1 f fd ["things"] spIsAsc := by
  refine F.ok scIsAsc (fun vs H Q E h => ?_) (fun cdv A outer s H vs Q E hr h => ?_)
  · obtain ⟨y, rfl, _⟩ := h
    rfl
  · obtain ⟨y, rfl, hy, k⟩ := h
    refine ⟨_, (pss_one (ps_ret (pe_callB (cr_all rfl) (by rfl) B.all (by decide +kernel) (pa_cons (pe_lc (own := [("k", 1)]) (g := gName 1) (tt := tYes) rfl scIsAsc.nd (pi_range1 rfl B.range (pa_cons (pe_op op_sub (pe_callB call_len (by rfl) B.len PySem.boot_len (pa_cons (pv 0) pa_nil)) pe_int) pa_nil)) (blkOk_by (N := nIsAsc) (sc := defScope sIsAsc) (by decide +kernel)) (fun _ _ _ _ _ => (pg_name (i := 1) scIsAsc.nd rfl (Or.inl rfl))) (fun _ _ _ _ _ => pts_nil) (fun _ _ _ _ _ => (pe_cmpR op_lt_str (pe_ix ix_str (pv 0) (pv 1) (fun _ _ => rfl)) (pe_ix ix_str (pv 0) (pe_op op_add (pv 1) pe_int) (fun _ _ => rfl)) (nomark _)))) pa_nil)))), ?_⟩
    try dsimp only [cxOf, Cx.nox, Cx.wish]
    have ly := len_tl' y
    walk_at "go"
    refine ⟨_, _, rfl, lenS (small_line hy), ?_⟩
    walk_at "go"
    refine ⟨by omega, by omega, fun D hD => lc_rmap (n := ((y.length : Int) - 1).toNat) (fun j => .bl (decide ((tl y).getD j 0 < (tl y).getD (j + 1) 0))) hD (small_line (by omega)) (fun _ => rfl) (fun j hj H' R sm r => ?_) ?_⟩
    · have e1 : atI y.cps.toList (0 + (j : Int)) = some ((tl y).getD j 0) := by
        rw [Int.zero_add]
        refine atI_nat ?_
        show (tl y)[j]? = _
        rw [List.getD_eq_getElem?_getD, List.getElem?_eq_getElem (by omega)]; rfl
      have e2 : atI y.cps.toList (0 + (j : Int) + 1) = some ((tl y).getD (j + 1) 0) := by
        rw [Int.zero_add, show (j : Int) + 1 = ((j + 1 : Nat) : Int) from rfl]
        refine atI_nat ?_
        show (tl y)[j + 1]? = _
        rw [List.getD_eq_getElem?_getD, List.getElem?_eq_getElem (by omega)]; rfl
      walk_at "go"
      refine r_ixS (small_line hy) e1 ?_
      walk_at "go"
      refine r_ixS (small_line hy) e2 ?_
      walk_at "go"
      refine ⟨_, _, rfl, rfl, ?_⟩
      rw [lt_ones]
      exact r
    · walk_at "go"
      have e0 : ((y.length : Int) - 1).toNat = (tl y).length - 1 := by omega
      rw [e0, all_bl]
      refine r_all (SqL.of upd_same) ?_
      have e : ((List.range ((tl y).length - 1)).map fun j => decide ((tl y).getD j 0 < (tl y).getD (j + 1) 0)).all id = ascL (tl y) := by rw [List.all_map]; rfl
      rw [e]
      exact k _ (same_new hD)
abbrev OIsText (P : Program) (w : World) (K : PySem.W.Frag) (mg : Str → Option Value) (base : Heap) : Prop := Own P w K mg base "is_text" 1 ["thing","least","most","characters"] (spIsText K)
abbrev OIsAsc (P : Program) (w : World) (K : PySem.W.Frag) (mg : Str → Option Value) (base : Heap) : Prop := Own P w K mg base "is_ascending" 1 ["things"] spIsAsc
theorem ok_areSigns {dO dI f : Addr} {fd : FuncData} (F : Fun K "are_signs" "are_signs" sAreSigns f fd) (G : K4.G11 K w mg dO dI) (Oi : OIsText P w K mg base) (Oa : OIsAsc P w K mg base) : FnOk P w K mg base CX0 2 f fd ["thing"] (spAreSigns K) := by
  obtain ⟨t1, g1⟩ := G.LEAST_KINDS
  obtain ⟨t2, g2⟩ := G.MOST_KINDS
  obtain ⟨t3, g3⟩ := G.ALL_SIGNS
  refine F.ok scAreSigns (fun vs H Q E h => ?_) (fun cdv A outer s H vs Q E hr h => ?_)
  · obtain ⟨x, rfl, _⟩ := h
    rfl
  · obtain ⟨x, rfl, h⟩ := h
    refine ⟨_, (pss_one (ps_ret (pe_and (pe_own Oi hr (pa_cons (pv 0) (pa_cons (pe_glob (v := .int 2) rfl g1 ⟨_, rfl⟩) (pa_cons (pe_glob (v := .int 12) rfl g2 ⟨_, rfl⟩) (pa_cons (pe_glob (v := .str ALL) rfl g3 ⟨_, rfl⟩) pa_nil))))) (pe_one (pe_own Oa hr (pa_cons (pv 0) pa_nil)))))), ?_⟩
    try dsimp only [cxOf, Cx.nox, Cx.wish]
    walk_at "go"
    refine ⟨x, 2, 12, ALL, rfl, ?_⟩
    rcases h with ⟨y, rfl, hy, k⟩ | ⟨h, k⟩
    · refine .inl ⟨y, rfl, hy, fun H' sm => ?_⟩
      unfold signsB at k
      cases e : textB 2 12 ALL y with
      | true =>
        rw [e, Bool.true_and] at k
        walk_at "go"
        refine ⟨hy, fun H2 sm2 => ?_⟩
        exact k H2 (Same.trans sm sm2)
      | false =>
        rw [e] at k
        walk_at "go"
        exact k H' sm
    · refine .inr ⟨h, ?_⟩
      walk_at "go"
      exact k
end
end K1

/-! P11b -/


namespace K4
open PySem L2 K1
abbrev sIsWhole : Stmt := top 9
abbrev nIsWhole : List Str := ["thing"]
theorem scIsWhole : FnScope nIsWhole ["thing"] (defScope sIsWhole) := ⟨rfl, rfl, rfl, by decide +kernel, rfl, by decide +kernel, by decide +kernel⟩
abbrev sIsWithin : Stmt := top 10
abbrev nIsWithin : List Str := ["thing", "least", "most"]
theorem scIsWithin : FnScope nIsWithin ["thing", "least", "most"] (defScope sIsWithin) := ⟨rfl, rfl, rfl, by decide +kernel, rfl, by decide +kernel, by decide +kernel⟩
abbrev sIsTuple : Stmt := top 11
abbrev nIsTuple : List Str := ["thing"]
theorem scIsTuple : FnScope nIsTuple ["thing"] (defScope sIsTuple) := ⟨rfl, rfl, rfl, by decide +kernel, rfl, by decide +kernel, by decide +kernel⟩
abbrev sIsTupleOf : Stmt := top 12
abbrev nIsTupleOf : List Str := ["thing", "least", "most"]
theorem scIsTupleOf : FnScope nIsTupleOf ["thing", "least", "most"] (defScope sIsTupleOf) := ⟨rfl, rfl, rfl, by decide +kernel, rfl, by decide +kernel, by decide +kernel⟩
abbrev sIsPaper : Stmt := top 29
abbrev nIsPaper : List Str := ["signs", "thing"]
theorem scIsPaper : FnScope nIsPaper ["signs", "thing"] (defScope sIsPaper) := ⟨rfl, rfl, rfl, by decide +kernel, rfl, by decide +kernel, by decide +kernel⟩
def spIsWhole : Sp := fun vs H Q _ => ∃ i : Int, vs = [.int i] ∧ Q (.bl true) H
def spIsWithin : Sp := fun vs H Q _ => ∃ i lo hi : Int, vs = [.int i, .int lo, .int hi] ∧ Q (.bl (decide (lo ≤ i) && decide (i ≤ hi))) H
/-- neither a list nor a tuple -/
def NoSeq (K : PySem.W.Frag) (H : Hp) (x : V) : Prop := ∃ t, (∀ H', Same H H' → TyX K H' x t) ∧ PySem.W.kitAny K t [.type "tuple", .type "list"] = some false
def SeqB (K : PySem.W.Frag) (H : Hp) (x : V) (b : Bool) : Prop := (b = true ∧ ∃ xs, Sq K H x xs) ∨ (b = false ∧ NoSeq K H x)
def spIsTuple (K : PySem.W.Frag) : Sp := fun vs H Q _ => ∃ (x : V) (b : Bool), vs = [x] ∧ SeqB K H x b ∧ ∀ H', Same H H' → Q (.bl b) H'
def spIsTupleOf (K : PySem.W.Frag) : Sp := fun vs H Q _ => ∃ (x : V) (lo hi : Int), vs = [x, .int lo, .int hi] ∧ ((∃ xs, Sq K H x xs ∧ ∀ H', Same H H' → Q (.bl (decide (lo ≤ (xs.length : Int)) && decide ((xs.length : Int) ≤ hi))) H') ∨ (NoSeq K H x ∧ ∀ H', Same H H' → Q (.bl false) H'))
def spAscN (K : PySem.W.Frag) : Sp := fun vs H Q _ => ∃ (v : V) (ns : List Nat), vs = [v] ∧ NumsAt K H v ns ∧ ns.length ≤ 1000 ∧ ∀ H', Same H H' → Q (.bl (ascL ns)) H'
def spIsPaper (K : PySem.W.Frag) : Sp := fun vs H Q _ => ∃ (z : Str) (x : V), vs = [.str z, x] ∧ ((∃ y : Str, x = .str y ∧ y.length ≤ 1000 ∧ ∀ H', Same H H' → Q (.bl (textB 0 60 z y)) H') ∨ (NoText K H x ∧ Q (.bl false) H))
theorem any_t : ∀ {K : PySem.W.Frag}, PySem.W.kitAny K (.type "tuple") [.type "tuple", .type "list"] = some true := by
  intro K
  exact kitAny_cons (b := true) (kit_ty (by decide +kernel)) (fun q => nomatch q) (fun _ => rfl)
theorem any_l : ∀ {K : PySem.W.Frag}, PySem.W.kitAny K (.type "list") [.type "tuple", .type "list"] = some true := by
  intro K
  exact kitAny_cons (b := false) (kit_ty (by decide +kernel)) (fun _ => kitAny_cons (b := true) (kit_ty (by decide +kernel)) (fun q => nomatch q) (fun _ => rfl)) (fun q => nomatch q)
theorem any_n {K : PySem.W.Frag} {n : String} (h1 : kitB n "tuple" = some false) (h2 : kitB n "list" = some false) : PySem.W.kitAny K (.type n) [.type "tuple", .type "list"] = some false :=
  kitAny_cons (b := false) (kit_ty h1) (fun _ => kitAny_cons (b := false) (kit_ty h2) (fun _ => rfl) (fun q => nomatch q)) (fun q => nomatch q)
theorem noSeq_str {K : PySem.W.Frag} {H : Hp} {x : Str} : NoSeq K H (.str x) := ⟨.type "str", fun _ _ => .base (.str _), any_n (by decide +kernel) (by decide +kernel)⟩
theorem noSeq_int {K : PySem.W.Frag} {H : Hp} {i : Int} : NoSeq K H (.int i) := ⟨.type "int", fun _ _ => .base (.int _), any_n (by decide +kernel) (by decide +kernel)⟩
theorem noSeq_non {K : PySem.W.Frag} {H : Hp} : NoSeq K H .non := ⟨.type "NoneType", fun _ _ => .base .non, any_n (by decide +kernel) (by decide +kernel)⟩
theorem seqB_t {K : PySem.W.Frag} {H : Hp} {x : V} {b : Bool} (h : SeqB K H x b) : ∃ t, (∀ H', Same H H' → TyX K H' x t) ∧ PySem.W.kitAny K t [.type "tuple", .type "list"] = some b := by
  rcases h with ⟨rfl, xs, a, rfl, h | h⟩ | ⟨rfl, h⟩
  · exact ⟨.type "list", fun H' s => tyxL (s.seq h), any_l⟩
  · exact ⟨.type "tuple", fun H' s => tyxT (Same.sqT s h), any_t⟩
  · exact h
section
variable {P : Program} {w : World} {K : PySem.W.Frag} {mg : Str → Option Value} {base : Heap} {dO dI : Addr}
theorem ok_isWhole {f : Addr} {fd : FuncData} (F : Fun K "is_whole" "is_whole" sIsWhole f fd) (B : Bl mg) : FnOk P w K mg base CX0 1 f fd ["thing"] spIsWhole := by
  refine F.ok scIsWhole (fun vs H Q E h => ?_) (fun cdv A outer s H vs Q E hr h => ?_)
  · obtain ⟨i, rfl, _⟩ := h
    rfl
  · obtain ⟨i, rfl, k⟩ := h
    refine ⟨_, (pss_one (ps_ret (pe_and (pe_callB (id := "isinstance") (r := rIsi K) call_isi (by rfl) B.isin (by decide +kernel) (pa_cons (pv 0) (pa_cons (pe_bltn (v := .ty "int") (by rfl) B.int (by decide +kernel) rfl) pa_nil))) (pe_one (pe_not (pe_callB (id := "isinstance") (r := rIsi K) call_isi (by rfl) B.isin (by decide +kernel) (pa_cons (pv 0) (pa_cons (pe_bltn (v := .ty "bool") (by rfl) B.bool (by decide +kernel) rfl) pa_nil)))))))), ?_⟩
    try dsimp only [cxOf, Cx.nox, Cx.wish]
    walk_at "go"
    refine r_isi (b := true) (.ty "int") (.base (.int _)) (kit_ty (by decide +kernel)) ?_
    walk_at "go"
    refine r_isi (b := false) (.ty "bool") (.base (.int _)) (kit_ty (by decide +kernel)) ?_
    walk_at "go"
    exact k
abbrev OWhole (P : Program) (w : World) (K : PySem.W.Frag) (mg : Str → Option Value) (base : Heap) : Prop := Own P w K mg base "is_whole" 1 ["thing"] spIsWhole
theorem ok_isWithin {f : Addr} {fd : FuncData} (F : Fun K "is_within" "is_within" sIsWithin f fd) (B : Bl mg) (Owh : OWhole P w K mg base) : FnOk P w K mg base CX0 2 f fd ["thing", "least", "most"] spIsWithin := by
  refine F.ok scIsWithin (fun vs H Q E h => ?_) (fun cdv A outer s H vs Q E hr h => ?_)
  · obtain ⟨i, lo, hi, rfl, _⟩ := h
    rfl
  · obtain ⟨i, lo, hi, rfl, k⟩ := h
    refine ⟨_, (pss_one (ps_ret (pe_and (pe_own Owh hr (pa_cons (pv 0) pa_nil)) (pe_one (pe_chain op_le op_le (pv 1) (pv 0) (pv 2)))))), ?_⟩
    try dsimp only [cxOf, Cx.nox, Cx.wish]
    walk_at "go"
    by_cases h1 : lo ≤ i
    · rw [decide_eq_true h1] at k ⊢
      rw [Bool.true_and] at k
      walk_at "go"
      exact k
    · rw [decide_eq_false h1] at k ⊢
      rw [Bool.false_and] at k
      walk_at "go"
      exact k
theorem ok_isTuple {f : Addr} {fd : FuncData} (F : Fun K "is_tuple" "is_tuple" sIsTuple f fd) (B : Bl mg) : FnOk P w K mg base CX0 1 f fd ["thing"] (spIsTuple K) := by
  refine F.ok scIsTuple (fun vs H Q E h => ?_) (fun cdv A outer s H vs Q E hr h => ?_)
  · obtain ⟨x, b, rfl, _⟩ := h
    rfl
  · obtain ⟨x, b, rfl, hb, k⟩ := h
    refine ⟨_, (pss_one (ps_ret (pe_callB (id := "isinstance") (r := rIsiT K) call_isiT (by rfl) B.isin (by decide +kernel) (pa_cons (pv 0) (pa_cons (pe_tup (pa_cons (pe_bltn (v := .ty "tuple") (by rfl) B.tuple (by decide +kernel) rfl) (pa_cons (pe_bltn (v := .ty "list") (by rfl) B.list (by decide +kernel) rfl) pa_nil))) pa_nil))))), ?_⟩
    try dsimp only [cxOf, Cx.nox, Cx.wish]
    walk_at "go"
    obtain ⟨t, ht, ka⟩ := seqB_t hb
    refine ⟨(by show 2 ≤ sizeLine; decide), fun p hp => ?_⟩
    walk_at "go"
    have sp := same_new (o := HO.tup [V.ty "tuple", V.ty "list"]) hp
    exact ⟨x, p, _, t, _, b, rfl, upd_same, .cons (.ty _) (.cons (.ty _) .nil), ht _ sp, ka, k _ sp⟩
abbrev OIsTuple (P : Program) (w : World) (K : PySem.W.Frag) (mg : Str → Option Value) (base : Heap) : Prop := Own P w K mg base "is_tuple" 1 ["thing"] (spIsTuple K)
theorem ok_isTupleOf {f : Addr} {fd : FuncData} (F : Fun K "is_tuple_of" "is_tuple_of" sIsTupleOf f fd) (B : Bl mg) (Oit : OIsTuple P w K mg base) : FnOk P w K mg base CX0 2 f fd ["thing", "least", "most"] (spIsTupleOf K) := by
  refine F.ok scIsTupleOf (fun vs H Q E h => ?_) (fun cdv A outer s H vs Q E hr h => ?_)
  · obtain ⟨x, lo, hi, rfl, _⟩ := h
    rfl
  · obtain ⟨x, lo, hi, rfl, h⟩ := h
    refine ⟨_, (pss_one (ps_ret (pe_and (pe_own Oit hr (pa_cons (pv 0) pa_nil)) (pe_one (pe_chain op_le op_le (pv 1) (pe_callB call_len (by rfl) B.len PySem.boot_len (pa_cons (pv 0) pa_nil)) (pv 2)))))), ?_⟩
    try dsimp only [cxOf, Cx.nox, Cx.wish]
    walk_at "go"
    rcases h with ⟨xs, hx, k⟩ | ⟨hn, k⟩
    · refine ⟨x, true, rfl, .inl ⟨rfl, xs, hx⟩, fun H1 s1 => ?_⟩
      walk_at "go"
      refine ⟨_, _, rfl, (hx.same s1).len, ?_⟩
      walk_at "go"
      by_cases h1 : lo ≤ (xs.length : Int)
      · rw [decide_eq_true h1] at k ⊢
        walk_at "go"
        exact k _ s1
      · rw [decide_eq_false h1] at k ⊢
        walk_at "go"
        exact k _ s1
    · refine ⟨x, false, rfl, .inr ⟨rfl, hn⟩, fun H1 s1 => ?_⟩
      walk_at "go"
      exact k _ s1
abbrev OIsTupleOf (P : Program) (w : World) (K : PySem.W.Frag) (mg : Str → Option Value) (base : Heap) : Prop := Own P w K mg base "is_tuple_of" 2 ["thing", "least", "most"] (spIsTupleOf K)
theorem nums_get {H : Hp} {v : V} {ns : List Nat} (h : NumsAt K H v ns) {i : Nat} (hi : i < ns.length) {Q : VK} (q : Q (vi (ns.getD i 0)) H) : rIx K v (.int (i : Int)) H Q := by
  refine r_ixSq h (atI_nat ?_) q
  rw [List.getElem?_map, getD_at hi]
  rfl
abbrev sIsAsc : Stmt := top 14
abbrev nIsAsc : List Str := ["things", "k"]
theorem scIsAsc : FnScope nIsAsc ["things"] (defScope sIsAsc) := ⟨rfl, rfl, rfl, by decide +kernel, rfl, by decide +kernel, by decide +kernel⟩
theorem ok_ascN {f : Addr} {fd : FuncData} (F : Fun K "is_ascending" "is_ascending" sIsAsc f fd) (B : Bl mg) : FnOk P w K mg base CX0 1 f fd ["things"] (spAscN K) := by
  refine F.ok scIsAsc (fun vs H Q E h => ?_) (fun cdv A outer s H vs Q E hr h => ?_)
  · obtain ⟨v, ns, rfl, _⟩ := h
    rfl
  · obtain ⟨v, ns, rfl, hv, hl, k⟩ := h
    refine ⟨_, (pss_one (ps_ret (pe_callB (cr_all rfl) (by rfl) B.all (by decide +kernel) (pa_cons (pe_lc (own := [("k", 1)]) (g := gName 1) (tt := tYes) rfl scIsAsc.nd (pi_range1 rfl B.range (pa_cons (pe_op op_sub (pe_callB call_len (by rfl) B.len PySem.boot_len (pa_cons (pv 0) pa_nil)) pe_int) pa_nil)) (blkOk_by (N := nIsAsc) (sc := defScope sIsAsc) (by decide +kernel)) (fun _ _ _ _ _ => (pg_name (i := 1) scIsAsc.nd rfl (Or.inl rfl))) (fun _ _ _ _ _ => pts_nil) (fun _ _ _ _ _ => (pe_cmpR op_lt (pe_ix (r := rIx K) ix_seq (pv 0) (pv 1) (fun _ _ => rfl)) (pe_ix (r := rIx K) ix_seq (pv 0) (pe_op op_add (pv 1) pe_int) (fun _ _ => rfl)) (nomark _)))) pa_nil)))), ?_⟩
    try dsimp only [cxOf, Cx.nox, Cx.wish]
    walk_at "go"
    have hlen := hv.len
    rw [List.length_map] at hlen
    refine ⟨_, _, rfl, hlen, ?_⟩
    walk_at "go"
    refine ⟨by omega, by omega, fun D hD => lc_rmap (n := ((ns.length : Int) - 1).toNat) (fun j => .bl (decide (ns.getD j 0 < ns.getD (j + 1) 0))) hD (small_line (by omega)) (fun _ => rfl) (fun j hj H' R sm r => ?_) ?_⟩
    · walk_at "go"
      rw [Int.zero_add]
      refine nums_get (Sq.same sm hv) (by omega) ?_
      walk_at "go"
      refine nums_get (i := j + 1) (Sq.same sm hv) (by omega) ?_
      walk_at "go"
      have e : decide ((ns.getD j 0 : Int) < (ns.getD (j + 1) 0 : Int)) = decide (ns.getD j 0 < ns.getD (j + 1) 0) := by
        rw [decide_eq_decide]; omega
      rw [e]
      exact r
    · walk_at "go"
      have e0 : ((ns.length : Int) - 1).toNat = ns.length - 1 := by omega
      rw [e0, all_bl]
      refine r_all (SqL.of upd_same) ?_
      have e : ((List.range (ns.length - 1)).map fun j => decide (ns.getD j 0 < ns.getD (j + 1) 0)).all id = ascL ns := by rw [List.all_map]; rfl
      rw [e]
      exact k _ (same_new hD)
theorem ok_isPaper {f : Addr} {fd : FuncData} (F : Fun K "is_paper" "is_paper" sIsPaper f fd) (G : G11 K w mg dO dI) (Ot : OIsText P w K mg base) : FnOk P w K mg base CX0 2 f fd ["signs", "thing"] (spIsPaper K) := by
  refine F.ok scIsPaper (fun vs H Q E h => ?_) (fun cdv A outer s H vs Q E hr h => ?_)
  · obtain ⟨z, x, rfl, _⟩ := h
    rfl
  · obtain ⟨z, x, rfl, h⟩ := h
    refine ⟨_, (pss_one (ps_ret (pe_own Ot hr (pa_cons (pv 1) (pa_cons pe_int (pa_cons (pe_gI G.MOST_SIGNS) (pa_cons (pv 0) pa_nil))))))), ?_⟩
    try dsimp only [cxOf, Cx.nox, Cx.wish]
    walk_at "go"
    refine ⟨x, 0, 60, z, rfl, ?_⟩
    rcases h with ⟨y, rfl, hy, k⟩ | ⟨h, k⟩
    · exact .inl ⟨y, rfl, hy, k⟩
    · exact .inr ⟨h, k⟩
end
end K4

/-! P19d -/


namespace K4
open PySem L2 K1
abbrev sAsTuples : Stmt := top 15
abbrev nAsTuples : List Str := ["thing", "inner"]
theorem scAsTuples : FnScope nAsTuples ["thing"] (defScope sAsTuples) := ⟨rfl, rfl, rfl, by decide +kernel, rfl, by decide +kernel, by decide +kernel⟩
mutual
def wdt : PyData → Bool
  | .tuple ds => decide (ds.length ≤ 1000) && wdtA ds
  | .list ds => decide (ds.length ≤ 1000) && wdtA ds
  | _ => true
def wdtA : List PyData → Bool
  | [] => true
  | d :: ds => wdt d && wdtA ds
end
mutual
def tupd : PyData → PyData
  | .tuple ds => .tuple (tupA ds)
  | .list ds => .tuple (tupA ds)
  | d => d
def tupA : List PyData → List PyData
  | [] => []
  | d :: ds => tupd d :: tupA ds
end
theorem tupA_map : ∀ ds : List PyData, tupA ds = ds.map tupd
  | [] => rfl
  | d :: ds => by rw [tupA, tupA_map ds]; rfl
theorem tupd_sq (t : Bool) (ds : List PyData) : tupd (sq t ds) = .tuple (ds.map tupd) := by
  cases t
  · show tupd (.list ds) = _
    rw [tupd, tupA_map]
  · show tupd (.tuple ds) = _
    rw [tupd, tupA_map]
theorem wdtA_iff : ∀ {ds : List PyData}, wdtA ds = true ↔ ∀ d ∈ ds, wdt d = true
  | [] => by simp [wdtA]
  | d :: ds => by simp [wdtA, wdtA_iff]
theorem wdt_sq {t : Bool} {ds : List PyData} (h : ds.length ≤ 1000) (k : ∀ d ∈ ds, wdt d = true) : wdt (sq t ds) = true := by
  cases t
  · show wdt (.list ds) = true
    rw [wdt, decide_eq_true h, wdtA_iff.mpr k]; rfl
  · show wdt (.tuple ds) = true
    rw [wdt, decide_eq_true h, wdtA_iff.mpr k]; rfl
theorem tupd_nums (ns : List Nat) : (ns.map pn).map tupd = ns.map pn := by
  rw [List.map_map]
  exact List.map_congr_left fun n _ => by simp [pn, tupd]
theorem wdt_nums {t : Bool} {ns : List Nat} (h : ns.length ≤ 1000) : wdt (sq t (ns.map pn)) = true := wdt_sq (by rw [List.length_map]; exact h) fun d hd => by obtain ⟨n, _, rfl⟩ := List.mem_map.mp hd; simp [pn, wdt]
mutual
theorem tupd_pure : ∀ d : PyData, flatN d = true → pure (tupd d) = true
  | .none, _ => by simp [tupd, pure]
  | .int _, _ => by simp [tupd, pure]
  | .str _, _ => by simp [tupd, pure]
  | .tuple ds, h => by rw [tupd, pure]; exact tupA_pure ds (by simpa [flatN] using h)
  | .list ds, h => by rw [tupd, pure]; exact tupA_pure ds (by simpa [flatN] using h)
  | .bool _, h => by simp [flatN] at h
  | .dict _, h => by simp [flatN] at h
theorem tupA_pure : ∀ ds : List PyData, flatA ds = true → pureA (tupA ds) = true
  | [], _ => by simp [tupA, pureA]
  | d :: ds, h => by
    simp only [flatA, Bool.and_eq_true] at h
    rw [tupA, pureA, tupd_pure d h.1, tupA_pure ds h.2]
    rfl
end
theorem depthA_mem {n : Nat} : ∀ {ds : List PyData}, PyData.depthAll ds ≤ n → ∀ d ∈ ds, d.depth ≤ n
  | [], _, d, h => by simp at h
  | e :: ds, h, d, hd => by
    rw [PyData.depthAll] at h
    rcases List.mem_cons.mp hd with rfl | hd
    · omega
    · exact depthA_mem (by omega) d hd
def spAsT (K : PySem.W.Frag) (n : Nat) : Sp := fun vs H Q _ => ∃ (v : V) (d : PyData), vs = [v] ∧ Dp K H v d ∧ flatN d = true ∧ wdt d = true ∧ d.depth < n ∧ ∀ H' v', Same H H' → Dp K H' v' (tupd d) → Q v' H'
section
variable {P : Program} {w : World} {K : PySem.W.Frag} {mg : Str → Option Value} {base : Heap} {dO dI : Addr}
theorem dp_tuple {H : Hp} {v : V} {ds : List PyData} (h : Dp K H v (.tuple ds)) : ∃ a xs, v = .ref a ∧ SqT K H a xs ∧ DpAll K H xs ds := by
  cases h with
  | tup a b => exact ⟨_, _, rfl, a, b⟩
abbrev OAsT (n : Nat) (P : Program) (w : World) (K : PySem.W.Frag) (mg : Str → Option Value) (base : Heap) : Prop := Own P w K mg base "as_tuples" (n + 1) ["thing"] (spAsT K n)
theorem ok_asTuples {n : Nat} {f : Addr} {fd : FuncData} (F : Fun K "as_tuples" "as_tuples" sAsTuples f fd) (B : Bl mg) (Oit : OIsTuple P w K mg base) (Oas : OAsT n P w K mg base) : FnOk P w K mg base CX0 (n + 1 + 1) f fd ["thing"] (spAsT K (n + 1)) := by
  refine F.ok scAsTuples (fun vs H Q E h => ?_) (fun cdv A outer s H vs Q E hr h => ?_)
  · obtain ⟨v, d, rfl, _⟩ := h
    rfl
  · obtain ⟨v, d, rfl, hv, hf, hw, hd, k⟩ := h
    refine ⟨_, (pss_cons (ps_if (pt_not (pt_val (pe_own Oit (hr.mono (by omega)) (pa_cons (pv 0) pa_nil)))) (pss_one (ps_ret (pv 0))) pss_nil) (pss_one (ps_ret (pe_callTy call_tuple_of (by rfl) B.tuple (by decide +kernel) (pa_cons (pe_lc (own := [("inner", 1)]) (g := gName 1) (tt := tYes) rfl scAsTuples.nd (pi_sq (pv 0)) (blkOk_by (N := nAsTuples) (sc := defScope sAsTuples) (by decide +kernel)) (fun _ _ _ _ _ => (pg_name (i := 1) scAsTuples.nd rfl (Or.inl rfl))) (fun _ _ _ _ _ => pts_nil) (fun _ _ _ _ _ => (pe_own Oas hr (pa_cons (pv 1) pa_nil)))) pa_nil))))), ?_⟩
    try dsimp only [cxOf, Cx.nox, Cx.wish]
    walk_at "go"
    have seq : ∀ (t : Bool) (ds : List PyData), d = sq t ds → ∃ xs, Sq K H v xs ∧ DpAll K H xs ds ∧ flatA ds = true ∧ ds.length ≤ 1000 ∧ wdtA ds = true ∧ PyData.depthAll ds < n := fun t ds e => by
      subst e
      obtain ⟨xs, h1, h2⟩ := dp_sq hv
      refine ⟨xs, h1, h2, ?_⟩
      cases t
      · have hw' : wdt (.list ds) = true := hw
        have hd' : (PyData.list ds).depth < n + 1 := hd
        rw [wdt, Bool.and_eq_true, decide_eq_true_eq] at hw'
        rw [PyData.depth] at hd'
        exact ⟨by simpa [sq, flatN] using hf, hw'.1, hw'.2, by omega⟩
      · have hw' : wdt (.tuple ds) = true := hw
        have hd' : (PyData.tuple ds).depth < n + 1 := hd
        rw [wdt, Bool.and_eq_true, decide_eq_true_eq] at hw'
        rw [PyData.depth] at hd'
        exact ⟨by simpa [sq, flatN] using hf, hw'.1, hw'.2, by omega⟩
    have two : (NoSeq K H v ∧ tupd d = d) ∨ ∃ t ds, d = sq t ds := by
      cases hv with
      | non => exact .inl ⟨noSeq_non, by simp [tupd]⟩
      | int i => exact .inl ⟨noSeq_int, by simp [tupd]⟩
      | str x => exact .inl ⟨noSeq_str, by simp [tupd]⟩
      | bl b => simp [flatN] at hf
      | lst a b => exact .inr ⟨false, _, rfl⟩
      | tup a b => exact .inr ⟨true, _, rfl⟩
    rcases two with ⟨hn, e⟩ | ⟨t, ds, e⟩
    · refine ⟨v, false, rfl, .inr ⟨rfl, hn⟩, fun H1 s1 => ?_⟩
      walk_at "go"
      exact k H1 v s1 (by rw [e]; exact dp_keep (Same.keeps s1) _ _ hv)
    · obtain ⟨xs, hS, hA, hfA, hl, hwA, hdA⟩ := seq t ds e
      subst e
      rw [tupd_sq] at k
      have hpA : pureA (ds.map tupd) = true := by rw [← tupA_map]; exact tupA_pure ds hfA
      have hxl := dpA_len hA
      refine ⟨v, true, rfl, .inl ⟨rfl, xs, hS⟩, fun H1 s1 => ?_⟩
      walk_at "go"
      refine lc_sq (hS.same s1) (fun _ => rfl) (fun acc H' => DpAll K H' acc ((ds.map tupd).take acc.length) ∧ Same H1 H') (fun D hD => ⟨.nil, same_new hD⟩) (fun D acc H' _ _ q => Same.keeps q.2) ?_ _ ?_ (fun J h => h)
      · rintro D i x acc H' hD hx la hacc ⟨ha, sm⟩
        obtain ⟨di, hdi, hxd⟩ := dpA_get hA hx
        have hmem := List.mem_of_getElem? hdi
        have hil := (List.getElem?_eq_some_iff.mp hdi).1
        walk_at "go"
        refine ⟨x, di, rfl, dp_keep (Same.keeps (s1.trans sm)) _ _ hxd, flatA_iff.mp hfA di hmem, wdtA_iff.mp hwA di hmem, Nat.lt_of_le_of_lt (depthA_mem (Nat.le_refl _) di hmem) hdA, fun H2 v2 s2 d2 => ?_⟩
        refine pp_next (s2 _ _ hacc) la (line60 (by omega)) ⟨?_, same_upd (sm.trans s2) hD⟩
        have kt : KT K H2 (upd H2 D (.lst (acc ++ [v2]))) := kt_lst (s2 _ _ hacc)
        have e2 : ds.map tupd = ds.map tupd := rfl
        have pt : pureA ((ds.map tupd).take acc.length) = true := pureA_iff.mpr fun y hy => pureA_iff.mp hpA y (List.mem_of_mem_take hy)
        have r1 := dpA_app (dpA_pure kt _ _ pt (dpA_keep (Same.keeps s2) _ _ ha)) (.cons (dp_pure kt _ _ (tupd_pure di (flatA_iff.mp hfA di hmem)) d2) .nil)
        rw [la, ← List.map_take, take_next hdi, List.map_take] at r1
        rw [List.length_append, la]
        exact r1
      · rintro D acc H' hD la hacc ⟨ha, sm⟩
        rw [la, hxl, ← List.length_map (f := tupd), List.take_length] at ha
        walk_at "go"
        refine ⟨D, acc, rfl, .inl ⟨SqL.of hacc, fun l hl => ?_⟩⟩
        have s3 := same_new (o := HO.tup acc) hl
        exact k _ _ (s1.trans (sm.trans s3)) (.tup (SqT.of upd_same) (dpA_keep (Same.keeps s3) _ _ ha))
theorem as_all {f : Addr} {fd : FuncData} (F : Fun K "as_tuples" "as_tuples" sAsTuples f fd) (B : Bl mg) (Oit : OIsTuple P w K mg base) (m : mg "as_tuples" = some (.ref f)) (b : Binds K fd ["thing"] []) : ∀ n : Nat, OAsT n P w K mg base
  | 0 => ⟨f, fd, none_ok fun vs H Q E h => by obtain ⟨v, d, _, _, _, _, hd, _⟩ := h; omega, m, F.kp, b⟩
  | n + 1 => ⟨f, fd, ok_asTuples F B Oit (as_all F B Oit m b n), m, F.kp, b⟩
end
end K4

/-! X1 -/
/-! super().__init__(text) of an own exception over ValueError. -/
namespace K1
open PySem L2 PyProof.Rows PySem.W PySem.Calls
theorem init_code {P : Program} {w : World} {A : Around} {R : Result → Shared → Prop} {h : Heap} {g : Array GenState} {d : Drawn} {t : Nat} {os : OsState} {C e t0 : Addr} {rest : List Value}
    (he : h.get? e = some (HandSPX.excO C t0)) (hrest : rest.length ≤ sizeLine)
    (hq : ∀ (h' : Heap) (t1 : Addr), (∀ b o, b ≠ e → h.get? b = some o → h'.get? b = some o) → h'.get? e = some (HandSPX.excO C t1) → R (.ok (.ret .none)) ⟨h', g, d, t, os⟩) :
    codeAny (model P w) A (.builtin "ValueError.__init__" ⟨.ref e :: rest, []⟩) R ⟨h, g, d, t, os⟩ := by
  refine codeAny_builtin F.excBase_ValueError.initEntry ?_
  rw [Around.under_plainId F.excBase_ValueError.init.plain]
  unfold Builtin.«BaseException.__init__»
  refine wpAny_ite_false (by rfl) ?_
  refine wpAny_bind (wpAny_newTuple ?_ hrest)
  have he' := Heap.get?_push_of_some ⟨.type "tuple", none, .seq rest.toArray 0, #[]⟩ he
  refine wpAny_bind ?_
  unfold Builtin.BaseException.bexcPut
  refine wpAny_bind ?_
  unfold field
  refine wpAny_bind ?_
  unfold fieldsOf
  refine wpAny_bind (wpAny_load' he' ?_)
  refine wpAny_pure ?_
  show wpAny _ _ (pure (Value.ref t0)) _ _ _
  refine wpAny_pure ?_
  refine wpAny_bind ?_
  unfold setField
  refine wpAny_bind (wpAny_load' he' ?_)
  refine wpAny_ite_true (by rfl) ?_
  refine wpAny_update' he' ?_
  refine wpAny_letGo ?_
  refine wpAny_pure ?_
  refine hq _ h.objs.size (fun b o hb e1 => ?_) ?_
  · rw [Heap.get?_update_ne _ _ _ _ hb]
    exact Heap.get?_push_of_some _ e1
  · exact Heap.get?_update_self _ he' rfl
theorem call_mw {P : Program} {w : World} {A : Around} {E : Value → Shared → Prop} {h : Heap} {g : Array GenState} {d : Drawn} {t : Nat} {os : OsState} {nm q : Str} {C N : Addr} {bs bm : List Value} {hdct : Bool} {sn : List Str} {sub : List Value} {ab : Bool} {col : Option Bool} {dd : Option Addr} {k0 k1 k2 k3 k5 : Option Value}
    {u e t0 : Addr} {rest : List Value} {Q : Value → Shared → Prop}
    (hC : h.get? C = some (excClassObj nm q C N bs bm hdct sn sub ab col dd k0 k1 k2 k3 k5 "ValueError.__new__")) (he : h.get? e = some (HandSPX.excO C t0)) (hu : h.get? u = some (kxs_mw "ValueError.__init__" e)) (hrest : rest.length ≤ sizeLine)
    (hq : ∀ (h' : Heap) (t1 : Addr), (∀ b o, b ≠ e → h.get? b = some o → h'.get? b = some o) → h'.get? e = some (HandSPX.excO C t1) → Q .none ⟨h', g, d, t, os⟩) :
    wpAny (model P w) A (call (.ref u) rest) Q E ⟨h, g, d, t, os⟩ := by
  refine wpAny_call (codeAny_of_tree ?_)
  show wpAny _ _ (callAny (.ref u) ⟨rest, []⟩) _ _ _
  unfold callAny
  refine wpAny_bind (wpAny_load hu ?_)
  dsimp only [kxs_mw]
  rw [if_pos (by decide)]
  show wpAny _ _ (if (Value.type "method-wrapper" != Value.type "method") = true then do
          checkBoundCall "ValueError.__init__" { pos := .ref e :: rest }
          again (Code.builtin "ValueError.__init__" { pos := .ref e :: rest })
        else again (Code.call (.builtin "ValueError.__init__") { pos := .ref e :: rest })) _ _ _
  rw [if_pos (by decide)]
  exact wpAny_bind (check_bound_init F.excBase_ValueError.toExcCallFacts hC he rfl (wpAny_pure ⟨Code.quiet_builtin _ (by decide +kernel), init_code he hrest hq⟩))
end K1

/-! X8n -/
/-! An error with its own __init__, made where nothing is handled: its context is None. -/
namespace K1
open PySem L2 PyProof.Rows PySem.W PySem.Calls
theorem mk_ctx {X : Cx} {pins : List (Addr × Obj)} {σ : L2.St} {Q : XK} {a C t : Addr} {d : Option Addr} {s' : Shared} (h : MkP X pins σ Q (.ref a) s') (e : s'.heap.get? a = some ⟨.ref C, d, .fields #[.ref t, .none, .none, .none, .bool false, .none], #[]⟩) : L2N.MkP X pins σ Q (.ref a) s' := by
  obtain ⟨a', oe, vs, sI, H', cls, d', ea, I, k, n, g, hz, hd, h1, hn, os, b, r, q⟩ := h
  obtain rfl : a = a' := Value.ref.inj ea
  rw [e] at g
  obtain rfl := Option.some.inj g
  refine ⟨a, _, vs, sI, H', cls, d', rfl, I, k, n, e, ⟨hz.1, hz.2, fun ws hw => ?_⟩, hd, h1, hn, os, b, r, q⟩
  obtain rfl := Data.fields.inj hw
  rfl
theorem pmk_oexN {X : Cx} {e : Expr} {es : List Expr} {ta : TA} {p pos : Pos} {x : Str} {C fI : Addr} {k : Nat} {fd : FuncData} {ps : List Str} {sp : Sp} (T : OexC X.K C) (iC : findIn X.K (.ref C) "__init__" = some (some (.ref fI))) (tI : typeIn X.K (.ref fI) = some (.type "function")) (F1 : FnOk X.prog X.w X.K X.mg X.base CX0 k fI fd ps sp) (hr : Room (k + 1) X.A) (hb : Binds X.K fd ps []) (hg : Gl X x) (hm : X.mg x = some (.ref C)) (ha : PA X (e :: es) ta)
    (hdb : (x == ("__debug__" : Str)) = false := by decide) (he : starEach (e :: es) X.env = (false, eval e X.env) :: starEach es X.env := by rfl) (hpl : (backTo pos (starEach es X.env)).any (·.1) = false := by rfl) :
    L2N.PMk X (.Call (.Name x p) (e :: es) [] pos) (tMkO C sp [] ta) := by
  intro pins s σ H Q I h
  obtain ⟨nm, q, N, bs, bm, sn, sub, ab, col, dd, k0, k1, k2, k3, k5, hC, hbm⟩ := T.cls
  refine wpAny_Call_Name_kw (ld_glob I hg hm (callWith_K I.ok.mod.kin T.kC (thn (ha.run pos pins s σ H _ I h) ?_) he hpl) hdb)
  rintro us s1 ⟨vs, H1, I1, r1, hz, q1⟩
  refine ⟨I1.kIn, ?_⟩
  obtain ⟨hp, g, dr, tk, os⟩ := s1
  have hsz := Nat.le_succ hp.objs.size
  have hn := HOk.fresh I1.hok hsz
  have hq := q1 (hp.objs.size + 1) hn
  have kk : ∀ b o, hp.get? b = some o → ((hp.push (kdv_tup us)).push (HandSPX.excO C hp.objs.size)).get? b = some o := fun b o e => Heap.get?_push_of_some _ (Heap.get?_push_of_some _ e)
  have hget : ((hp.push (kdv_tup us)).push (HandSPX.excO C hp.objs.size)).get? (hp.objs.size + 1) = some (HandSPX.excO C hp.objs.size) := Heap.get?_push_at (by rw [Heap.size_push]) rfl
  have I2 := Inv.laid (t' := tk) I1 kk hsz (exo_ok hget)
  have r2 : Vals (V.ref (hp.objs.size + 1) :: (vs ++ [])) (Value.ref (hp.objs.size + 1) :: us) := by
    rw [List.append_nil]
    exact .cons rfl r1
  have hl : (Value.ref (hp.objs.size + 1) :: us).length = ps.length := by
    rw [← Vals.length r2]
    exact F1.len _ _ _ _ hq
  have hus : us.length ≤ sizeLine := by
    rw [← Vals.length r1]
    exact small_line hz
  have hbb := hb ⟨(hp.push (kdv_tup us)).push (HandSPX.excO C hp.objs.size), g, dr, tk, os⟩ (.ref (hp.objs.size + 1) :: us) I2.kIn (by simpa using hl)
  refine wpAny_call (HandSPX.call_own F.excBase_ValueError (fun Y => HandSPX.refsVE_contains Y bm hbm) (I1.kIn C _ hC) (looks_findIn I1.kIn iC) (fun self => bind_fn I1.kIn self tI) hus (codeAny_mono (F1.run (X.A.under (.builtin "type.__call__" ⟨.ref C :: us, []⟩)) X.stack _ _ _ _ _ _ _ (Room.make hr C us []) (Env0.make I2.env0 C us []) (by simpa using hbb) r2 hq) ?_))
  intro r s' hq'
  cases r with
  | error er => exact hq'.elim
  | ok fl =>
    cases fl with
    | ret u =>
      obtain ⟨v, H2, os2, bare2, un2, hok2, rv, ev, d, fs, ea, ed, hd1, q2⟩ := hq'
      subst ev
      obtain ⟨h2, g2, d2, t2, os2'⟩ := s'
      obtain ⟨t1, et⟩ := exo_at hok2 ea
      exact ⟨rv, mk_ctx (mk_end (raises_own T.exC T.tyC) I1 hsz kk un2 hok2 os2 bare2 ea ed hd1 q2) et⟩
    | _ => exact hq'.elim
end K1

/-! E11 -/

namespace K1
open PySem L2 PyProof.Rows PySem.W PySem.Calls
abbrev sBadS : Stmt := inClass (top 3) 0
/-- what is known of the class of the errors, and of its __init__ -/
structure BadFS (P : Program) (K : Frag) (mg : Str → Option Value) (f : Addr) (fd : FuncData) (C : Addr) : Prop where
  ex : ∃ (oc : Value) (od : Option Addr) (kV doc pm : Value) (an : Option Addr) (ct : Value) (osl : Array (Option Value)) (cda cc : Addr) (ccl : Value) (cdd : Option Addr) (vs : Array Value) (ccs : Array (Option Value)) (file : Str) (tf : Tok) (cl : Value) (cld : Option Addr) (csl : Array (Option Value)),
    fd = ksFn "__init__" "BadSigns.__init__" (defArgs sBadS) (defBody sBadS) (defScope sBadS) .none kV doc pm an (.ref cda) ct cc ∧ K.lookup f = some ⟨oc, od, .func fd, osl⟩ ∧ codeIn K (.ref cda) "BadSigns.__init__" = true ∧
    K.lookup cda = some ⟨ccl, cdd, .fields vs, ccs⟩ ∧ vs[2]? = some (.str file tf) ∧ (P.main.file == file) = true ∧ K.lookup cc = some ⟨cl, cld, .cell (some (.ref C)), csl⟩
  sup : (List.lookup (PySem.Str.ofString "super") P.main.scope.names).isSome = false
  any : nsIn K cStatics "thirdparty.any" = some none
  mgS : mg "super" = none
  oex : OexC K C
  sin : ks_superIn K C C "__init__" = some (some (.builtin "ValueError.__init__"))
  subC : mroIn K C (.ref C) = some true
  subV : subIn K (.ref C) (.type "ValueError") = some true
  fi : findIn K (.ref C) "signs" = some none
def spBadS (C : Addr) : Sp := fun vs H Q _ => ∃ (a : Addr) (y : V), vs = [.ref a, y] ∧ H a = some (exo a C none) ∧ ∀ dx, H dx = none → dx ≠ a → Q .non (upd (upd H dx (exd dx [("signs", y)])) a (exo a C (some dx)))
section
variable {P : Program} {w : World} {K : PySem.W.Frag} {mg : Str → Option Value} {base : Heap}
theorem ok_badS {f C : Addr} {fd : FuncData} (F : BadFS P K mg f fd C) : FnOk P w K mg base CX0 1 f fd ["self", "signs"] (spBadS C) := by
  refine ⟨fun vs H Q E h => ?_, fun A outer s H args us vs Q E hr en hb hv hsp => ?_⟩
  · obtain ⟨a, y, rfl, _⟩ := h
    rfl
  obtain ⟨a, y, rfl, ha, k⟩ := hsp
  obtain ⟨oc, od, kV, doc, pm, an, ct, osl, cda, cc, ccl, cdd, vs, ccs, file, tf, cl, cld, csl, rfl, lk, hcd, lcd, hvs, hfile, lcc⟩ := F.ex
  obtain ⟨nm, q, N, bs, bm, sn, sub, ab, col, dd, k0, k1, k2, k3, k5, hC, hbm⟩ := F.oex.cls
  cases hv with
  | cons h1 t1 =>
  cases t1 with
  | cons h2 t2 =>
  cases t2 with
  | nil =>
  rename_i u1 u2
  have e1 : u1 = .ref a := h1
  subst e1
  have hda := hr.dp
  have kb : ∀ b o, base.get? b = some o → s.heap.get? b = some o := fun b o e => (en.bs b o e).1
  have X : K.In s.heap := en.mod.kin.keeps kb
  have hcl : clsIn K C = some { name := nm, bases := bs, mro := .ref C :: bm, ns := N, qualname := q, hasDict := true, slotNames := sn, subclasses := sub, abstract := ab, collection := col } := by unfold clsIn; rw [hC]
  obtain ⟨t0, ho⟩ := exo_at en.hok ha
  have nb : ∀ {b o}, base.get? b = some o → b ≠ a := fun e z => by rw [z] at e; have := (en.bs _ _ e).2; rw [ha] at this; cases this
  have aL : a ≠ s.heap.objs.size := Nat.ne_of_lt (Heap.lt_size ho)
  refine ks_codeAny_call_defAt (by omega) (X f _ lk) rfl (en.mod.nolimit.keeps kb) (codeRec_of X hcd) rfl hb (by show ∀ x ∈ (defScope sBadS).names, x.2 ≠ .cell; decide +kernel) ?_ (fun h₀ hns kp => ?_) (by rfl) (by rfl) (by rfl)
  · intro x hx
    rcases List.mem_cons.mp hx with rfl | hx
    · rfl
    · obtain rfl := List.mem_singleton.mp hx
      rfl
  have X0 : K.In h₀ := X.keeps kp
  refine ks_wpAt_execs_cons ?_
  refine ks_wpAt_Expr_any (ks_wpAt_MethodCall ?_ rfl) rfl rfl
  refine ks_wpAt_super_base rfl rfl rfl rfl (X0 f _ lk) rfl rfl rfl (X0 cda _ lcd) rfl hvs hfile F.sup ?_
  obtain ⟨mb, hb1, hb2⟩ := en.mod.blt
  have kb0 : ∀ b o, base.get? b = some o → h₀.get? b = some o := fun b o e => kp b o (kb b o e)
  show wpAny _ _ (loadGlobal _ "super") _ _ _
  refine loadGlobal_builtin (en.mod.glob.keeps kb0) F.mgS (hb1.keeps kb0) ((hb2 "super" (by decide)).trans (by decide +kernel)) ⟨rfl, ?_⟩
  refine wpAny_loadName_free rfl rfl rfl ⟨_, X0 cc _ lcc, rfl⟩ ?_
  refine wpAny_loadName_local rfl rfl hns rfl ?_
  refine ks_wpAny_isType_cls (X0 C _ hC) rfl ⟨rfl, ?_⟩
  refine ks_wpAny_call_super (X0 C _ hC) rfl (kp _ _ ho) rfl (by intro c h; cases h) (looks_mroIn X0 F.subC) (fun h1 hso kp1 => ?_)
  have X1 : K.In h1 := X0.keeps kp1
  have ho1 := kp1 _ _ (kp _ _ ho)
  have I1 : InstAt h1 a _ C none := ⟨ho1, rfl, rfl, trivial⟩
  refine kxs_getMethod kxs_ValueError hso (looks_opaque X1 F.any) (fun A Q E s k q => wpAny_bind (looks_clsIn X1 hcl A _ E s k (wpAny_pure q))) rfl X1 (by have := F.sin; unfold ks_superIn at this; rw [hcl] at this; exact this) (Looks.andThen I1.type (looks_subIn X1 F.subV)) (ks_ne X1 I1 hcl) rfl ?_
  have kp2 : ∀ b o, h₀.get? b = some o → (h1.push (kxs_mw "ValueError.__init__" a)).get? b = some o := fun b o e => Heap.get?_push_of_some _ (kp1 b o e)
  have hu : (h1.push (kxs_mw "ValueError.__init__" a)).get? h1.objs.size = some (kxs_mw "ValueError.__init__" a) := Heap.get?_push_at rfl rfl
  have hu1 : h1.get? h1.objs.size = none := by
    cases e : h1.get? h1.objs.size with
    | none => rfl
    | some o => exact absurd (Heap.lt_size e) (Nat.lt_irrefl _)
  have hC2 := kp2 _ _ (X0 C _ hC)
  have ho2 := kp2 _ _ (kp _ _ ho)
  revert kp2 hu hC2 ho2
  generalize h1.push (kxs_mw "ValueError.__init__" a) = hp2
  intro kp2 hu hC2 ho2
  refine kxs_callWith1 (h₀ := h1) (L := h1.objs.size + 1) (news := [(h1.objs.size, kxs_mw "ValueError.__init__" a)]) (x := a) (i := "ValueError.__init__") (fun p hp => ?_) (by simp) ?_ rfl rfl
  · obtain rfl := List.mem_singleton.mp hp
    exact ⟨hu, by simp, hu1⟩
  refine spliced_cons ?_
  refine Constant_str (x := "these are no signs") (k := 0) (pos := ⟨0, 0, 0, 0⟩) ?_
  refine spliced_nil ?_
  refine ⟨hu, ?_⟩
  refine call_mw hC2 ho2 hu (by show 1 ≤ sizeLine; decide) (fun h3 t1 kp3 ho3 => ?_)
  have kp3' : ∀ b o, b ≠ a → s.heap.get? b = some o → h3.get? b = some o := fun b o nb e => kp3 b o nb (kp2 b o (kp b o e))
  have hns3 : h3.Ns s.heap.objs.size (fun x => List.lookup x ([PySem.Str.ofString "self", PySem.Str.ofString "signs"].zip [Value.ref a, u2]).reverse) := by
    obtain ⟨o, es, ep, e, r⟩ := hns
    exact ⟨o, es, ep, kp3 _ _ aL.symm (kp2 _ _ e), r⟩
  have X3 : K.In h3 := fun b o e => kp3' b o (nb (en.mod.kin b o e)) (X b o e)
  dsimp only
  refine ks_wpAt_execs_cons ?_
  refine ks_wpAt_Assign_Attr ?_ rfl
  refine wpAt_of_wpAny ?_
  refine wpAny_Name (wpAny_loadName_local rfl rfl hns3 rfl ?_) rfl
  refine wpAny_Name (wpAny_loadName_local rfl rfl hns3 rfl ?_) rfl
  refine set_plain (ox := HandSPX.excO C t1) (od := none) X3 ⟨ho3, rfl, rfl, trivial⟩ F.oex.sa ?_
  refine HandSPX.exc_osa X3 ho3 hcl hbm rfl F.fi (fun h4 tk4 dx kp4 dn dne hx hn => ?_)
  refine wpAt_of_wpAny (wpAny_execs_nil ?_)
  have kp4' : ∀ b o, b ≠ a → s.heap.get? b = some o → h4.get? b = some o := fun b o nb e => kp4 b o nb (kp3' b o nb e)
  have dn' : h3.objs.size ≤ dx := dn
  have dnS : s.heap.objs.size ≤ dx := by
    rcases Nat.lt_or_ge dx s.heap.objs.size with q | q
    · exact absurd q (by
        have q0 : s.heap.objs.size < h3.objs.size := by
          obtain ⟨o, es, ep, e, r⟩ := hns3
          exact Heap.lt_size e
        omega)
    · exact q
  have hnd : H dx = none := HOk.fresh en.hok dnS
  have nd : ∀ {b o}, s.heap.get? b = some o → b ≠ dx := fun e => Nat.ne_of_lt (Nat.lt_of_lt_of_le (Heap.lt_size e) dnS)
  have na : ∀ {b}, H b = none → b ≠ a := fun e z => by rw [z, ha] at e; cases e
  show CR CX0 outer P w H s Q E (.ok (.ret .none)) _
  refine ⟨.non, upd (upd H dx (exd dx [("signs", y)])) a (exo a C (some dx)), rfl, en.bare, ⟨?_, ?_, ?_, ?_, ?_, ?_, ?_⟩, ?_, rfl, k dx hnd dne⟩
  · exact fun b o e n _ _ => kp4' b o (na n) e
  · exact fun b o e n _ _ => ⟨o.slots, kp4' b o (na n) e⟩
  · exact fun b o e n _ => by rw [upd_ne (na n), upd_ne (nd e)]; exact n
  · intro b o e _
    by_cases z : b = a
    · rw [z]; exact ⟨_, hx⟩
    · exact ⟨o, kp4' b o z e⟩
  · intro b xs e
    rw [upd_ne (at_ne ha e exo_tup), upd_ne (ne_of_none e hnd)]; exact e
  · intro b o v e
    rw [upd_ne (at_ne ha e exo_frz), upd_ne (ne_of_none e hnd)]; exact e
  · intro b ps e
    refine ⟨#[], ?_⟩
    rw [upd_ne (at_ne ha e (by intro z; cases z)), upd_ne (ne_of_none e hnd), Array.append_empty]; exact e
  · intro b o e
    by_cases z : b = a
    · subst z
      rw [upd_same] at e
      obtain rfl := Option.some.inj e
      exact ⟨⟨t1, hx⟩, ⟨_, hx⟩, fun h1 h2 ⟨t, e⟩ k => ⟨t, k _ e⟩⟩
    · rw [upd_ne z] at e
      by_cases z2 : b = dx
      · subst z2
        rw [upd_same] at e
        obtain rfl := Option.some.inj e
        refine ⟨⟨_, hn, fun g => ?_⟩, by obtain ⟨o, _, _, e, _⟩ := hn; exact ⟨o, e⟩, fun h1 h2 ⟨mA, ⟨o, es, ep, e, r⟩, q⟩ k => ⟨mA, ⟨o, es, ep, k _ e, r⟩, q⟩⟩
        by_cases z3 : g = "signs"
        · subst z3
          rw [if_pos rfl]
          exact h2
        · rw [if_neg z3, List.lookup_cons, beq_false_of_ne z3]
          exact trivial
      · rw [upd_ne z2] at e
        refine ObjOk.stay (en.hok b o e) (fun c u hc hu => ?_) (fun c hc => ?_) (fun c xs hc => ?_)
        · refine kp4' c u ?_ hu
          rcases hc with rfl | hc
          · exact z
          · exact at_ne ha hc (by intro z; cases z)
        · rw [upd_ne (at_ne ha hc (by intro z; cases z)), upd_ne (ne_of_none hc hnd)]; exact hc
        · rw [upd_ne (at_ne ha hc exo_tup), upd_ne (ne_of_none hc hnd)]; exact hc
end
structure ErrS (P : Program) (K : Frag) (mg : Str → Option Value) (C fI : Addr) (fdI : FuncData) : Prop where
  T : BadFS P K mg fI fdI C
  gC : mg "BadSigns" = some (.ref C)
  iC : findIn K (.ref C) "__init__" = some (some (.ref fI))
  tI : typeIn K (.ref fI) = some (.type "function")
  bI : Binds K fdI ["self", "signs"] []
abbrev sBadP : Stmt := inClass (top 4) 0
/-- what is known of the class of the errors, and of its __init__ -/
structure BadFP (P : Program) (K : Frag) (mg : Str → Option Value) (f : Addr) (fd : FuncData) (C : Addr) : Prop where
  ex : ∃ (oc : Value) (od : Option Addr) (kV doc pm : Value) (an : Option Addr) (ct : Value) (osl : Array (Option Value)) (cda cc : Addr) (ccl : Value) (cdd : Option Addr) (vs : Array Value) (ccs : Array (Option Value)) (file : Str) (tf : Tok) (cl : Value) (cld : Option Addr) (csl : Array (Option Value)),
    fd = ksFn "__init__" "BadPaper.__init__" (defArgs sBadP) (defBody sBadP) (defScope sBadP) .none kV doc pm an (.ref cda) ct cc ∧ K.lookup f = some ⟨oc, od, .func fd, osl⟩ ∧ codeIn K (.ref cda) "BadPaper.__init__" = true ∧
    K.lookup cda = some ⟨ccl, cdd, .fields vs, ccs⟩ ∧ vs[2]? = some (.str file tf) ∧ (P.main.file == file) = true ∧ K.lookup cc = some ⟨cl, cld, .cell (some (.ref C)), csl⟩
  sup : (List.lookup (PySem.Str.ofString "super") P.main.scope.names).isSome = false
  any : nsIn K cStatics "thirdparty.any" = some none
  mgS : mg "super" = none
  oex : OexC K C
  sin : ks_superIn K C C "__init__" = some (some (.builtin "ValueError.__init__"))
  subC : mroIn K C (.ref C) = some true
  subV : subIn K (.ref C) (.type "ValueError") = some true
  fi : findIn K (.ref C) "paper" = some none
def spBadP (C : Addr) : Sp := fun vs H Q _ => ∃ (a : Addr) (y : V), vs = [.ref a, y] ∧ H a = some (exo a C none) ∧ ∀ dx, H dx = none → dx ≠ a → Q .non (upd (upd H dx (exd dx [("paper", y)])) a (exo a C (some dx)))
section
variable {P : Program} {w : World} {K : PySem.W.Frag} {mg : Str → Option Value} {base : Heap}
theorem ok_badP {f C : Addr} {fd : FuncData} (F : BadFP P K mg f fd C) : FnOk P w K mg base CX0 1 f fd ["self", "paper"] (spBadP C) := by
  refine ⟨fun vs H Q E h => ?_, fun A outer s H args us vs Q E hr en hb hv hsp => ?_⟩
  · obtain ⟨a, y, rfl, _⟩ := h
    rfl
  obtain ⟨a, y, rfl, ha, k⟩ := hsp
  obtain ⟨oc, od, kV, doc, pm, an, ct, osl, cda, cc, ccl, cdd, vs, ccs, file, tf, cl, cld, csl, rfl, lk, hcd, lcd, hvs, hfile, lcc⟩ := F.ex
  obtain ⟨nm, q, N, bs, bm, sn, sub, ab, col, dd, k0, k1, k2, k3, k5, hC, hbm⟩ := F.oex.cls
  cases hv with
  | cons h1 t1 =>
  cases t1 with
  | cons h2 t2 =>
  cases t2 with
  | nil =>
  rename_i u1 u2
  have e1 : u1 = .ref a := h1
  subst e1
  have hda := hr.dp
  have kb : ∀ b o, base.get? b = some o → s.heap.get? b = some o := fun b o e => (en.bs b o e).1
  have X : K.In s.heap := en.mod.kin.keeps kb
  have hcl : clsIn K C = some { name := nm, bases := bs, mro := .ref C :: bm, ns := N, qualname := q, hasDict := true, slotNames := sn, subclasses := sub, abstract := ab, collection := col } := by unfold clsIn; rw [hC]
  obtain ⟨t0, ho⟩ := exo_at en.hok ha
  have nb : ∀ {b o}, base.get? b = some o → b ≠ a := fun e z => by rw [z] at e; have := (en.bs _ _ e).2; rw [ha] at this; cases this
  have aL : a ≠ s.heap.objs.size := Nat.ne_of_lt (Heap.lt_size ho)
  refine ks_codeAny_call_defAt (by omega) (X f _ lk) rfl (en.mod.nolimit.keeps kb) (codeRec_of X hcd) rfl hb (by show ∀ x ∈ (defScope sBadP).names, x.2 ≠ .cell; decide +kernel) ?_ (fun h₀ hns kp => ?_) (by rfl) (by rfl) (by rfl)
  · intro x hx
    rcases List.mem_cons.mp hx with rfl | hx
    · rfl
    · obtain rfl := List.mem_singleton.mp hx
      rfl
  have X0 : K.In h₀ := X.keeps kp
  refine ks_wpAt_execs_cons ?_
  refine ks_wpAt_Expr_any (ks_wpAt_MethodCall ?_ rfl) rfl rfl
  refine ks_wpAt_super_base rfl rfl rfl rfl (X0 f _ lk) rfl rfl rfl (X0 cda _ lcd) rfl hvs hfile F.sup ?_
  obtain ⟨mb, hb1, hb2⟩ := en.mod.blt
  have kb0 : ∀ b o, base.get? b = some o → h₀.get? b = some o := fun b o e => kp b o (kb b o e)
  show wpAny _ _ (loadGlobal _ "super") _ _ _
  refine loadGlobal_builtin (en.mod.glob.keeps kb0) F.mgS (hb1.keeps kb0) ((hb2 "super" (by decide)).trans (by decide +kernel)) ⟨rfl, ?_⟩
  refine wpAny_loadName_free rfl rfl rfl ⟨_, X0 cc _ lcc, rfl⟩ ?_
  refine wpAny_loadName_local rfl rfl hns rfl ?_
  refine ks_wpAny_isType_cls (X0 C _ hC) rfl ⟨rfl, ?_⟩
  refine ks_wpAny_call_super (X0 C _ hC) rfl (kp _ _ ho) rfl (by intro c h; cases h) (looks_mroIn X0 F.subC) (fun h1 hso kp1 => ?_)
  have X1 : K.In h1 := X0.keeps kp1
  have ho1 := kp1 _ _ (kp _ _ ho)
  have I1 : InstAt h1 a _ C none := ⟨ho1, rfl, rfl, trivial⟩
  refine kxs_getMethod kxs_ValueError hso (looks_opaque X1 F.any) (fun A Q E s k q => wpAny_bind (looks_clsIn X1 hcl A _ E s k (wpAny_pure q))) rfl X1 (by have := F.sin; unfold ks_superIn at this; rw [hcl] at this; exact this) (Looks.andThen I1.type (looks_subIn X1 F.subV)) (ks_ne X1 I1 hcl) rfl ?_
  have kp2 : ∀ b o, h₀.get? b = some o → (h1.push (kxs_mw "ValueError.__init__" a)).get? b = some o := fun b o e => Heap.get?_push_of_some _ (kp1 b o e)
  have hu : (h1.push (kxs_mw "ValueError.__init__" a)).get? h1.objs.size = some (kxs_mw "ValueError.__init__" a) := Heap.get?_push_at rfl rfl
  have hu1 : h1.get? h1.objs.size = none := by
    cases e : h1.get? h1.objs.size with
    | none => rfl
    | some o => exact absurd (Heap.lt_size e) (Nat.lt_irrefl _)
  have hC2 := kp2 _ _ (X0 C _ hC)
  have ho2 := kp2 _ _ (kp _ _ ho)
  revert kp2 hu hC2 ho2
  generalize h1.push (kxs_mw "ValueError.__init__" a) = hp2
  intro kp2 hu hC2 ho2
  refine kxs_callWith1 (h₀ := h1) (L := h1.objs.size + 1) (news := [(h1.objs.size, kxs_mw "ValueError.__init__" a)]) (x := a) (i := "ValueError.__init__") (fun p hp => ?_) (by simp) ?_ rfl rfl
  · obtain rfl := List.mem_singleton.mp hp
    exact ⟨hu, by simp, hu1⟩
  refine spliced_cons ?_
  refine Constant_str (x := "this is no paper") (k := 0) (pos := ⟨0, 0, 0, 0⟩) ?_
  refine spliced_nil ?_
  refine ⟨hu, ?_⟩
  refine call_mw hC2 ho2 hu (by show 1 ≤ sizeLine; decide) (fun h3 t1 kp3 ho3 => ?_)
  have kp3' : ∀ b o, b ≠ a → s.heap.get? b = some o → h3.get? b = some o := fun b o nb e => kp3 b o nb (kp2 b o (kp b o e))
  have hns3 : h3.Ns s.heap.objs.size (fun x => List.lookup x ([PySem.Str.ofString "self", PySem.Str.ofString "paper"].zip [Value.ref a, u2]).reverse) := by
    obtain ⟨o, es, ep, e, r⟩ := hns
    exact ⟨o, es, ep, kp3 _ _ aL.symm (kp2 _ _ e), r⟩
  have X3 : K.In h3 := fun b o e => kp3' b o (nb (en.mod.kin b o e)) (X b o e)
  dsimp only
  refine ks_wpAt_execs_cons ?_
  refine ks_wpAt_Assign_Attr ?_ rfl
  refine wpAt_of_wpAny ?_
  refine wpAny_Name (wpAny_loadName_local rfl rfl hns3 rfl ?_) rfl
  refine wpAny_Name (wpAny_loadName_local rfl rfl hns3 rfl ?_) rfl
  refine set_plain (ox := HandSPX.excO C t1) (od := none) X3 ⟨ho3, rfl, rfl, trivial⟩ F.oex.sa ?_
  refine HandSPX.exc_osa X3 ho3 hcl hbm rfl F.fi (fun h4 tk4 dx kp4 dn dne hx hn => ?_)
  refine wpAt_of_wpAny (wpAny_execs_nil ?_)
  have kp4' : ∀ b o, b ≠ a → s.heap.get? b = some o → h4.get? b = some o := fun b o nb e => kp4 b o nb (kp3' b o nb e)
  have dn' : h3.objs.size ≤ dx := dn
  have dnS : s.heap.objs.size ≤ dx := by
    rcases Nat.lt_or_ge dx s.heap.objs.size with q | q
    · exact absurd q (by
        have q0 : s.heap.objs.size < h3.objs.size := by
          obtain ⟨o, es, ep, e, r⟩ := hns3
          exact Heap.lt_size e
        omega)
    · exact q
  have hnd : H dx = none := HOk.fresh en.hok dnS
  have nd : ∀ {b o}, s.heap.get? b = some o → b ≠ dx := fun e => Nat.ne_of_lt (Nat.lt_of_lt_of_le (Heap.lt_size e) dnS)
  have na : ∀ {b}, H b = none → b ≠ a := fun e z => by rw [z, ha] at e; cases e
  show CR CX0 outer P w H s Q E (.ok (.ret .none)) _
  refine ⟨.non, upd (upd H dx (exd dx [("paper", y)])) a (exo a C (some dx)), rfl, en.bare, ⟨?_, ?_, ?_, ?_, ?_, ?_, ?_⟩, ?_, rfl, k dx hnd dne⟩
  · exact fun b o e n _ _ => kp4' b o (na n) e
  · exact fun b o e n _ _ => ⟨o.slots, kp4' b o (na n) e⟩
  · exact fun b o e n _ => by rw [upd_ne (na n), upd_ne (nd e)]; exact n
  · intro b o e _
    by_cases z : b = a
    · rw [z]; exact ⟨_, hx⟩
    · exact ⟨o, kp4' b o z e⟩
  · intro b xs e
    rw [upd_ne (at_ne ha e exo_tup), upd_ne (ne_of_none e hnd)]; exact e
  · intro b o v e
    rw [upd_ne (at_ne ha e exo_frz), upd_ne (ne_of_none e hnd)]; exact e
  · intro b ps e
    refine ⟨#[], ?_⟩
    rw [upd_ne (at_ne ha e (by intro z; cases z)), upd_ne (ne_of_none e hnd), Array.append_empty]; exact e
  · intro b o e
    by_cases z : b = a
    · subst z
      rw [upd_same] at e
      obtain rfl := Option.some.inj e
      exact ⟨⟨t1, hx⟩, ⟨_, hx⟩, fun h1 h2 ⟨t, e⟩ k => ⟨t, k _ e⟩⟩
    · rw [upd_ne z] at e
      by_cases z2 : b = dx
      · subst z2
        rw [upd_same] at e
        obtain rfl := Option.some.inj e
        refine ⟨⟨_, hn, fun g => ?_⟩, by obtain ⟨o, _, _, e, _⟩ := hn; exact ⟨o, e⟩, fun h1 h2 ⟨mA, ⟨o, es, ep, e, r⟩, q⟩ k => ⟨mA, ⟨o, es, ep, k _ e, r⟩, q⟩⟩
        by_cases z3 : g = "paper"
        · subst z3
          rw [if_pos rfl]
          exact h2
        · rw [if_neg z3, List.lookup_cons, beq_false_of_ne z3]
          exact trivial
      · rw [upd_ne z2] at e
        refine ObjOk.stay (en.hok b o e) (fun c u hc hu => ?_) (fun c hc => ?_) (fun c xs hc => ?_)
        · refine kp4' c u ?_ hu
          rcases hc with rfl | hc
          · exact z
          · exact at_ne ha hc (by intro z; cases z)
        · rw [upd_ne (at_ne ha hc (by intro z; cases z)), upd_ne (ne_of_none hc hnd)]; exact hc
        · rw [upd_ne (at_ne ha hc exo_tup), upd_ne (ne_of_none hc hnd)]; exact hc
end
structure ErrP (P : Program) (K : Frag) (mg : Str → Option Value) (C fI : Addr) (fdI : FuncData) : Prop where
  T : BadFP P K mg fI fdI C
  gC : mg "BadPaper" = some (.ref C)
  iC : findIn K (.ref C) "__init__" = some (some (.ref fI))
  tI : typeIn K (.ref fI) = some (.type "function")
  bI : Binds K fdI ["self", "paper"] []
/-- what an error bears -/
def Err (C : Addr) (f : Str) (x : V) (H : Hp) (E : XK) : Prop := ∀ H' d, Same H H' → H' d = some (.xd [(f, x)]) → H d = none → E (.ref C) (some d) H'
theorem Err.same {C : Addr} {f : Str} {x : V} {H H1 : Hp} {E : XK} (h : Err C f x H E) (s : Same H H1) : Err C f x H1 E := fun H' d s' e n => h H' d (s.trans s') e (Same.free s n)
theorem rzS {C : Addr} {x : V} {H1 : Hp} {E : XK} (er : Err C "signs" x H1 E) : [x].length ≤ 1000 ∧ ∀ a : Addr, H1 a = none → spBadS C (V.ref a :: ([x] ++ [])) (upd H1 a (exo a C none))
      (fun v H2 => v = V.non ∧ ∃ d fs, H2 a = some (exo a C (some d)) ∧ H2 d = some (exd d fs) ∧ H1 d = none ∧ E (Value.ref C) (some d) (upd (del H2 a) d (HO.xd fs))) fun x x_1 x_2 => False := by
  refine ⟨(by show 1 ≤ 1000; decide), fun a ha => ⟨a, x, rfl, upd_same, fun dx hdx ne => ?_⟩⟩
  rw [upd_ne ne] at hdx
  refine ⟨rfl, dx, [("signs", x)], upd_same, by rw [upd_ne ne, upd_same], hdx, ?_⟩
  refine er _ _ (fun c o e => ?_) upd_same hdx
  have n1 : c ≠ dx := ne_of_none e hdx
  have n2 : c ≠ a := ne_of_none e ha
  rw [upd_ne n1, del_ne n2, upd_ne n2, upd_ne n1, upd_ne n2]
  exact e
theorem rzP {C : Addr} {x : V} {H1 : Hp} {E : XK} (er : Err C "paper" x H1 E) : [x].length ≤ 1000 ∧ ∀ a : Addr, H1 a = none → spBadP C (V.ref a :: ([x] ++ [])) (upd H1 a (exo a C none))
      (fun v H2 => v = V.non ∧ ∃ d fs, H2 a = some (exo a C (some d)) ∧ H2 d = some (exd d fs) ∧ H1 d = none ∧ E (Value.ref C) (some d) (upd (del H2 a) d (HO.xd fs))) fun x x_1 x_2 => False := by
  refine ⟨(by show 1 ≤ 1000; decide), fun a ha => ⟨a, x, rfl, upd_same, fun dx hdx ne => ?_⟩⟩
  rw [upd_ne ne] at hdx
  refine ⟨rfl, dx, [("paper", x)], upd_same, by rw [upd_ne ne, upd_same], hdx, ?_⟩
  refine er _ _ (fun c o e => ?_) upd_same hdx
  have n1 : c ≠ dx := ne_of_none e hdx
  have n2 : c ≠ a := ne_of_none e ha
  rw [upd_ne n1, del_ne n2, upd_ne n2, upd_ne n1, upd_ne n2]
  exact e
end K1
namespace K4
open PySem L2 K1 PyProof.Rows
theorem okXN {P : Program} {w : World} {K : PySem.W.Frag} {mg : Str → Option Value} {base : Heap} {x qual : Str} {st : Stmt} {f : Addr} {fd : FuncData} {N ps : List Str} {k : Nat} {sp : Sp} (F : Fun K x qual st f fd) (S : FnScope N ps (defScope st)) (len : ∀ vs H Q E, sp vs H Q E → vs.length = ps.length)
    (hbody : ∀ (cdv : Value) (A : Around) (outer : List Env) (s : Shared) (H : Hp) (vs : List V) (Q : VK) (E : XK), Room k (A.deeper (PyProof.Rows.envOfC qual (defScope st) s.heap.objs.size f cdv)) → sp vs H Q E →
      ∃ t, PSs (cxOf (L2N.CX P w) P w K mg base N qual (defScope st) f cdv A outer s H E) (defBody st) t ∧ t { nx := fun _ H' => Q .non H', rt := Q } (L2.start N vs) H) : FnOk P w K mg base (L2N.CX P w) (k + 1) f fd ps sp := by
  obtain ⟨oc, od, kV, doc, pm, an, cdv, ct, osl, rfl, lk, hcd⟩ := F.ex
  exact fn_of lk hcd S len fun A outer s H vs Q E hr hsp => hbody cdv A outer s H vs Q E hr hsp
def OwnX (P : Program) (w : World) (K : PySem.W.Frag) (mg : Str → Option Value) (base : Heap) (x : Str) (k : Nat) (ps : List Str) (sp : Sp) : Prop :=
  ∃ (f : Addr) (fd : FuncData), FnOk P w K mg base (L2N.CX P w) k f fd ps sp ∧ mg x = some (.ref f) ∧ PySem.W.keepIn K (.ref f) = true ∧ Binds K fd ps []
theorem pe_ownX {X : Cx} {x : Str} {k : Nat} {ps : List Str} {sp : Sp} {E : XK} {e : Expr} {es : List Expr} {t : TA} {p pos : Pos} (O : OwnX X.prog X.w X.K X.mg X.base x k ps sp) (hr : Room k X.A) (hx : Passes (L2N.CX X.prog X.w) X E) (ha : PA X (e :: es) t) (hg : Gl X x := by rfl)
    (hdb : (x == ("__debug__" : Str)) = false := by decide) (he : starEach (e :: es) X.env = (false, eval e X.env) :: starEach es X.env := by rfl) (hpl : (backTo pos (starEach es X.env)).any (·.1) = false := by rfl) :
    PE X (.Call (.Name x p) (e :: es) [] pos) (tCall sp [] E t) := by
  obtain ⟨f, fd, G, m, kp, b⟩ := O
  exact pe_call G hr hg m kp b .nil hx ha hdb he hpl
theorem FnOk.calm {P : Program} {w : World} {K : PySem.W.Frag} {mg : Str → Option Value} {base : Heap} {k : Nat} {f : Addr} {fd : FuncData} {ps : List Str} {sp sp' : Sp} (F : FnOk P w K mg base (L2N.CX P w) k f fd ps sp)
    (h : ∀ vs H Q E, sp' vs H Q E → sp vs H Q (fun _ _ _ => False)) : FnOk P w K mg base CX0 k f fd ps sp' :=
  ⟨fun vs H Q E q => F.len vs H Q _ (h vs H Q E q), fun A outer s H args us vs Q E hr en hb hv q => codeAny_mono (F.run A outer s H args us vs Q _ hr en hb hv (h vs H Q E q)) fun r s' hq => by
    cases r with
    | ok fl => cases fl <;> exact hq
    | error e =>
      obtain ⟨_, _, _, _, _, _, _, _, _, _, _, _, hE⟩ := hq
      exact hE.elim⟩
end K4

/-! E69 -/

namespace K1
open PySem L2 PyProof.Rows PySem.W PySem.Calls
theorem jp0 {M : Model} {A : Around} {E : Value → Shared → Prop} {s : Shared} {out : Str} {x : Sem Value} {rest : List (Sem Value)} {Q : Value → Shared → Prop} {n m : Nat} (ho : out.length ≤ n) (hs : n + m ≤ sizeLine)
    (h : wpAny M A x (fun v s₁ => match v with | .str y _ => y.length ≤ m ∧ ∀ o : Str, o.length ≤ n + m → wpAny M A (joinParts o rest) Q E s₁ | _ => False) E s) : wpAny M A (joinParts out (x :: rest)) Q E s := by
  refine joinParts_cons (wpAny_mono h (fun v s₁ h₁ => ?_) fun _ _ e => e)
  cases v <;> first
    | exact h₁.elim
    | (rename_i y _
       have e : (out ++ y).length ≤ n + m := by
         have := h₁.1
         rw [strLen_append]; omega
       exact ⟨Nat.le_trans e hs, h₁.2 _ e⟩)
theorem jp1 {M : Model} {A : Around} {E : Value → Shared → Prop} {s : Shared} {env : Env} {out : Str} {e : Expr} {es : List Expr} {Q : Value → Shared → Prop} {n m : Nat} (ho : out.length ≤ n) (hs : n + m ≤ sizeLine)
    (h : wpAny M A (eval e env) (fun v s₁ => match v with | .str y _ => y.length ≤ m ∧ ∀ o : Str, o.length ≤ n + m → wpAny M A (joinParts o (evalEach es env)) Q E s₁ | _ => False) E s) : wpAny M A (joinParts out (evalEach (e :: es) env)) Q E s := joinParts_consE (jp0 ho hs h)
theorem jpN {M : Model} {A : Around} {E : Value → Shared → Prop} {s : Shared} {env : Env} {out : Str} {Q : Value → Shared → Prop} {n : Nat} (ho : out.length ≤ n) (hs : n ≤ sizeLine) (h : Q (.str out s.toks) { s with toks := s.toks + 1 }) : wpAny M A (joinParts out (evalEach [] env)) Q E s := joinParts_nilE (joinParts_nil h (Nat.le_trans ho hs))
abbrev sBadM : Stmt := inClass (top 6) 0
/-- what is known of the class of the errors, and of its __init__ -/
structure BadFM (P : Program) (K : Frag) (mg : Str → Option Value) (f : Addr) (fd : FuncData) (C : Addr) : Prop where
  ex : ∃ (oc : Value) (od : Option Addr) (kV doc pm : Value) (an : Option Addr) (ct : Value) (osl : Array (Option Value)) (cda cc : Addr) (ccl : Value) (cdd : Option Addr) (vs : Array Value) (ccs : Array (Option Value)) (file : Str) (tf : Tok) (cl : Value) (cld : Option Addr) (csl : Array (Option Value)),
    fd = ksFn "__init__" "TooMany.__init__" (defArgs sBadM) (defBody sBadM) (defScope sBadM) .none kV doc pm an (.ref cda) ct cc ∧ K.lookup f = some ⟨oc, od, .func fd, osl⟩ ∧ codeIn K (.ref cda) "TooMany.__init__" = true ∧
    K.lookup cda = some ⟨ccl, cdd, .fields vs, ccs⟩ ∧ vs[2]? = some (.str file tf) ∧ (P.main.file == file) = true ∧ K.lookup cc = some ⟨cl, cld, .cell (some (.ref C)), csl⟩
  sup : (List.lookup (PySem.Str.ofString "super") P.main.scope.names).isSome = false
  any : nsIn K cStatics "thirdparty.any" = some none
  mgS : mg "super" = none
  oex : OexC K C
  sin : ks_superIn K C C "__init__" = some (some (.builtin "ValueError.__init__"))
  subC : mroIn K C (.ref C) = some true
  subV : subIn K (.ref C) (.type "ValueError") = some true
  fi : findIn K (.ref C) "what" = some none
def spBadM (C : Addr) : Sp := fun vs H Q _ => ∃ (a : Addr) (x : Str), vs = [.ref a, .str x] ∧ x.length ≤ 100 ∧ H a = some (exo a C none) ∧ ∀ dx, H dx = none → dx ≠ a → Q .non (upd (upd H dx (exd dx [("what", .str x)])) a (exo a C (some dx)))
section
variable {P : Program} {w : World} {K : PySem.W.Frag} {mg : Str → Option Value} {base : Heap}
theorem ok_badM {f C : Addr} {fd : FuncData} (F : BadFM P K mg f fd C) : FnOk P w K mg base CX0 1 f fd ["self", "what"] (spBadM C) := by
  refine ⟨fun vs H Q E h => ?_, fun A outer s H args us vs Q E hr en hb hv hsp => ?_⟩
  · obtain ⟨a, x, rfl, _⟩ := h
    rfl
  obtain ⟨a, x, rfl, hxl, ha, k⟩ := hsp
  obtain ⟨oc, od, kV, doc, pm, an, ct, osl, cda, cc, ccl, cdd, vs, ccs, file, tf, cl, cld, csl, rfl, lk, hcd, lcd, hvs, hfile, lcc⟩ := F.ex
  obtain ⟨nm, q, N, bs, bm, sn, sub, ab, col, dd, k0, k1, k2, k3, k5, hC, hbm⟩ := F.oex.cls
  cases hv with
  | cons h1 t1 =>
  cases t1 with
  | cons h2 t2 =>
  cases t2 with
  | nil =>
  rename_i u1 u2
  have e1 : u1 = .ref a := h1
  subst e1
  obtain ⟨tk, rfl⟩ : ∃ t, u2 = .str x t := h2
  have hda := hr.dp
  have kb : ∀ b o, base.get? b = some o → s.heap.get? b = some o := fun b o e => (en.bs b o e).1
  have X : K.In s.heap := en.mod.kin.keeps kb
  have hcl : clsIn K C = some { name := nm, bases := bs, mro := .ref C :: bm, ns := N, qualname := q, hasDict := true, slotNames := sn, subclasses := sub, abstract := ab, collection := col } := by unfold clsIn; rw [hC]
  obtain ⟨t0, ho⟩ := exo_at en.hok ha
  have nb : ∀ {b o}, base.get? b = some o → b ≠ a := fun e z => by rw [z] at e; have := (en.bs _ _ e).2; rw [ha] at this; cases this
  have aL : a ≠ s.heap.objs.size := Nat.ne_of_lt (Heap.lt_size ho)
  refine ks_codeAny_call_defAt (by omega) (X f _ lk) rfl (en.mod.nolimit.keeps kb) (codeRec_of X hcd) rfl hb (by show ∀ x ∈ (defScope sBadM).names, x.2 ≠ .cell; decide +kernel) ?_ (fun h₀ hns kp => ?_) (by rfl) (by rfl) (by rfl)
  · intro x hx
    rcases List.mem_cons.mp hx with rfl | hx
    · rfl
    · obtain rfl := List.mem_singleton.mp hx
      rfl
  have X0 : K.In h₀ := X.keeps kp
  refine ks_wpAt_execs_cons ?_
  refine ks_wpAt_Expr_any (ks_wpAt_MethodCall ?_ rfl) rfl rfl
  refine ks_wpAt_super_base rfl rfl rfl rfl (X0 f _ lk) rfl rfl rfl (X0 cda _ lcd) rfl hvs hfile F.sup ?_
  obtain ⟨mb, hb1, hb2⟩ := en.mod.blt
  have kb0 : ∀ b o, base.get? b = some o → h₀.get? b = some o := fun b o e => kp b o (kb b o e)
  show wpAny _ _ (loadGlobal _ "super") _ _ _
  refine loadGlobal_builtin (en.mod.glob.keeps kb0) F.mgS (hb1.keeps kb0) ((hb2 "super" (by decide)).trans (by decide +kernel)) ⟨rfl, ?_⟩
  refine wpAny_loadName_free rfl rfl rfl ⟨_, X0 cc _ lcc, rfl⟩ ?_
  refine wpAny_loadName_local rfl rfl hns rfl ?_
  refine ks_wpAny_isType_cls (X0 C _ hC) rfl ⟨rfl, ?_⟩
  refine ks_wpAny_call_super (X0 C _ hC) rfl (kp _ _ ho) rfl (by intro c h; cases h) (looks_mroIn X0 F.subC) (fun h1 hso kp1 => ?_)
  have X1 : K.In h1 := X0.keeps kp1
  have ho1 := kp1 _ _ (kp _ _ ho)
  have I1 : InstAt h1 a _ C none := ⟨ho1, rfl, rfl, trivial⟩
  refine kxs_getMethod kxs_ValueError hso (looks_opaque X1 F.any) (fun A Q E s k q => wpAny_bind (looks_clsIn X1 hcl A _ E s k (wpAny_pure q))) rfl X1 (by have := F.sin; unfold ks_superIn at this; rw [hcl] at this; exact this) (Looks.andThen I1.type (looks_subIn X1 F.subV)) (ks_ne X1 I1 hcl) rfl ?_
  have kp2 : ∀ b o, h₀.get? b = some o → (h1.push (kxs_mw "ValueError.__init__" a)).get? b = some o := fun b o e => Heap.get?_push_of_some _ (kp1 b o e)
  have hu : (h1.push (kxs_mw "ValueError.__init__" a)).get? h1.objs.size = some (kxs_mw "ValueError.__init__" a) := Heap.get?_push_at rfl rfl
  have hu1 : h1.get? h1.objs.size = none := by
    cases e : h1.get? h1.objs.size with
    | none => rfl
    | some o => exact absurd (Heap.lt_size e) (Nat.lt_irrefl _)
  have hC2 := kp2 _ _ (X0 C _ hC)
  have ho2 := kp2 _ _ (kp _ _ ho)
  revert kp2 hu hC2 ho2
  generalize h1.push (kxs_mw "ValueError.__init__" a) = hp2
  intro kp2 hu hC2 ho2
  refine kxs_callWith1 (h₀ := h1) (L := h1.objs.size + 1) (news := [(h1.objs.size, kxs_mw "ValueError.__init__" a)]) (x := a) (i := "ValueError.__init__") (fun p hp => ?_) (by simp) ?_ rfl rfl
  · obtain rfl := List.mem_singleton.mp hp
    exact ⟨hu, by simp, hu1⟩
  refine spliced_cons ?_
  have hns2 : hp2.Ns s.heap.objs.size (fun q => List.lookup q ([PySem.Str.ofString "self", PySem.Str.ofString "what"].zip [Value.ref a, .str x tk]).reverse) := by
    obtain ⟨o, es, ep, e, r⟩ := hns
    exact ⟨o, es, ep, kp2 _ _ e, r⟩
  rw [if_neg Bool.false_ne_true]
  refine JoinedStr_many ?_
  refine jp0 (n := 0) (m := 100) (by decide) (by decide) ?_
  refine Constant_str ?_
  refine ⟨by decide +kernel, fun o1 hh1 => ?_⟩
  refine jp0 (m := 100) hh1 (by decide) ?_
  refine FormattedValue_plain ?_
  refine wpAny_Name (wpAny_loadName_local rfl rfl hns2 rfl ?_) rfl
  refine formatField_str (fun t9 tk9 => ?_) (Nat.le_trans hxl (by decide))
  refine ⟨hxl, fun o2 hh2 => ?_⟩
  refine jpN hh2 (by decide) ?_
  refine spliced_nil ?_
  refine ⟨hu, ?_⟩
  refine call_mw hC2 ho2 hu (by show 1 ≤ sizeLine; decide) (fun h3 t1 kp3 ho3 => ?_)
  have kp3' : ∀ b o, b ≠ a → s.heap.get? b = some o → h3.get? b = some o := fun b o nb e => kp3 b o nb (kp2 b o (kp b o e))
  have hns3 : h3.Ns s.heap.objs.size (fun q => List.lookup q ([PySem.Str.ofString "self", PySem.Str.ofString "what"].zip [Value.ref a, .str x tk]).reverse) := by
    obtain ⟨o, es, ep, e, r⟩ := hns
    exact ⟨o, es, ep, kp3 _ _ aL.symm (kp2 _ _ e), r⟩
  have X3 : K.In h3 := fun b o e => kp3' b o (nb (en.mod.kin b o e)) (X b o e)
  dsimp only
  refine ks_wpAt_execs_cons ?_
  refine ks_wpAt_Assign_Attr ?_ rfl
  refine wpAt_of_wpAny ?_
  refine wpAny_Name (wpAny_loadName_local rfl rfl hns3 rfl ?_) rfl
  refine wpAny_Name (wpAny_loadName_local rfl rfl hns3 rfl ?_) rfl
  refine set_plain (ox := HandSPX.excO C t1) (od := none) X3 ⟨ho3, rfl, rfl, trivial⟩ F.oex.sa ?_
  refine HandSPX.exc_osa X3 ho3 hcl hbm rfl F.fi (fun h4 tk4 dx kp4 dn dne hx hn => ?_)
  refine wpAt_of_wpAny (wpAny_execs_nil ?_)
  have kp4' : ∀ b o, b ≠ a → s.heap.get? b = some o → h4.get? b = some o := fun b o nb e => kp4 b o nb (kp3' b o nb e)
  have dn' : h3.objs.size ≤ dx := dn
  have dnS : s.heap.objs.size ≤ dx := by
    rcases Nat.lt_or_ge dx s.heap.objs.size with q | q
    · exact absurd q (by
        have q0 : s.heap.objs.size < h3.objs.size := by
          obtain ⟨o, es, ep, e, r⟩ := hns3
          exact Heap.lt_size e
        omega)
    · exact q
  have hnd : H dx = none := HOk.fresh en.hok dnS
  have nd : ∀ {b o}, s.heap.get? b = some o → b ≠ dx := fun e => Nat.ne_of_lt (Nat.lt_of_lt_of_le (Heap.lt_size e) dnS)
  have na : ∀ {b}, H b = none → b ≠ a := fun e z => by rw [z, ha] at e; cases e
  show CR CX0 outer P w H s Q E (.ok (.ret .none)) _
  refine ⟨.non, upd (upd H dx (exd dx [("what", .str x)])) a (exo a C (some dx)), rfl, en.bare, ⟨?_, ?_, ?_, ?_, ?_, ?_, ?_⟩, ?_, rfl, k dx hnd dne⟩
  · exact fun b o e n _ _ => kp4' b o (na n) e
  · exact fun b o e n _ _ => ⟨o.slots, kp4' b o (na n) e⟩
  · exact fun b o e n _ => by rw [upd_ne (na n), upd_ne (nd e)]; exact n
  · intro b o e _
    by_cases z : b = a
    · rw [z]; exact ⟨_, hx⟩
    · exact ⟨o, kp4' b o z e⟩
  · intro b xs e
    rw [upd_ne (at_ne ha e exo_tup), upd_ne (ne_of_none e hnd)]; exact e
  · intro b o v e
    rw [upd_ne (at_ne ha e exo_frz), upd_ne (ne_of_none e hnd)]; exact e
  · intro b ps e
    refine ⟨#[], ?_⟩
    rw [upd_ne (at_ne ha e (by intro z; cases z)), upd_ne (ne_of_none e hnd), Array.append_empty]; exact e
  · intro b o e
    by_cases z : b = a
    · subst z
      rw [upd_same] at e
      obtain rfl := Option.some.inj e
      exact ⟨⟨t1, hx⟩, ⟨_, hx⟩, fun h1 h2 ⟨t, e⟩ k => ⟨t, k _ e⟩⟩
    · rw [upd_ne z] at e
      by_cases z2 : b = dx
      · subst z2
        rw [upd_same] at e
        obtain rfl := Option.some.inj e
        refine ⟨⟨_, hn, fun g => ?_⟩, by obtain ⟨o, _, _, e, _⟩ := hn; exact ⟨o, e⟩, fun h1 h2 ⟨mA, ⟨o, es, ep, e, r⟩, q⟩ k => ⟨mA, ⟨o, es, ep, k _ e, r⟩, q⟩⟩
        by_cases z3 : g = "what"
        · subst z3
          rw [if_pos rfl]
          exact ⟨tk, rfl⟩
        · rw [if_neg z3, List.lookup_cons, beq_false_of_ne z3]
          exact trivial
      · rw [upd_ne z2] at e
        refine ObjOk.stay (en.hok b o e) (fun c u hc hu => ?_) (fun c hc => ?_) (fun c xs hc => ?_)
        · refine kp4' c u ?_ hu
          rcases hc with rfl | hc
          · exact z
          · exact at_ne ha hc (by intro z; cases z)
        · rw [upd_ne (at_ne ha hc (by intro z; cases z)), upd_ne (ne_of_none hc hnd)]; exact hc
        · rw [upd_ne (at_ne ha hc exo_tup), upd_ne (ne_of_none hc hnd)]; exact hc
end
structure ErrM (P : Program) (K : Frag) (mg : Str → Option Value) (C fI : Addr) (fdI : FuncData) : Prop where
  T : BadFM P K mg fI fdI C
  gC : mg "TooMany" = some (.ref C)
  iC : findIn K (.ref C) "__init__" = some (some (.ref fI))
  tI : typeIn K (.ref fI) = some (.type "function")
  bI : Binds K fdI ["self", "what"] []

end K1

/-! N19a -/

/-! Forms: fields, the lengths of their parts, how many readings there are, the readings (pure). -/
namespace K4
open PySem L2
/-- a field of a form -/
inductive Fd
  | w (name : Str) (ws : List Str)
  | r (name al : Str) (lo : Nat) (hi : Option Nat)
def Fd.name : Fd → Str
  | .w n _ => n
  | .r n _ _ _ => n
def oD : Option Nat → PyData
  | none => .none
  | some n => pn n
def Fd.parts (t : Bool) : Fd → List PyData
  | .w n ws => [.str "words", .str n, sq t (ws.map .str)]
  | .r n al lo hi => [.str "run", .str n, .str al, pn lo, oD hi]
def Fd.data (t : Bool) (f : Fd) : PyData := sq t (f.parts t)
def formD (t : Bool) (fs : List Fd) : PyData := sq t (fs.map (Fd.data t))
def fits (p : List Nat) (a : Nat) (w : List Nat) : Bool := (p.drop a).take w.length == w
def lead (cs p : List Nat) : Nat := (p.takeWhile fun c => decide (c ∈ cs)).length
def mostOf (hi : Option Nat) (n : Nat) : Nat := match hi with
  | none => n
  | some h => min h n
/-- the lengths of the parts that a field lets by from a place on -/
def flen : Fd → List Nat → Nat → List Nat
  | .w _ ws, p, a => (List.range 5).filter fun n => ws.any fun w => decide ((tl w).length = n) && fits p a (tl w)
  | .r _ al lo hi, p, a => (List.range (mostOf hi (lead (tl al) (p.drop a)) + 1 - lo)).map (lo + ·)
/-- how many readings the rest of a paper has -/
def ways : List Fd → List Nat → Nat → Nat
  | [], p, a => if a = p.length then 1 else 0
  | f :: fs, p, a => ((flen f p a).map fun n => ways fs p (a + n)).sum
def manyA (f : Fd) (fs : List Fd) (p : List Nat) (a : Nat) : List Nat := (flen f p a).filter fun n => decide (0 < ways fs p (a + n))
def stepN (sl : Nat → Nat → Str) (p : List Nat) (f : Fd) (fs : List Fd) (x : List Str × Nat) : List (List Str × Nat) := (manyA f fs p x.2).map fun n => (x.1 ++ [sl x.2 (x.2 + n)], x.2 + n)
def cutsN (sl : Nat → Nat → Str) (p : List Nat) : List Fd → List (List Str × Nat) → List (List Str × Nat)
  | [], h => h
  | f :: fs, h => cutsN sl p fs (h.flatMap (stepN sl p f fs))
def wtot (fs : List Fd) (p : List Nat) (h : List (List Str × Nat)) : Nat := (h.map fun x => ways fs p x.2).sum
theorem fits_le {p w : List Nat} {a : Nat} (ha : a ≤ p.length) (h : fits p a w = true) : a + w.length ≤ p.length := by
  have e : (p.drop a).take w.length = w := eq_of_beq h
  have := congrArg List.length e
  rw [List.length_take, List.length_drop] at this
  omega
theorem lead_le (cs p : List Nat) : lead cs p ≤ p.length := (List.takeWhile_sublist _).length_le
theorem mostOf_le (hi : Option Nat) (n : Nat) : mostOf hi n ≤ n := by
  unfold mostOf
  split
  · exact Nat.le_refl _
  · exact Nat.min_le_right _ _
theorem flen_le {f : Fd} {p : List Nat} {a n : Nat} (ha : a ≤ p.length) (h : n ∈ flen f p a) : a + n ≤ p.length := by
  cases f with
  | w nm ws =>
    obtain ⟨_, h2⟩ := List.mem_filter.mp h
    obtain ⟨w, _, h3⟩ := List.any_eq_true.mp h2
    rw [Bool.and_eq_true] at h3
    have e : (tl w).length = n := of_decide_eq_true h3.1
    have := fits_le ha h3.2
    omega
  | r nm al lo hi =>
    obtain ⟨k, hk, rfl⟩ := List.mem_map.mp h
    have hk := List.mem_range.mp hk
    have := lead_le (tl al) (p.drop a)
    have := mostOf_le hi (lead (tl al) (p.drop a))
    have : (p.drop a).length = p.length - a := List.length_drop ..
    omega
theorem flen_few {f : Fd} {p : List Nat} {a : Nat} (ha : a ≤ p.length) : (flen f p a).length ≤ 5 + p.length := by
  cases f with
  | w nm ws =>
    have := List.length_filter_le (fun n => ws.any fun w => decide ((tl w).length = n) && fits p a (tl w)) (List.range 5)
    rw [List.length_range] at this
    show (List.filter _ _).length ≤ _
    omega
  | r nm al lo hi =>
    show (List.map _ _).length ≤ _
    rw [List.length_map, List.length_range]
    have := lead_le (tl al) (p.drop a)
    have := mostOf_le hi (lead (tl al) (p.drop a))
    have : (p.drop a).length = p.length - a := List.length_drop ..
    omega
theorem manyA_le {f : Fd} {fs : List Fd} {p : List Nat} {a n : Nat} (ha : a ≤ p.length) (h : n ∈ manyA f fs p a) : a + n ≤ p.length := flen_le ha (List.mem_filter.mp h).1
theorem manyA_few {f : Fd} {fs : List Fd} {p : List Nat} {a : Nat} (ha : a ≤ p.length) : (manyA f fs p a).length ≤ 5 + p.length :=
  Nat.le_trans (List.length_filter_le _ _) (flen_few ha)
theorem sum_pos {l : List Nat} : 0 < l.sum ↔ ∃ n ∈ l, 0 < n := by
  induction l with
  | nil => simp
  | cons a l ih => rw [List.sum_cons]; constructor
                   · intro h
                     by_cases ha : 0 < a
                     · exact ⟨a, List.mem_cons_self, ha⟩
                     · obtain ⟨n, h1, h2⟩ := ih.mp (by omega)
                       exact ⟨n, List.mem_cons_of_mem _ h1, h2⟩
                   · rintro ⟨n, h1, h2⟩
                     rcases List.mem_cons.mp h1 with e | e
                     · omega
                     · have := ih.mpr ⟨n, e, h2⟩
                       omega
theorem ways_pos {f : Fd} {fs : List Fd} {p : List Nat} {a : Nat} : 0 < ways (f :: fs) p a ↔ manyA f fs p a ≠ [] := by
  show 0 < ((flen f p a).map fun n => ways fs p (a + n)).sum ↔ _
  rw [sum_pos]
  unfold manyA
  constructor
  · rintro ⟨n, h1, h2⟩ e
    obtain ⟨m, h3, rfl⟩ := List.mem_map.mp h1
    have : m ∈ (flen f p a).filter fun n => decide (0 < ways fs p (a + n)) := List.mem_filter.mpr ⟨h3, decide_eq_true h2⟩
    rw [e] at this
    cases this
  · intro h
    obtain ⟨m, hm⟩ := List.exists_mem_of_ne_nil _ h
    obtain ⟨h1, h2⟩ := List.mem_filter.mp hm
    exact ⟨_, List.mem_map.mpr ⟨m, h1, rfl⟩, of_decide_eq_true h2⟩
theorem sum_filter {l : List Nat} {f : Nat → Nat} : ((l.filter fun n => decide (0 < f n)).map f).sum = (l.map f).sum := by
  induction l with
  | nil => rfl
  | cons a l ih =>
    rw [List.filter_cons, List.map_cons, List.sum_cons]
    split
    · rw [List.map_cons, List.sum_cons, ih]
    · rename_i h
      have : ¬ 0 < f a := fun q => h (decide_eq_true q)
      rw [ih]; omega
theorem wtot_step (sl : Nat → Nat → Str) (p : List Nat) (f : Fd) (fs : List Fd) (x : List Str × Nat) : wtot fs p (stepN sl p f fs x) = ways (f :: fs) p x.2 := by
  unfold wtot stepN manyA
  rw [List.map_map]
  exact sum_filter (f := fun n => ways fs p (x.2 + n))
theorem wtot_app {fs : List Fd} {p : List Nat} {h k : List (List Str × Nat)} : wtot fs p (h ++ k) = wtot fs p h + wtot fs p k := by
  unfold wtot; rw [List.map_append, List.sum_append]
theorem wtot_flat (sl : Nat → Nat → Str) (p : List Nat) (f : Fd) (fs : List Fd) : ∀ h : List (List Str × Nat), wtot fs p (h.flatMap (stepN sl p f fs)) = wtot (f :: fs) p h
  | [] => rfl
  | x :: h => by
    rw [List.flatMap_cons, wtot_app, wtot_flat sl p f fs h, wtot_step]
    rfl
theorem step_pos {sl : Nat → Nat → Str} {p : List Nat} {f : Fd} {fs : List Fd} {h : List (List Str × Nat)} : ∀ y ∈ h.flatMap (stepN sl p f fs), 0 < ways fs p y.2 := fun y hy => by
  obtain ⟨x, _, hx⟩ := List.mem_flatMap.mp hy
  obtain ⟨n, hn, rfl⟩ := List.mem_map.mp hx
  exact of_decide_eq_true (List.mem_filter.mp hn).2
theorem step_le {sl : Nat → Nat → Str} {p : List Nat} {f : Fd} {fs : List Fd} {h : List (List Str × Nat)} (hh : ∀ x ∈ h, x.2 ≤ p.length) : ∀ y ∈ h.flatMap (stepN sl p f fs), y.2 ≤ p.length := fun y hy => by
  obtain ⟨x, hx, hy⟩ := List.mem_flatMap.mp hy
  obtain ⟨n, hn, rfl⟩ := List.mem_map.mp hy
  exact manyA_le (hh x hx) hn
theorem len_wtot {fs : List Fd} {p : List Nat} : ∀ {h : List (List Str × Nat)}, (∀ y ∈ h, 0 < ways fs p y.2) → h.length ≤ wtot fs p h
  | [], _ => Nat.zero_le _
  | x :: h, a => by
    have := len_wtot (h := h) fun y hy => a y (List.mem_cons_of_mem _ hy)
    have := a x List.mem_cons_self
    show h.length + 1 ≤ ways fs p x.2 + wtot fs p h
    omega
theorem len_end {p : List Nat} : ∀ {h : List (List Str × Nat)}, (∀ y ∈ h, 0 < ways [] p y.2) → h.length = wtot [] p h
  | [], _ => rfl
  | x :: h, a => by
    have := len_end (h := h) fun y hy => a y (List.mem_cons_of_mem _ hy)
    have := a x List.mem_cons_self
    have e : ways [] p x.2 ≤ 1 := by unfold ways; split <;> omega
    show h.length + 1 = ways [] p x.2 + wtot [] p h
    omega
/-- so many readings, all of them -/
theorem cuts_len {sl : Nat → Nat → Str} {p : List Nat} : ∀ {fs : List Fd} {h : List (List Str × Nat)}, fs ≠ [] → (cutsN sl p fs h).length = wtot fs p h
  | [], h, n => absurd rfl n
  | [f], h, _ => by
    show (h.flatMap (stepN sl p f [])).length = _
    rw [len_end step_pos, wtot_flat]
  | f :: g :: fs, h, _ => by
    show (cutsN sl p (g :: fs) (h.flatMap (stepN sl p f (g :: fs)))).length = _
    rw [cuts_len (by simp), wtot_flat]
end K4

/-! N19b -/

/-! Ascending lists; the lengths of words; a name that is not taken (pure). -/
namespace K4
open PySem L2
theorem asc_ext : ∀ {xs ys : List Int}, xs.Pairwise (· < ·) → ys.Pairwise (· < ·) → (∀ k, k ∈ xs ↔ k ∈ ys) → xs = ys
  | [], [], _, _, _ => rfl
  | [], y :: ys, _, _, h => absurd ((h y).mpr List.mem_cons_self) (by simp)
  | x :: xs, [], _, _, h => absurd ((h x).mp List.mem_cons_self) (by simp)
  | x :: xs, y :: ys, hx, hy, h => by
    rw [List.pairwise_cons] at hx hy
    have e : x = y := by
      rcases List.mem_cons.mp ((h x).mp List.mem_cons_self) with e | e
      · exact e
      · rcases List.mem_cons.mp ((h y).mpr List.mem_cons_self) with e2 | e2
        · exact e2.symm
        · have a := hy.1 x e
          have b := hx.1 y e2
          omega
    subst e
    rw [asc_ext hx.2 hy.2 fun k => ?_]
    constructor
    · intro hk
      rcases List.mem_cons.mp ((h k).mp (List.mem_cons_of_mem _ hk)) with e | e
      · have := hx.1 k hk
        omega
      · exact e
    · intro hk
      rcases List.mem_cons.mp ((h k).mpr (List.mem_cons_of_mem _ hk)) with e | e
      · have := hy.1 k hk
        omega
      · exact e
theorem asc_of {xs : List Int} (h : xs.Pairwise (· ≤ ·)) (n : xs.Nodup) : xs.Pairwise (· < ·) := by
  have := h.and n
  exact this.imp fun ⟨a, b⟩ => by omega
theorem flenW_asc (nm : Str) (ws : List Str) (p : List Nat) (a : Nat) : (flen (.w nm ws) p a).Pairwise (· < ·) :=
  List.Pairwise.filter _ List.pairwise_lt_range
theorem asc_int {l : List Nat} (h : l.Pairwise (· < ·)) (a : Nat) : (l.map fun n => ((a + n : Nat) : Int)).Pairwise (· < ·) :=
  List.pairwise_map.mpr (h.imp fun q => by omega)
theorem flenW_mem {nm : Str} {ws : List Str} {p : List Nat} {a k : Nat} (h4 : ∀ w ∈ ws, (tl w).length ≤ 4) : k ∈ flen (.w nm ws) p a ↔ ∃ w ∈ ws, (tl w).length = k ∧ fits p a (tl w) = true := by
  show k ∈ List.filter _ _ ↔ _
  rw [List.mem_filter, List.mem_range]
  constructor
  · rintro ⟨_, h⟩
    obtain ⟨w, h1, h2⟩ := List.any_eq_true.mp h
    rw [Bool.and_eq_true] at h2
    exact ⟨w, h1, of_decide_eq_true h2.1, h2.2⟩
  · rintro ⟨w, h1, h2, h3⟩
    exact ⟨by have := h4 w h1; omega, List.any_eq_true.mpr ⟨w, h1, by rw [Bool.and_eq_true]; exact ⟨decide_eq_true h2, h3⟩⟩⟩
theorem fits_inj {p : List Nat} {a : Nat} {x y : Str} (hx : fits p a (tl x) = true) (hy : fits p a (tl y) = true) (e : (tl x).length = (tl y).length) : x = y := by
  have e1 : (p.drop a).take (tl x).length = tl x := eq_of_beq hx
  have e2 : (p.drop a).take (tl y).length = tl y := eq_of_beq hy
  exact str_ext (by rw [← e1, ← e2, e])
theorem lens_nodup {p : List Nat} {a : Nat} : ∀ {ws : List Str}, ws.Nodup → ((ws.filter fun w => fits p a (tl w)).map fun w => ((a + (tl w).length : Nat) : Int)).Nodup
  | [], _ => List.nodup_nil
  | w :: ws, h => by
    rw [List.nodup_cons] at h
    rw [List.filter_cons]
    split
    · rename_i hw
      rw [List.map_cons, List.nodup_cons]
      refine ⟨fun q => ?_, lens_nodup h.2⟩
      obtain ⟨y, hy, e⟩ := List.mem_map.mp q
      obtain ⟨h1, h2⟩ := List.mem_filter.mp hy
      exact h.1 (by rw [fits_inj hw h2 (by omega)]; exact h1)
    · exact lens_nodup h.2
/-- the law's sorted ends of words -/
theorem ends_words {nm : Str} {ws : List Str} {p : List Nat} {a : Nat} {ns : List Int} (nd : ws.Nodup) (h4 : ∀ w ∈ ws, (tl w).length ≤ 4)
    (pm : ns.Perm ((ws.filter fun w => fits p a (tl w)).map fun w => ((a + (tl w).length : Nat) : Int))) (so : ns.Pairwise (· ≤ ·)) : ns = (flen (.w nm ws) p a).map fun n => ((a + n : Nat) : Int) := by
  refine asc_ext (asc_of so (pm.nodup_iff.mpr (lens_nodup nd))) (asc_int (flenW_asc nm ws p a) a) fun k => ?_
  rw [pm.mem_iff, List.mem_map, List.mem_map]
  constructor
  · rintro ⟨w, hw, rfl⟩
    obtain ⟨h1, h2⟩ := List.mem_filter.mp hw
    exact ⟨_, (flenW_mem h4).mpr ⟨w, h1, rfl, h2⟩, rfl⟩
  · rintro ⟨n, hn, rfl⟩
    obtain ⟨w, h1, rfl, h3⟩ := (flenW_mem h4).mp hn
    exact ⟨w, List.mem_filter.mpr ⟨h1, h3⟩, rfl⟩
/-- the program's sorted set of lengths -/
theorem lens_words {nm : Str} {ws : List Str} {p : List Nat} {a : Nat} {ns : List Int} (h4 : ∀ w ∈ ws, (tl w).length ≤ 4) (so : ns.Pairwise (· < ·))
    (hm : ∀ k : Int, k ∈ ns ↔ ∃ w ∈ ws, ((tl w).length : Int) = k ∧ fits p a (tl w) = true) : ns = (flen (.w nm ws) p a).map fun n : Nat => (n : Int) := by
  have e : ((flen (.w nm ws) p a).map fun n : Nat => (n : Int)) = (flen (.w nm ws) p a).map fun n : Nat => ((0 + n : Nat) : Int) := List.map_congr_left fun n _ => by rw [Nat.zero_add]
  rw [e]
  refine asc_ext so (asc_int (flenW_asc nm ws p a) 0) fun k => ?_
  rw [hm, List.mem_map]
  constructor
  · rintro ⟨w, h1, rfl, h2⟩
    exact ⟨_, (flenW_mem h4).mpr ⟨w, h1, rfl, h2⟩, by rw [Nat.zero_add]⟩
  · rintro ⟨n, hn, rfl⟩
    obtain ⟨w, h1, rfl, h3⟩ := (flenW_mem h4).mp hn
    exact ⟨w, h1, by rw [Nat.zero_add], h3⟩
theorem nodup_sub {α : Type} [DecidableEq α] : ∀ {xs ys : List α}, xs.Nodup → (∀ x ∈ xs, x ∈ ys) → xs.length ≤ ys.length
  | [], _, _, _ => Nat.zero_le _
  | x :: xs, ys, n, h => by
    rw [List.nodup_cons] at n
    have hx := h x List.mem_cons_self
    have := nodup_sub (xs := xs) (ys := ys.erase x) n.2 fun y hy => (List.mem_erase_of_ne (fun e : y = x => n.1 (by rw [← e]; exact hy))).mpr (h y (List.mem_cons_of_mem _ hy))
    rw [List.length_erase_of_mem hx] at this
    have : 0 < ys.length := List.length_pos_of_mem hx
    rw [List.length_cons]
    omega
/-- one of so many different things is not among fewer -/
theorem some_free {α : Type} [DecidableEq α] {f : Nat → α} {n : Nat} {ys : List α} (inj : ∀ i < n, ∀ j < n, f i = f j → i = j) (h : ys.length < n) : ∃ i < n, f i ∉ ys := by
  refine Classical.byContradiction fun no => ?_
  have all : ∀ x ∈ (List.range n).map f, x ∈ ys := fun x hx => by
    obtain ⟨i, hi, rfl⟩ := List.mem_map.mp hx
    exact Classical.byContradiction fun q => no ⟨i, List.mem_range.mp hi, q⟩
  have nd : ((List.range n).map f).Nodup := by
    rw [List.nodup_iff_pairwise_ne, List.pairwise_map]
    refine List.Pairwise.imp_of_mem ?_ (List.nodup_range (n := n))
    intro i j hi hj ne e
    exact ne (inj i (List.mem_range.mp hi) j (List.mem_range.mp hj) e)
  have := nodup_sub nd all
  rw [List.length_map, List.length_range] at this
  omega
/-- how far a run can go: sign by sign -/
theorem lead_step (cs p : List Nat) (a m : Nat) (h : m < lead cs (p.drop a)) : a + m < p.length ∧ ∀ c, p[a + m]? = some c → c ∈ cs := by
  have hl := lead_le cs (p.drop a)
  rw [List.length_drop] at hl
  refine ⟨by omega, fun c hc => ?_⟩
  unfold lead at h
  have e : ((p.drop a).takeWhile fun c => decide (c ∈ cs))[m] = c := by
    have := (List.takeWhile_prefix (l := p.drop a) fun c => decide (c ∈ cs)).getElem h
    rw [this, List.getElem_drop]
    exact (List.getElem?_eq_some_iff.mp hc).2
  have := List.all_takeWhile (l := p.drop a) (p := fun c => decide (c ∈ cs))
  have := List.all_eq_true.mp this c (by rw [← e]; exact List.getElem_mem _)
  exact of_decide_eq_true this
theorem lead_end (cs p : List Nat) (a : Nat) (ha : a ≤ p.length) : a + lead cs (p.drop a) = p.length ∨ ∃ c, p[a + lead cs (p.drop a)]? = some c ∧ c ∉ cs := by
  have hl := lead_le cs (p.drop a)
  rw [List.length_drop] at hl
  by_cases e : a + lead cs (p.drop a) = p.length
  · exact .inl e
  · have hlt : a + lead cs (p.drop a) < p.length := by omega
    refine .inr ⟨p[a + lead cs (p.drop a)], List.getElem?_eq_getElem hlt, fun q => ?_⟩
    have key : ∀ (l : List Nat), ∀ h : lead cs l < l.length, l[lead cs l] ∉ cs := by
      intro l
      induction l with
      | nil => intro h; exact absurd h (Nat.not_lt_zero _)
      | cons x l ih =>
        by_cases hx : x ∈ cs
        · have e1 : lead cs (x :: l) = lead cs l + 1 := by
            unfold lead
            rw [List.takeWhile_cons_of_pos (by simpa using hx)]
            rfl
          intro h
          have h' : lead cs l < l.length := by rw [e1] at h; simpa using h
          have := ih h'
          simp only [e1, List.getElem_cons_succ]
          exact this
        · have e1 : lead cs (x :: l) = 0 := by
            unfold lead
            rw [List.takeWhile_cons_of_neg (by simpa using hx)]
            rfl
          intro h
          simp only [e1, List.getElem_cons_zero]
          exact hx
    have h' : lead cs (p.drop a) < (p.drop a).length := by rw [List.length_drop]; omega
    have := key (p.drop a) h'
    rw [List.getElem_drop] at this
    exact this q
end K4

/-! S19a -/

/-! set(xs), xs a list of ints: what the set holds, and that it can be walked. -/
namespace K4
open PySem PySem.Spec PyProof.Rows L2
/-- the set as set.__new__ makes it -/
abbrev nuO (w : World) : Obj := ⟨.type "set", none, .set #[] 0 (.fresh 0 0 (!w.params.followText "set-order")), #[]⟩
section
variable {P : Program} {w : World} {A : Around} {E : Value → Shared → Prop} {s : Shared}
theorem two_push {h : Heap} {u v : Obj} {b : Addr} {o : Obj} (e : h.get? b = some o) : ((h.push u).push v).get? b = some o := Heap.get?_push_of_some _ (Heap.get?_push_of_some _ e)
set_option maxHeartbeats 4000000 in
theorem set_of_list {p : Addr} {its : Array Value} (ks : List Int) {Q : Value → Shared → Prop} (calm : A.handled = none) (pl : s.heap.IsList p its) (ik : IntsAre its.toList ks) (few : ks.length + 1 < scanBound)
    (fin : ∀ (g : Heap) (tk c : Nat), SetR w g s.heap.objs.size (fun j => decide (j ∈ ks)) c → c ≤ ks.length → (∀ b o, s.heap.get? b = some o → g.get? b = some o) → Q (.ref s.heap.objs.size) { s with heap := g, toks := tk }) :
    wpAny (model P w) A (call (.type "set") [.ref p]) Q E s := by
  have size : its.size = ks.length := by
    have e := ik.length
    rwa [Array.length_toList] at e
  obtain ⟨c0, t0, mro0⟩ := F.called_set.mro
  have made0 := F.called_set.made
  have sub0 := F.called_set.sub
  refine wpAny_call (codeAny_of_tree (?_ : wpAny _ _ (callAny (.type "set") _) _ _ _))
  refine wpAny_pure ⟨Code.quiet_builtin _ (by decide +kernel), codeAny_builtin F.entry_type_call ?_⟩
  rw [Around.under_plain (weight_type_call_type "set" [.ref p] []) rfl]
  have nT := F.called_set.notType
  have cC := F.called_set.canCreate
  have tC := F.typeCall_set_1 (.ref p)
  repeat' (first | assumption | wp_step)
  refine codeAny_mono (code_set_led1 (.ref p) (E := E)
    (Q₁ := fun x s1 => x = .ref s.heap.objs.size ∧ s1 = { s with heap := s.heap.push (nuO w) }) ⟨rfl, rfl⟩) ?_
  intro r1 s1 h1
  rcases r1 with _ | f1
  · exact h1
  · cases f1 with
    | ret x =>
      obtain ⟨ex, es⟩ := h1
      subst ex es
      have gS : (s.heap.push (nuO w)).get? s.heap.objs.size = some (nuO w) := Heap.get?_push_size _ rfl
      have tS : Shared.TypeIs { s with heap := s.heap.push (nuO w) } (.ref s.heap.objs.size) "set" := ⟨_, gS, rfl⟩
      have iL := F.called_set.init.lookup
      have iB := F.called_set.init.bind (.ref s.heap.objs.size)
      repeat' (first | assumption | wp_step)
      refine codeAny_mono (codeAny_call_builtin
        (R := wants (fun r s2 => r = .none ∧ ∃ g tk c, s2 = { s with heap := g, toks := tk } ∧ SetR w g s.heap.objs.size (fun j => decide (j ∈ ks)) c ∧ c ≤ ks.length ∧ ∀ b o, s.heap.get? b = some o → g.get? b = some o) E)
        F.called_set.init.plain F.entry_set_init (check_set_init_1 tS ?_)) ?_
      · obtain ⟨⟨pc, pd, pdata, psl⟩, pe, pcl, pn, pda⟩ := pl
        dsimp only at pcl pda
        subst pcl pda
        have pe1 : (s.heap.push (nuO w)).get? p = some ⟨.type "list", pd, .seq its pn, psl⟩ := Heap.get?_push_of_some _ pe
        have lS := F.sub_list_set
        have lF := F.sub_list_frozenset
        have nD : (Value.type "list" == Value.type "dict") = false := by decide
        have pl1 : (s.heap.push (nuO w)).IsList p its := ⟨_, pe1, rfl, pn, rfl⟩
        unfold Builtin.«set.__init__» noKeywords Builtin.Frozenset.updateFrom
        generalize eI : pyIter = I0
        wp_walk
        subst eI
        refine wpAny_pyIter_list pl1 (wpAny_bind (wpAny_runValue ?_))
        have pS : p < s.heap.objs.size := Heap.lt_size pe
        have calm3 : A.in1.in1.in1.handled = none := by simp [calm]
        have z1 : (s.heap.push (nuO w)).objs.size = s.heap.objs.size + 1 := Heap.size_push ..
        have pI : p ≠ (s.heap.push (nuO w)).objs.size := by rw [z1]; exact Nat.ne_of_lt (Nat.lt_succ_of_lt pS)
        have outS : s.heap.objs.size ∉ [(s.heap.push (nuO w)).objs.size, p] := by
          rw [z1]
          intro q
          rcases List.mem_cons.mp q with e | e
          · exact absurd e (Nat.ne_of_lt (Nat.lt_succ_self _))
          · exact absurd (List.mem_singleton.mp e).symm (Nat.ne_of_lt pS)
        have hNums : ∀ (i : Nat) (v : Value), its[i]? = some v → ∃ k t, ks[i]? = some k ∧ v = .int k t := by
          intro i v hv
          have hi : i < ks.length := size ▸ (Array.getElem?_eq_some_iff.mp hv).1
          obtain ⟨t, e⟩ := ik.int_at i v (by rw [Array.getElem?_toList]; exact hv)
          have ek : ks[i]? = some ks[i] := List.getElem?_eq_getElem hi
          rw [List.getD_eq_getElem?_getD, ek] at e
          exact ⟨_, t, ek, e⟩
        refine set_update_ints ((Walks.list calm3 _ p pI its).toS) s.heap.objs.size outS ks size few hNums its.size 0 _ (Nat.sub_zero _) (Nat.zero_le _)
          ⟨⟨_, Heap.get?_push_size _ rfl, rfl, rfl⟩, pl1.push _⟩ ⟨0, Nat.le_refl 0, setR_new_at (Heap.get?_push_of_some _ gS)⟩ ?_
        rintro ⟨g, gn, dr, tk, os⟩ c mv hc R
        have e1 : gn = s.gens := mv.gens
        have e2 : dr = s.drawn := mv.drawn
        have e3 : os = s.os := mv.os
        subst e1 e2 e3
        refine (?_ : wpAny _ _ _ _ _ _)
        refine wpAny_pure (?_ : wpAny _ _ (ret Value.none) _ _ _)
        refine wpAny_pure ⟨rfl, g, tk, c, rfl, R, by omega, fun b o e => ?_⟩
        have b0 : b < s.heap.objs.size := Heap.lt_size e
        refine mv.heap b o (fun q => ?_) (two_push e)
        rcases List.mem_cons.mp q with e | e
        · exact absurd e (Nat.ne_of_lt b0)
        · exact absurd ((List.mem_singleton.mp e).trans z1) (Nat.ne_of_lt (Nat.lt_succ_of_lt b0))
      · intro r2 s2 h2
        rcases r2 with _ | f2
        · exact h2
        · cases f2 with
          | ret r =>
            obtain ⟨rfl, g, tk, c, rfl, R, hc, kp⟩ := h2
            repeat' (first | assumption | wp_step)
            exact fin g tk c R hc kp
          | _ => exact h2.elim
    | _ => exact h1.elim
end
end K4

/-! S19b -/

namespace K4
open PySem PySem.Spec PyProof.Rows L2
section
variable {X : Cx}
/-- set(xs), xs a list of ints -/
def rSetOfL (K : PySem.W.Frag) (w : World) : List V → Hp → VK → Prop := fun xs H Q => ∃ (l : Addr) (ns : List Int), xs = [V.ref l] ∧ SqL K H l (ns.map V.int) ∧ ns.length ≤ 1000 ∧
  ∀ a c, H a = none → c ≤ ns.length → Q (.ref a) (upd H a (SetO w a (fun j => decide (j ∈ ns)) c))
theorem cr_setOfL (hc : X.calm = true) : CallR X (.type "set") (rSetOfL X.K X.w) := by
  rintro pins s σ H xs us Q I r ⟨l, ns, rfl, hl, few, q⟩
  rw [Vals.ref1 r]
  obtain ⟨its, rv, pl, _⟩ := I.list hl
  refine set_of_list ns (I.ok.hd hc) pl.isList (by simpa using RZ.intsAre_vals rv) (by unfold scanBound; omega) fun g tk c R hk kp => ?_
  exact ⟨.ref s.heap.objs.size, upd H s.heap.objs.size (SetO X.w s.heap.objs.size (fun j => decide (j ∈ ns)) c), I.laid (t' := tk) kp (Nat.le_refl _) (setO_new R), rfl, q _ _ (I.hok.fresh (Nat.le_refl _)) hk⟩
end
end K4

/-! F19a -/


namespace K4
open PySem L2 K1
abbrev sFirstDouble : Stmt := top 16
abbrev nFirstDouble : List Str := ["names", "seen", "name"]
theorem scFirstDouble : FnScope nFirstDouble ["names"] (defScope sFirstDouble) := ⟨rfl, rfl, rfl, by decide +kernel, rfl, by decide +kernel, by decide +kernel⟩
abbrev sIsName : Stmt := top 21
abbrev nIsName : List Str := ["thing"]
theorem scIsName : FnScope nIsName ["thing"] (defScope sIsName) := ⟨rfl, rfl, rfl, by decide +kernel, rfl, by decide +kernel, by decide +kernel⟩
abbrev sReqSigns : Stmt := top 28
abbrev nReqSigns : List Str := ["signs"]
theorem scReqSigns : FnScope nReqSigns ["signs"] (defScope sReqSigns) := ⟨rfl, rfl, rfl, by decide +kernel, rfl, by decide +kernel, by decide +kernel⟩
abbrev sReqPaper : Stmt := top 30
abbrev nReqPaper : List Str := ["signs", "paper"]
theorem scReqPaper : FnScope nReqPaper ["signs", "paper"] (defScope sReqPaper) := ⟨rfl, rfl, rfl, by decide +kernel, rfl, by decide +kernel, by decide +kernel⟩
/-! Names; what stands twice; the signs and papers that are required. -/
abbrev AZ : Str := "abcdefghijklmnopqrstuvwxyz"
def NmOk (x : Str) : Prop := textB 1 8 AZ x = true ∧ x ∉ noNames
def spFirstD (K : PySem.W.Frag) : Sp := fun vs H Q _ => ∃ (v : V) (ss : List Str), vs = [v] ∧ Sq K H v (ss.map V.str) ∧ ss.Nodup ∧ ss.length ≤ 100 ∧ ∀ H', Same H H' → Q .non H'
def spIsName : Sp := fun vs H Q _ => ∃ x : Str, vs = [.str x] ∧ NmOk x ∧ ∀ H', Same H H' → Q (.bl true) H'
theorem flat_strs (l : List Str) : (l.map V.str).all flatV = true := List.all_eq_true.mpr fun y hy => by obtain ⟨n, _, rfl⟩ := List.mem_map.mp hy; rfl
theorem inV_strs' (x : Str) (ks : List Str) : inV (.str x) (ks.map V.str) = decide (x ∈ ks) := by
  unfold inV
  rw [List.any_map]
  by_cases h : x ∈ ks
  · rw [decide_eq_true h]
    exact List.any_eq_true.mpr ⟨x, h, by simp [eqV]⟩
  · rw [decide_eq_false h, List.any_eq_false]
    intro y hy q
    have : y = x := by simpa [Function.comp, eqV] using q
    exact h (this ▸ hy)
def keyS (ss : List Str) (j : L2.Key) : Bool := match j with
  | .inl _ => false
  | .inr x => decide (x ∈ ss)
theorem keyS_app (ss : List Str) (x : Str) : (fun j => keyS ss j || decide (j = Sum.inr x)) = keyS (ss ++ [x]) := by
  funext j
  cases j with
  | inl i => simp [keyS]
  | inr y => simp [keyS]
def seqO : HO → Bool
  | .lst _ => true
  | .tup _ => true
  | .frz _ _ => true
  | _ => false
/-- lists and tuples stand still while something else at p changes -/
theorem keepAt_off {K : PySem.W.Frag} {v : V} {H H' : Hp} {p : Addr} {o : HO} (e : H p = some o) (n : seqO o = false) (k : Kp p H H') : KeepAt K v H H' := fun a xs _ => by
  have key : ∀ u, H a = some u → seqO u = true → H' a = some u := fun u h z => by
    by_cases c : a = p
    · rw [c, e] at h
      cases h
      rw [n] at z
      cases z
    · exact k _ _ c h
  constructor
  · intro h
    rcases h with (h | ⟨u, h⟩) | h
    · exact .inl (.inl (key _ h rfl))
    · exact .inl (.inr ⟨u, key _ h rfl⟩)
    · exact .inr h
  · intro h
    rcases h with (h | ⟨u, h⟩) | h
    · exact .inl (.inl (key _ h rfl))
    · exact .inl (.inr ⟨u, key _ h rfl⟩)
    · exact .inr h
theorem same_off {H H' : Hp} {p : Addr} {o : HO} (hp : H p = none) (k : Kp p (upd H p o) H') : Same H H' := fun c u e => by
  have n : c ≠ p := ne_of_none e hp
  exact k c u n (by rw [upd_ne n]; exact e)
section
variable {P : Program} {w : World} {K : PySem.W.Frag} {mg : Str → Option Value} {base : Heap} {tN dI : Addr}
theorem ok_firstD {f : Addr} {fd : FuncData} (F : Fun K "first_double" "first_double" sFirstDouble f fd) (B : Bl mg) : FnOk P w K mg base CX0 1 f fd ["names"] (spFirstD K) := by
  refine F.ok scFirstDouble (fun vs H Q E h => ?_) (fun cdv A outer s H vs Q E hr h => ?_)
  · obtain ⟨v, ss, rfl, _⟩ := h
    rfl
  · obtain ⟨v, ss, rfl, hS, nd, hl, k⟩ := h
    refine ⟨_, (pss_cons (ps_set (i := 1) scFirstDouble.nd rfl (Or.inl rfl) (pe_callTy0 cr_set0K (by rfl) B.set (by decide +kernel))) (pss_cons (ps_for PassesOwn.never rfl (pi_sq (pv 0)) (pg_name (i := 2) scFirstDouble.nd rfl (Or.inl rfl)) (pss_cons (ps_if (pt_cmpR or_sinK (pv 2) (pv 1) (by rfl)) (pss_one (ps_ret (pv 2))) pss_nil) (pss_one (ps_expr (pe_saddK (pv 1) (pa_cons (pv 2) pa_nil)))))) (pss_one (ps_ret pe_non)))), ?_⟩
    try dsimp only [cxOf, Cx.nox, Cx.wish]
    walk_at "go"
    refine ⟨rfl, fun p hp => ?_⟩
    walk_at "go"
    refine fr_sq (hS.same (same_new hp)) (fun i σ H' => ∃ (kk : Option V) (n : Nat), σ = [some v, some (.ref p), kk] ∧ n ≤ i ∧ H' p = some (SetK P w p (keyS (ss.take i)) n) ∧ Kp p (upd H p (SetK P w p (fun _ => false) 0)) H') ⟨none, 0, rfl, Nat.le_refl _, ?_, Kp.refl _ _⟩ ?_ ?_ ?_ (fun J h => h)
    · have e : keyS (ss.take 0) = fun _ => false := by
        funext j
        cases j <;> simp [keyS]
      rw [e]
      exact upd_same
    · rintro i σ H' hi ⟨kk, n, rfl, _, _, kp⟩
      exact keepAt_off upd_same rfl kp
    · rintro i x σ H' hx ⟨kk, n, rfl, hn, ep, kp⟩
      obtain ⟨y, hy, rfl⟩ := get_map hx
      have hi : i < ss.length := (List.getElem?_eq_some_iff.mp hy).1
      have fresh : keyS (ss.take i) (.inr y) = false := by
        show decide _ = false
        refine decide_eq_false fun q => ?_
        obtain ⟨j, hj⟩ := List.mem_iff_getElem?.mp q
        rw [List.getElem?_take] at hj
        split at hj
        · rename_i hji
          obtain ⟨h1, h2⟩ := List.getElem?_eq_some_iff.mp hj
          obtain ⟨h3, h4⟩ := List.getElem?_eq_some_iff.mp hy
          exact List.pairwise_iff_getElem.mp nd j i h1 h3 hji (h2.trans h4.symm)
        · cases hj
      walk_at "go"
      refine ⟨.inr y, p, _, n, rfl, rfl, ep, ?_⟩
      rw [fresh]
      walk_at "go"
      refine ⟨⟨p, _, n, rfl, ep⟩, ?_⟩
      walk_at "go"
      refine ⟨p, .inr y, _, n, rfl, rfl, ep, by unfold scanBound; omega, ?_⟩
      have e : ss.take i ++ [y] = ss.take (i + 1) := by rw [List.take_add_one, hy]; rfl
      rw [fresh, if_neg Bool.false_ne_true, keyS_app, e]
      exact ⟨_, n + 1, rfl, by omega, upd_same, fun c u nc h => by rw [upd_ne nc]; exact kp c u nc h⟩
    · rintro σ H' ⟨kk, n, rfl, hn, ep, kp⟩
      walk_at "go"
      exact k _ (same_off hp kp)
theorem ok_isName {f : Addr} {fd : FuncData} (F : Fun K "is_name" "is_name" sIsName f fd) (B : Bl mg) (G : G11 K w mg tN dI) (Ot : OIsText P w K mg base) : FnOk P w K mg base CX0 2 f fd ["thing"] spIsName := by
  refine F.ok scIsName (fun vs H Q E h => ?_) (fun cdv A outer s H vs Q E hr h => ?_)
  · obtain ⟨x, rfl, _⟩ := h
    rfl
  · obtain ⟨x, rfl, ⟨ht, hn⟩, k⟩ := h
    refine ⟨_, (pss_one (ps_ret (pe_and (pe_own Ot hr (pa_cons (pv 0) (pa_cons pe_int (pa_cons (pe_gI G.MOST_LETTERS) (pa_cons (pe_gS G.LETTERS) pa_nil))))) (pe_one (pe_cmpR op_notIn_seq (pv 0) (pe_gR G.NN) (by rfl)))))), ?_⟩
    try dsimp only [cxOf, Cx.nox, Cx.wish]
    walk_at "go"
    have hl : x.length ≤ 1000 := by
      unfold textB at ht
      rw [Bool.and_eq_true, Bool.and_eq_true, decide_eq_true_eq, decide_eq_true_eq] at ht
      omega
    refine ⟨_, 1, 8, AZ, rfl, .inl ⟨x, rfl, hl, fun H1 s1 => ?_⟩⟩
    rw [ht]
    walk_at "go"
    refine ⟨tN, _, rfl, .inr (G.nn _), rfl, flat_strs _, ?_⟩
    rw [inV_strs', decide_eq_false hn]
    exact k _ s1
def spReqS0 : Sp := fun vs H Q _ => ∃ z : Str, vs = [.str z] ∧ z.length ≤ 12 ∧ signsB z = true ∧ ∀ H', Same H H' → Q .non H'
abbrev OAreSigns (P : Program) (w : World) (K : PySem.W.Frag) (mg : Str → Option Value) (base : Heap) : Prop := Own P w K mg base "are_signs" 2 ["thing"] (spAreSigns K)
theorem ok_reqS0 {f : Addr} {fd : FuncData} (F : Fun K "require_signs" "require_signs" sReqSigns f fd) (B : Bl mg) (Oa : OAreSigns P w K mg base) : FnOk P w K mg base CX0 3 f fd ["signs"] spReqS0 := by
  refine F.ok scReqSigns (fun vs H Q E h => ?_) (fun cdv A outer s H vs Q E hr h => ?_)
  · obtain ⟨x, rfl, _⟩ := h
    rfl
  · obtain ⟨z, rfl, hz, hs, k⟩ := h
    refine ⟨_, (pss_one (ps_if (pt_not (pt_val (pe_own Oa (hr.mono (by omega)) (pa_cons (pv 0) pa_nil)))) (pss_one ps_never) pss_nil)), ?_⟩
    try dsimp only [cxOf, Cx.nox, Cx.wish]
    walk_at "go"
    refine ⟨by omega, fun H1 s1 => ?_⟩
    rw [hs]
    walk_at "go"
    exact k _ s1
def BadP (K : PySem.W.Frag) (H : Hp) (z : Str) (x : V) : Prop := (∃ y : Str, x = .str y ∧ y.length ≤ 1000 ∧ textB 0 60 z y = false) ∨ ∀ H', Same H H' → NoText K H' x
theorem BadP.same {K : PySem.W.Frag} {H H1 : Hp} {z : Str} {x : V} (h : BadP K H z x) (s : Same H H1) : BadP K H1 z x := by
  rcases h with h | h
  · exact .inl h
  · exact .inr fun H' s' => h H' (s.trans s')
def spReqP (K : PySem.W.Frag) (C : Addr) : Sp := fun vs H Q E => ∃ (z : Str) (x : V), vs = [.str z, x] ∧ ((∃ y : Str, x = .str y ∧ y.length ≤ 1000 ∧ textB 0 60 z y = true ∧ ∀ H', Same H H' → Q .non H') ∨ (BadP K H z x ∧ Err C "paper" x H E))
abbrev OIsPaper (P : Program) (w : World) (K : PySem.W.Frag) (mg : Str → Option Value) (base : Heap) : Prop := Own P w K mg base "is_paper" 2 ["signs", "thing"] (spIsPaper K)
theorem ok_reqP {f C fI : Addr} {fd fdI : FuncData} (F : Fun K "require_paper" "require_paper" sReqPaper f fd) (TP : ErrP P K mg C fI fdI) (Oip : OIsPaper P w K mg base) : FnOk P w K mg base (L2N.CX P w) 3 f fd ["signs", "paper"] (spReqP K C) := by
  refine okXN F scReqPaper (fun vs H Q E h => ?_) (fun cdv A outer s H vs Q E hr h => ?_)
  · obtain ⟨z, x, rfl, _⟩ := h
    rfl
  · obtain ⟨z, x, rfl, h⟩ := h
    refine ⟨_, (pss_one (ps_if (pt_not (pt_val (pe_own Oip (hr.mono (by omega)) (pa_cons (pv 0) (pa_cons (pv 1) pa_nil))))) (pss_one (L2N.ps_raise rfl (L2N.takes_of rfl rfl rfl rfl) (pmk_oexN TP.T.oex TP.iC TP.tI (ok_badP TP.T) (hr.mono (by omega)) TP.bI rfl TP.gC (pa_cons (pv 1) pa_nil)))) pss_nil)), ?_⟩
    try dsimp only [cxOf, Cx.nox, Cx.wish]
    walk_at "go"
    refine ⟨z, x, rfl, ?_⟩
    rcases h with ⟨y, rfl, hy, hs, k⟩ | ⟨hb, er⟩
    · refine .inl ⟨y, rfl, hy, fun H' sm => ?_⟩
      rw [hs]
      walk_at "go"
      exact k H' sm
    · rcases hb with ⟨y, rfl, hy, hs⟩ | hn
      · refine .inl ⟨y, rfl, hy, fun H' sm => ?_⟩
        rw [hs]
        walk_at "go"
        exact rzP (er.same sm)
      · refine .inr ⟨hn _ (Same.refl _), ?_⟩
        walk_at "go"
        exact rzP er
abbrev OFirstD (P : Program) (w : World) (K : PySem.W.Frag) (mg : Str → Option Value) (base : Heap) : Prop := Own P w K mg base "first_double" 1 ["names"] (spFirstD K)
abbrev OIsName (P : Program) (w : World) (K : PySem.W.Frag) (mg : Str → Option Value) (base : Heap) : Prop := Own P w K mg base "is_name" 2 ["thing"] spIsName
abbrev OReqS (P : Program) (w : World) (K : PySem.W.Frag) (mg : Str → Option Value) (base : Heap) : Prop := Own P w K mg base "require_signs" 3 ["signs"] spReqS0
abbrev OReqP (C : Addr) (P : Program) (w : World) (K : PySem.W.Frag) (mg : Str → Option Value) (base : Heap) : Prop := OwnX P w K mg base "require_paper" 3 ["signs", "paper"] (spReqP K C)
end
end K4

/-! Zm -/
/-! zip of a tuple and a list; enumerate of a tuple. -/
namespace K4
open PySem L2 PySem.Spec PyProof.Rows
/-- the tuple at a and the list at b as they stand at each turn, the items in new pairs -/
def ItzM (K : PySem.W.Frag) (a b : Addr) : It :=
  ⟨fun i H => ∃ (xs ys : List V) (x y : V), SqT K H a xs ∧ SqL K H b ys ∧ xs[i]? = some x ∧ ys[i]? = some y,
    fun i H v H' => ∃ T x y, v = .ref T ∧ H T = none ∧ H' = upd H T (.tup [x, y]) ∧ (∀ xs, SqT K H a xs → xs[i]? = some x) ∧ ∀ ys, SqL K H b ys → ys[i]? = some y,
    fun i H => ∃ xs ys : List V, SqT K H a xs ∧ SqL K H b ys ∧ xs.length = ys.length ∧ i = xs.length⟩
theorem turn_zipM {P : Program} {w : World} {K : PySem.W.Frag} {elts : List Expr} {kk : Nat} {tpos : Pos} {a b z TI TO i1 i2 : Addr} (S : ZipSep2 z TI TO i1 i2 [i1, a] [i2, b]) (n1 : a ≠ i1) (n2 : b ≠ i2) :
    Turn P w K (.Tuple elts kk tpos) (ItzM K a b) [z, TI, TO, i1, i2] z (fun i h => IsZip h z TI TO .none ∧ IsTupOf2 h TI (.ref i1) (.ref i2) ∧ (∃ x y, IsTupOf2 h TO x y) ∧ h.IsTupleIter i1 a i ∧ h.IsListIter i2 b i) where
  mem := by simp
  obj := fun i h st c hc => by
    obtain ⟨hz, hTI, ⟨x, y, hTO⟩, ⟨o1, e1, _, d1⟩, ⟨o2, e2, _, d2⟩⟩ := st
    have e' : c = z ∨ c = TI ∨ c = TO ∨ c = i1 ∨ c = i2 := by simpa using hc
    rcases e' with q | q | q | q | q
    · rw [q]; exact ⟨_, hz, fun v q => nomatch q⟩
    · rw [q]; exact ⟨_, hTI, fun v q => nomatch q⟩
    · rw [q]; exact ⟨_, hTO, fun v q => nomatch q⟩
    · rw [q]; exact ⟨o1, e1, fun v q => by rw [d1] at q; cases q⟩
    · rw [q]; exact ⟨o2, e2, fun v q => by rw [d2] at q; cases q⟩
  keep := fun i h h' st k => by
    obtain ⟨hz, hTI, ⟨x, y, hTO⟩, h1, h2⟩ := st
    exact ⟨k z (by simp) _ hz, k TI (by simp) _ hTI, ⟨x, y, k TO (by simp) _ hTO⟩, h1.at fun o q => k i1 (by simp) o q, h2.at fun o q => k i2 (by simp) o q⟩
  item := by
    intro X hP hw hK hc i pins s σ H E I hf st hg
    subst hP hw hK
    obtain ⟨hz, hTI, ⟨x0, y0, hTO⟩, h1, h2⟩ := st
    obtain ⟨xs, ys, x, y, hqx, hqy, hx, hy⟩ := hg
    obtain ⟨its, rv, p, _⟩ := I.tuple hqx
    obtain ⟨its2, rv2, p2, _⟩ := I.list hqy
    obtain ⟨u, hu, ru⟩ := rv.get hx
    obtain ⟨u2, hu2, ru2⟩ := rv2.get hy
    have hzl : z < s.heap.objs.size := Heap.lt_size hz
    have hh : X.A.in1.handled = none := I.ok.hd hc
    have l1 : i < its.toArray.size := by
      have := (List.getElem?_eq_some_iff.mp hu).1
      simpa using this
    have l2 : i < its2.toArray.size := by
      have := (List.getElem?_eq_some_iff.mp hu2).1
      simpa using this
    refine wpAny_pyNext_zipD2_item S (Draws.tuple hh i1 a n1 its.toArray) (Draws.list hh i2 b n2 its2.toArray) hz hTI hTO ⟨h1, p⟩ ⟨h2, p2.isList⟩ l1 l2 fun x1 x2 h' tk hx1 hx2 z' TO' h1' h2' hT hsz hk => ?_
    have ex1 : x1 = u := Option.some.inj (hx1.symm.trans (by simpa using hu))
    have ex2 : x2 = u2 := Option.some.inj (hx2.symm.trans (by simpa using hu2))
    subst ex1 ex2
    refine ⟨_, rfl, wpAny_letOwnedTupleGo_zip (s := { s with heap := h', toks := tk }) z' fun h'' z'' sb => ?_⟩
    have hT2 : h''.get? s.heap.objs.size = some { cls := .type "tuple", data := .seq #[x1, x2] } := (sb.2 _ (Nat.ne_of_gt hzl)).trans hT
    have new : ObjOk X.prog X.w (upd H s.heap.objs.size (.tup [x, y])) h'' s.heap.objs.size (.tup [x, y]) :=
      ⟨by show 2 ≤ sizeLine; decide, [x1, x2], .cons ru (.cons ru2 .nil), ⟨_, hT2, rfl, _, rfl⟩⟩
    have I1 : L2.Inv X pins σ (upd H s.heap.objs.size (.tup [x, y])) { s with heap := h'', toks := tk } :=
      I.turnedNew (t' := tk) (ch := [z, TI, TO, i1, i2]) (fun c o hb q => (sb.2 c (fun q' => hb (by simp [q']))).trans (hk c o (fun q' => hb (by simp [q'])) (fun q' => hb (by simp [q'])) (fun q' => hb (by simp [q'])) (fun q' => hb (by simp [q'])) q)) hf (Nat.le_refl _) new
    refine ⟨.ref s.heap.objs.size, _, I1, rfl, ⟨_, x, y, rfl, I.hok.fresh (Nat.le_refl _), rfl, fun l hl => by rw [I.tuple_inj hl hqx]; exact hx, fun l hl => by rw [I.list_inj hl hqy]; exact hy⟩, ⟨z'', ?_, ⟨x1, x2, ?_⟩, ?_, ?_⟩, fun c hcm => ?_⟩
    · exact (sb.2 _ S.TIz).trans (hk _ _ S.TIz S.TITO S.TIi1 S.TIi2 hTI)
    · exact (sb.2 _ S.TOz).trans TO'
    · exact h1'.1.at fun o q => (sb.2 _ (Ne.symm S.zi1)).trans q
    · exact h2'.1.at fun o q => (sb.2 _ (Ne.symm S.zi2)).trans q
    · have hlt : c < s.heap.objs.size := by
        have e' : c = z ∨ c = TI ∨ c = TO ∨ c = i1 ∨ c = i2 := by simpa using hcm
        rcases e' with q | q | q | q | q
        · rw [q]; exact hzl
        · rw [q]; exact Heap.lt_size hTI
        · rw [q]; exact Heap.lt_size hTO
        · rw [q]; obtain ⟨_, e1, _⟩ := h1; exact Heap.lt_size e1
        · rw [q]; obtain ⟨_, e2, _⟩ := h2; exact Heap.lt_size e2
      rw [upd_ne (Nat.ne_of_lt hlt)]
      exact (hf c hcm).1
  done := by
    intro X hP hw hK hc i pins s σ H E I hf st hg
    subst hP hw hK
    obtain ⟨hz, hTI, ⟨x0, y0, hTO⟩, h1, h2⟩ := st
    obtain ⟨xs, ys, hqx, hqy, hend, hi⟩ := hg
    obtain ⟨its, rv, p, _⟩ := I.tuple hqx
    obtain ⟨its2, rv2, p2, _⟩ := I.list hqy
    have l1 := rv.length
    have l2 := rv2.length
    have hh : X.A.in1.handled = none := I.ok.hd hc
    have e1 : i = its.toArray.size := by simp; omega
    have e2 : i = its2.toArray.size := by simp; omega
    refine wpAny_pyNext_zipD2_end S (Draws.tuple hh i1 a n1 its.toArray) (Draws.list hh i2 b n2 its2.toArray) hz hTI hTO ⟨h1, p⟩ ⟨h2, p2.isList⟩ (Nat.le_of_eq e1) (Nat.le_of_eq e2) (.inl e1) fun h' tk hk => ⟨rfl, I.turnedL (t' := tk) (ch := [z, TI, TO, i1, i2]) (fun c o hb q =>
      hk c o (fun q' => hb (by simp [q'])) (fun q' => hb (by simp [q'])) (fun q' => hb (by simp [q'])) (fun q' => hb (by simp [q'])) q) hf⟩
  self := fun A i s Q E st h => wpAny_pyIter_zip st.1 h
def ZipIt (K : PySem.W.Frag) (vs : List V) (R : It → Hp → Prop) (H1 : Hp) : Prop := ∃ a b xs ys, vs = [.ref a, .ref b] ∧ SqT K H1 a xs ∧ ((SqT K H1 b ys ∧ R (RZ.ItzT K a b) H1) ∨ (SqL K H1 b ys ∧ R (ItzM K a b) H1))
def iZipM (K : PySem.W.Frag) (ta : TA) : TI := fun σ H R => ta σ H fun vs H1 => ZipIt K vs R H1
theorem pi_zipM {X : Cx} {e e2 : Expr} {ta : TA} {p pos tpos : Pos} {elts : List Expr} {kk : Nat} (hg : Gl X "zip") (hm : X.mg "zip" = none) (ha : PA X [e, e2] ta)
    (hs : starEach [e, e2] X.env = (false, eval e X.env) :: starEach [e2] X.env := by rfl) (hpl : (backTo pos (starEach [e2] X.env)).any (·.1) = false := by rfl) :
    PI X (.Tuple elts kk tpos) (.Call (.Name "zip" p) [e, e2] [] pos) (iZipM X.K ta) := by
  refine ⟨fun pins s σ H R I h => ?_⟩
  refine Call_ (ld_blt I hg hm PyProof.Rows.boot_zip (PyProof.Rows.callWith_type1 (thn (ha.run pos pins s σ H _ I h) fun us s1 ⟨vs, H1, I1, r1, q1⟩ => ?_) hs hpl))
  obtain ⟨a, b, xs, ys, ex, hqx, q1⟩ := q1
  subst ex
  cases r1 with
  | cons r rr =>
    cases rr with
    | cons r' rr =>
      cases rr
      cases r
      cases r'
      have fresh5 : ∀ c, c ∈ [s1.heap.objs.size + 4, s1.heap.objs.size + 2, s1.heap.objs.size + 3, s1.heap.objs.size, s1.heap.objs.size + 1] → FpOk X pins H1 c := fun c hcm => by
        have e' : c = s1.heap.objs.size + 4 ∨ c = s1.heap.objs.size + 2 ∨ c = s1.heap.objs.size + 3 ∨ c = s1.heap.objs.size ∨ c = s1.heap.objs.size + 1 := by simpa using hcm
        have hle : s1.heap.objs.size ≤ c := by
          rcases e' with z | z | z | z | z
          · rw [z]; exact Nat.le_add_right _ _
          · rw [z]; exact Nat.le_add_right _ _
          · rw [z]; exact Nat.le_add_right _ _
          · rw [z]; exact Nat.le_refl _
          · rw [z]; exact Nat.le_add_right _ _
        exact I1.fpOk hle (I1.hok.fresh hle)
      obtain ⟨its, rv, p1, _⟩ := I1.tuple hqx
      obtain ⟨o1, ho1, _⟩ := id p1
      rcases q1 with ⟨hqy, q⟩ | ⟨hqy, q⟩
      · obtain ⟨its2, rv2, p2, _⟩ := I1.tuple hqy
        obtain ⟨o2, ho2, _⟩ := id p2
        refine RZ.call_zipT (show s1.heap.IsTuple a its.toArray from p1) (show s1.heap.IsTuple b its2.toArray from p2) fun h' hz hTI hTO h1 h2 hsz hk => wpAny_pyIter_zip hz ?_
        have I2 : L2.Inv X pins σ H1 { s1 with heap := h' } := I1.kept (t' := s1.toks) hk
        exact ⟨s1.heap.objs.size + 4, [s1.heap.objs.size + 4, s1.heap.objs.size + 2, s1.heap.objs.size + 3, s1.heap.objs.size, s1.heap.objs.size + 1], _, _, H1, rfl, I2, RZ.turn_zipT (PySem.W.ktu_apart s1.heap.objs.size a b (Heap.lt_size ho1) (Heap.lt_size ho2)), ⟨hz, hTI, ⟨_, _, hTO⟩, h1, h2⟩, fresh5, q⟩
      · obtain ⟨its2, rv2, p2, _⟩ := I1.list hqy
        have lt2 := p2.lt
        refine zip_begins2 (begins_tuple a its.toArray) (begins_list b its2.toArray) p1 p2.isList fun h' hz hTI hTO h1 h2 hsz hk => wpAny_pyIter_zip hz ?_
        have I2 : L2.Inv X pins σ H1 { s1 with heap := h' } := I1.kept (t' := s1.toks) hk
        have la : a < s1.heap.objs.size := Heap.lt_size ho1
        have S : ZipSep2 (s1.heap.objs.size + 4) (s1.heap.objs.size + 2) (s1.heap.objs.size + 3) s1.heap.objs.size (s1.heap.objs.size + 1) [s1.heap.objs.size, a] [s1.heap.objs.size + 1, b] :=
          zip_sep2 (fp1 := [a]) (fp2 := [b]) (fun c hc => by rw [List.mem_singleton.mp hc]; exact la) (fun c hc => by rw [List.mem_singleton.mp hc]; exact lt2)
        exact ⟨s1.heap.objs.size + 4, [s1.heap.objs.size + 4, s1.heap.objs.size + 2, s1.heap.objs.size + 3, s1.heap.objs.size, s1.heap.objs.size + 1], _, _, H1, rfl, I2, turn_zipM S (Nat.ne_of_lt la) (Nat.ne_of_lt (Nat.lt_succ_of_lt lt2)), ⟨hz, hTI, ⟨_, _, hTO⟩, ⟨_, h1, rfl, rfl⟩, ⟨_, h2, rfl, rfl⟩⟩, fresh5, q⟩
/-! ### enumerate(tuple) -/
theorem enum_newT {v : Value} {o : Obj} {HH : Heap → Prop} (B : Begins v o HH) :
    Meets (Builtin.«enumerate.__new__» ⟨[.type "enumerate", v], []⟩) (fun _ R s => HH s.heap ∧
      R (.ok (.ret (.ref (s.heap.push o).objs.size))) { s with heap := (s.heap.push o).push { cls := .type "enumerate", data := .fields #[.none, .bool false, .ref s.heap.objs.size, rawInt 0, .none, .none] } }) :=
  .of_wp fun prog w A R s h => by
    obtain ⟨hp, g, d, tk, os⟩ := s; obtain ⟨h1, h⟩ := h
    have hsub := sub_enumerate
    have q1 : ∀ {A' : Around} {E : Value → Shared → Prop} {Q : Value → Shared → Prop}, Q (.ref hp.objs.size) ⟨hp.push o, g, d, tk, os⟩ → wpAny (model prog w) A' (pyIter v) Q E ⟨hp, g, d, tk, os⟩ :=
      fun q => B.iter prog w _ _ ⟨hp, g, d, tk, os⟩ _ h1 q
    wp_walk using q1
    refine wpAny_stack_any fun st => wpAny_pure ?_
    split
    · rename_i c _ _ _ _ _
      cases (c == Value.type "enumerate")
      · wp_walk using q1
        exact ⟨_, rfl, h⟩
      · wp_walk using q1
        exact ⟨_, rfl, h⟩
    · wp_walk using q1
      exact ⟨_, rfl, h⟩
theorem call_enumT {prog : Program} {w : World} {A : Around} {E : Value → Shared → Prop} {s : Shared} {l : Addr} {items : Array Value} {Q : Value → Shared → Prop} (hL : s.heap.IsTuple l items)
    (h : ∀ h', IsEnum h' (s.heap.objs.size + 1) s.heap.objs.size 0 .none → h'.IsTupleIter s.heap.objs.size l 0 → h'.objs.size = s.heap.objs.size + 2 →
      (∀ b o, s.heap.get? b = some o → h'.get? b = some o) → Q (.ref (s.heap.objs.size + 1)) { s with heap := h' }) :
    wpAny (model prog w) A (call (.type "enumerate") [.ref l]) Q E s := by
  refine callType_new F.called_enumerate (by decide) (F.typeCall_enumerate_1 _) (F.newCall_enumerate_1 _) (fun obj => F.args_object_init_2 obj _) F.entry_enumerate_new
    (enum_newT (begins_tuple l items)) ⟨hL, ?_⟩
  have hz : (s.heap.push { cls := .type "tuple_iterator", data := .fields #[.ref l, .int 0 0] }).objs.size = s.heap.objs.size + 1 := Heap.size_push ..
  show _ ∧ _
  rw [hz]
  have he : IsEnum ((s.heap.push { cls := .type "tuple_iterator", data := .fields #[.ref l, .int 0 0] }).push
      { cls := .type "enumerate", data := .fields #[.none, .bool false, .ref s.heap.objs.size, rawInt 0, .none, .none] }) (s.heap.objs.size + 1) s.heap.objs.size 0 .none := by
    have := Heap.get?_push_size (s.heap.push { cls := .type "tuple_iterator", data := .fields #[.ref l, .int 0 0] })
      (o := { cls := .type "enumerate", data := .fields #[.none, .bool false, .ref s.heap.objs.size, rawInt 0, .none, .none] }) rfl
    rw [hz] at this; exact this
  refine ⟨⟨_, he, rfl⟩, h _ he ⟨_, Heap.get?_push_of_some _ (Heap.get?_push_size _ rfl), rfl, rfl⟩ (by rw [Heap.size_push, hz]) fun b o x => Heap.get?_push_of_some _ (Heap.get?_push_of_some _ x)⟩
/-- the tuple at a, each item in a new pair -/
def IteT (K : PySem.W.Frag) (a : Addr) : It :=
  ⟨fun i H => ∃ (xs : List V) (x : V), SqT K H a xs ∧ xs[i]? = some x, fun i H v H' => ∃ T x, v = .ref T ∧ H T = none ∧ H' = upd H T (.tup [.int (i : Nat), x]) ∧ ∀ xs, SqT K H a xs → xs[i]? = some x, fun i H => ∃ xs : List V, SqT K H a xs ∧ i = xs.length⟩
theorem turn_enumT {P : Program} {w : World} {K : PySem.W.Frag} {elts : List Expr} {kk : Nat} {tpos : Pos} {a e it : Addr} (hne : e ≠ it) (ha : a ≠ it) (hae : e ≠ a) :
    Turn P w K (.Tuple elts kk tpos) (IteT K a) [e, it] e (fun i h => (∃ old, IsEnum h e it ((i : Nat) : Int) old) ∧ h.IsTupleIter it a i) where
  mem := by simp
  obj := fun i h st b hb => by
    obtain ⟨⟨old, he⟩, ⟨o, ho, hc, hd⟩⟩ := st
    have e' : b = e ∨ b = it := by simpa using hb
    rcases e' with z | z
    · rw [z]; exact ⟨_, he, fun v q => nomatch q⟩
    · rw [z]; exact ⟨o, ho, fun v q => by rw [hd] at q; cases q⟩
  keep := fun i h h' st k => let ⟨⟨old, he⟩, hi⟩ := st; ⟨⟨old, k e (by simp) _ he⟩, hi.at fun o q => k it (by simp) o q⟩
  item := by
    intro X hP hw hK hc i pins s σ H E I hf st hg
    subst hP hw hK
    obtain ⟨⟨old, he⟩, hit⟩ := st
    obtain ⟨xs, x, hq, hx⟩ := hg
    obtain ⟨its, rv, p, hz⟩ := I.tuple hq
    obtain ⟨u, hu, ru⟩ := rv.get hx
    have hel : e < s.heap.objs.size := Heap.lt_size he
    have hil : it < s.heap.objs.size := by obtain ⟨_, q, _⟩ := hit; exact Heap.lt_size q
    have hh : X.A.in1.handled = none := I.ok.hd hc
    have l1 : i < its.toArray.size := by
      have := (List.getElem?_eq_some_iff.mp hu).1
      simpa using this
    refine wpAny_pyNext_enum_itemC (Draws.tuple hh it a ha its.toArray) he ⟨hit, p⟩ l1 hne (by simp [hne, hae]) fun x1 h' tk hx1 ho hit' hT hsz hk => ?_
    have ex1 : x1 = u := Option.some.inj (hx1.symm.trans (by simpa using hu))
    subst ex1
    refine ⟨_, rfl, wpAny_letOwnedTupleGo_enum (s := { s with heap := h', toks := tk + 1 }) ho fun h'' he' sb => ?_⟩
    have hT2 : h''.get? s.heap.objs.size = some { cls := .type "tuple", data := .seq #[.int i tk, x1] } := (sb.2 _ (Nat.ne_of_gt hel)).trans hT
    have new : ObjOk X.prog X.w (upd H s.heap.objs.size (.tup [.int (i : Nat), x])) h'' s.heap.objs.size (.tup [.int (i : Nat), x]) :=
      ⟨by show 2 ≤ sizeLine; decide, [.int i tk, x1], .cons ⟨_, rfl⟩ (.cons ru .nil), ⟨_, hT2, rfl, _, rfl⟩⟩
    have I1 : L2.Inv X pins σ (upd H s.heap.objs.size (.tup [.int (i : Nat), x])) { s with heap := h'', toks := tk + 1 } :=
      I.turnedNew (t' := tk + 1) (ch := [e, it]) (fun b ob hb q => (sb.2 b (fun z => hb (by simp [z]))).trans (hk b ob (fun z => hb (by simp [z])) (fun z => hb (by simp [z])) q)) hf (Nat.le_refl _) new
    refine ⟨.ref s.heap.objs.size, _, I1, rfl, ⟨_, x, rfl, I.hok.fresh (Nat.le_refl _), rfl, fun ys hy => by rw [I.tuple_inj hy hq]; exact hx⟩, ⟨⟨x1, ?_⟩, hit'.1.at fun o q => (sb.2 it (Ne.symm hne)).trans q⟩, fun b hb => ?_⟩
    · have e1 : ((i + 1 : Nat) : Int) = (i : Int) + 1 := by omega
      rw [e1]; exact he'
    · have hb' : b < s.heap.objs.size := by
        have e' : b = e ∨ b = it := by simpa using hb
        rcases e' with z | z
        · rw [z]; exact hel
        · rw [z]; exact hil
      rw [upd_ne (Nat.ne_of_lt hb')]
      exact (hf b hb).1
  done := by
    intro X hP hw hK hc i pins s σ H E I hf st hg
    subst hP hw hK
    obtain ⟨⟨old, he⟩, hit⟩ := st
    obtain ⟨xs, hq, hx⟩ := hg
    obtain ⟨its, rv, p, hz⟩ := I.tuple hq
    have hh : X.A.in1.handled = none := I.ok.hd hc
    have hl := rv.length
    have e1 : i = its.toArray.size := by simp; omega
    subst e1
    refine wpAny_pyNext_enum_endD (Draws.tuple hh it a ha its.toArray) he ⟨hit, p⟩ fun h' hx => ⟨rfl, I.turnedL (t' := s.toks) (ch := [e, it]) (fun b o hb q => hx b o (fun z => hb (by simp [z])) q) hf⟩
  self := fun A i s Q E st h => let ⟨⟨_, he⟩, _⟩ := st; wpAny_pyIter_enum he h
def EnIt (K : PySem.W.Frag) (vs : List V) (R : It → Hp → Prop) (H1 : Hp) : Prop := ∃ a xs, vs = [.ref a] ∧ ((SqL K H1 a xs ∧ R (Ite K a) H1) ∨ (SqT K H1 a xs ∧ R (IteT K a) H1))
def iEnumA (K : PySem.W.Frag) (ta : TA) : TI := fun σ H R => ta σ H fun vs H1 => EnIt K vs R H1
theorem pi_enumA {X : Cx} {e : Expr} {ta : TA} {p pos tpos : Pos} {elts : List Expr} {kk : Nat} (hg : Gl X "enumerate") (hm : X.mg "enumerate" = none) (ha : PA X [e] ta) (hs : starEach [e] X.env = [(false, eval e X.env)] := by rfl) :
    PI X (.Tuple elts kk tpos) (.Call (.Name "enumerate" p) [e] [] pos) (iEnumA X.K ta) := by
  refine ⟨fun pins s σ H R I h => ?_⟩
  obtain h := h
  refine Call_ (ld_blt I hg hm boot_enumerate (PyProof.Rows.callWith_type1 (thn (ha.run pos pins s σ H _ I h) fun us s1 ⟨vs, H1, I1, r1, q1⟩ => ?_) hs rfl))
  obtain ⟨a, xs, ex, q1⟩ := q1
  subst ex
  cases r1 with
  | cons r rr =>
    cases rr
    cases r
    have fr : ∀ b ∈ [s1.heap.objs.size + 1, s1.heap.objs.size], FpOk X pins H1 b := fun b hb => by
      have e' : b = s1.heap.objs.size + 1 ∨ b = s1.heap.objs.size := by simpa using hb
      have hle : s1.heap.objs.size ≤ b := by
        rcases e' with z | z
        · rw [z]; exact Nat.le_succ _
        · rw [z]; exact Nat.le_refl _
      exact I1.fpOk hle (I1.hok.fresh hle)
    rcases q1 with ⟨hq, q⟩ | ⟨hq, q⟩
    · obtain ⟨its, rv, p', hz⟩ := I1.list hq
      refine call_enumerate_list p'.isList fun h' he hit hsz hk => wpAny_pyIter_enum he ?_
      have I2 : L2.Inv X pins σ H1 { s1 with heap := h' } := I1.kept (t' := s1.toks) hk
      exact ⟨s1.heap.objs.size + 1, [s1.heap.objs.size + 1, s1.heap.objs.size], _, _, H1, rfl, I2, turn_enum a _ _, ⟨⟨_, he⟩, hit, Nat.succ_ne_self _⟩, fr, q⟩
    · obtain ⟨its, rv, p', hz⟩ := I1.tuple hq
      obtain ⟨o1, ho1, _⟩ := id p'
      have la : a < s1.heap.objs.size := Heap.lt_size ho1
      refine call_enumT (show s1.heap.IsTuple a its.toArray from p') fun h' he hit hsz hk => wpAny_pyIter_enum he ?_
      have I2 : L2.Inv X pins σ H1 { s1 with heap := h' } := I1.kept (t' := s1.toks) hk
      exact ⟨s1.heap.objs.size + 1, [s1.heap.objs.size + 1, s1.heap.objs.size], _, _, H1, rfl, I2, turn_enumT (Nat.succ_ne_self _) (Nat.ne_of_lt la) (Nat.ne_of_gt (Nat.lt_succ_of_lt la)), ⟨⟨_, he⟩, hit⟩, fr, q⟩
end K4

/-! En11 -/

/-! enumerate(text). -/
namespace K4
open PySem L2 PySem.Spec PyProof.Rows
/-- the signs of a text, each in a new pair -/
def IteS (z : Str) : It :=
  ⟨fun i _ => i < z.cps.size, fun i H v H' => ∃ T c, v = .ref T ∧ H T = none ∧ H' = upd H T (.tup [.int (i : Nat), .str ⟨#[c]⟩]) ∧ z.cps[i]? = some c, fun i _ => i = z.cps.size⟩
theorem turn_enumS {P : Program} {w : World} {K : PySem.W.Frag} {elts : List Expr} {kk : Nat} {tpos : Pos} {z : Str} {t : Tok} {e it : Addr} (hne : e ≠ it) :
    Turn P w K (.Tuple elts kk tpos) (IteS z) [e, it] e (fun i h => (∃ old, IsEnum h e it ((i : Nat) : Int) old) ∧ h.IsStrIter it (strIterType z) z t i) where
  mem := by simp
  obj := fun i h st b hb => by
    obtain ⟨⟨old, he⟩, ⟨o, ho, hc, hd⟩⟩ := st
    have e' : b = e ∨ b = it := by simpa using hb
    rcases e' with q | q
    · rw [q]; exact ⟨_, he, fun v q => nomatch q⟩
    · rw [q]; exact ⟨o, ho, fun v q => by rw [hd] at q; cases q⟩
  keep := fun i h h' st k => by
    obtain ⟨⟨old, he⟩, ⟨o, ho, r⟩⟩ := st
    exact ⟨⟨old, k e (by simp) _ he⟩, ⟨o, k it (by simp) o ho, r⟩⟩
  item := by
    intro X hP hw hK hc i pins s σ H E I hf st hg
    subst hP hw hK
    obtain ⟨⟨old, he⟩, hit⟩ := st
    have hel : e < s.heap.objs.size := Heap.lt_size he
    have hil : it < s.heap.objs.size := by obtain ⟨_, q, _⟩ := hit; exact Heap.lt_size q
    have hh : X.A.in1.handled = none := I.ok.hd hc
    refine wpAny_pyNext_enum_itemC (Draws.text hh it z t) he hit hg hne (by simp [hne]) fun x1 h' tk hx1 ho hit' hT hsz hk => ?_
    obtain ⟨c, u, hcx, rfl⟩ := hx1
    refine ⟨_, rfl, wpAny_letOwnedTupleGo_enum (s := { s with heap := h', toks := tk + 1 }) ho fun h'' he' sb => ?_⟩
    have hT2 : h''.get? s.heap.objs.size = some { cls := .type "tuple", data := .seq #[.int i tk, .str ⟨#[c]⟩ u] } := (sb.2 _ (Nat.ne_of_gt hel)).trans hT
    have new : ObjOk X.prog X.w (upd H s.heap.objs.size (.tup [.int (i : Nat), .str ⟨#[c]⟩])) h'' s.heap.objs.size (.tup [.int (i : Nat), .str ⟨#[c]⟩]) :=
      ⟨by show 2 ≤ sizeLine; decide, [.int i tk, .str ⟨#[c]⟩ u], .cons ⟨_, rfl⟩ (.cons ⟨_, rfl⟩ .nil), ⟨_, hT2, rfl, _, rfl⟩⟩
    have I1 : L2.Inv X pins σ (upd H s.heap.objs.size (.tup [.int (i : Nat), .str ⟨#[c]⟩])) { s with heap := h'', toks := tk + 1 } :=
      I.turnedNew (t' := tk + 1) (ch := [e, it]) (fun b ob hb q => (sb.2 b (fun z => hb (by simp [z]))).trans (hk b ob (fun z => hb (by simp [z])) (fun z => hb (by simp [z])) q)) hf (Nat.le_refl _) new
    refine ⟨.ref s.heap.objs.size, _, I1, rfl, ⟨_, c, rfl, I.hok.fresh (Nat.le_refl _), rfl, hcx⟩, ⟨⟨.str ⟨#[c]⟩ u, ?_⟩, ?_⟩, fun b hb => ?_⟩
    · have e1 : ((i + 1 : Nat) : Int) = (i : Int) + 1 := by omega
      rw [e1]; exact he'
    · obtain ⟨o, ho', r⟩ := hit'
      exact ⟨o, (sb.2 it (Ne.symm hne)).trans ho', r⟩
    · have hb' : b < s.heap.objs.size := by
        have e' : b = e ∨ b = it := by simpa using hb
        rcases e' with q | q
        · rw [q]; exact hel
        · rw [q]; exact hil
      rw [upd_ne (Nat.ne_of_lt hb')]
      exact (hf b hb).1
  done := by
    intro X hP hw hK hc i pins s σ H E I hf st hg
    subst hP hw hK
    obtain ⟨⟨old, he⟩, hit⟩ := st
    have hh : X.A.in1.handled = none := I.ok.hd hc
    have e1 : i = z.cps.size := hg
    subst e1
    refine wpAny_pyNext_enum_endD (Draws.text hh it z t) he hit fun h' hx => ⟨rfl, I.turnedL (t' := s.toks) (ch := [e, it]) (fun b o hb q => hx b o (fun z => hb (by simp [z])) q) hf⟩
  self := fun A i s Q E st h => let ⟨⟨_, he⟩, _⟩ := st; wpAny_pyIter_enum he h
def iEnumS (ta : TA) : TI := fun σ H R => ta σ H fun vs H1 => ∃ z, vs = [.str z] ∧ R (IteS z) H1
theorem pi_enumS {X : Cx} {e : Expr} {ta : TA} {p pos tpos : Pos} {elts : List Expr} {kk : Nat} (hg : Gl X "enumerate") (hm : X.mg "enumerate" = none) (ha : PA X [e] ta) (hs : starEach [e] X.env = [(false, eval e X.env)] := by rfl) :
    PI X (.Tuple elts kk tpos) (.Call (.Name "enumerate" p) [e] [] pos) (iEnumS ta) := by
  refine ⟨fun pins s σ H R I h => ?_⟩
  refine Call_ (ld_blt I hg hm boot_enumerate (PyProof.Rows.callWith_type1 (thn (ha.run pos pins s σ H _ I h) fun us s1 ⟨vs, H1, I1, r1, q1⟩ => ?_) hs rfl))
  obtain ⟨z, ex, q⟩ := q1
  subst ex
  cases r1 with
  | cons r rr =>
    cases rr
    obtain ⟨t, rfl⟩ := r
    have fr : ∀ b ∈ [s1.heap.objs.size + 1, s1.heap.objs.size], FpOk X pins H1 b := fun b hb => by
      have e' : b = s1.heap.objs.size + 1 ∨ b = s1.heap.objs.size := by simpa using hb
      have hle : s1.heap.objs.size ≤ b := by
        rcases e' with z | z
        · rw [z]; exact Nat.le_succ _
        · rw [z]; exact Nat.le_refl _
      exact I1.fpOk hle (I1.hok.fresh hle)
    refine call_enumerate_str fun h' he hit hsz hk => wpAny_pyIter_enum he ?_
    have I2 : L2.Inv X pins σ H1 { s1 with heap := h' } := I1.kept (t' := s1.toks) hk
    exact ⟨s1.heap.objs.size + 1, [s1.heap.objs.size + 1, s1.heap.objs.size], _, _, H1, rfl, I2, turn_enumS (t := t) (Nat.succ_ne_self _), ⟨⟨_, he⟩, hit⟩, fr, q⟩
end K4
namespace K4
open PySem L2 K1 PyProof.Rows
theorem walk_enumS {z : Str} : Walk (IteS z) z.cps.size (fun _ => True) (YPair (fun i => some (.int (i : Nat))) (fun i => (z.cps[i]?).map fun c => V.str ⟨#[c]⟩)) := by
  refine ⟨fun i _ hi q => hi, fun _ q => rfl, fun i H v H' _ q y => ?_⟩
  obtain ⟨T, c, h1, h2, h3, h4⟩ := y
  exact ⟨T, _, .str ⟨#[c]⟩, h1, h2, h3, rfl, by show Option.map _ z.cps[i]? = _; rw [h4]; rfl⟩
section
variable {K : PySem.W.Frag} {σ : L2.St} {H : Hp} {D : Addr} {vs : List Nat} {te : TE} {Qd : Hp → Prop} {J : It} {n : Nat} {G : Hp → Prop} {f g : Nat → Option V} {i j : Nat}
/-- [e for x, y in pairs] -/
theorem lc_pairs (w : Walk J n G (YPair f g)) (hw : ∀ x y, wipe (((wipe σ vs).set i (some x)).set j (some y)) vs = wipe σ vs) (P : List V → Hp → Prop) (h0 : P [] (upd H D (.lst [])))
    (hG : ∀ acc H', H' D = some (.lst acc) → P acc H' → G H')
    (hs : ∀ k x y T acc H', f k = some x → g k = some y → k < n → acc.length = k → H' D = some (.lst acc) → P acc H' → H' T = none → te (((wipe σ vs).set i (some x)).set j (some y)) (upd H' T (.tup [x, y])) fun y H4 => ∃ acc, H4 D = some (.lst acc) ∧ acc.length < sizeLine ∧ PP D P (k + 1) (upd H4 D (.lst (acc ++ [y]))))
    (hd : ∀ acc H', acc.length = n → H' D = some (.lst acc) → P acc H' → Qd H') :
    ∃ W : Nat → Nat → Hp → Prop, (∃ m, W 0 m (upd H D (.lst []))) ∧ ∀ k m H, W k m H →
      (J.stop k H ∧ Qd H) ∨ (J.go k H ∧ ∃ Nx : Hp → Prop, (∀ H', Nx H' → ∃ m', m' < m ∧ W (k + 1) m' H') ∧ ∀ x H', J.yld k H x H' → gTup K 2 (gCons (gName i) (gCons (gName j) gNil)) x (wipe σ vs) H' fun σ2 H2 => wipe σ2 vs = wipe σ vs ∧ tYes σ2 H2 fun b H3 =>
        if b = true then te σ2 H3 fun y H4 => ∃ acc, H4 D = some (.lst acc) ∧ acc.length < sizeLine ∧ Nx (upd H4 D (.lst (acc ++ [y]))) else Nx H3) := by
  refine lc_it w (PP D P) ⟨[], rfl, upd_same, h0⟩ (fun k H' _ ⟨acc, _, e, p⟩ => hG acc H' e p) ?_ (fun H' ⟨acc, l, e, p⟩ => hd acc H' l e p)
  rintro k v H1 H2 hi ⟨acc, l, e, p⟩ ⟨T, x, y, rfl, hT, rfl, hx, hy⟩
  refine ⟨T, [x, y], rfl, SqT.of upd_same, rfl, ?_⟩
  refine r_gcons ?_
  unfold gName
  refine r_gcons ?_
  refine r_gnil ⟨hw x y, ?_⟩
  show te _ _ _
  exact hs k x y T acc _ hx hy hi l e p hT
end
end K4

/-! Zl -/
/-! Comprehensions over zip and enumerate. -/
namespace K4
open PySem L2 K1 PyProof.Rows
section
variable {K : PySem.W.Frag} {a b : Addr} {xs ys : List V}
theorem walk_zipT (hl : xs.length = ys.length) : Walk (RZ.ItzT K a b) xs.length (fun H => SqT K H a xs ∧ SqT K H b ys) (YPair (fun i => xs[i]?) (fun i => ys[i]?)) := by
  refine ⟨fun i _ hi q => ?_, fun _ q => ⟨xs, ys, q.1, q.2, by omega⟩, fun i H v H' _ q y => ?_⟩
  · have h2 : i < ys.length := by omega
    exact ⟨xs, ys, xs[i], ys[i], q.1, q.2, by simp [hi], by simp [h2]⟩
  · obtain ⟨T, x, z, h1, h2, h3, h4, h5⟩ := y
    exact ⟨T, x, z, h1, h2, h3, h4 xs q.1, h5 ys q.2⟩
theorem walk_zipM (hl : xs.length = ys.length) : Walk (ItzM K a b) xs.length (fun H => SqT K H a xs ∧ SqL K H b ys) (YPair (fun i => xs[i]?) (fun i => ys[i]?)) := by
  refine ⟨fun i _ hi q => ?_, fun _ q => ⟨xs, ys, q.1, q.2, hl, rfl⟩, fun i H v H' _ q y => ?_⟩
  · have h2 : i < ys.length := by omega
    exact ⟨xs, ys, xs[i], ys[i], q.1, q.2, by simp [hi], by simp [h2]⟩
  · obtain ⟨T, x, z, h1, h2, h3, h4, h5⟩ := y
    exact ⟨T, x, z, h1, h2, h3, h4 xs q.1, h5 ys q.2⟩
theorem walk_enumL : Walk (Ite K a) xs.length (fun H => SqL K H a xs) (YPair (fun i => some (.int (i : Nat))) (fun i => xs[i]?)) := by
  refine ⟨fun i _ hi q => ⟨xs, xs[i], q, by simp [hi]⟩, fun _ q => ⟨xs, q, by simp⟩, fun i H v H' _ q y => ?_⟩
  obtain ⟨T, x, h1, h2, h3, h4⟩ := y
  exact ⟨T, _, x, h1, h2, h3, rfl, h4 xs q⟩
theorem walk_enumT : Walk (IteT K a) xs.length (fun H => SqT K H a xs) (YPair (fun i => some (.int (i : Nat))) (fun i => xs[i]?)) := by
  refine ⟨fun i _ hi q => ⟨xs, xs[i], q, by simp [hi]⟩, fun _ q => ⟨xs, q, rfl⟩, fun i H v H' _ q y => ?_⟩
  obtain ⟨T, x, h1, h2, h3, h4⟩ := y
  exact ⟨T, _, x, h1, h2, h3, rfl, h4 xs q⟩
end
theorem zip_sq {K : PySem.W.Frag} {R : It → Hp → Prop} {H : Hp} {a : Addr} {v : V} {xs ys : List V} (hx : ∀ H, SqT K H a xs) (h : Sq K H v ys) (hl : xs.length = ys.length)
    (key : ∀ J G, Walk J xs.length G (YPair (fun i => xs[i]?) (fun i => ys[i]?)) → (∀ H', Keeps K H H' → G H') → R J H) : ZipIt K [.ref a, v] R H := by
  obtain ⟨b, rfl, h | h⟩ := h
  · exact ⟨a, b, xs, ys, rfl, hx H, .inr ⟨h, key _ _ (walk_zipM hl) fun H' k => ⟨hx H', k.1 _ _ h⟩⟩⟩
  · exact ⟨a, b, xs, ys, rfl, hx H, .inl ⟨h, key _ _ (walk_zipT hl) fun H' k => ⟨hx H', k.2 _ _ h⟩⟩⟩
theorem en_sq {K : PySem.W.Frag} {R : It → Hp → Prop} {H : Hp} {v : V} {xs : List V} (h : Sq K H v xs)
    (key : ∀ J G, Walk J xs.length G (YPair (fun i => some (.int (i : Nat))) (fun i => xs[i]?)) → (∀ H', Keeps K H H' → G H') → R J H) : EnIt K [v] R H := by
  obtain ⟨a, rfl, h | h⟩ := h
  · exact ⟨a, xs, rfl, .inl ⟨h, key _ _ walk_enumL fun H' k => k.1 _ _ h⟩⟩
  · exact ⟨a, xs, rfl, .inr ⟨h, key _ _ walk_enumT fun H' k => k.2 _ _ h⟩⟩
end K4

/-! R19 -/

/-! t[::-1] of a tuple. -/
namespace K4
open PySem PySem.Spec PyProof.Rows L2
section
variable {P : Program} {w : World} {A : Around} {E : Value → Shared → Prop} {s : Shared}
theorem places_back (n : Nat) : Builtin.Slice.slicePlaces ((n : Int) - 1) (-1) (-1) = n := by
  unfold Builtin.Slice.slicePlaces
  rw [if_neg (by decide)]
  by_cases h : n = 0
  · subst h; rfl
  · rw [if_pos (by omega)]
    have e : ((n : Int) - 1 - -1 - 1) / (- -1) + 1 = n := by
      rw [show (- -1 : Int) = 1 by decide, Int.ediv_one]; omega
    rw [e]; rfl
theorem applied_back {sl : Addr} {vl vu vs : Value} {n : Nat} {Q : Int × Int × Nat → Shared → Prop} (hs : s.heap.IsSliceOf sl vl vu vs) (pl : IsPart vl none) (pu : IsPart vu none) (ps : IsPart vs (some (-1)))
    (h : Q ((n : Int) - 1, -1, n) s) : wpAny (model P w) A (Builtin.Slice.sliceApplied (.ref sl) (Pure.pure (n : Int))) Q E s := by
  obtain ⟨so, s1, s2, s3⟩ := id hs
  unfold Builtin.Slice.sliceApplied Builtin.Slice.sliceFields
  refine wpAny_bind (wpAny_bind (wpAny_field s1 s3 (x := vl) rfl (wpAny_bind (wpAny_field s1 s3 (x := vu) rfl (wpAny_bind (wpAny_field s1 s3 (x := vs) rfl (wpAny_pure ?_)))))))
  refine wpAny_bind (HT.slicePart_ ps (?_ : wpAny _ _ (if ((-1 : Int) == 0) = true then _ else _) _ _ s))
  rw [if_neg (by decide)]
  refine wpAny_bind (HT.slicePart_ pl (wpAny_bind (HT.slicePart_ pu (wpAny_bind (wpAny_pure ?_)))))
  refine (?_ : wpAny _ _ (Pure.pure ((n : Int) - 1, (-1 : Int), Builtin.Slice.slicePlaces ((n : Int) - 1) (-1) (-1))) _ _ s)
  rw [places_back]
  exact wpAny_pure h
theorem fm_map {α β : Type} {f : α → Option β} {g : α → β} : ∀ {l : List α}, (∀ a ∈ l, f a = some (g a)) → l.filterMap f = l.map g
  | [], _ => rfl
  | a :: l, h => by
    rw [List.filterMap_cons, h a List.mem_cons_self, List.map_cons, fm_map fun b hb => h b (List.mem_cons_of_mem _ hb)]
theorem pick_back (xs : Array Value) : ((List.range xs.size).filterMap fun k : Nat => xs[(((xs.size : Nat) : Int) - 1 + (k : Int) * -1).toNat]?).toArray = xs.toList.reverse.toArray := by
  congr 1
  refine List.ext_getElem? fun i => ?_
  have e : (List.range xs.size).filterMap (fun k : Nat => xs[(((xs.size : Nat) : Int) - 1 + (k : Int) * -1).toNat]?) = (List.range xs.size).map fun k : Nat => xs.toList.reverse.getD k .none := by
    refine fm_map fun k hk => ?_
    have hk := List.mem_range.mp hk
    have e1 : (((xs.size : Nat) : Int) - 1 + (k : Int) * -1).toNat = xs.size - 1 - k := by omega
    have h1 : xs.size - 1 - k < xs.size := by omega
    have h2 : k < xs.toList.reverse.length := by rw [List.length_reverse, Array.length_toList]; exact hk
    rw [e1, Array.getElem?_eq_getElem h1]
    show _ = some _
    rw [List.getD_eq_getElem?_getD, List.getElem?_eq_getElem h2, List.getElem_reverse]
    simp
  rw [e, List.getElem?_map]
  by_cases hi : i < xs.size
  · have h2 : i < xs.toList.reverse.length := by rw [List.length_reverse, Array.length_toList]; exact hi
    rw [List.getElem?_range hi, List.getElem?_eq_getElem h2]
    show some (xs.toList.reverse.getD i Value.none) = _
    rw [List.getD_eq_getElem?_getD, List.getElem?_eq_getElem h2]; rfl
  · rw [List.getElem?_eq_none (by rw [List.length_range]; omega), List.getElem?_eq_none (by rw [List.length_reverse, Array.length_toList]; omega)]; rfl
theorem item_back {t sl : Addr} {xs : Array Value} {vl vu vs : Value} {Q : Value → Shared → Prop} (ht : IsTup s.heap t xs) (hs : s.heap.IsSliceOf sl vl vu vs) (pl : IsPart vl none) (pu : IsPart vu none) (ps : IsPart vs (some (-1)))
    (h : Q (.ref s.heap.objs.size) { s with heap := s.heap.push { cls := .type "tuple", data := .seq xs.toList.reverse.toArray } }) (few : xs.size ≤ sizeLine) : wpAny (model P w) A (getItem (.ref t) (.ref sl)) Q E s := by
  have okz : sizeOk (.seq xs.toList.reverse.toArray) := (?_ : xs.toList.reverse.toArray.size ≤ sizeLine)
  case refine_1 => rw [List.size_toArray, List.length_reverse, Array.length_toList]; exact few
  obtain ⟨so, s1, s2, s3⟩ := id hs
  have tS : s.TypeIs (.ref sl) "slice" := ⟨so, s1, s2⟩
  unfold getItem
  try with_reducible refine wpAny_holding ?_
  first | refine wpAny_bind (wpAny_pure ?_) | skip
  refine wpAny_bind (wpAny_sequenceKey ht.typeIs (by decide) ?_)
  refine wpAny_bind (wpAny_callSpecial?_slot (name := Str.ofString "__getitem__")
    ht.typeIs PyProof.Rows.slot_tuple_getitem (wpAny_call_entry PyProof.Rows.slot_tuple_getitem ht.typeIs
      entry_tuple_getitem ?_ (args_tuple_getitem _ _)))
  refine (?_ : wpAny _ _ (Builtin.Tuple.tupleItemsOf (.ref t) >>= _) _ _ s)
  refine wpAny_bind (tupleItemsOf_ ht (wpAny_bind (wpAny_typeOf tS ?_)))
  rw [if_pos (by decide)]
  refine wpAny_bind (applied_back hs pl pu ps ?_)
  refine (?_ : wpAny _ _ (if ((((xs.size : Nat) : Int) - 1 == 0 && (-1 : Int) == 1 && xs.size == xs.size) = true) then _ else _) _ _ s)
  rw [if_neg (by rw [show ((-1 : Int) == 1) = false by decide, Bool.and_false, Bool.false_and]; exact Bool.false_ne_true), pick_back]
  first
    | exact wpAny_bind (m := Builtin.Tuple.tupleExact _) (wpAny_newObj_type (wpAny_pure ⟨_, rfl, wpAny_pure h⟩) okz)
    | exact wpAny_bind (m := Builtin.Tuple.tupleExact _) (wpAny_newObj_type (wpAny_bind (wpAny_pure (wpAny_pure ⟨_, rfl, wpAny_pure h⟩))) okz)
end
/-- t[::-1] -/
def tRevT (K : PySem.W.Frag) (te : TE) : TE := fun σ H Q => te σ H fun x H1 => ∃ a xs, x = .ref a ∧ SqT K H1 a xs ∧ ∀ p, H1 p = none → Q (.ref p) (upd H1 p (.tup xs.reverse))
theorem pe_revT {X : Cx} {e : Expr} {te : TE} {k : Nat} {p1 p2 p3 pos : Pos} (he : PE X e te) : PE X (.Subscript e (.Slice none none (some (.UnaryOp .USub (.Constant (.int 1) k p1) p2)) p3) pos) (tRevT X.K te) := by
  refine ⟨fun pins s σ H Q I h => ?_⟩
  refine Subscript_ (thn (he.run pins s σ H _ I h) ?_)
  rintro v s1 ⟨x, H1, I1, r1, a, xs, rfl, hx, q⟩
  cases r1
  have step : PO X (some (.UnaryOp .USub (.Constant (.int 1) k p1) p2)) (tPart (tUn (rU fun i => .int (-i)) (tC (.int 1)))) := po_some (pe_un un_neg pe_int)
  refine wpAny_Slice (thn (po_none.run pins s1 σ H1 (fun o H2 => o = none ∧ H2 = H1) I1 ⟨rfl, rfl⟩) ?_)
  rintro vl s2 ⟨o2, H2, I2, pl, z2, e2⟩
  subst z2 e2
  refine thn (po_none.run pins s2 σ H2 (fun o H3 => o = none ∧ H3 = H2) I2 ⟨rfl, rfl⟩) ?_
  rintro vu s3 ⟨o3, H3, I3, pu, z3, e3⟩
  subst z3 e3
  refine thn (step.run pins s3 σ H3 (fun o H4 => o = some (-1) ∧ H4 = H3) I3 ⟨1, rfl, -1, rfl, rfl, rfl⟩) ?_
  rintro vs s4 ⟨o4, H4, I4, ps, z4, e4⟩
  subst z4 e4
  have I5 : Inv X pins σ H4 { s4 with heap := s4.heap.push { cls := .type "slice", data := .fields #[vl, vu, vs] } } :=
    I4.kept (t' := s4.toks) fun b ob z => Heap.get?_push_of_some _ z
  obtain ⟨its, r, ht, hz⟩ := I5.tuple hx
  have hl := r.length
  refine (?_ : wpAny (model X.prog X.w) X.A (subscriptTail e (.Slice none none (some (.UnaryOp .USub (.Constant (.int 1) k p1) p2)) p3) (.ref a) (.ref s4.heap.objs.size)) (EP X pins σ Q) X.xe _)
  refine tail_any (ops := [.ref a, .ref s4.heap.objs.size]) ht.typeIs PyProof.Rows.slot_tuple_getitem.lookup ?_ (by with_unfolding_all rfl)
  refine item_back ht (Heap.IsSliceOf.new _ vl vu vs) pl pu ps ?_ (by rw [List.size_toArray]; omega)
  refine ⟨.ref _, _, I5.laid (t' := s4.toks) (o := .tup xs.reverse) (fun b ob z => Heap.get?_push_of_some _ z) (Nat.le_refl _) ?_, rfl, q _ (I5.hok.fresh (Nat.le_refl _))⟩
  refine ⟨by rw [List.length_reverse]; exact hz, its.reverse, r.reverse, ?_⟩
  exact ⟨_, Heap.get?_push_size _ rfl, rfl, 0, rfl⟩
end K4

/-! B19 -/


namespace K4
open PySem L2 K1
def spOwn (K : PySem.W.Frag) : Sp := fun vs H Q _ => ∃ (v : V) (k : Nat) (xs is : List V), vs = [v] ∧ k < 9 ∧ Sq K H v (.str (wd k) :: (xs ++ is)) ∧ xs.length = mn k ∧ ∀ v' H', Same H H' → Sq K H' v' xs → Q v' H'
def spInner (K : PySem.W.Frag) : Sp := fun vs H Q _ => ∃ (v : V) (k : Nat) (xs is : List V), vs = [v] ∧ k < 9 ∧ Sq K H v (.str (wd k) :: (xs ++ is)) ∧ xs.length = mn k ∧ ∀ p H', H p = none → Same H H' → Sq K H' (.ref p) is → Q (.ref p) H'
section
variable {K : PySem.W.Frag} {σ : L2.St} {H : Hp} {vs : List Nat} {te : TE} {slot : Nat} {xs : List V} {v : V}
theorem acc_rep {n i : Nat} {acc : List V} (h : acc = List.replicate acc.length (V.bl true)) : acc ++ [V.bl true] = List.replicate (acc ++ [V.bl true]).length (V.bl true) := by
  rw [List.length_append]
  show _ = List.replicate (acc.length + 1) _
  rw [List.replicate_succ', ← h]
/-- [.. for x in xs], each of which is True -/
theorem lc_true {R : It → Hp → Prop} (h : Sq K H v xs) (hl : xs.length ≤ 1000) (hw : ∀ x, wipe ((wipe σ vs).set slot (some x)) vs = wipe σ vs)
    (hs : ∀ (i : Nat) (x : V) (H' : Hp) (R : VK), xs[i]? = some x → Same H H' → (∀ H4, Same H' H4 → R (.bl true) H4) → te ((wipe σ vs).set slot (some x)) H' R)
    (Qe : Addr → Hp → Prop) (hd : ∀ D H', H D = none → Same H H' → H' D = some (.lst (List.replicate xs.length (.bl true))) → Qe D H')
    (hR : ∀ J, (∀ D, H D = none → ∃ W : Nat → Nat → Hp → Prop, (∃ m, W 0 m (upd H D (.lst []))) ∧ ∀ i m H, W i m H →
      (It.stop J i H ∧ Qe D H) ∨ (It.go J i H ∧ ∃ Nx : Hp → Prop, (∀ H', Nx H' → ∃ m', m' < m ∧ W (i + 1) m' H') ∧ ∀ x H', It.yld J i H x H' → gName slot x (wipe σ vs) H' fun σ2 H2 => wipe σ2 vs = wipe σ vs ∧ tYes σ2 H2 fun b H3 =>
        if b = true then te σ2 H3 fun y H4 => ∃ acc, H4 D = some (.lst acc) ∧ acc.length < sizeLine ∧ Nx (upd H4 D (.lst (acc ++ [y]))) else Nx H3)) → R J H) :
    SqIt K v R H := by
  refine lc_sq h hw (fun acc H' => acc = List.replicate acc.length (.bl true) ∧ Same H H') (fun D hD => ⟨rfl, same_new hD⟩) (fun D acc H' _ _ q => Same.keeps q.2) ?_ Qe ?_ hR
  · rintro D i x acc H' hD hx la hacc ⟨ha, sm⟩
    refine hs i x H' _ hx sm fun H4 s4 => ?_
    exact pp_next (s4 _ _ hacc) la (line60 (by have := (List.getElem?_eq_some_iff.mp hx).1; omega)) ⟨acc_rep (n := 0) (i := 0) ha, same_upd (sm.trans s4) hD⟩
  · rintro D acc H' hD la hacc ⟨ha, sm⟩
    refine hd D H' hD sm ?_
    rw [hacc, ha, la]
theorem lc_trueL {a D : Addr} {Qd : Hp → Prop} (h : SqL K H a xs) (hD : H D = none) (hl : xs.length ≤ 1000) (hw : ∀ x, wipe ((wipe σ vs).set slot (some x)) vs = wipe σ vs)
    (hs : ∀ (i : Nat) (x : V) (H' : Hp) (R : VK), xs[i]? = some x → Same H H' → (∀ H4, Same H' H4 → R (.bl true) H4) → te ((wipe σ vs).set slot (some x)) H' R)
    (hd : ∀ H', Same H H' → H' D = some (.lst (List.replicate xs.length (.bl true))) → Qd H') :
    ∃ W : Nat → Nat → Hp → Prop, (∃ m, W 0 m (upd H D (.lst []))) ∧ ∀ i m H, W i m H →
      ((Itl K a).stop i H ∧ Qd H) ∨ ((Itl K a).go i H ∧ ∃ Nx : Hp → Prop, (∀ H', Nx H' → ∃ m', m' < m ∧ W (i + 1) m' H') ∧ ∀ x H', (Itl K a).yld i H x H' → gName slot x (wipe σ vs) H' fun σ2 H2 => wipe σ2 vs = wipe σ vs ∧ tYes σ2 H2 fun b H3 =>
        if b = true then te σ2 H3 fun y H4 => ∃ acc, H4 D = some (.lst acc) ∧ acc.length < sizeLine ∧ Nx (upd H4 D (.lst (acc ++ [y]))) else Nx H3) := by
  refine lc_gen (walk_list (K := K) (a := a) (xs := xs)) hw (fun acc H' => acc = List.replicate acc.length (.bl true) ∧ Same H H') ⟨rfl, same_new hD⟩ (fun acc H' _ q => q.2.seq h) ?_ ?_
  · rintro i x acc H' hx la hacc ⟨ha, sm⟩
    refine hs i x H' _ hx sm fun H4 s4 => ?_
    exact pp_next (s4 _ _ hacc) la (line60 (by have := (List.getElem?_eq_some_iff.mp hx).1; omega)) ⟨acc_rep (n := 0) (i := 0) ha, same_upd (sm.trans s4) hD⟩
  · rintro acc H' la hacc ⟨ha, sm⟩
    refine hd H' sm ?_
    rw [hacc, ha, la]
theorem r_allT {n : Nat} {a : Addr} {Q : VK} (h : H a = some (.lst (List.replicate n (V.bl true)))) (q : Q (.bl true) H) : rAll K [.ref a] H Q := by
  refine r_all (bs := List.replicate n true) (by rw [List.map_replicate]; exact SqL.of h) ?_
  rw [show (List.replicate n true).all id = true by rw [List.all_eq_true]; intro x hx; rw [(List.mem_replicate.mp hx).2]; rfl]
  exact q
end
abbrev rLenK (K : PySem.W.Frag) : List V → Hp → VK → Prop := fun xs H Q => ∃ x n, xs = [x] ∧ LenV K x H n ∧ Q (V.int ↑n) H
theorem asc_true : ∀ {ns : List Nat}, ns.Pairwise (· < ·) → ascL ns = true := by
  intro ns h
  refine List.all_eq_true.mpr fun k hk => decide_eq_true ?_
  have hk' := List.mem_range.mp hk
  have pw := List.pairwise_iff_getElem.mp h
  have h1 : k < ns.length := by omega
  have h2 : k + 1 < ns.length := by omega
  rw [List.getD_eq_getElem?_getD, List.getD_eq_getElem?_getD, List.getElem?_eq_getElem h1, List.getElem?_eq_getElem h2]
  exact pw k (k + 1) h1 h2 (Nat.lt_succ_self k)
section
variable {J : It} {n : Nat} {G : Hp → Prop} {Y : Nat → Hp → V → Hp → Prop} {g : TG} {tb : TS} {nx : L2.St → Hp → Prop} {rt : VK} {σ : L2.St} {H : Hp}
/-- a for over what walks, the ends written out -/
theorem fr_it (w : Walk J n G Y) (Pv : Nat → L2.St → Hp → Prop) (h0 : Pv 0 σ H) (hG : ∀ i σ H, i ≤ n → Pv i σ H → G H)
    (hs : ∀ i x σ H H', i < n → Pv i σ H → Y i H x H' → g x σ H' fun σ2 H2 => tb ⟨Pv (i + 1), rt, nx, Pv (i + 1)⟩ σ2 H2) (hd : ∀ σ H, Pv n σ H → nx σ H) :
    ∃ W : Nat → Nat → L2.St → Hp → Prop, (∃ m, W 0 m σ H) ∧ ∀ i m σ H, W i m σ H →
      (J.stop i H ∧ nx σ H) ∨ (J.go i H ∧ ∃ N : L2.St → Hp → Prop, (∀ σ' H', N σ' H' → ∃ m', m' < m ∧ W (i + 1) m' σ' H') ∧ ∀ x H', J.yld i H x H' → g x σ H' fun σ2 H2 => tb ⟨N, rt, nx, N⟩ σ2 H2) :=
  for_it (D := ⟨nx, rt, nx, nx⟩) w Pv h0 hG hs hd
end
section
variable {K : PySem.W.Frag} {σ : L2.St} {H : Hp} {vs : List Nat} {te : TE} {tt : TT} {g : TG} {xs : List V} {v : V}
/-- a comprehension over a list or a tuple, with any target and any test -/
theorem lc_sqI {R : It → Hp → Prop} (h : Sq K H v xs) (Pv : Addr → Nat → Hp → Prop) (h0 : ∀ D, H D = none → Pv D 0 (upd H D (.lst []))) (hG : ∀ D i H', H D = none → Pv D i H' → Keeps K H H')
    (hs : ∀ D i x H', H D = none → xs[i]? = some x → Pv D i H' → g x (wipe σ vs) H' fun σ2 H2 => wipe σ2 vs = wipe σ vs ∧ tt σ2 H2 fun b H3 =>
      if b = true then te σ2 H3 fun y H4 => ∃ acc, H4 D = some (.lst acc) ∧ acc.length < sizeLine ∧ Pv D (i + 1) (upd H4 D (.lst (acc ++ [y]))) else Pv D (i + 1) H3)
    (Qe : Addr → Hp → Prop) (hd : ∀ D H', H D = none → Pv D xs.length H' → Qe D H')
    (hR : ∀ J, (∀ D, H D = none → ∃ W : Nat → Nat → Hp → Prop, (∃ m, W 0 m (upd H D (.lst []))) ∧ ∀ i m H, W i m H →
      (It.stop J i H ∧ Qe D H) ∨ (It.go J i H ∧ ∃ Nx : Hp → Prop, (∀ H', Nx H' → ∃ m', m' < m ∧ W (i + 1) m' H') ∧ ∀ x H', It.yld J i H x H' → g x (wipe σ vs) H' fun σ2 H2 => wipe σ2 vs = wipe σ vs ∧ tt σ2 H2 fun b H3 =>
        if b = true then te σ2 H3 fun y H4 => ∃ acc, H4 D = some (.lst acc) ∧ acc.length < sizeLine ∧ Nx (upd H4 D (.lst (acc ++ [y]))) else Nx H3)) → R J H) :
    SqIt K v R H := by
  obtain ⟨a, rfl, h | h⟩ := h
  · refine ⟨a, rfl, .inl ⟨⟨xs, h⟩, hR _ fun D hD => lc_it (walk_list (K := K) (a := a) (xs := xs)) (Pv D) (h0 D hD) (fun i H' _ p => (hG D i H' hD p).1 _ _ h) ?_ (fun H' p => hd D H' hD p)⟩⟩
    rintro i x H1 H2 hi p ⟨rfl, hx⟩
    exact hs D i x _ hD hx p
  · refine ⟨a, rfl, .inr ⟨⟨xs, h⟩, hR _ fun D hD => lc_it (walk_tup (K := K) (a := a) (xs := xs)) (Pv D) (h0 D hD) (fun i H' _ p => (hG D i H' hD p).2 _ _ h) ?_ (fun H' p => hd D H' hD p)⟩⟩
    rintro i x H1 H2 hi p ⟨rfl, hx⟩
    exact hs D i x _ hD hx p
/-- [e x for x in xs if p x] -/
theorem lc_fil {α : Type} {l : List α} {f0 e : α → V} {pb : α → Bool} {slot : Nat} {R : It → Hp → Prop} (h : Sq K H v (l.map f0)) (hl : l.length ≤ 100000) (hw : ∀ x, wipe ((wipe σ vs).set slot (some x)) vs = wipe σ vs)
    (ht : ∀ (i : Nat) (a : α) (H' : Hp) (R : Bool → Hp → Prop), l[i]? = some a → Same H H' → (∀ H2, Same H' H2 → R (pb a) H2) → tt ((wipe σ vs).set slot (some (f0 a))) H' R)
    (he : ∀ (i : Nat) (a : α) (H' : Hp) (R : VK), l[i]? = some a → pb a = true → Same H H' → (∀ H2, Same H' H2 → R (e a) H2) → te ((wipe σ vs).set slot (some (f0 a))) H' R)
    (Qe : Addr → Hp → Prop) (hd : ∀ D H', H D = none → Same H H' → H' D = some (.lst ((l.filter pb).map e)) → Qe D H')
    (hR : ∀ J, (∀ D, H D = none → ∃ W : Nat → Nat → Hp → Prop, (∃ m, W 0 m (upd H D (.lst []))) ∧ ∀ i m H, W i m H →
      (It.stop J i H ∧ Qe D H) ∨ (It.go J i H ∧ ∃ Nx : Hp → Prop, (∀ H', Nx H' → ∃ m', m' < m ∧ W (i + 1) m' H') ∧ ∀ x H', It.yld J i H x H' → gName slot x (wipe σ vs) H' fun σ2 H2 => wipe σ2 vs = wipe σ vs ∧ tt σ2 H2 fun b H3 =>
        if b = true then te σ2 H3 fun y H4 => ∃ acc, H4 D = some (.lst acc) ∧ acc.length < sizeLine ∧ Nx (upd H4 D (.lst (acc ++ [y]))) else Nx H3)) → R J H) :
    SqIt K v R H := by
  refine lc_sqI h (fun D i H' => H' D = some (.lst (((l.take i).filter pb).map e)) ∧ Same H H') (fun D hD => ⟨upd_same, same_new hD⟩) (fun D i H' _ p => Same.keeps p.2) ?_ Qe ?_ hR
  · rintro D i x H' hD hx ⟨e1, sm⟩
    obtain ⟨a, ha, rfl⟩ := get_map hx
    have hi := (List.getElem?_eq_some_iff.mp ha).1
    have tk : l.take (i + 1) = l.take i ++ [a] := by rw [List.take_add_one, ha]; rfl
    refine ⟨hw _, ht i a H' _ ha sm fun H2 s2 => ?_⟩
    cases hb : pb a with
    | true =>
      rw [if_pos rfl]
      refine he i a H2 _ ha hb (sm.trans s2) fun H3 s3 => ?_
      have e3 := s3 _ _ (s2 _ _ e1)
      refine ⟨_, e3, ?_, ?_, same_upd ((sm.trans s2).trans s3) hD⟩
      · have h1 := List.length_filter_le pb (l.take i)
        rw [List.length_take] at h1
        rw [List.length_map, sizeLine_eq]
        omega
      · rw [tk, List.filter_append, List.map_append, List.filter_cons_of_pos hb]
        exact upd_same
    | false =>
      rw [if_neg Bool.false_ne_true]
      refine ⟨?_, sm.trans s2⟩
      rw [tk, List.filter_append, List.filter_cons_of_neg (by rw [hb]; exact Bool.false_ne_true), List.filter_nil, List.append_nil]
      exact s2 _ _ e1
  · rintro D H' hD ⟨e1, sm⟩
    rw [List.length_map, List.take_length] at e1
    exact hd D H' hD sm e1
end
section
variable {J : It} {n : Nat} {G : Hp → Prop} {Y : Nat → Hp → V → Hp → Prop}
/-- a dict comprehension over what walks -/
theorem dc_it (w : Walk J n G Y) {g : TG} {tt : TT} {tk tv : TE} {vs : List Nat} {σ : L2.St} {H1 : Hp} {D : Addr} {Qd : Hp → Prop} (Pv : Nat → Hp → Prop) (h0 : Pv 0 (upd H1 D (.dK []))) (hG : ∀ i H, i ≤ n → Pv i H → G H)
    (hs : ∀ i x H H', i < n → Pv i H → Y i H x H' → g x (wipe σ vs) H' fun σ2 H2 => wipe σ2 vs = wipe σ vs ∧ tt σ2 H2 fun b H3 =>
      if b = true then tk σ2 H3 fun y H4 => tv σ2 H4 fun z H5 => ∃ kvs k, y = kV k ∧ H5 D = some (.dK kvs) ∧ kvs.length < sizeLine ∧ Pv (i + 1) (upd H5 D (.dK (putK kvs k z))) else Pv (i + 1) H3) (hd : ∀ H, Pv n H → Qd H) :
    ∃ W : Nat → Nat → Hp → Prop, (∃ m, W 0 m (upd H1 D (.dK []))) ∧ ∀ i m H, W i m H →
      (J.stop i H ∧ Qd H) ∨ (J.go i H ∧ ∃ Nx : Hp → Prop, (∀ H', Nx H' → ∃ m', m' < m ∧ W (i + 1) m' H') ∧ ∀ x H', J.yld i H x H' → g x (wipe σ vs) H' fun σ2 H2 => wipe σ2 vs = wipe σ vs ∧ tt σ2 H2 fun b H3 =>
        if b = true then tk σ2 H3 fun y H4 => tv σ2 H4 fun z H5 => ∃ kvs k, y = kV k ∧ H5 D = some (.dK kvs) ∧ kvs.length < sizeLine ∧ Nx (upd H5 D (.dK (putK kvs k z))) else Nx H3) := by
  refine ⟨fun i m H => m = n - i ∧ i ≤ n ∧ Pv i H, ⟨n, by simp, Nat.zero_le _, h0⟩, ?_⟩
  rintro i m H ⟨rfl, hi, p⟩
  have q := hG i H hi p
  by_cases hlt : i < n
  · exact .inr ⟨w.goes i H hlt q, Pv (i + 1), fun H' p' => ⟨n - (i + 1), by omega, rfl, hlt, p'⟩, fun x H' y => hs i x H H' hlt p (w.yields i H x H' hlt q y)⟩
  · have e : i = n := by omega
    subst e
    exact .inl ⟨w.stops H q, hd H p⟩
end
section
variable {H H' : Hp} {D : Addr} {o : HO} {K : PySem.W.Frag}
theorem del_upd : del (upd H D o) D = del H D := by
  funext c
  unfold del upd
  by_cases h : c = D
  · rw [if_pos h, if_pos h]
  · rw [if_neg h, if_neg h, if_neg h]
theorem del_le : Same (del H D) H := fun c u e => by
  unfold del at e
  by_cases h : c = D
  · rw [if_pos h] at e; cases e
  · rw [if_neg h] at e; exact e
theorem Same.del (s : Same H H') : Same (L2.del H D) (L2.del H' D) := fun c u e => by
  unfold L2.del at e ⊢
  by_cases h : c = D
  · rw [if_pos h] at e; cases e
  · rw [if_neg h] at e ⊢; exact s c u e
theorem kp_del (s : Kp D H H') : Same (L2.del H D) (L2.del H' D) := fun c u e => by
  unfold L2.del at e ⊢
  by_cases h : c = D
  · rw [if_pos h] at e; cases e
  · rw [if_neg h] at e ⊢; exact s c u h e
theorem same_delN (s : Same H H') (h : H D = none) : Same H (L2.del H' D) := fun c u e => by
  have n : c ≠ D := ne_of_none e h
  rw [del_ne n]
  exact s c u e
theorem dpA_same {vs : List V} {ds : List PyData} (s : Same H H') (h : DpAll K H vs ds) : DpAll K H' vs ds := dpA_keep (Same.keeps s) _ _ h
theorem dp_same {v : V} {d : PyData} (s : Same H H') (h : Dp K H v d) : Dp K H' v d := dp_keep (Same.keeps s) _ _ h
theorem dpA_rev : ∀ {vs : List V} {ds : List PyData}, DpAll K H vs ds → DpAll K H vs.reverse ds.reverse
  | _, _, .nil => .nil
  | _, _, .cons a b => by
    rw [List.reverse_cons, List.reverse_cons]
    exact dpA_app (dpA_rev b) (.cons a .nil)
end
/-- whether what stands there counts as true -/
def tTru (K : PySem.W.Frag) (te : TE) : TT := fun σ H Q => te σ H fun x H2 => ∃ k, TruV K x H2 k ∧ Q k H2
theorem r_tTru {K : PySem.W.Frag} {te : TE} {σ : L2.St} {H : Hp} {Q : Bool → Hp → Prop} (q : te σ H fun x H2 => ∃ k, TruV K x H2 k ∧ Q k H2) : tTru K te σ H Q := q
section
variable {J : It} {n : Nat} {G : Hp → Prop} {Y : Nat → Hp → V → Hp → Prop}
/-- a comprehension with two clauses: the outer walk -/
theorem lc2_it (w : Walk J n G Y) {g g1 : TG} {tt tt1 : TT} {te : TE} {wi1 : TI} {vs vs1 : List Nat} {σ : L2.St} {H1 : Hp} {D : Addr} {Qd : Hp → Prop} (Pv : Nat → Hp → Prop) (h0 : Pv 0 (upd H1 D (.lst []))) (hG : ∀ i H, i ≤ n → Pv i H → G H)
    (hs : ∀ i x H H', i < n → Pv i H → Y i H x H' → g x (wipe σ vs) H' fun σ2 H2 => wipe σ2 vs = wipe σ vs ∧ tt σ2 H2 fun b H3 =>
      if b = true then wi1 σ2 H3 fun J1 H4 => ∃ W1 : Nat → Nat → Hp → Prop, (∃ m, W1 0 m H4) ∧ ∀ j k H, W1 j k H →
        (J1.stop j H ∧ Pv (i + 1) H) ∨ (J1.go j H ∧ ∃ Nx1 : Hp → Prop, (∀ H', Nx1 H' → ∃ k', k' < k ∧ W1 (j + 1) k' H') ∧ ∀ x H', J1.yld j H x H' → g1 x (wipe σ2 vs1) H' fun σ3 H5 => wipe σ3 vs1 = wipe σ2 vs1 ∧ tt1 σ3 H5 fun b H6 =>
          if b = true then te σ3 H6 fun y H7 => ∃ acc, H7 D = some (.lst acc) ∧ acc.length < sizeLine ∧ Nx1 (upd H7 D (.lst (acc ++ [y]))) else Nx1 H6)
      else Pv (i + 1) H3) (hd : ∀ H, Pv n H → Qd H) :
    ∃ W : Nat → Nat → Hp → Prop, (∃ m, W 0 m (upd H1 D (.lst []))) ∧ ∀ i m H, W i m H →
      (J.stop i H ∧ Qd H) ∨ (J.go i H ∧ ∃ Nx : Hp → Prop, (∀ H', Nx H' → ∃ m', m' < m ∧ W (i + 1) m' H') ∧ ∀ x H', J.yld i H x H' → g x (wipe σ vs) H' fun σ2 H2 => wipe σ2 vs = wipe σ vs ∧ tt σ2 H2 fun b H3 =>
        if b = true then wi1 σ2 H3 fun J1 H4 => ∃ W1 : Nat → Nat → Hp → Prop, (∃ m, W1 0 m H4) ∧ ∀ j k H, W1 j k H →
          (J1.stop j H ∧ Nx H) ∨ (J1.go j H ∧ ∃ Nx1 : Hp → Prop, (∀ H', Nx1 H' → ∃ k', k' < k ∧ W1 (j + 1) k' H') ∧ ∀ x H', J1.yld j H x H' → g1 x (wipe σ2 vs1) H' fun σ3 H5 => wipe σ3 vs1 = wipe σ2 vs1 ∧ tt1 σ3 H5 fun b H6 =>
            if b = true then te σ3 H6 fun y H7 => ∃ acc, H7 D = some (.lst acc) ∧ acc.length < sizeLine ∧ Nx1 (upd H7 D (.lst (acc ++ [y]))) else Nx1 H6)
        else Nx H3) := by
  refine ⟨fun i m H => m = n - i ∧ i ≤ n ∧ Pv i H, ⟨n, by simp, Nat.zero_le _, h0⟩, ?_⟩
  rintro i m H ⟨rfl, hi, p⟩
  have q := hG i H hi p
  by_cases hlt : i < n
  · exact .inr ⟨w.goes i H hlt q, Pv (i + 1), fun H' p' => ⟨n - (i + 1), by omega, rfl, hlt, p'⟩, fun x H' y => hs i x H H' hlt p (w.yields i H x H' hlt q y)⟩
  · have e : i = n := by omega
    subst e
    exact .inl ⟨w.stops H q, hd H p⟩
/-- the inner walk, over a list or a tuple -/
theorem lc2_sq {K : PySem.W.Frag} {v : V} {ys : List V} {g1 : TG} {tt1 : TT} {te : TE} {vs1 : List Nat} {σ2 : L2.St} {H3 : Hp} {D : Addr} {Nx : Hp → Prop} {R : It → Hp → Prop} (h : Sq K H3 v ys) (Pi : Nat → Hp → Prop) (h0 : Pi 0 H3) (hG : ∀ j H, Pi j H → ∀ a, v = .ref a → (SqL K H3 a ys → SqL K H a ys) ∧ (SqT K H3 a ys → SqT K H a ys))
    (hs : ∀ j y H, ys[j]? = some y → Pi j H → g1 y (wipe σ2 vs1) H fun σ3 H5 => wipe σ3 vs1 = wipe σ2 vs1 ∧ tt1 σ3 H5 fun b H6 =>
      if b = true then te σ3 H6 fun y H7 => ∃ acc, H7 D = some (.lst acc) ∧ acc.length < sizeLine ∧ Pi (j + 1) (upd H7 D (.lst (acc ++ [y]))) else Pi (j + 1) H6) (hd : ∀ H, Pi ys.length H → Nx H)
    (hR : ∀ J1, (∃ W1 : Nat → Nat → Hp → Prop, (∃ m, W1 0 m H3) ∧ ∀ j k H, W1 j k H →
      (It.stop J1 j H ∧ Nx H) ∨ (It.go J1 j H ∧ ∃ Nx1 : Hp → Prop, (∀ H', Nx1 H' → ∃ k', k' < k ∧ W1 (j + 1) k' H') ∧ ∀ x H', It.yld J1 j H x H' → g1 x (wipe σ2 vs1) H' fun σ3 H5 => wipe σ3 vs1 = wipe σ2 vs1 ∧ tt1 σ3 H5 fun b H6 =>
        if b = true then te σ3 H6 fun y H7 => ∃ acc, H7 D = some (.lst acc) ∧ acc.length < sizeLine ∧ Nx1 (upd H7 D (.lst (acc ++ [y]))) else Nx1 H6)) → R J1 H3) : SqIt K v R H3 := by
  have key : ∀ J1 G1, Walk J1 ys.length G1 (YAt ys) → (∀ j H, Pi j H → G1 H) → R J1 H3 := fun J1 G1 w kp => by
    refine hR J1 ⟨fun j m H => m = ys.length - j ∧ j ≤ ys.length ∧ Pi j H, ⟨_, rfl, Nat.zero_le _, h0⟩, ?_⟩
    rintro j m H ⟨rfl, hj, p⟩
    have q := kp j H p
    by_cases hlt : j < ys.length
    · refine .inr ⟨w.goes j H hlt q, Pi (j + 1), fun H' p' => ⟨ys.length - (j + 1), by omega, rfl, hlt, p'⟩, fun x H' y => ?_⟩
      obtain ⟨rfl, hy⟩ := w.yields j H x H' hlt q y
      exact hs j x _ hy p
    · have e : j = ys.length := by omega
      subst e
      exact .inl ⟨w.stops H q, hd H p⟩
  obtain ⟨a, rfl, h | h⟩ := h
  · exact ⟨a, rfl, .inl ⟨⟨ys, h⟩, key _ _ (walk_list (K := K) (a := a) (xs := ys)) fun j H p => (hG j H p a rfl).1 h⟩⟩
  · exact ⟨a, rfl, .inr ⟨⟨ys, h⟩, key _ _ (walk_tup (K := K) (a := a) (xs := ys)) fun j H p => (hG j H p a rfl).2 h⟩⟩
end
theorem r_seqIf {c : TT} {t u rest : TS} {D : Ends} {σ : L2.St} {H : Hp} (A : L2.St → Hp → Prop) (q : ∀ N : L2.St → Hp → Prop, (∀ σ' H', A σ' H' → N σ' H') → tIfS c t u { D with nx := N } σ H) (key : ∀ σ' H', A σ' H' → rest D σ' H') : tSeq (tIfS c t u) rest D σ H := q _ key
theorem r_ifsJ {c : TT} {u w : TS} {σ : L2.St} {H : Hp} {nx : L2.St → Hp → Prop} {rt : VK} {bk ct : L2.St → Hp → Prop} (A : L2.St → Hp → Prop)
    (q : ∀ nx' : L2.St → Hp → Prop, (∀ σ H, A σ H → nx' σ H) → tIfS c u w ⟨nx', rt, bk, ct⟩ σ H) (key : ∀ σ H, A σ H → nx σ H) : tIfS c u w ⟨nx, rt, bk, ct⟩ σ H := q nx key
end K4

/-! F19b -/


namespace K4
open PySem L2 K1
abbrev sIsRun : Stmt := top 42
abbrev nIsRun : List Str := ["signs", "allowed", "least", "most"]
theorem scIsRun : FnScope nIsRun ["signs", "allowed", "least", "most"] (defScope sIsRun) := ⟨rfl, rfl, rfl, by decide +kernel, rfl, by decide +kernel, by decide +kernel⟩
abbrev sAreWords : Stmt := top 43
abbrev nAreWords : List Str := ["signs", "thing", "word"]
theorem scAreWords : FnScope nAreWords ["signs", "thing"] (defScope sAreWords) := ⟨rfl, rfl, rfl, by decide +kernel, rfl, by decide +kernel, by decide +kernel⟩
abbrev sIsField : Stmt := top 41
abbrev nIsField : List Str := ["signs", "thing"]
theorem scIsField : FnScope nIsField ["signs", "thing"] (defScope sIsField) := ⟨rfl, rfl, rfl, by decide +kernel, rfl, by decide +kernel, by decide +kernel⟩
/-! Fields in heaps; what is a field. -/
def oV : Option Nat → V
  | none => .non
  | some n => vi n
def Fd.ok (z : Str) : Fd → Prop
  | .w n ws => NmOk n ∧ ws ≠ [] ∧ ws.length ≤ 12 ∧ ws.Nodup ∧ ∀ w ∈ ws, textB 1 4 z w = true
  | .r n al lo hi => NmOk n ∧ textB 1 12 z al = true ∧ ascL (tl al) = true ∧ lo ≤ 12 ∧ ∀ h, hi = some h → 1 ≤ h ∧ lo ≤ h ∧ h ≤ 12
def FormOk (z : Str) (fs : List Fd) : Prop := fs ≠ [] ∧ fs.length ≤ 6 ∧ (fs.map Fd.name).Nodup ∧ ∀ f ∈ fs, f.ok z
theorem text_of {lo hi : Int} {z x : Str} (h : textB lo hi z x = true) : lo ≤ (tl x).length ∧ ((tl x).length : Int) ≤ hi ∧ ∀ c ∈ tl x, c ∈ tl z := by
  unfold textB at h
  rw [Bool.and_eq_true, Bool.and_eq_true, decide_eq_true_eq, decide_eq_true_eq] at h
  have := len_tl x
  exact ⟨by omega, by omega, fun c hc => of_decide_eq_true (List.all_eq_true.mp h.2.2 c hc)⟩
theorem text_mk {lo hi : Int} {z x : Str} (h1 : lo ≤ (tl x).length) (h2 : ((tl x).length : Int) ≤ hi) (h3 : ∀ c ∈ tl x, c ∈ tl z) : textB lo hi z x = true := by
  unfold textB
  have := len_tl x
  rw [Bool.and_eq_true, Bool.and_eq_true, decide_eq_true_eq, decide_eq_true_eq]
  exact ⟨by omega, by omega, List.all_eq_true.mpr fun c hc => decide_eq_true (h3 c hc)⟩
theorem at_3 {x y z u : V} {xs : List V} : atI (x :: y :: z :: u :: xs) 3 = some u := atI_nat (xs := x :: y :: z :: u :: xs) (j := 3) rfl
theorem at_4 {x y z u t : V} {xs : List V} : atI (x :: y :: z :: u :: t :: xs) 4 = some t := atI_nat (xs := x :: y :: z :: u :: t :: xs) (j := 4) rfl
theorem dp_str {K : PySem.W.Frag} {H : Hp} {v : V} {x : Str} (h : Dp K H v (.str x)) : v = .str x := by cases h; rfl
theorem dp_pn {K : PySem.W.Frag} {H : Hp} {v : V} {n : Nat} (h : Dp K H v (pn n)) : v = vi n := by cases h; rfl
theorem dp_oD {K : PySem.W.Frag} {H : Hp} {v : V} : ∀ {o : Option Nat}, Dp K H v (oD o) → v = oV o
  | none, h => by cases h; rfl
  | some n, h => dp_pn h
theorem dp_strs {K : PySem.W.Frag} {H : Hp} {v : V} {t : Bool} {ws : List Str} (h : Dp K H v (sq t (ws.map .str))) : Sq K H v (ws.map V.str) := by
  obtain ⟨xs, h1, h2⟩ := dp_sq h
  rw [dpA_strs.mp h2] at h1
  exact h1
theorem fd_w {K : PySem.W.Frag} {H : Hp} {v : V} {t : Bool} {n : Str} {ws : List Str} (h : Dp K H v (Fd.data t (.w n ws))) : ∃ wv, Sq K H v [.str "words", .str n, wv] ∧ Sq K H wv (ws.map V.str) := by
  obtain ⟨xs, h1, h2⟩ := dp_sq h
  cases h2 with
  | cons a h2 => cases h2 with
    | cons b h2 => cases h2 with
      | cons c h2 =>
        cases h2
        rw [dp_str a, dp_str b] at h1
        exact ⟨_, h1, dp_strs c⟩
theorem fd_r {K : PySem.W.Frag} {H : Hp} {v : V} {t : Bool} {n al : Str} {lo : Nat} {hi : Option Nat} (h : Dp K H v (Fd.data t (.r n al lo hi))) : Sq K H v [.str "run", .str n, .str al, vi lo, oV hi] := by
  obtain ⟨xs, h1, h2⟩ := dp_sq h
  cases h2 with
  | cons a h2 => cases h2 with
    | cons b h2 => cases h2 with
      | cons c h2 => cases h2 with
        | cons d h2 => cases h2 with
          | cons e h2 =>
            cases h2
            rw [dp_str a, dp_str b, dp_str c, dp_pn d, dp_oD e] at h1
            exact h1
def spIsRun : Sp := fun vs H Q _ => ∃ (z al : Str) (lo : Nat) (hi : Option Nat), vs = [.str z, .str al, vi lo, oV hi] ∧ textB 1 12 z al = true ∧ ascL (tl al) = true ∧ lo ≤ 12 ∧ (∀ h, hi = some h → 1 ≤ h ∧ lo ≤ h ∧ h ≤ 12) ∧ ∀ H', Same H H' → Q (.bl true) H'
def spAreWords (K : PySem.W.Frag) : Sp := fun vs H Q _ => ∃ (z : Str) (v : V) (ws : List Str), vs = [.str z, v] ∧ Sq K H v (ws.map V.str) ∧ ws ≠ [] ∧ ws.length ≤ 12 ∧ ws.Nodup ∧ (∀ w ∈ ws, textB 1 4 z w = true) ∧ ∀ H', Same H H' → Q (.bl true) H'
def spIsField (K : PySem.W.Frag) : Sp := fun vs H Q _ => ∃ (z : Str) (v : V) (f : Fd) (t : Bool), vs = [.str z, v] ∧ Dp K H v (f.data t) ∧ f.ok z ∧ ∀ H', Same H H' → Q (.bl true) H'
section
variable {P : Program} {w : World} {K : PySem.W.Frag} {mg : Str → Option Value} {base : Heap} {tN dI : Addr}
abbrev OIsWithin (P : Program) (w : World) (K : PySem.W.Frag) (mg : Str → Option Value) (base : Heap) : Prop := Own P w K mg base "is_within" 2 ["thing", "least", "most"] spIsWithin
theorem ok_isRun {f : Addr} {fd : FuncData} (F : Fun K "is_run" "is_run" sIsRun f fd) (B : Bl mg) (G : G11 K w mg tN dI) (Ot : OIsText P w K mg base) (Oa : OIsAsc P w K mg base) (Owi : OIsWithin P w K mg base) : FnOk P w K mg base CX0 3 f fd ["signs", "allowed", "least", "most"] spIsRun := by
  refine F.ok scIsRun (fun vs H Q E h => ?_) (fun cdv A outer s H vs Q E hr h => ?_)
  · obtain ⟨z, al, lo, hi, rfl, _⟩ := h
    rfl
  · obtain ⟨z, al, lo, hi, rfl, ht, ha, hlo, hh, k⟩ := h
    refine ⟨_, (pss_cons (ps_if (PW.pt (pw_or (pt_not (pt_val (pe_own Ot (hr.mono (by omega)) (pa_cons (pv 1) (pa_cons pe_int (pa_cons (pe_gI G.MOST_KINDS) (pa_cons (pv 0) pa_nil))))))) (pw_or1 (pt_not (pt_val (pe_own Oa (hr.mono (by omega)) (pa_cons (pv 1) pa_nil))))))) (pss_one (ps_ret pe_bl)) pss_nil) (pss_cons (ps_if (pt_not (pt_val (pe_own Owi (hr.mono (by omega)) (pa_cons (pv 2) (pa_cons pe_int (pa_cons (pe_gI G.MOST_LEAST) pa_nil)))))) (pss_one (ps_ret pe_bl)) pss_nil) (pss_one (ps_ret (pe_or (pe_cmpR op_isN (pv 3) pe_non (nomark _)) (pe_one (pe_own Owi (hr.mono (by omega)) (pa_cons (pv 3) (pa_cons (pe_callB (call_max2 rfl) (by rfl) B.max (by decide +kernel) (pa_cons pe_int (pa_cons (pv 2) pa_nil))) (pa_cons (pe_gI G.MOST_RUN) pa_nil)))))))))), ?_⟩
    try dsimp only [cxOf, Cx.nox, Cx.wish]
    have t := text_of ht
    have := len_tl al
    walk_at "go"
    refine ⟨_, 1, 12, z, rfl, .inl ⟨al, rfl, by omega, fun H1 s1 => ?_⟩⟩
    rw [ht]
    walk_at "go"
    refine ⟨by omega, fun H2 s2 => ?_⟩
    rw [ha]
    walk_at "go"
    refine ⟨_, _, _, rfl, ?_⟩
    rw [decide_eq_true (show (0 : Int) ≤ (lo : Int) by omega), decide_eq_true (show (lo : Int) ≤ 12 by omega)]
    walk_at "go"
    cases hi with
    | none =>
      refine ⟨rfl, _, rfl, ?_⟩
      rw [if_pos (decide_eq_true (show oV none = V.non from rfl))]
      exact k _ (s1.trans s2)
    | some h =>
      obtain ⟨h1, h2, h3⟩ := hh h rfl
      refine ⟨rfl, ?_⟩
      walk_at "go"
      refine ⟨_, _, rfl, ?_⟩
      walk_at "go"
      refine ⟨_, _, _, rfl, ?_⟩
      have e : decide ((if (lo : Int) > 1 then (lo : Int) else 1) ≤ (h : Int)) = true := decide_eq_true (by split <;> omega)
      rw [e, decide_eq_true (show (h : Int) ≤ 12 by omega)]
      exact k _ (s1.trans s2)
theorem ok_areWords {f : Addr} {fd : FuncData} (F : Fun K "are_words" "are_words" sAreWords f fd) (B : Bl mg) (G : G11 K w mg tN dI) (Ito : OIsTupleOf P w K mg base) (Ot : OIsText P w K mg base) (Ofd : OFirstD P w K mg base) : FnOk P w K mg base CX0 3 f fd ["signs", "thing"] (spAreWords K) := by
  refine F.ok scAreWords (fun vs H Q E h => ?_) (fun cdv A outer s H vs Q E hr h => ?_)
  · obtain ⟨z, v, ws, rfl, _⟩ := h
    rfl
  · obtain ⟨z, v, ws, rfl, hS, h1, h2, h3, h4, k⟩ := h
    refine ⟨_, (pss_cons (ps_if (pt_not (pt_val (pe_own Ito (hr.mono (by omega)) (pa_cons (pv 1) (pa_cons pe_int (pa_cons (pe_gI G.MOST_WORDS) pa_nil)))))) (pss_one (ps_ret pe_bl)) pss_nil) (pss_cons (ps_if (pt_not (pt_val (pe_callB (cr_all rfl) (by rfl) B.all (by decide +kernel) (pa_cons (pe_lc (own := [("word", 2)]) (g := gName 2) (tt := tYes) rfl scAreWords.nd (pi_sq (pv 1)) (blkOk_by (N := nAreWords) (sc := defScope sAreWords) (by decide +kernel)) (fun _ _ _ _ _ => (pg_name (i := 2) scAreWords.nd rfl (Or.inl rfl))) (fun _ _ _ _ _ => pts_nil) (fun _ _ _ _ _ => (pe_own Ot (hr.mono (by omega)) (pa_cons (pv 2) (pa_cons pe_int (pa_cons (pe_gI G.MOST_WORD_SIGNS) (pa_cons (pv 0) pa_nil))))))) pa_nil)))) (pss_one (ps_ret pe_bl)) pss_nil) (pss_one (ps_ret (pe_cmpR op_isN (pe_own Ofd (hr.mono (by omega)) (pa_cons (pv 1) pa_nil)) pe_non (nomark _)))))), ?_⟩
    try dsimp only [cxOf, Cx.nox, Cx.wish]
    walk_at "go"
    have hl : 0 < ws.length := List.length_pos_iff.mpr h1
    refine ⟨v, 1, 12, rfl, .inl ⟨_, hS, fun H1 s1 => ?_⟩⟩
    rw [List.length_map, decide_eq_true (show (1 : Int) ≤ (ws.length : Int) by omega), decide_eq_true (show (ws.length : Int) ≤ 12 by omega)]
    walk_at "go"
    refine lc_true (hS.same s1) (by rw [List.length_map]; omega) (fun _ => rfl) ?_ _ ?_ (fun J h => h)
    · intro i x H' R hx sm q
      obtain ⟨y, hy, rfl⟩ := get_map hx
      have hm := h4 y (List.mem_of_getElem? hy)
      have t := text_of hm
      have := len_tl y
      walk_at "go"
      refine ⟨_, 1, 4, z, rfl, .inl ⟨y, rfl, by omega, fun H2 s2 => ?_⟩⟩
      rw [hm]
      exact q _ s2
    · intro D H' hD sm e
      walk_at "go"
      refine r_allT e ?_
      walk_at "go"
      refine ⟨v, ws, rfl, (hS.same s1).same sm, h3, by omega, fun H2 s2 => ?_⟩
      walk_at "go"
      refine ⟨rfl, ?_⟩
      rw [decide_eq_true rfl]
      exact k _ ((s1.trans sm).trans s2)
abbrev OIsRun (P : Program) (w : World) (K : PySem.W.Frag) (mg : Str → Option Value) (base : Heap) : Prop := Own P w K mg base "is_run" 3 ["signs", "allowed", "least", "most"] spIsRun
abbrev OAreWords (P : Program) (w : World) (K : PySem.W.Frag) (mg : Str → Option Value) (base : Heap) : Prop := Own P w K mg base "are_words" 3 ["signs", "thing"] (spAreWords K)
theorem ok_isField {f : Addr} {fd : FuncData} (F : Fun K "is_field" "is_field" sIsField f fd) (B : Bl mg) (Ito : OIsTupleOf P w K mg base) (Onm : OIsName P w K mg base) (Oru : OIsRun P w K mg base) (Oaw : OAreWords P w K mg base) : FnOk P w K mg base CX0 4 f fd ["signs", "thing"] (spIsField K) := by
  refine F.ok scIsField (fun vs H Q E h => ?_) (fun cdv A outer s H vs Q E hr h => ?_)
  · obtain ⟨z, v, f, t, rfl, _⟩ := h
    rfl
  · obtain ⟨z, v, f, t, rfl, hd, ho, k⟩ := h
    refine ⟨_, (pss_cons (ps_if (PW.pt (pw_or (pt_not (pt_val (pe_own Ito (hr.mono (by omega)) (pa_cons (pv 1) (pa_cons pe_int (pa_cons pe_int pa_nil)))))) (pw_or1 (pt_not (pt_val (pe_own Onm (hr.mono (by omega)) (pa_cons (pe_ix ix_seq (pv 1) pe_int (fun _ _ => rfl)) pa_nil))))))) (pss_one (ps_ret pe_bl)) pss_nil) (pss_cons (ps_if (pt_cmpR op_eq (pe_ix ix_seq (pv 1) pe_int (fun _ _ => rfl)) pe_str (nomark _)) (pss_one (ps_ret (pe_and (pe_cmpR op_eq (pe_callB call_len (by rfl) B.len PySem.boot_len (pa_cons (pv 1) pa_nil)) pe_int (nomark _)) (pe_one (pe_own Oru (hr.mono (by omega)) (pa_cons (pv 0) (pa_cons (pe_ix ix_seq (pv 1) pe_int (fun _ _ => rfl)) (pa_cons (pe_ix ix_seq (pv 1) pe_int (fun _ _ => rfl)) (pa_cons (pe_ix ix_seq (pv 1) pe_int (fun _ _ => rfl)) pa_nil))))))))) pss_nil) (pss_one (ps_ret (pe_and (pe_cmpR op_eq (pe_ix ix_seq (pv 1) pe_int (fun _ _ => rfl)) pe_str (nomark _)) (pe_and (pe_cmpR op_eq (pe_callB call_len (by rfl) B.len PySem.boot_len (pa_cons (pv 1) pa_nil)) pe_int (nomark _)) (pe_one (pe_own Oaw (hr.mono (by omega)) (pa_cons (pv 0) (pa_cons (pe_ix ix_seq (pv 1) pe_int (fun _ _ => rfl)) pa_nil)))))))))), ?_⟩
    try dsimp only [cxOf, Cx.nox, Cx.wish]
    walk_at "go"
    cases f with
    | w nm ws =>
      obtain ⟨wv, hS, hW⟩ := fd_w hd
      refine ⟨v, 3, 5, rfl, .inl ⟨_, hS, fun H1 s1 => ?_⟩⟩
      walk_at "go"
      refine r_ixSq (hS.same s1) (at_1) ?_
      walk_at "go"
      refine ⟨ho.1, fun H2 s2 => ?_⟩
      walk_at "go"
      refine r_ixSq ((hS.same s1).same s2) (at_0) ?_
      walk_at "go"
      have hS2 := (hS.same s1).same s2
      refine r_ixSq hS2 (at_0) ?_
      walk_at "go"
      refine ⟨_, _, rfl, hS2.len, ?_⟩
      walk_at "go"
      refine r_ixSq hS2 (at_2) ?_
      walk_at "go"
      exact ⟨z, wv, ws, rfl, (hW.same s1).same s2, ho.2.1, ho.2.2.1, ho.2.2.2.1, ho.2.2.2.2, fun H3 s3 => k _ ((s1.trans s2).trans s3)⟩
    | r nm al lo hi =>
      have hS := fd_r hd
      refine ⟨v, 3, 5, rfl, .inl ⟨_, hS, fun H1 s1 => ?_⟩⟩
      walk_at "go"
      refine r_ixSq (hS.same s1) (at_1) ?_
      walk_at "go"
      refine ⟨ho.1, fun H2 s2 => ?_⟩
      walk_at "go"
      refine r_ixSq ((hS.same s1).same s2) (at_0) ?_
      walk_at "go"
      have hS2 := (hS.same s1).same s2
      refine ⟨_, _, rfl, hS2.len, ?_⟩
      walk_at "go"
      refine r_ixSq hS2 (at_2) ?_
      walk_at "go"
      refine r_ixSq hS2 (at_3) ?_
      walk_at "go"
      refine r_ixSq hS2 (at_4) ?_
      walk_at "go"
      exact ⟨z, al, lo, hi, rfl, ho.2.1, ho.2.2.1, ho.2.2.2.1, ho.2.2.2.2, fun H3 s3 => k _ ((s1.trans s2).trans s3)⟩
end
end K4

/-! F19c -/


namespace K4
open PySem L2 K1
abbrev sChkForm : Stmt := top 40
abbrev nChkForm : List Str := ["signs", "form", "number", "field", "name"]
theorem scChkForm : FnScope nChkForm ["signs", "form"] (defScope sChkForm) := ⟨rfl, rfl, rfl, by decide +kernel, rfl, by decide +kernel, by decide +kernel⟩
abbrev sCheckForm : Stmt := top 38
abbrev nCheckForm : List Str := ["signs", "form"]
theorem scCheckForm : FnScope nCheckForm ["signs", "form"] (defScope sCheckForm) := ⟨rfl, rfl, rfl, by decide +kernel, rfl, by decide +kernel, by decide +kernel⟩
/-! Forms that are checked: they come back as tuples throughout. -/
theorem Fd.tup (t : Bool) (f : Fd) : tupd (f.data t) = f.data true := by
  cases f with
  | w n ws =>
    show tupd (sq t _) = _
    rw [tupd_sq]
    show PyData.tuple [tupd (.str "words"), tupd (.str n), tupd (sq t (ws.map .str))] = _
    rw [tupd_sq, List.map_map]
    have e : ws.map (tupd ∘ PyData.str) = ws.map PyData.str := List.map_congr_left fun w _ => by simp [tupd]
    rw [e]
    simp [tupd, Fd.data, Fd.parts, sq]
  | r n al lo hi =>
    show tupd (sq t _) = _
    rw [tupd_sq]
    cases hi <;> simp [tupd, Fd.data, Fd.parts, sq, oD, pn]
theorem formD_tup (t : Bool) (fs : List Fd) : tupd (formD t fs) = formD true fs := by
  show tupd (sq t _) = _
  rw [tupd_sq, List.map_map]
  show _ = PyData.tuple _
  congr 1
  exact List.map_congr_left fun f _ => Fd.tup t f
theorem textB_str {lo hi : Int} {z x : Str} (g : ∀ c ∈ tl z, c < 1114112) (h : textB lo hi z x = true) : PyData.strOk x = true := strOk_of fun c hc => g c ((text_of h).2.2 c hc)
theorem AZ_lt : ∀ c ∈ tl AZ, c < 1114112 := by decide +kernel
theorem Fd.flat {t : Bool} {z : Str} (g : ∀ c ∈ tl z, c < 1114112) {f : Fd} (h : f.ok z) : flatN (f.data t) = true ∧ wdt (f.data t) = true ∧ (f.data t).depth ≤ 2 := by
  have k1 : PyData.strOk "words" = true := by decide +kernel
  have k2 : PyData.strOk "run" = true := by decide +kernel
  cases f with
  | w n ws =>
    have hn := textB_str AZ_lt h.1.1
    have hw : flatN (sq t (ws.map .str)) = true ∧ wdt (sq t (ws.map .str)) = true ∧ (sq t (ws.map PyData.str)).depth ≤ 1 := by
      refine ⟨flat_sq fun d hd => ?_, wdt_sq (by rw [List.length_map]; have := h.2.2.1; omega) fun d hd => ?_, depth_sq (n := 0) fun d hd => ?_⟩
      all_goals obtain ⟨w, hw, rfl⟩ := List.mem_map.mp hd
      · exact textB_str g (h.2.2.2.2 w hw)
      · simp [wdt]
      · exact Nat.le_refl _
    refine ⟨flat_sq fun d hd => ?_, wdt_sq (by show 3 ≤ 1000; decide) fun d hd => ?_, depth_sq (n := 1) fun d hd => ?_⟩
    all_goals
      simp only [Fd.parts, List.mem_cons, List.not_mem_nil, or_false] at hd
      rcases hd with rfl | rfl | rfl
    · exact k1
    · exact hn
    · exact hw.1
    · simp [wdt]
    · simp [wdt]
    · exact hw.2.1
    · exact Nat.zero_le _
    · exact Nat.zero_le _
    · exact hw.2.2
  | r n al lo hi =>
    have hn := textB_str AZ_lt h.1.1
    have ha := textB_str g h.2.1
    have ho : flatN (oD hi) = true ∧ wdt (oD hi) = true ∧ (oD hi).depth ≤ 0 := by
      cases hi
      · exact ⟨rfl, by simp [oD, wdt], Nat.le_refl _⟩
      · exact ⟨rfl, by simp [oD, pn, wdt], Nat.le_refl _⟩
    refine ⟨flat_sq fun d hd => ?_, wdt_sq (by show 5 ≤ 1000; decide) fun d hd => ?_, depth_sq (n := 1) fun d hd => ?_⟩
    all_goals
      simp only [Fd.parts, List.mem_cons, List.not_mem_nil, or_false] at hd
      rcases hd with rfl | rfl | rfl | rfl | rfl
    · exact k2
    · exact hn
    · exact ha
    · rfl
    · exact ho.1
    · simp [wdt]
    · simp [wdt]
    · simp [wdt]
    · simp [wdt, pn]
    · exact ho.2.1
    · exact Nat.zero_le _
    · exact Nat.zero_le _
    · exact Nat.zero_le _
    · exact Nat.zero_le _
    · exact Nat.le_trans ho.2.2 (Nat.zero_le _)
theorem formD_flat {t : Bool} {z : Str} (g : ∀ c ∈ tl z, c < 1114112) {fs : List Fd} (h : FormOk z fs) : flatN (formD t fs) = true ∧ wdt (formD t fs) = true ∧ (formD t fs).depth ≤ 3 := by
  refine ⟨flat_sq fun d hd => ?_, wdt_sq (by rw [List.length_map]; have := h.2.1; omega) fun d hd => ?_, depth_sq (n := 2) fun d hd => ?_⟩
  all_goals
    obtain ⟨f, hf, rfl⟩ := List.mem_map.mp hd
    have := Fd.flat (t := t) g (h.2.2.2 f hf)
  · exact this.1
  · exact this.2.1
  · exact this.2.2
theorem ALL_lt : ∀ c ∈ tl K4.ALL, c < 1114112 := by decide +kernel
theorem signs_lt {z : Str} (h : signsB z = true) : ∀ c ∈ tl z, c < 1114112 := fun c hc => by
  unfold signsB at h
  rw [Bool.and_eq_true] at h
  exact ALL_lt c ((text_of h.1).2.2 c hc)
theorem fd_name {K : PySem.W.Frag} {H : Hp} {v : V} {t : Bool} {f : Fd} (h : Dp K H v (f.data t)) : ∃ x xs, Sq K H v (x :: .str f.name :: xs) := by
  cases f with
  | w n ws => obtain ⟨wv, h, _⟩ := fd_w h; exact ⟨_, _, h⟩
  | r n al lo hi => exact ⟨_, _, fd_r h⟩
def spChkForm (K : PySem.W.Frag) : Sp := fun vs H Q _ => ∃ (z : Str) (v : V) (fs : List Fd) (t : Bool), vs = [.str z, v] ∧ z.length ≤ 12 ∧ signsB z = true ∧ Dp K H v (formD t fs) ∧ FormOk z fs ∧ ∀ H' v', Same H H' → Dp K H' v' (formD true fs) → Q v' H'
section
variable {P : Program} {w : World} {K : PySem.W.Frag} {mg : Str → Option Value} {base : Heap} {tN dI : Addr}
abbrev OIsField (P : Program) (w : World) (K : PySem.W.Frag) (mg : Str → Option Value) (base : Heap) : Prop := Own P w K mg base "is_field" 4 ["signs", "thing"] (spIsField K)
theorem ok_chkForm {f : Addr} {fd : FuncData} (F : Fun K "checked_form" "checked_form" sChkForm f fd) (B : Bl mg) (G : G11 K w mg tN dI) (Ito : OIsTupleOf P w K mg base) (Ofl : OIsField P w K mg base) (Ofd : OFirstD P w K mg base) (Oas : OAsT 4 P w K mg base) : FnOk P w K mg base CX0 6 f fd ["signs", "form"] (spChkForm K) := by
  refine F.ok scChkForm (fun vs H Q E h => ?_) (fun cdv A outer s H vs Q E hr h => ?_)
  · obtain ⟨z, v, fs, t, rfl, _⟩ := h
    rfl
  · obtain ⟨z, v, fs, t, rfl, hz, hs, hd, ho, k⟩ := h
    refine ⟨_, (pss_cons (ps_if (pt_not (pt_val (pe_own Ito (hr.mono (by omega)) (pa_cons (pv 1) (pa_cons pe_int (pa_cons (pe_gI G.MOST_FIELDS) pa_nil)))))) (pss_one ps_never) pss_nil) (pss_cons (ps_for PassesOwn.never rfl (pi_enumA rfl B.enumerate (pa_cons (pv 1) pa_nil)) (pg_tup rfl (pgs_cons (pg_name (i := 2) scChkForm.nd rfl (Or.inl rfl)) (pgs_cons (pg_name (i := 3) scChkForm.nd rfl (Or.inl rfl)) pgs_nil))) (pss_one (ps_if (pt_not (pt_val (pe_own Ofl (hr.mono (by omega)) (pa_cons (pv 0) (pa_cons (pv 3) pa_nil))))) (pss_one ps_never) pss_nil))) (pss_cons (ps_set (i := 4) scChkForm.nd rfl (Or.inl rfl) (pe_own Ofd (hr.mono (by omega)) (pa_cons (pe_lc (own := [("field", 3)]) (g := gName 3) (tt := tYes) rfl scChkForm.nd (pi_sq (pv 1)) (blkOk_by (N := nChkForm) (sc := defScope sChkForm) (by decide +kernel)) (fun _ _ _ _ _ => (pg_name (i := 3) scChkForm.nd rfl (Or.inl rfl))) (fun _ _ _ _ _ => pts_nil) (fun _ _ _ _ _ => (pe_ix (r := rIx K) ix_seq (pv 3) pe_int (fun _ _ => rfl)))) pa_nil))) (pss_cons (ps_if (pt_cmpR op_notN (pv 4) pe_non (nomark _)) (pss_one ps_never) pss_nil) (pss_one (ps_ret (pe_own Oas (hr.mono (by omega)) (pa_cons (pv 1) pa_nil)))))))), ?_⟩
    try dsimp only [cxOf, Cx.nox, Cx.wish]
    obtain ⟨vs, hS, hA⟩ := dp_sq hd
    have hl := dpA_len hA
    rw [List.length_map] at hl
    have l0 : 0 < fs.length := List.length_pos_iff.mpr ho.1
    have l6 := ho.2.1
    walk_at "go"
    refine ⟨v, 1, 6, rfl, .inl ⟨_, hS, fun H1 s1 => ?_⟩⟩
    rw [hl, decide_eq_true (show (1 : Int) ≤ (fs.length : Int) by omega), decide_eq_true (show (fs.length : Int) ≤ 6 by omega)]
    walk_at "go"
    refine en_sq (hS.same s1) fun J G0 wk kp => fr_it wk (fun i σ H' => ∃ n fv nm : Option V, σ = [some (.str z), some v, n, fv, nm] ∧ Same H1 H') ⟨none, none, none, rfl, Same.refl _⟩ (fun i σ H' _ ⟨_, _, _, _, sm⟩ => kp _ (Same.keeps sm)) ?_ ?_
    · rintro i x σ H2 H3 hi ⟨n, fv, nm, rfl, sm⟩ ⟨T, u, y, rfl, hT, rfl, hu, hy⟩
      obtain ⟨d, hd1, hd2⟩ := dpA_get hA hy
      rw [List.getElem?_map] at hd1
      obtain ⟨fl, hf, rfl⟩ := Option.map_eq_some_iff.mp hd1
      have sT := sm.trans (same_new (o := HO.tup [u, y]) hT)
      obtain rfl := Option.some.inj hu
      walk_at "go"
      refine ⟨_, _, rfl, SqT.of upd_same, rfl, ?_⟩
      walk_at "go"
      refine ⟨z, y, fl, t, rfl, dp_keep (Same.keeps (s1.trans sT)) _ _ hd2, ho.2.2.2 fl (List.mem_of_getElem? hf), fun H4 s4 => ?_⟩
      walk_at "go"
      exact ⟨_, _, _, rfl, sT.trans s4⟩
    · rintro σ H2 ⟨n, fv, nm, rfl, sm⟩
      have s2 := s1.trans sm
      walk_at "go"
      refine lc_sq (hS.same s2) (fun _ => rfl) (fun acc H' => acc = ((fs.map Fd.name).take acc.length).map V.str ∧ Same H2 H') (fun D hD => ⟨rfl, same_new hD⟩) (fun D acc H' hD e p => Same.keeps p.2) ?_ _ ?_ (fun J h => h)
      · rintro D i x acc H' hD hx la hacc ⟨ha, s3⟩
        obtain ⟨d, hd1, hd2⟩ := dpA_get hA hx
        rw [List.getElem?_map] at hd1
        obtain ⟨fl, hf, rfl⟩ := Option.map_eq_some_iff.mp hd1
        obtain ⟨u, us, hq⟩ := fd_name (dp_keep (Same.keeps (s2.trans s3)) _ _ hd2)
        walk_at "go"
        refine r_ixSq hq (at_1) ?_
        have hi := (List.getElem?_eq_some_iff.mp hf).1
        exact pp_next hacc la (line60 (by omega)) ⟨acc_next (f := V.str) (a := fl.name) ha la (by rw [List.getElem?_map, hf]; rfl), same_upd s3 hD⟩
      · rintro D acc H' hD la hacc ⟨ha, s3⟩
        rw [la, hl, ← List.length_map (f := Fd.name), List.take_length] at ha
        walk_at "go"
        refine ⟨_, _, rfl, ⟨D, rfl, .inl (SqL.of (ha ▸ hacc))⟩, ho.2.2.1, by rw [List.length_map]; omega, fun H4 s4 => ?_⟩
        walk_at "go"
        refine ⟨rfl, false, by rw [decide_eq_true rfl]; rfl, ?_⟩
        walk_at "go"
        have s5 := (s2.trans s3).trans s4
        have fl := formD_flat (t := t) (signs_lt hs) ho
        refine ⟨v, formD t fs, rfl, dp_keep (Same.keeps s5) _ _ hd, fl.1, fl.2.1, by have := fl.2.2; omega, fun H5 v' s6 d' => ?_⟩
        rw [formD_tup] at d'
        exact k _ _ (s5.trans s6) d'
abbrev OChkForm (P : Program) (w : World) (K : PySem.W.Frag) (mg : Str → Option Value) (base : Heap) : Prop := Own P w K mg base "checked_form" 6 ["signs", "form"] (spChkForm K)
theorem ok_checkForm {f : Addr} {fd : FuncData} (F : Fun K "check_form" "check_form" sCheckForm f fd) (Ors : OReqS P w K mg base) (Ocf : OChkForm P w K mg base) : FnOk P w K mg base CX0 7 f fd ["signs", "form"] (spChkForm K) := by
  refine F.ok scCheckForm (fun vs H Q E h => ?_) (fun cdv A outer s H vs Q E hr h => ?_)
  · obtain ⟨z, v, fs, t, rfl, _⟩ := h
    rfl
  · obtain ⟨z, v, fs, t, rfl, hz, hs, hd, ho, k⟩ := h
    refine ⟨_, (pss_cons (ps_expr (pe_own Ors (hr.mono (by omega)) (pa_cons (pv 0) pa_nil))) (pss_one (ps_ret (pe_own Ocf (hr.mono (by omega)) (pa_cons (pv 0) (pa_cons (pv 1) pa_nil)))))), ?_⟩
    try dsimp only [cxOf, Cx.nox, Cx.wish]
    walk_at "go"
    refine ⟨hz, hs, fun H1 s1 => ?_⟩
    walk_at "go"
    exact ⟨z, v, fs, t, rfl, hz, hs, dp_keep (Same.keeps s1) _ _ hd, ho, fun H2 v' s2 d2 => k _ _ (s1.trans s2) d2⟩
abbrev OCheckForm (P : Program) (w : World) (K : PySem.W.Frag) (mg : Str → Option Value) (base : Heap) : Prop := Own P w K mg base "check_form" 7 ["signs", "form"] (spChkForm K)
end
end K4

/-! F19d -/


namespace K4
open PySem L2 K1
abbrev sFieldLens : Stmt := top 45
abbrev nFieldLens : List Str := ["field", "paper", "at", "allowed", "least", "most", "many", "word"]
theorem scFieldLens : FnScope nFieldLens ["field", "paper", "at"] (defScope sFieldLens) := ⟨rfl, rfl, rfl, by decide +kernel, rfl, by decide +kernel, by decide +kernel⟩
theorem tyS {K : PySem.W.Frag} {H : Hp} {y : Str} : tyV K "str" (.str y) H := rfl
theorem fromIx {n a : Nat} (h : a ≤ n) : fromIndex n (a : Int) = a := by
  unfold fromIndex
  rw [if_neg (by omega)]
  omega
theorem starts3 {p w : Str} {a : Nat} (h : a ≤ (tl p).length) : Txt.startswith3 p w (a : Int) = fits (tl p) a (tl w) := by
  have lp := len_tl p
  have lw := len_tl w
  unfold Txt.startswith3
  rw [fromIx (by omega), PySem.StrLaws.subAt_eq, lw]
  show (decide _ && fits (tl p) a (tl w)) = _
  cases hf : fits (tl p) a (tl w) with
  | false => rw [Bool.and_false]
  | true =>
    have := fits_le h hf
    rw [decide_eq_true (by omega)]; rfl
def spFieldLens (K : PySem.W.Frag) : Sp := fun vs H Q _ => ∃ (z p : Str) (v : V) (f : Fd) (a : Nat), vs = [v, .str p, vi a] ∧ Dp K H v (f.data true) ∧ f.ok z ∧ (tl p).length ≤ 100 ∧ a ≤ (tl p).length ∧
  ∀ H' q, Same H H' → H q = none → H' q = some (.lst ((flen f (tl p) a).map vi)) → Q (.ref q) H'
section
variable {P : Program} {w : World} {K : PySem.W.Frag} {mg : Str → Option Value} {base : Heap} {tN dI : Addr}
theorem ok_fieldLens {f : Addr} {fd : FuncData} (F : Fun K "field_lengths" "field_lengths" sFieldLens f fd) (B : Bl mg) : FnOk P w K mg base CX0 1 f fd ["field", "paper", "at"] (spFieldLens K) := by
  refine F.ok scFieldLens (fun vs H Q E h => ?_) (fun cdv A outer s H vs Q E hr h => ?_)
  · obtain ⟨z, p, v, f, a, rfl, _⟩ := h
    rfl
  · obtain ⟨z, p, v, fl, a, rfl, hd, ho, hp, ha, k⟩ := h
    refine ⟨_, (pss_cons (ps_if (pt_cmpR op_eq (pe_ix ix_seq (pv 0) pe_int (fun _ _ => rfl)) pe_str (nomark _)) (pss_one (ps_ret (pe_callB (cr_sortedSet rfl) (by rfl) B.sorted (by decide +kernel) (pa_cons (pe_callTy (cr_setOfL rfl) (by rfl) B.set (by decide +kernel) (pa_cons (pe_lc (own := [("word", 7)]) (g := gName 7) rfl scFieldLens.nd (pi_sq (pe_ix ix_seq (pv 0) pe_int (fun _ _ => rfl))) (blkOk_by (N := nFieldLens) (sc := defScope sFieldLens) (by decide +kernel)) (fun _ _ _ _ _ => (pg_name (i := 7) scFieldLens.nd rfl (Or.inl rfl))) (fun _ _ _ _ _ => (pts_one (pt_val (pe_bmK (K := K) rfl PySem.F.plainAttrs_str PySem.F.slot_str_startswith PySem.F.type_str_startswith mt_startswith3 (pv 1) (pa_cons (pv 7) (pa_cons (pv 2) pa_nil)))))) (fun _ _ _ _ _ => (pe_callB (r := rLenK K) call_len (by rfl) B.len PySem.boot_len (pa_cons (pv 7) pa_nil)))) pa_nil)) pa_nil)))) pss_nil) (pss_cons (ps_asg (pe_slice sl_sq (pv 0) (po_some pe_int) po_none) (pg_sq rfl (pgs_cons (pg_name (i := 3) scFieldLens.nd rfl (Or.inl rfl)) (pgs_cons (pg_name (i := 4) scFieldLens.nd rfl (Or.inl rfl)) (pgs_cons (pg_name (i := 5) scFieldLens.nd rfl (Or.inl rfl)) pgs_nil))))) (pss_cons (ps_set (i := 6) scFieldLens.nd rfl (Or.inl rfl) pe_int) (pss_cons (ps_while PassesOwn.never (PW.pt (pw_and (pt_cmpR op_lt (pe_op op_add (pv 2) (pv 6)) (pe_callB call_len (by rfl) B.len PySem.boot_len (pa_cons (pv 1) pa_nil)) (nomark _)) (pw_and (pt_cmpR op_in_sign (pe_ix ix_str (pv 1) (pe_op op_add (pv 2) (pv 6)) (fun _ _ => rfl)) (pv 3) (by rfl)) (pw_and1 (PW.pt (pw_or (pt_cmpR op_isN (pv 5) pe_non (nomark _)) (pw_or1 (pt_cmpR op_lt (pv 6) (pv 5) (nomark _))))))))) (pss_one (ps_aug (i := 6) scFieldLens.nd rfl (Or.inl rfl) pe_int ip_add))) (pss_one (ps_ret (pe_listRg rfl rfl B.list (prg_2 rfl B.range (pv 4) (pe_op op_add (pv 6) pe_int))))))))), ?_⟩
    try dsimp only [cxOf, Cx.nox, Cx.wish]
    walk_at "go"
    cases fl with
    | w nm ws =>
      obtain ⟨wv, hS, hW⟩ := fd_w hd
      refine r_ixSq hS (at_0) ?_
      walk_at "go"
      refine r_ixSq hS (at_2) ?_
      walk_at "go"
      have h4 : ∀ w ∈ ws, (tl w).length ≤ 4 := fun w hw => by have := (text_of (ho.2.2.2.2 w hw)).2.1; omega
      have lw := ho.2.2.1
      refine lc_fil (pb := fun w => fits (tl p) a (tl w)) (e := fun w => vi (tl w).length) hW (by omega) (fun _ => rfl) ?_ ?_ _ ?_ (fun J h => h)
      · intro i w H1 R hw sm q
        walk_at "go"
        refine ⟨tyS, ?_⟩
        walk_at "go"
        refine ⟨p, w, a, rfl, rfl, ?_⟩
        rw [starts3 ha]
        walk_at "go"
        exact q _ (Same.refl _)
      · intro i w H1 R hw hb sm q
        have := h4 w (List.mem_of_getElem? hw)
        have e := len_tl w
        walk_at "go"
        refine ⟨_, _, rfl, lenS (small_line (by omega)), ?_⟩
        rw [e]
        exact q _ (Same.refl _)
      · intro D H1 hD s1 eD
        walk_at "go"
        have few : (ws.filter fun w => fits (tl p) a (tl w)).length ≤ 12 := Nat.le_trans (List.length_filter_le _ _) lw
        refine ⟨D, (ws.filter fun w => fits (tl p) a (tl w)).map fun w => ((tl w).length : Int), rfl, ?_, by rw [List.length_map]; omega, fun T c hT hc => ?_⟩
        · rw [List.map_map]
          exact SqL.of eD
        walk_at "go"
        rw [List.length_map] at hc
        refine ⟨T, _, c, rfl, upd_same, by omega, fun ns q pw hm _ hq => ?_⟩
        have e := lens_words (nm := nm) h4 pw (p := tl p) (a := a) fun k => by
          rw [hm, decide_eq_true_eq, List.mem_map]
          constructor
          · rintro ⟨w, hw, rfl⟩
            obtain ⟨h1, h2⟩ := List.mem_filter.mp hw
            exact ⟨w, h1, rfl, h2⟩
          · rintro ⟨w, h1, rfl, h2⟩
            exact ⟨w, List.mem_filter.mpr ⟨h1, h2⟩, rfl⟩
        have sT := s1.trans (same_new (o := SetO w T (fun j => decide (j ∈ (ws.filter fun w => fits (tl p) a (tl w)).map fun w => ((tl w).length : Int))) c) hT)
        refine k _ q (sT.trans (same_new hq)) (Same.free sT hq) ?_
        rw [e, List.map_map]
        exact upd_same
    | r nm al lo hi =>
      have hS := fd_r hd
      refine r_ixSq hS (at_0) ?_
      walk_at "go"
      refine r_slSq hS fun sv H1 s1 h1 => ?_
      refine r_gSq h1 rfl ?_
      walk_at "go"
      rw [show cutV [V.str (Str.ofString "run"), V.str nm, V.str al, vi lo, oV hi] (some 2) none = [V.str al, vi lo, oV hi] from cutV_from (xs := [V.str (Str.ofString "run"), V.str nm, V.str al, vi lo, oV hi]) 2]
      walk_at "go"
      have lp := len_tl p
      refine ⟨fun m σ H' => ∃ j, j ≤ mostOf hi (lead (tl al) ((tl p).drop a)) ∧ m = mostOf hi (lead (tl al) ((tl p).drop a)) - j ∧ σ = [some v, some (.str p), some (vi a), some (.str al), some (vi lo), some (oV hi), some (vi j), none] ∧ H' = H1, ⟨_, 0, Nat.zero_le _, rfl, rfl, rfl⟩, ?_⟩
      rintro m σ H' ⟨j, hj, rfl, rfl, rfl⟩
      have hld := lead_le (tl al) ((tl p).drop a)
      rw [List.length_drop] at hld
      have hM := mostOf_le hi (lead (tl al) ((tl p).drop a))
      walk_at "go"
      refine ⟨_, _, rfl, lenS (small_line (by omega)), ?_⟩
      walk_at "go"
      by_cases hlt : j < mostOf hi (lead (tl al) ((tl p).drop a))
      · obtain ⟨h1, h2⟩ := lead_step (tl al) (tl p) a j (by omega)
        have ec : (tl p)[a + j]? = some (tl p)[a + j] := List.getElem?_eq_getElem h1
        have hc := h2 _ ec
        refine r_yes (by omega) ?_
        walk_at "go"
        refine r_ixS (small_line (by omega)) (atI_nat (j := a + j) ec) ?_
        walk_at "go"
        refine ⟨_, al, rfl, rfl, ?_⟩
        rw [decide_eq_true hc]
        walk_at "go"
        have turn : ∀ tb : TS, (∀ N : L2.St → Hp → Prop, N [some v, some (.str p), some (vi a), some (.str al), some (vi lo), some (oV hi), some (vi (j + 1)), none] H' → tb ⟨N, Q, fun σ H' => tRet (tLstRg (tRg2 (tVar 4) (tOp (rI0 fun i j => V.int (i + j)) (tVar 6) (tC (V.int 1))))) { nx := fun x H' => Q V.non H', rt := Q } σ H', N⟩ [some v, some (.str p), some (vi a), some (.str al), some (vi lo), some (oV hi), some (vi j), none] H') →
            ∃ N : L2.St → Hp → Prop, (∀ σ' H2, N σ' H2 → ∃ m', m' < mostOf hi (lead (tl al) ((tl p).drop a)) - j ∧ ∃ j, j ≤ mostOf hi (lead (tl al) ((tl p).drop a)) ∧ m' = mostOf hi (lead (tl al) ((tl p).drop a)) - j ∧ σ' = [some v, some (.str p), some (vi a), some (.str al), some (vi lo), some (oV hi), some (vi j), none] ∧ H2 = H') ∧
              tb ⟨N, Q, fun σ H' => tRet (tLstRg (tRg2 (tVar 4) (tOp (rI0 fun i j => V.int (i + j)) (tVar 6) (tC (V.int 1))))) { nx := fun x H' => Q V.non H', rt := Q } σ H', N⟩ [some v, some (.str p), some (vi a), some (.str al), some (vi lo), some (oV hi), some (vi j), none] H' := fun tb h =>
          ⟨fun σ' H2 => σ' = [some v, some (.str p), some (vi a), some (.str al), some (vi lo), some (oV hi), some (vi (j + 1)), none] ∧ H2 = H', fun σ' H2 q => ⟨mostOf hi (lead (tl al) ((tl p).drop a)) - (j + 1), by omega, j + 1, hlt, rfl, q.1, q.2⟩, h _ ⟨rfl, rfl⟩⟩
        cases hi with
        | none =>
          refine ⟨rfl, true, rfl, ?_⟩
          rw [if_pos rfl, if_pos rfl]
          refine turn _ fun N hN => ?_
          walk_at "go"
          exact ⟨_, _, rfl, rfl, hN⟩
        | some h =>
          have hlt' : j < min h (lead (tl al) ((tl p).drop a)) := hlt
          refine ⟨rfl, false, by rw [decide_eq_false (fun q => by cases q)], ?_⟩
          rw [if_neg Bool.false_ne_true]
          walk_at "go"
          refine K1.r_I0 ?_
          refine ⟨_, rfl, ?_⟩
          refine r_yes (by omega) ?_
          refine turn _ fun N hN => ?_
          walk_at "go"
          exact ⟨_, _, rfl, rfl, hN⟩
      · have ej : j = mostOf hi (lead (tl al) ((tl p).drop a)) := by omega
        have fin : j = mostOf hi (lead (tl al) ((tl p).drop a)) → ∃ i j_1, vi lo = V.int i ∧ V.int ((j : Int) + 1) = V.int j_1 ∧ RgOk i j_1 ∧ ∀ q : Addr, H' q = none → Q (V.ref q) (upd H' q (HO.lst (rgV i j_1))) := fun ej => by
          have := ho.2.2.2.1
          refine ⟨_, _, rfl, rfl, RgOk.of_le (by omega) (by omega) (by omega) (by omega), fun q hq => k _ q (s1.trans (same_new hq)) (Same.free s1 hq) ?_⟩
          rw [upd_same]
          unfold rgV flen
          rw [List.map_map, ← ej, show ((j : Int) + 1 - (lo : Int)).toNat = j + 1 - lo by omega]
          rfl
        clear hlt
        have c3 : (¬ a + j < (tl p).length) ∨ (∃ c, (tl p)[a + j]? = some c ∧ c ∉ tl al) ∨ ∃ c, (tl p)[a + j]? = some c ∧ c ∈ tl al ∧ ∃ h, hi = some h ∧ h ≤ j := by
          by_cases hj2 : j < lead (tl al) ((tl p).drop a)
          · obtain ⟨h1, h2⟩ := lead_step (tl al) (tl p) a j hj2
            have ec : (tl p)[a + j]? = some (tl p)[a + j] := List.getElem?_eq_getElem h1
            refine .inr (.inr ⟨_, ec, h2 _ ec, ?_⟩)
            cases hi with
            | none => exact absurd ej (by show ¬ j = lead _ _; omega)
            | some h =>
              refine ⟨h, rfl, ?_⟩
              have ej : j = min h (lead (tl al) ((tl p).drop a)) := ej
              omega
          · have e : j = lead (tl al) ((tl p).drop a) := by omega
            rcases lead_end (tl al) (tl p) a ha with q | q
            · exact .inl (by omega)
            · exact .inr (.inl (e ▸ q))
        rcases c3 with c | ⟨c, ec, hn⟩ | ⟨c, ec, hc, h, rfl, hh⟩
        · refine r_no (by omega) ?_
          walk_at "go"
          exact fin ej
        · have h1 := (List.getElem?_eq_some_iff.mp ec).1
          refine r_yes (by omega) ?_
          walk_at "go"
          refine r_ixS (small_line (by omega)) (atI_nat (j := a + j) ec) ?_
          walk_at "go"
          refine ⟨_, al, rfl, rfl, ?_⟩
          rw [decide_eq_false hn]
          walk_at "go"
          exact fin ej
        · have h1 := (List.getElem?_eq_some_iff.mp ec).1
          refine r_yes (by omega) ?_
          walk_at "go"
          refine r_ixS (small_line (by omega)) (atI_nat (j := a + j) ec) ?_
          walk_at "go"
          refine ⟨_, al, rfl, rfl, ?_⟩
          rw [decide_eq_true hc]
          walk_at "go"
          refine ⟨rfl, false, by rw [decide_eq_false (fun q => by cases q)], ?_⟩
          rw [if_neg Bool.false_ne_true]
          walk_at "go"
          refine K1.r_I0 ?_
          refine ⟨_, rfl, ?_⟩
          refine r_no (by omega) ?_
          walk_at "go"
          exact fin ej
end
end K4

/-! F19e -/


namespace K4
open PySem L2 K1
abbrev sPartLens : Stmt := top 44
abbrev nPartLens : List Str := ["fields", "paper", "ends", "out", "field", "many_at", "at", "lengths", "many"]
theorem scPartLens : FnScope nPartLens ["fields", "paper"] (defScope sPartLens) := ⟨rfl, rfl, rfl, by decide +kernel, rfl, by decide +kernel, by decide +kernel⟩
abbrev scPLI : Scope := { kind := ScopeKind.function, names := [(".0", NameKind.local), ("at", NameKind.cell), ("field_lengths", NameKind.globalImplicit), ("ends", NameKind.cell), ("field", NameKind.cell), ("paper", NameKind.cell)], isGenerator := false, isCoroutine := false }
def rowD (f : Fd) (fs : List Fd) (p : List Nat) : PyData := .list ((List.range (p.length + 1)).map fun a => .list ((manyA f fs p a).map pn))
def partsD (p : List Nat) : List Fd → List PyData
  | [] => []
  | f :: fs => rowD f fs p :: partsD p fs
def EndsAt (H : Hp) (d : Addr) (fs : List Fd) (p : List Nat) : Prop := ∃ kvs : List (L2.Key × V), H d = some (.dK kvs) ∧ kvs.length ≤ 1000 ∧ ∀ m : Nat, m ≤ p.length → (valV kvs (.inl (m : Int))).isSome = decide (0 < ways fs p m)
theorem EndsAt.same {H H' : Hp} {d : Addr} {fs : List Fd} {p : List Nat} (h : EndsAt H d fs p) (s : Same H H') : EndsAt H' d fs p := by
  obtain ⟨kvs, e, r⟩ := h
  exact ⟨kvs, s _ _ e, r⟩
def spPartLens (K : PySem.W.Frag) : Sp := fun vs H Q _ => ∃ (z p : Str) (v : V) (fs : List Fd), vs = [v, .str p] ∧ Dp K H v (formD true fs) ∧ FormOk z fs ∧ (tl p).length ≤ 100 ∧
  ∀ H' q, Same H H' → H q = none → Dp K H' (.ref q) (.list (partsD (tl p) fs)) → Q (.ref q) H'
section
variable {P : Program} {w : World} {K : PySem.W.Frag} {mg : Str → Option Value} {base : Heap} {tN dI : Addr}
abbrev OFieldLens (P : Program) (w : World) (K : PySem.W.Frag) (mg : Str → Option Value) (base : Heap) : Prop := Own P w K mg base "field_lengths" 1 ["field", "paper", "at"] (spFieldLens K)
theorem ok_partLens {f : Addr} {fd : FuncData} (F : Fun K "part_lengths" "part_lengths" sPartLens f fd) (B : Bl mg) (Ofl : OFieldLens P w K mg base) : FnOk P w K mg base CX0 2 f fd ["fields", "paper"] (spPartLens K) := by
  refine F.ok scPartLens (fun vs H Q E h => ?_) (fun cdv A outer s H vs Q E hr h => ?_)
  · obtain ⟨z, p, v, fs, rfl, _⟩ := h
    rfl
  · obtain ⟨z, p, v, fs, rfl, hd, ho, hp, k⟩ := h
    refine ⟨_, (pss_cons (ps_set (i := 2) scPartLens.nd rfl (Or.inr rfl) (pe_disp (pps_cons (pe_callB call_len (by rfl) B.len PySem.boot_len (pa_cons (pv 1) pa_nil)) pe_bl pps_nil) rfl rfl (by simp) (by decide))) (pss_cons (ps_set (i := 3) scPartLens.nd rfl (Or.inl rfl) (pe_lst pa_nil)) (pss_cons (ps_for PassesOwn.never rfl (pi_tup (pe_revT (pv 0))) (pg_name (i := 4) scPartLens.nd rfl (Or.inr rfl)) (pss_cons (ps_setLc (i := 5) (own := [("at", 6)]) (g := gName 6) (tt := tYes) rfl scPartLens.nd rfl rfl (sw_true rfl rfl rfl (by decide +kernel)) (pi_range1 rfl B.range (pa_cons (pe_op op_add (pe_callB call_len (by rfl) B.len PySem.boot_len (pa_cons (pv 1) pa_nil)) pe_int) pa_nil)) (blkOk_by (N := nPartLens) (sc := defScope sPartLens) (by decide +kernel)) (fun _ _ _ _ _ => (pg_name (i := 6) scPartLens.nd rfl (Or.inr rfl))) (fun _ _ _ _ _ => pts_nil) (fun _ _ _ _ _ => (pe_lc (own := [("many", 8)]) (g := gName 8) (wi := iSq K (tCall (spFieldLens K) [] E0 (tCons (tVar 4) (tCons (tVar 1) (tCons (tVar 6) tNil))))) rfl scPartLens.nd (pi_sq (pe_own Ofl (hr.mono (by omega)) (pa_cons (pv 4) (pa_cons (pv 1) (pa_cons (pv 6) pa_nil))))) (blkOk_by (N := nPartLens) (sc := scPLI) (by decide +kernel)) (fun _ _ _ _ _ => (pg_name (i := 8) scPartLens.nd rfl (Or.inl rfl))) (fun _ _ _ _ _ => (pts_one (pt_cmp (pc_din (hu1 hr) (pe_op op_add (pv 6) (pv 8)) (pv 2))))) (fun _ _ _ _ _ => (pv 8))))) (pss_cons (ps_set (i := 2) scPartLens.nd rfl (Or.inr rfl) (pe_dc (own := [("at", 6), ("lengths", 7)]) (g := gTup K 2 (gCons (gName 6) (gCons (gName 7) gNil))) (tt := tTru K (tVar 7)) rfl scPartLens.nd (pi_enumA rfl B.enumerate (pa_cons (pv 5) pa_nil)) (blkOk_by (N := nPartLens) (sc := defScope sPartLens) (by decide +kernel)) (fun _ _ _ _ _ => (pg_tup rfl (pgs_cons (pg_name (i := 6) scPartLens.nd rfl (Or.inl rfl)) (pgs_cons (pg_name (i := 7) scPartLens.nd rfl (Or.inl rfl)) pgs_nil)))) (fun _ _ _ _ _ => (pts_one (pt_truth (pv 7) (by intro _; rfl)))) (fun _ _ _ _ _ => (pv 6)) (fun _ _ _ _ _ => pe_bl))) (pss_one (ps_expr (pe_bm PySem.F.plainAttrs_list PySem.F.slot_list_append PySem.F.type_list_append mt_append (pv 3) (pa_cons (pv 5) pa_nil))))))) (pss_one (ps_ret (pe_revL (pv 3))))))), ?_⟩
    try dsimp only [cxOf, Cx.nox, Cx.wish]
    obtain ⟨a, xs, rfl, hS, hA⟩ := dp_tuple hd
    have hl := dpA_len hA
    rw [List.length_map] at hl
    have l6 := ho.2.1
    have lp := len_tl p
    walk_at "go"
    intro d hd0
    unfold tPairs
    walk_at "go"
    refine ⟨_, _, rfl, lenS (small_line (by omega)), ?_⟩
    walk_at "go"
    unfold tPairs
    refine ⟨upd_same, [(.inl (p.length : Int), V.bl true)], rfl, (by show 1 ≤ 15; decide), ?_⟩
    rw [upd_upd]
    have sd := same_new (o := HO.dK (mergeK [] [(Sum.inl (p.length : Int), V.bl true)])) hd0
    have end0 : EndsAt (upd H d (HO.dK (mergeK [] [(Sum.inl (p.length : Int), V.bl true)]))) d [] (tl p) := by
      refine ⟨_, upd_same, by show 1 ≤ 1000; decide, fun m hm => ?_⟩
      show (valV [(Sum.inl (p.length : Int), V.bl true)] (Sum.inl (m : Int))).isSome = decide (0 < ways [] (tl p) m)
      by_cases e : m = (tl p).length
      · rw [valV_pos (by show (Sum.inl (p.length : Int) : L2.Key) = Sum.inl (m : Int); rw [e, ← lp])]
        exact (decide_eq_true (show 0 < ways [] (tl p) m by unfold ways; rw [if_pos e]; exact Nat.one_pos)).symm
      · rw [valV_neg (by intro q; have := Sum.inl.inj q; omega), valV_nil]
        exact (decide_eq_false (show ¬ 0 < ways [] (tl p) m by unfold ways; rw [if_neg e]; exact Nat.lt_irrefl 0)).symm
    generalize upd H d (HO.dK (mergeK [] [(Sum.inl (p.length : Int), V.bl true)])) = H1 at sd end0
    walk_at "go"
    refine ⟨Nat.zero_le _, fun o hO => ?_⟩
    have so := sd.trans (same_new (o := HO.lst []) hO)
    have end1 := end0.same (same_new (o := HO.lst []) hO)
    have eo : (upd H1 o (HO.lst [])) o = some (.lst []) := upd_same
    have fo : H o = none := Same.free sd hO
    generalize upd H1 o (HO.lst []) = H2 at so end1 eo
    walk_at "go"
    refine ⟨a, xs, rfl, Same.sqT so hS, fun r hr0 => ?_⟩
    have sr := same_new (o := HO.tup xs.reverse) hr0
    refine ⟨r, rfl, ⟨xs.reverse, SqT.of upd_same⟩, ?_⟩
    refine fr_tup (xs := xs.reverse) (fun i σ H' => ∃ (fv mv : Option V) (e : Addr) (acc : List V), σ = [some (.ref a), some (.str p), some (.ref e), some (.ref o), fv, mv, none, none, none] ∧ EndsAt H' e (fs.drop (fs.length - i)) (tl p) ∧ H' o = some (.lst acc) ∧ acc.length = i ∧ DpAll K (L2.del H' o) acc (partsD (tl p) (fs.drop (fs.length - i))).reverse ∧ Kp o (upd H2 r (HO.tup xs.reverse)) H') ?_ ?_ ?_ ?_
    · refine ⟨none, none, d, [], rfl, ?_, sr _ _ eo, rfl, ?_, Kp.refl _ _⟩
      · rw [Nat.sub_zero, List.drop_length]
        exact end1.same sr
      · rw [Nat.sub_zero, List.drop_length]
        exact .nil
    · rintro i σ H' hi ⟨fv, mv, e, acc, rfl, he, hoo, la, hdp, kp⟩
      refine Kp.sqT kp (b := o) (sr _ _ eo) ?_
      exact SqT.of upd_same
    · rintro i x σ H' hx ⟨fv, mv, e, acc, rfl, he, hoo, la, hdp, kp⟩
      have hi : i < fs.length := by
        have := (List.getElem?_eq_some_iff.mp hx).1
        rw [List.length_reverse] at this
        omega
      rw [List.getElem?_reverse (by omega), hl] at hx
      obtain ⟨dd, hd1, hd2⟩ := dpA_get hA hx
      rw [List.getElem?_map] at hd1
      obtain ⟨fl, hf, rfl⟩ := Option.map_eq_some_iff.mp hd1
      have rest : fs.drop (fs.length - (i + 1)) = fl :: fs.drop (fs.length - i) := by
        have e1 : fs.length - (i + 1) = fs.length - 1 - i := by omega
        have h1 : fs.length - 1 - i < fs.length := by omega
        rw [e1, List.drop_eq_getElem_cons h1, show fs.length - 1 - i + 1 = fs.length - i by omega]
        rw [(List.getElem?_eq_some_iff.mp hf).2]
      have ok := ho.2.2.2 fl (List.mem_of_getElem? hf)
      have sH : Same H H' := fun c u e => by
        have n : c ≠ o := ne_of_none e fo
        exact kp c u n (sr _ _ (so _ _ e))
      have hfd := dp_keep (Same.keeps sH) _ _ hd2
      generalize fs.drop (fs.length - i) = rs at he hdp rest
      rw [rest]
      walk_at "go"
      refine ⟨_, _, rfl, lenS (small_line (by omega)), ?_⟩
      walk_at "go"
      refine ⟨by omega, by omega, fun D hD => ?_⟩
      rw [show ((p.length : Int) + 1).toNat = (tl p).length + 1 by omega]
      refine lc_gen (walk_rng (lo := 0) (n := (tl p).length + 1)) (fun _ => rfl) (fun acc H4 => DpAll K (L2.del (L2.del H4 D) o) acc (((List.range ((tl p).length + 1)).take acc.length).map fun a => PyData.list ((manyA fl rs (tl p) a).map pn)) ∧ Same H' H4) ⟨.nil, same_new hD⟩ (fun _ _ _ _ => trivial) ?_ ?_
      · rintro b y acc2 H4 hy la2 e4 ⟨hd4, s4⟩
        have hb : b < (tl p).length + 1 := by
          have := (List.getElem?_eq_some_iff.mp hy).1
          rw [List.length_map, List.length_range] at this
          exact this
        have ey : y = vi b := by
          rw [List.getElem?_map, List.getElem?_range hb] at hy
          have := Option.some.inj hy
          rw [← this]
          show V.int (0 + (b : Int)) = V.int (b : Int)
          rw [Int.zero_add]
        subst ey
        walk_at "go"
        refine ⟨z, p, x, fl, b, rfl, dp_keep (Same.keeps s4) _ _ hfd, ok, hp, by omega, fun H5 q s5 hq eq => ?_⟩
        have he5 := (he.same s4).same s5
        obtain ⟨kvs, ek, _, hk⟩ := he5
        refine lc_fil (l := flen fl (tl p) b) (f0 := vi) (e := vi) (pb := fun n => decide (0 < ways rs (tl p) (b + n))) ⟨q, rfl, .inl (SqL.of eq)⟩ (by have := flen_few (f := fl) (p := tl p) (a := b) (by omega); omega) (fun _ => rfl) ?_ ?_ _ ?_ (fun J h => h)
        · intro i5 n H6 R hn s6 q6
          have hle := flen_le (f := fl) (p := tl p) (a := b) (by omega) (List.mem_of_getElem? hn)
          walk_at "go"
          refine ⟨e, _, rfl, .inl ⟨kvs, .inl ((b : Int) + (n : Int)), Rd.of (s6 _ _ ek), rfl, rfl⟩, ?_⟩
          have := hk (b + n) hle
          rw [show (((b + n : Nat) : Int)) = (b : Int) + (n : Int) by omega] at this
          rw [this]
          exact ⟨_, rfl, q6 _ (Same.refl _)⟩
        · intro i5 n H6 R hn hb6 s6 q6
          walk_at "go"
          exact q6 _ (Same.refl _)
        · intro D2 H6 hD2 s6 e6
          have eD : H6 D = some (.lst acc2) := s6 _ _ (s5 _ _ e4)
          refine pp_next eD la2 (line60 (by omega)) ⟨?_, ?_⟩
          · rw [del_upd]
            have nD : D2 ≠ D := fun q => by rw [q, s5 _ _ e4] at hD2; cases hD2
            have nO : D2 ≠ o := fun q => by rw [q, s5 _ _ (s4 _ _ hoo)] at hD2; cases hD2
            have d6 := dpA_same (Same.del (D := o) (Same.del (D := D) (s5.trans s6))) hd4
            have dn : Dp K (L2.del (L2.del H6 D) o) (.ref D2) (PyData.list ((manyA fl rs (tl p) b).map pn)) := .lst (xs := (manyA fl rs (tl p) b).map vi) (SqL.of (by rw [del_ne nO, del_ne nD]; exact e6)) (dpA_nums.mpr rfl)
            have := dpA_app d6 (.cons dn .nil)
            rw [take_next (f := fun a => PyData.list ((manyA fl rs (tl p) a).map pn)) (a := b) (by rw [List.getElem?_range (by omega), la2]), la2] at this
            rw [List.length_append, la2]
            exact this
          · exact same_upd ((s4.trans s5).trans s6) hD
      · rintro acc2 H4 la2 e4 ⟨hd4, s4⟩
        rw [List.length_map, List.length_range] at la2
        rw [la2, show (List.range ((tl p).length + 1)).take ((tl p).length + 1) = List.range ((tl p).length + 1) from List.take_of_length_le (by rw [List.length_range]; exact Nat.le_refl _)] at hd4
        walk_at "go"
        have hL := dpA_same (del_le.trans del_le) hd4
        refine en_sq ⟨D, rfl, .inl (SqL.of e4)⟩ fun J G0 wk kpk D1 hD1 => dc_it wk (fun i1 H5 => ∃ kvs : List (L2.Key × V), H5 D1 = some (.dK kvs) ∧ kvs.length ≤ i1 ∧ (∀ m : Nat, (valV kvs (.inl (m : Int))).isSome = (decide (m < i1) && decide (manyA fl rs (tl p) m ≠ []))) ∧ Same H4 H5) ?_ (fun i1 H5 _ ⟨_, _, _, _, s5⟩ => kpk _ (Same.keeps s5)) ?_ ?_
        · exact ⟨[], upd_same, Nat.le_refl _, fun m => by rw [valV_nil, decide_eq_false (Nat.not_lt_zero m)]; rfl, same_new hD1⟩
        · rintro i1 y H5 H6 hi1 ⟨kvs, ek, lk, hk, s5⟩ ⟨T, u, y2, rfl, hT, rfl, hu, hy2⟩
          obtain rfl := Option.some.inj hu
          have sT := s5.trans (same_new (o := HO.tup [V.int ((i1 : Nat) : Int), y2]) hT)
          have ek2 : (upd H5 T (HO.tup [V.int ((i1 : Nat) : Int), y2])) D1 = some (.dK kvs) := by rw [upd_ne (ne_of_none ek hT)]; exact ek
          obtain ⟨dd2, g1, g2⟩ := dpA_get hL hy2
          have hi1' : i1 < (tl p).length + 1 := by omega
          rw [List.getElem?_map, List.getElem?_range hi1'] at g1
          obtain rfl := Option.some.inj g1
          have g3 := dp_same sT g2
          walk_at "go"
          refine ⟨_, _, rfl, SqT.of upd_same, rfl, ?_⟩
          walk_at "go"
          refine ⟨rfl, ?_⟩
          have g4 : ∃ q, y2 = .ref q ∧ SqL K (upd H5 T (HO.tup [V.int ((i1 : Nat) : Int), y2])) q ((manyA fl rs (tl p) i1).map vi) := by
            cases g3 with
            | lst a1 a2 =>
              rw [dpA_nums.mp a2] at a1
              exact ⟨_, rfl, a1⟩
          obtain ⟨q, rfl, g5⟩ := g4
          apply r_tTru
          walk_at "go"
          have lim : i1 ≤ 100 := by omega
          by_cases hm : manyA fl rs (tl p) i1 = []
          · refine ⟨false, tru_l g5 (by rw [hm]; rfl), ?_⟩
            rw [if_neg Bool.false_ne_true]
            refine ⟨kvs, ek2, by omega, fun m => ?_, sT⟩
            rw [hk]
            by_cases e1 : m = i1
            · subst e1
              rw [decide_eq_false (p := manyA fl rs (tl p) m ≠ []) (fun q => q hm), Bool.and_false, Bool.and_false]
            · have e2 : decide (m < i1 + 1) = decide (m < i1) := by rw [decide_eq_decide]; omega
              rw [e2]
          · refine ⟨true, tru_l g5 (by cases h : manyA fl rs (tl p) i1 with | nil => exact absurd h hm | cons a b => rfl), ?_⟩
            rw [if_pos rfl]
            walk_at "go"
            refine ⟨kvs, .inl ((i1 : Nat) : Int), rfl, ek2, line60 (by omega), ⟨_, upd_same, ?_, fun m => ?_, same_upd sT hD1⟩⟩
            · have := length_putK kvs (.inl ((i1 : Nat) : Int)) (V.bl true)
              omega
            · rw [valV_put]
              by_cases e1 : m = i1
              · subst e1
                rw [if_pos rfl, decide_eq_true (Nat.lt_succ_self m), decide_eq_true hm]; rfl
              · have e2 : decide (m < i1 + 1) = decide (m < i1) := by rw [decide_eq_decide]; omega
                rw [if_neg (by intro q; have := Sum.inl.inj q; omega), hk, e2]
        · rintro H5 ⟨kvs, ek, lk, hk, s5⟩
          walk_at "go"
          have hoo5 := s5 _ _ (s4 _ _ hoo)
          refine ⟨tyL (SqL.of hoo5), ?_⟩
          walk_at "go"
          refine ⟨o, acc, _, rfl, rfl, hoo5, line60 (by omega), ?_⟩
          have nDo : D ≠ o := fun q => by rw [q, hoo] at hD; cases hD
          have nD1o : D1 ≠ o := fun q => by rw [q] at ek; rw [hoo5] at ek; cases ek
          refine ⟨_, _, _, _, rfl, ⟨kvs, by rw [upd_ne nD1o]; exact ek, by omega, fun m hm => ?_⟩, upd_same, by rw [List.length_append, la]; rfl, ?_, fun c u nc h => ?_⟩
          · rw [hk, decide_eq_true (show m < acc2.length by omega), Bool.true_and, decide_eq_decide]
            exact ways_pos.symm
          · rw [del_upd]
            have d1 := dpA_same (Same.del (D := o) (s4.trans s5)) hdp
            have d2 := dpA_same (Same.del (D := o) ((del_le (H := H4) (D := D)).trans s5)) hd4
            have dn : Dp K (L2.del H5 o) (.ref D) (rowD fl rs (tl p)) := .lst (xs := acc2) (SqL.of (by rw [del_ne nDo]; exact s5 _ _ e4)) d2
            have := dpA_app d1 (.cons dn .nil)
            show DpAll K (L2.del H5 o) _ (rowD fl rs (tl p) :: partsD (tl p) rs).reverse
            rw [List.reverse_cons]
            exact this
          · rw [upd_ne nc]
            exact s5 _ _ (s4 _ _ (kp c u nc h))
    · rintro σ H' ⟨fv, mv, e, acc, rfl, he, hoo, la, hdp, kp⟩
      walk_at "go"
      have e0 : fs.length - xs.reverse.length = 0 := by rw [List.length_reverse]; omega
      rw [e0, List.drop_zero] at hdp
      have sH : Same H H' := fun c u e => by
        have n : c ≠ o := ne_of_none e fo
        exact kp c u n (sr _ _ (so _ _ e))
      refine ⟨o, acc, rfl, SqL.of hoo, fun q hq => k _ q (sH.trans (same_new hq)) (Same.free sH hq) (.lst (xs := acc.reverse) (SqL.of upd_same) ?_)⟩
      have := dpA_rev (dpA_same (del_le.trans (same_new (o := HO.lst acc.reverse) hq)) hdp)
      rw [List.reverse_reverse] at this
      exact this
end
end K4

/-! F19f -/


namespace K1
open PySem L2 PyProof.Rows
theorem rzM {C : Addr} {x : Str} {H1 : Hp} {E : XK} (hx : x.length ≤ 100) (er : Err C "what" (.str x) H1 E) : [V.str x].length ≤ 1000 ∧ ∀ a : Addr, H1 a = none → spBadM C (V.ref a :: ([V.str x] ++ [])) (upd H1 a (exo a C none))
      (fun v H2 => v = V.non ∧ ∃ d fs, H2 a = some (exo a C (some d)) ∧ H2 d = some (exd d fs) ∧ H1 d = none ∧ E (Value.ref C) (some d) (upd (del H2 a) d (HO.xd fs))) fun x x_1 x_2 => False := by
  refine ⟨(by show 1 ≤ 1000; decide), fun a ha => ⟨a, x, rfl, hx, upd_same, fun dx hdx ne => ?_⟩⟩
  rw [upd_ne ne] at hdx
  refine ⟨rfl, dx, [("what", .str x)], upd_same, by rw [upd_ne ne, upd_same], hdx, ?_⟩
  refine er _ _ (fun c o e => ?_) upd_same hdx
  have n1 : c ≠ dx := ne_of_none e hdx
  have n2 : c ≠ a := ne_of_none e ha
  rw [upd_ne n1, del_ne n2, upd_ne n2, upd_ne n1, upd_ne n2]
  exact e
end K1
namespace K4
open PySem L2 K1
abbrev sReadings : Stmt := top 39
abbrev nReadings : List Str := ["signs", "form", "paper", "fields", "found", "ends", "many_at", "parts", "at", "many"]
theorem scReadings : FnScope nReadings ["signs", "form", "paper"] (defScope sReadings) := ⟨rfl, rfl, rfl, by decide +kernel, rfl, by decide +kernel, by decide +kernel⟩
/-! The readings. -/
abbrev teFound (K : PySem.W.Frag) (a b c d : Nat) : TE := tTup (StX.tStar K (tVar a) (tCons (tSl rSlS (tVar b) (tPart (tVar c)) (tPart (tOp (rI0 fun i j => V.int (i + j)) (tVar c) (tVar d)))) tNil))
def cutP (p : Str) (a b : Nat) : Str := cutS p (some (a : Int)) (some (b : Int))
def readD (fs : List Fd) (p : Str) : PyData := .tuple ((cutsN (cutP p) (tl p) fs [([], 0)]).map fun c => .tuple (c.1.map .str))
def spReadings (K : PySem.W.Frag) (CP CM : Addr) : Sp := fun vs H Q E => ∃ (z : Str) (v x : V) (fs : List Fd) (t : Bool), vs = [.str z, v, x] ∧ z.length ≤ 12 ∧ signsB z = true ∧ Dp K H v (formD t fs) ∧ FormOk z fs ∧
  ((BadP K H z x ∧ Err CP "paper" x H E) ∨ (∃ p : Str, x = .str p ∧ textB 0 60 z p = true ∧
    ((ways fs (tl p) 0 ≤ 500 ∧ ∀ H' v', Same H H' → Dp K H' v' (readD fs p) → Q v' H') ∨ (500 < ways fs (tl p) 0 ∧ Err CM "what" (.str "reading") H E))))
def tupS (c : List Str × Nat) : PyData := .tuple (c.1.map .str)
theorem tupS_pure (l : List (List Str × Nat)) : pureA (l.map tupS) = true := pureA_iff.mpr fun d hd => by
  obtain ⟨c, _, rfl⟩ := List.mem_map.mp hd
  show K4.pure (.tuple (c.1.map .str)) = true
  rw [K4.pure]
  exact pureA_iff.mpr fun d hd => by obtain ⟨x, _, rfl⟩ := List.mem_map.mp hd; rfl
theorem wtot_one (fs : List Fd) (p : List Nat) (a : Nat) (l : List Str) : wtot fs p [(l, a)] = ways fs p a := by
  unfold wtot
  simp
theorem flat_len {α β : Type} {f : α → List β} {c : Nat} : ∀ {l : List α}, (∀ x ∈ l, (f x).length ≤ c) → (l.flatMap f).length ≤ l.length * c
  | [], _ => Nat.zero_le _
  | x :: l, h => by
    have h1 := h x List.mem_cons_self
    have h2 := flat_len (l := l) fun y hy => h y (List.mem_cons_of_mem _ hy)
    rw [List.flatMap_cons, List.length_append, List.length_cons, Nat.succ_mul]
    omega
theorem partsD_get {p : List Nat} : ∀ {fs : List Fd} {i : Nat} {d : PyData}, (partsD p fs)[i]? = some d → ∃ f, fs[i]? = some f ∧ fs.drop i = f :: fs.drop (i + 1) ∧ d = rowD f (fs.drop (i + 1)) p
  | [], i, d, h => by simp [partsD] at h
  | f :: fs, 0, d, h => ⟨f, rfl, rfl, (Option.some.inj h).symm⟩
  | f :: fs, i + 1, d, h => by
    obtain ⟨g, h1, h2, h3⟩ := partsD_get (fs := fs) (i := i) (d := d) h
    exact ⟨g, h1, h2, h3⟩
theorem partsD_len (p : List Nat) : ∀ fs : List Fd, (partsD p fs).length = fs.length
  | [] => rfl
  | f :: fs => congrArg (· + 1) (partsD_len p fs)
section
variable {P : Program} {w : World} {K : PySem.W.Frag} {mg : Str → Option Value} {base : Heap} {tN dI : Addr}
abbrev OPartLens (P : Program) (w : World) (K : PySem.W.Frag) (mg : Str → Option Value) (base : Heap) : Prop := Own P w K mg base "part_lengths" 2 ["fields", "paper"] (spPartLens K)
theorem ok_readings {f CP CM fM : Addr} {fd fdM : FuncData} (F : Fun K "readings" "readings" sReadings f fd) (B : Bl mg) (G : G11 K w mg tN dI) (TM : ErrM P K mg CM fM fdM) (Ocf : OCheckForm P w K mg base) (Orp : OReqP CP P w K mg base) (Opl : OPartLens P w K mg base) : FnOk P w K mg base (L2N.CX P w) 9 f fd ["signs", "form", "paper"] (spReadings K CP CM) := by
  refine okXN F scReadings (fun vs H Q E h => ?_) (fun cdv A outer s H vs Q E hr h => ?_)
  · obtain ⟨z, v, x, fs, t, rfl, _⟩ := h
    rfl
  · obtain ⟨z, v, x, fs, t, rfl, hz, hs, hd, ho, h⟩ := h
    refine ⟨_, (pss_cons (ps_set (i := 3) scReadings.nd rfl (Or.inl rfl) (pe_own Ocf (hr.mono (by omega)) (pa_cons (pv 0) (pa_cons (pv 1) pa_nil)))) (pss_cons (ps_expr (pe_ownX Orp (hr.mono (by omega)) (L2N.passes_call (E := E) (L2N.takes_of rfl rfl rfl rfl) (fun _ _ _ _ h => h)) (pa_cons (pv 0) (pa_cons (pv 2) pa_nil)))) (pss_cons (ps_set (i := 4) scReadings.nd rfl (Or.inl rfl) (pe_lst (pa_cons (pe_tup pa_nil) pa_nil))) (pss_cons (ps_set (i := 5) scReadings.nd rfl (Or.inl rfl) (pe_lst (pa_cons pe_int pa_nil))) (pss_cons (ps_for (passes_of rfl) rfl (pi_list (pe_own Opl (hr.mono (by omega)) (pa_cons (pv 3) (pa_cons (pv 2) pa_nil)))) (pg_name (i := 6) scReadings.nd rfl (Or.inr rfl)) (pss_cons (ps_setLc2 (i := 4) (own := [("parts", 7), ("at", 8), ("many", 9)]) (vs1 := [9]) (g := gTup K 2 (gCons (gName 7) (gCons (gName 8) gNil))) (g1 := gName 9) (wi1 := iSq K (tOp (rIxL K) (tVar 6) (tVar 8))) (te := teFound K 7 2 8 9) (tt := tYes) (tt1 := tYes) rfl scReadings.nd rfl rfl (sw_true rfl rfl rfl (by decide +kernel)) (pi_zip rfl B.zip (pa_cons (pv 4) (pa_cons (pv 5) pa_nil))) (blkOk_by (N := nReadings) (sc := defScope sReadings) (by decide +kernel)) (by decide) (fun _ _ _ _ _ => (pg_tup rfl (pgs_cons (pg_name (i := 7) scReadings.nd rfl (Or.inl rfl)) (pgs_cons (pg_name (i := 8) scReadings.nd rfl (Or.inl rfl)) pgs_nil)))) (fun _ _ _ _ _ => pts_nil) (fun _ _ _ _ _ => (pi_sq (pe_ix (r := rIxL K) ix_list (pv 6) (pv 8) (fun _ _ => rfl)))) (fun _ _ _ _ _ => (pg_name (i := 9) scReadings.nd rfl (Or.inl rfl))) (fun _ _ _ _ _ => pts_nil) (fun _ _ _ _ _ => (pe_tup (StX.pa_star (pv 7) (pa_cons (pe_slice sl_str (pv 2) (po_some (pv 8)) (po_some (pe_op op_add (pv 8) (pv 9)))) pa_nil))))) (pss_cons (ps_setLc2 (i := 5) (own := [("at", 8), ("many", 9)]) (vs1 := [9]) (g := gName 8) (g1 := gName 9) (wi1 := iSq K (tOp (rIxL K) (tVar 6) (tVar 8))) (tt := tYes) (tt1 := tYes) rfl scReadings.nd rfl rfl (sw_true rfl rfl rfl (by decide +kernel)) (pi_list (pv 5)) (blkOk_by (N := nReadings) (sc := defScope sReadings) (by decide +kernel)) (by decide) (fun _ _ _ _ _ => (pg_name (i := 8) scReadings.nd rfl (Or.inl rfl))) (fun _ _ _ _ _ => pts_nil) (fun _ _ _ _ _ => (pi_sq (pe_ix (r := rIxL K) ix_list (pv 6) (pv 8) (fun _ _ => rfl)))) (fun _ _ _ _ _ => (pg_name (i := 9) scReadings.nd rfl (Or.inl rfl))) (fun _ _ _ _ _ => pts_nil) (fun _ _ _ _ _ => (pe_op op_add (pv 8) (pv 9)))) (pss_one (ps_if (pt_cmpR op_gt (pe_callB call_len (by rfl) B.len PySem.boot_len (pa_cons (pv 4) pa_nil)) (pe_gI G.MOST_READINGS) (nomark _)) (pss_one (L2N.ps_raise rfl (L2N.takes_of rfl rfl rfl rfl) (pmk_oexN TM.T.oex TM.iC TM.tI (ok_badM TM.T) (hr.mono (by omega)) TM.bI rfl TM.gC (pa_cons pe_str pa_nil)))) pss_nil))))) (pss_one (ps_ret (pe_callTy call_tuple_of (by rfl) B.tuple (by decide +kernel) (pa_cons (pv 4) pa_nil))))))))), ?_⟩
    try dsimp only [cxOf, Cx.nox, Cx.wish]
    walk_at "go"
    refine ⟨z, v, fs, t, rfl, hz, hs, hd, ho, fun H1 fv s1 d1 => ?_⟩
    walk_at "go"
    refine ⟨z, x, rfl, ?_⟩
    rcases h with ⟨hb, er⟩ | ⟨p, rfl, ht, h⟩
    · exact .inr ⟨hb.same s1, er.same s1⟩
    have lp := text_of ht
    have ll := len_tl p
    refine .inl ⟨p, rfl, by omega, ht, fun H2 s2 => ?_⟩
    have d2 := dp_same s2 d1
    have s02 := s1.trans s2
    clear s1 s2 d1 hd
    walk_at "go"
    refine ⟨Nat.zero_le _, fun T hT => ?_⟩
    have sT := s02.trans (same_new (o := HO.tup []) hT)
    have dT : Dp K (upd H2 T (HO.tup [])) (.ref T) (tupS ([], 0)) := .tup (xs := []) (SqT.of upd_same) .nil
    have d3 := dp_same (same_new (o := HO.tup []) hT) d2
    generalize upd H2 T (HO.tup []) = H3 at sT dT d3
    clear d2 s02
    walk_at "go"
    refine ⟨(by show 1 ≤ sizeLine; decide), fun D hD => ?_⟩
    have sD := sT.trans (same_new (o := HO.lst [V.ref T]) hD)
    have dT2 := dp_same (same_new (o := HO.lst [V.ref T]) hD) dT
    have d4 := dp_same (same_new (o := HO.lst [V.ref T]) hD) d3
    have eD : (upd H3 D (HO.lst [V.ref T])) D = some (.lst [V.ref T]) := upd_same
    generalize upd H3 D (HO.lst [V.ref T]) = H4 at sD dT2 d4 eD
    clear sT dT d3
    walk_at "go"
    refine ⟨(by show 1 ≤ sizeLine; decide), fun E0 hE => ?_⟩
    have sE := sD.trans (same_new (o := HO.lst [V.int 0]) hE)
    have dT3 := dp_same (same_new (o := HO.lst [V.int 0]) hE) dT2
    have d5 := dp_same (same_new (o := HO.lst [V.int 0]) hE) d4
    have eD5 : (upd H4 E0 (HO.lst [V.int 0])) D = some (.lst [V.ref T]) := same_new hE _ _ eD
    have eE5 : (upd H4 E0 (HO.lst [V.int 0])) E0 = some (.lst [V.int 0]) := upd_same
    generalize upd H4 E0 (HO.lst [V.int 0]) = H5 at sE dT3 d5 eD5 eE5
    clear sD dT2 d4 eD
    walk_at "go"
    refine ⟨z, p, fv, fs, rfl, d5, ho, by omega, fun H6 q s6 hq dq => ?_⟩
    obtain ⟨ms, hms, hmd⟩ : ∃ ms, SqL K H6 q ms ∧ DpAll K H6 ms (partsD (tl p) fs) := by
      cases dq with
      | lst a b => exact ⟨_, a, b⟩
    have hml := dpA_len hmd
    rw [partsD_len] at hml
    have sA := sE.trans s6
    have dT6 := dp_same s6 dT3
    have eD6 := s6 _ _ eD5
    have eE6 := s6 _ _ eE5
    clear sE d5 dT3 eD5 eE5 s6 dq hq
    have l6 := ho.2.1
    refine ⟨q, rfl, ⟨ms, hms⟩, fr_list (xs := ms) (fun i σ H' => ∃ (mv o7 o8 o9 : Option V) (F1 E1 : Addr) (acc : List V) (h : List (List Str × Nat)), σ = [some (.str z), some v, some (.str p), some fv, some (.ref F1), some (.ref E1), mv, o7, o8, o9] ∧ H' F1 = some (.lst acc) ∧ DpAll K H' acc (h.map tupS) ∧
      H' E1 = some (.lst (h.map fun c => vi c.2)) ∧ (∀ y ∈ h, y.2 ≤ (tl p).length) ∧ (∀ y ∈ h, y.1.length = i) ∧ h.length ≤ 500 ∧ cutsN (cutP p) (tl p) (fs.drop i) h = cutsN (cutP p) (tl p) fs [([], 0)] ∧ wtot (fs.drop i) (tl p) h = ways fs (tl p) 0 ∧ Same H6 H') ?_ ?_ ?_ ?_⟩
    · refine ⟨none, none, none, none, D, E0, [.ref T], [([], 0)], rfl, eD6, .cons dT6 .nil, eE6, fun y hy => ?_, fun y hy => ?_, by show 1 ≤ 500; decide, rfl, wtot_one _ _ _ _, Same.refl _⟩
      · rw [List.mem_singleton.mp hy]
        exact Nat.zero_le _
      · rw [List.mem_singleton.mp hy]
        rfl
    · rintro i σ H' hi ⟨mv, o7, o8, o9, F1, E1, acc, hc, rfl, e1, dA, e2, hle, hpl, h5, hcut, htot, sm⟩
      exact sm.seq hms
    · rintro i mv σ H' hx ⟨mv0, o7, o8, o9, F1, E1, acc, hc, rfl, e1, dA, e2, hle, hpl, h5, hcut, htot, sm⟩
      obtain ⟨dd, g1, g2⟩ := dpA_get hmd hx
      obtain ⟨fl, hf, hdr, rfl⟩ := partsD_get g1
      rw [hdr] at hcut htot
      have g3 := dp_same sm g2
      generalize fs.drop (i + 1) = rs at hdr hcut htot g3
      obtain ⟨m, rv, rfl, hrv, hrd⟩ : ∃ m rv, mv = .ref m ∧ SqL K H' m rv ∧ DpAll K H' rv ((List.range ((tl p).length + 1)).map fun a => PyData.list ((manyA fl rs (tl p) a).map pn)) := by
        cases g3 with
        | lst a b => exact ⟨_, _, rfl, a, b⟩
      walk_at "go"
      have hal := dpA_len dA
      rw [List.length_map] at hal
      have hi : i < fs.length := by have := (List.getElem?_eq_some_iff.mp hx).1; omega
      have few : ∀ j, ((hc.take j).flatMap (stepN (cutP p) (tl p) fl rs)).length ≤ 500 * 105 := fun j => by
        refine Nat.le_trans (flat_len (c := 105) fun y hy => ?_) (Nat.mul_le_mul_right _ (by rw [List.length_take]; omega))
        show (List.map _ _).length ≤ 105
        rw [List.length_map]
        have := manyA_few (f := fl) (fs := rs) (hle y (List.mem_of_mem_take hy))
        omega
      refine ⟨F1, E1, acc, hc.map fun c => vi c.2, rfl, SqL.of e1, SqL.of e2, fun D1 hD1 => lc2_it (n := hc.length) (walk_zip (by rw [List.length_map]; omega)) (fun j H7 => ∃ ac, H7 D1 = some (.lst ac) ∧ DpAll K H7 ac (((hc.take j).flatMap (stepN (cutP p) (tl p) fl rs)).map tupS) ∧ Same H' H7) ⟨[], upd_same, .nil, same_new hD1⟩ (fun j H7 _ ⟨_, _, _, s7⟩ => ⟨s7.seq (SqL.of e1), s7.seq (SqL.of e2)⟩) ?_ ?_⟩
      · rintro j y H7 H8 hj ⟨ac, ea, da, s7⟩ ⟨T1, u1, u2, rfl, hT1, rfl, hu1, hu2⟩
        obtain ⟨c, hc1, rfl⟩ := get_map hu2
        obtain ⟨pd, hp1, hp2⟩ := dpA_get dA hu1
        rw [List.getElem?_map, hc1] at hp1
        obtain rfl := Option.some.inj hp1
        obtain ⟨pt, ps, rfl, hps, hpd⟩ : ∃ pt ps, u1 = .ref pt ∧ SqT K H' pt ps ∧ DpAll K H' ps (c.1.map .str) := by
          cases hp2 with
          | tup a b => exact ⟨_, _, rfl, a, b⟩
        rw [dpA_strs.mp hpd] at hps
        have sT1 := same_new (o := HO.tup [V.ref pt, vi c.2]) hT1
        have hcl := hle c (List.mem_of_getElem? hc1)
        have hrl := dpA_len hrd
        rw [List.length_map, List.length_range] at hrl
        have hat : c.2 < rv.length := by omega
        obtain ⟨rd, hr1, hr2⟩ := dpA_get hrd (List.getElem?_eq_getElem hat)
        rw [List.getElem?_map, List.getElem?_range (by omega)] at hr1
        obtain rfl := Option.some.inj hr1
        have s8 := s7.trans sT1
        have ea8 := sT1 _ _ ea
        have da8 := dpA_same sT1 da
        have hps8 := Same.sqT s8 hps
        have hrv8 := s8.seq hrv
        have eT8 : (upd H7 T1 (HO.tup [V.ref pt, vi c.2])) T1 = some (.tup [V.ref pt, vi c.2]) := upd_same
        generalize upd H7 T1 (HO.tup [V.ref pt, vi c.2]) = H8 at s8 ea8 da8 hps8 hrv8 eT8
        obtain ⟨ma, hma, hmb⟩ : ∃ ma, rv[c.2] = .ref ma ∧ SqL K H' ma ((manyA fl rs (tl p) c.2).map vi) := by
          generalize rv[c.2] = y at hr2
          cases hr2 with
          | lst a b =>
            rw [dpA_nums.mp b] at a
            exact ⟨_, rfl, a⟩
        walk_at "go"
        refine ⟨_, _, rfl, SqT.of eT8, rfl, ?_⟩
        walk_at "go"
        refine ⟨rfl, ?_⟩
        walk_at "go"
        refine ⟨m, rv, c.2, rv[c.2], rfl, rfl, hrv8, atI_nat (List.getElem?_eq_getElem hat), ?_⟩
        have tk : hc.take (j + 1) = hc.take j ++ [c] := by rw [List.take_add_one, hc1]; rfl
        rw [hma]
        refine lc2_sq ⟨ma, rfl, .inl (s8.seq hmb)⟩ (fun k H9 => ∃ ac, H9 D1 = some (.lst ac) ∧ DpAll K H9 ac (((hc.take j).flatMap (stepN (cutP p) (tl p) fl rs) ++ ((manyA fl rs (tl p) c.2).take k).map fun n => (c.1 ++ [cutP p c.2 (c.2 + n)], c.2 + n)).map tupS) ∧ Same H' H9 ∧ Kp D1 H8 H9) ?_ ?_ ?_ ?_ (fun J h => h)
        · refine ⟨ac, ea8, ?_, s8, Kp.refl _ _⟩
          rw [List.take_zero, List.map_nil, List.append_nil]
          exact da8
        · rintro k H9 ⟨ac9, e9, d9, s9, k9⟩ a ea
          cases ea
          exact ⟨fun _ => s9.seq hmb, fun q => Kp.sqT k9 ea8 q⟩
        · rintro k y H9 hy ⟨ac9, e9, d9, s9, k9⟩
          obtain ⟨n, hn, rfl⟩ := get_map hy
          have hnl := manyA_le hcl (List.mem_of_getElem? hn)
          walk_at "go"
          refine ⟨rfl, ?_⟩
          walk_at "go"
          have hcp := hpl c (List.mem_of_getElem? hc1)
          refine ⟨pt, c.1.map V.str, rfl, .inl (Kp.sqT k9 ea8 hps8), ?_⟩
          walk_at "go"
          refine ⟨small_line (by omega), ?_⟩
          refine ⟨by rw [List.length_append, List.length_map]; exact small_line (by show _ + 1 ≤ 1000; omega), fun r hr0 => ?_⟩
          have eD9 : (upd H9 r (HO.tup (List.map V.str c.1 ++ [V.str (cutS p (some (c.2 : Int)) (some ((c.2 : Int) + (n : Int))))]))) D1 = some (.lst ac9) := by rw [upd_ne (ne_of_none e9 hr0)]; exact e9
          have sr := same_new (o := HO.tup (List.map V.str c.1 ++ [V.str (cutS p (some (c.2 : Int)) (some ((c.2 : Int) + (n : Int))))])) hr0
          have l9 := dpA_len d9
          rw [List.length_map, List.length_append, List.length_map, List.length_take] at l9
          have f1 := few j
          have f2 := manyA_few (f := fl) (fs := rs) hcl
          refine ⟨ac9, eD9, by rw [sizeLine_eq]; omega, _, upd_same, ?_, same_upd (s9.trans sr) hD1, fun u o nu hu => by rw [upd_ne nu]; exact sr _ _ (k9 u o nu hu)⟩
          have hk1 : ((manyA fl rs (tl p) c.2).take (k + 1)).map (fun n => (c.1 ++ [cutP p c.2 (c.2 + n)], c.2 + n)) = ((manyA fl rs (tl p) c.2).take k).map (fun n => (c.1 ++ [cutP p c.2 (c.2 + n)], c.2 + n)) ++ [(c.1 ++ [cutP p c.2 (c.2 + n)], c.2 + n)] := by
            rw [List.take_add_one, hn, List.map_append]; rfl
          rw [hk1, ← List.append_assoc, List.map_append]
          have kt : KT K (upd H9 r (HO.tup (List.map V.str c.1 ++ [V.str (cutS p (some (c.2 : Int)) (some ((c.2 : Int) + (n : Int))))]))) (upd (upd H9 r (HO.tup (List.map V.str c.1 ++ [V.str (cutS p (some (c.2 : Int)) (some ((c.2 : Int) + (n : Int))))]))) D1 (.lst (ac9 ++ [.ref r]))) := kt_lst eD9
          refine dpA_app (dpA_pure kt _ _ (tupS_pure _) (dpA_same sr d9)) (.cons (dp_pure kt _ _ (pureA_iff.mp (tupS_pure [(c.1 ++ [cutP p c.2 (c.2 + n)], c.2 + n)]) _ (List.mem_singleton.mpr rfl)) (.tup (SqT.of upd_same) ?_)) .nil)
          rw [List.map_append]
          refine dpA_app (dpA_strs.mpr rfl) ?_
          have ec : cutP p c.2 (c.2 + n) = cutS p (some (c.2 : Int)) (some ((c.2 : Int) + (n : Int))) := by
            unfold cutP
            rw [show (((c.2 + n : Nat) : Int)) = (c.2 : Int) + (n : Int) by omega]
          rw [← ec]
          exact .cons (.str _) .nil
        · rintro H9 ⟨ac9, e9, d9, s9, k9⟩
          refine ⟨ac9, e9, ?_, s9⟩
          rw [tk, List.flatMap_append, List.flatMap_singleton]
          rw [List.length_map, List.take_length] at d9
          exact d9
      · rintro H7 ⟨ac, ea, da, s7⟩
        rw [List.take_length] at da
        walk_at "go"
        have eE7 := s7 _ _ e2
        refine ⟨⟨_, SqL.of eE7⟩, fun E2 hE2 => lc2_it (n := (hc.map fun c => vi c.2).length) (walk_list (K := K) (a := E1) (xs := hc.map fun c => vi c.2)) (fun j H8 => H8 E2 = some (.lst (((hc.take j).flatMap (stepN (cutP p) (tl p) fl rs)).map fun c => vi c.2)) ∧ Same H7 H8) ⟨upd_same, same_new hE2⟩ (fun j H8 _ ⟨_, s8⟩ => s8.seq (SqL.of eE7)) ?_ ?_⟩
        · rintro j y H8 H8b hj ⟨e8, s8⟩ ⟨eH, hy⟩
          rw [eH]
          clear eH H8b
          obtain ⟨c, hc1, rfl⟩ := get_map hy
          have hcl := hle c (List.mem_of_getElem? hc1)
          have hrl := dpA_len hrd
          rw [List.length_map, List.length_range] at hrl
          have hat : c.2 < rv.length := by omega
          obtain ⟨rd, hr1, hr2⟩ := dpA_get hrd (List.getElem?_eq_getElem hat)
          rw [List.getElem?_map, List.getElem?_range (by omega)] at hr1
          obtain rfl := Option.some.inj hr1
          have s78 := s7.trans s8
          obtain ⟨ma, hma, hmb⟩ : ∃ ma, rv[c.2] = .ref ma ∧ SqL K H' ma ((manyA fl rs (tl p) c.2).map vi) := by
            generalize rv[c.2] = y at hr2
            cases hr2 with
            | lst a b =>
              rw [dpA_nums.mp b] at a
              exact ⟨_, rfl, a⟩
          walk_at "go"
          refine ⟨rfl, ?_⟩
          walk_at "go"
          refine ⟨m, rv, c.2, rv[c.2], rfl, rfl, s78.seq hrv, atI_nat (List.getElem?_eq_getElem hat), ?_⟩
          have tk : hc.take (j + 1) = hc.take j ++ [c] := by rw [List.take_add_one, hc1]; rfl
          rw [hma]
          refine lc2_sq ⟨ma, rfl, .inl (s78.seq hmb)⟩ (fun k H9 => H9 E2 = some (.lst (((hc.take j).flatMap (stepN (cutP p) (tl p) fl rs) ++ ((manyA fl rs (tl p) c.2).take k).map fun n => (c.1 ++ [cutP p c.2 (c.2 + n)], c.2 + n)).map fun c => vi c.2)) ∧ Same H7 H9 ∧ Kp E2 H8 H9) ?_ ?_ ?_ ?_ (fun J h => h)
          · refine ⟨?_, s8, Kp.refl _ _⟩
            rw [List.take_zero, List.map_nil, List.append_nil]
            exact e8
          · rintro k H9 ⟨e9, s9, k9⟩ a ea
            cases ea
            exact ⟨fun _ => (s7.trans s9).seq hmb, fun q => Kp.sqT k9 e8 q⟩
          · rintro k y H9 hy ⟨e9, s9, k9⟩
            obtain ⟨n, hn, rfl⟩ := get_map hy
            walk_at "go"
            refine ⟨rfl, ?_⟩
            walk_at "go"
            have f1 := few j
            have f2 := manyA_few (f := fl) (fs := rs) hcl
            have hk1 : ((manyA fl rs (tl p) c.2).take (k + 1)).map (fun n => (c.1 ++ [cutP p c.2 (c.2 + n)], c.2 + n)) = ((manyA fl rs (tl p) c.2).take k).map (fun n => (c.1 ++ [cutP p c.2 (c.2 + n)], c.2 + n)) ++ [(c.1 ++ [cutP p c.2 (c.2 + n)], c.2 + n)] := by
              rw [List.take_add_one, hn, List.map_append]; rfl
            refine ⟨_, e9, ?_, ?_, same_upd s9 hE2, fun u o nu hu => by rw [upd_ne nu]; exact k9 u o nu hu⟩
            · rw [List.length_map, List.length_append, List.length_map, List.length_take, sizeLine_eq]
              omega
            · have eV : vi (c.2 + n) = V.int ((c.2 : Int) + (n : Int)) := by
                show V.int (((c.2 + n : Nat)) : Int) = _
                rw [show (((c.2 + n : Nat) : Int)) = (c.2 : Int) + (n : Int) by omega]
              rw [upd_same, hk1]
              simp only [List.map_append, List.map_cons, List.map_nil, List.append_assoc]
              rw [eV]
          · rintro H9 ⟨e9, s9, k9⟩
            refine ⟨?_, s9⟩
            rw [tk, List.flatMap_append, List.flatMap_singleton]
            rw [List.length_map, List.take_length] at e9
            exact e9
        · rintro H8 ⟨e8, s8⟩
          rw [List.length_map, List.take_length] at e8
          walk_at "go"
          have ea8 := s8 _ _ ea
          have da8 := dpA_same s8 da
          have lac := dpA_len da
          rw [List.length_map] at lac
          have fewA := few hc.length
          rw [List.take_length] at fewA
          refine ⟨_, _, rfl, lenL (SqL.of ea8), ?_⟩
          walk_at "go"
          have tot2 := (wtot_flat (cutP p) (tl p) fl rs hc).trans htot
          have lt2 := len_wtot (fs := rs) (p := tl p) (h := hc.flatMap (stepN (cutP p) (tl p) fl rs)) step_pos
          by_cases big : 500 < ac.length
          · refine r_yes (by omega) ?_
            rcases h with ⟨h1, _⟩ | ⟨_, er⟩
            · omega
            · walk_at "go"
              exact rzM (by decide +kernel) (er.same (((sA.trans sm).trans s7).trans s8))
          · refine r_no (by omega) ?_
            walk_at "go"
            refine ⟨_, _, _, _, D1, E2, ac, hc.flatMap (stepN (cutP p) (tl p) fl rs), rfl, ea8, da8, e8, step_le hle, fun y hy => ?_, by omega, hcut, tot2, (sm.trans s7).trans s8⟩
            obtain ⟨x1, hx1, hx2⟩ := List.mem_flatMap.mp hy
            obtain ⟨n, _, rfl⟩ := List.mem_map.mp hx2
            show (x1.1 ++ [_]).length = i + 1
            rw [List.length_append, hpl x1 hx1]; rfl
    · rintro σ H' ⟨mv, o7, o8, o9, F1, E1, acc, hc, rfl, e1, dA, e2, hle, hpl, h5, hcut, htot, sm⟩
      rw [hml, List.drop_length] at hcut
      walk_at "go"
      have hfin : hc.length = ways fs (tl p) 0 := by
        have e1 : hc = cutsN (cutP p) (tl p) fs [([], 0)] := hcut
        rw [e1, cuts_len ho.1, wtot_one]
      rcases h with ⟨_, k⟩ | ⟨h1, _⟩
      · refine ⟨F1, acc, rfl, .inl ⟨SqL.of e1, fun l hl => k _ _ ((sA.trans sm).trans (same_new hl)) ?_⟩⟩
        have e1 : hc = cutsN (cutP p) (tl p) fs [([], 0)] := hcut
        unfold readD
        rw [← e1]
        exact .tup (SqT.of upd_same) (dpA_same (same_new hl) dA)
      · omega
end
end K4

/-! L19a -/


namespace K1
open PySem L2
abbrev sLPaper : Stmt := top 54
abbrev nLPaper : List Str := ["_law_bag", "_law_signs", "_law_most", "_law_told", "_law_k"]
theorem scLPaper : FnScope nLPaper ["_law_bag", "_law_signs", "_law_most"] (defScope sLPaper) := ⟨rfl, rfl, rfl, by decide +kernel, rfl, by decide +kernel, by decide +kernel⟩
def spPaperOf : Sp := fun vs H Q _ => ∃ (b : Addr) (z : Str) (m : Nat) (n : Nat), vs = [.ref b, .str z, .int m] ∧ IsBag H b n ∧ n + m + 1 ≤ 2 ^ 40 ∧ z.length ≤ 1000 ∧ 1 ≤ z.length ∧ m ≤ 1000 ∧
  ∀ (y : Str) H', y.length ≤ m → (∀ c ∈ y.cps.toList, c ∈ z.cps.toList) → IsBag H' b (n + m + 1) → Off b H H' → Q (.str y) H'
theorem IsBag.new {H : Hp} {b p : Addr} {n : Nat} {o : HO} (h : IsBag H b n) (hp : H p = none) : IsBag (upd H p o) b n := by
  obtain ⟨d, s, c, e, r⟩ := h
  exact ⟨d, s, c, by rw [upd_ne (ne_of_none e hp)]; exact e, r⟩
theorem IsBag.ne {H : Hp} {b p : Addr} {n : Nat} (h : IsBag H b n) (hp : H p = none) : p ≠ b := fun q => by
  obtain ⟨_, _, _, e, _⟩ := h
  rw [q, e] at hp; cases hp
section
variable {P : Program} {w : World} {K : PySem.W.Frag} {mg : Str → Option Value} {base : Heap}
theorem ok_paperOf {f : Addr} {fd : FuncData} (F : Fun K "_law_paper" "_law_paper" sLPaper f fd) (B : Bl mg) (Op : OPick P w K mg base) (Oo : OOneOf P w K mg base) :
    FnOk P w K mg base CX0 3 f fd ["_law_bag", "_law_signs", "_law_most"] spPaperOf := by
  refine F.ok scLPaper (fun vs H Q E h => ?_) (fun cdv A outer s H vs Q E hr h => ?_)
  · obtain ⟨b, z, m, n, rfl, _⟩ := h
    rfl
  · obtain ⟨b, z, m, n, rfl, hb, hn, hz, hz1, hm, k⟩ := h
    have hr1 : Room 1 _ := hr.mono (by decide)
    refine ⟨_, (pss_cons (ps_set (i := 3) scLPaper.nd rfl (Or.inl rfl) pe_str) (pss_cons (ps_for PassesOwn.never rfl (pi_range1 rfl B.range (pa_cons (pe_own Op (hr.mono (by omega)) (pa_cons (pv 0) (pa_cons (pe_op op_add (pv 2) pe_int) pa_nil))) pa_nil)) (pg_name (i := 4) scLPaper.nd rfl (Or.inl rfl)) (pss_one (ps_set (i := 3) scLPaper.nd rfl (Or.inl rfl) (pe_op op_add_str (pv 3) (pe_own Oo (hr.mono (by omega)) (pa_cons (pv 0) (pa_cons (pv 1) pa_nil))))))) (pss_one (ps_ret (pv 3))))), ?_⟩
    try dsimp only [cxOf, Cx.nox, Cx.wish]
    walk_at "go"
    refine ⟨_, _, n, rfl, hb, by omega, by omega, fun r H1 r0 r1 hb1 off1 => ?_⟩
    walk_at "go"
    refine ⟨by omega, by omega, fr_range (lo := 0) (n := r.toNat) (fun i σ H' => ∃ (kk : Option V) (y : Str), σ = [some (.ref b), some (.str z), some (.int m), some (.str y), kk] ∧ y.length = i ∧ (∀ c ∈ y.cps.toList, c ∈ z.cps.toList) ∧
        IsBag H' b (n + 1 + i) ∧ Off b H H') ?_ ?_ ?_⟩
    · exact ⟨none, _, rfl, rfl, (fun c hc => absurd (show c ∈ ([] : List Nat) from hc) (by simp)), hb1, off1⟩
    · rintro i σ H' hi ⟨kk, y, rfl, ly, hy, hb', off⟩
      walk_at "go"
      refine ⟨_, _, _, _, rfl, hb', by omega, .inl ⟨z, rfl, rfl, hz⟩, ?_, fun x H2 hx hb2 off2 => ?_⟩
      · intro q
        have := congrArg List.length q
        rw [List.length_map, sgn_len, List.length_nil] at this
        omega
      obtain ⟨c, hc, rfl⟩ := mem_sgn hx
      walk_at "go"
      refine ⟨_, _, rfl, rfl, ?_, ?_⟩
      · rw [ly]
        exact small_line (by show i + 1 ≤ 1000; omega)
      walk_at "go"
      refine ⟨_, _, rfl, ?_, ?_, hb2, off.trans off2⟩
      · rw [len_cps, app_cps, List.length_append, ← len_cps, ly]
        rfl
      · intro d hd
        rw [app_cps] at hd
        rcases List.mem_append.mp hd with hd | hd
        · exact hy d hd
        · have : d = c := by simpa using hd
          rw [this]; exact hc
    · rintro σ H' ⟨kk, y, rfl, ly, hy, hb', off⟩
      walk_at "go"
      exact k y H' (by omega) hy (hb'.mono (by omega)) off
end
end K1
namespace K4
open PySem L2 K1
theorem bag_kt {H H' : Hp} {b : Addr} {n : Nat} (h : IsBag H b n) (k : Kp b H H') : KT K H H' := fun a xs q => by
  obtain ⟨d, s, c, e, _⟩ := h
  exact Kp.sqT k e q
theorem bag_upd {H : Hp} {b D : Addr} {n : Nat} {o : HO} (h : IsBag H b n) (nD : D ≠ b) : IsBag (upd H D o) b n := by
  obtain ⟨d, s, c, e, r⟩ := h
  exact ⟨d, s, c, by rw [upd_ne nD.symm]; exact e, r⟩
theorem kp_upd' {b L : Addr} {H H' : Hp} {o : HO} (k : Kp b H H') (h : H L = none) : Kp b H (upd H' L o) := fun c u n e => by
  rw [upd_ne (ne_of_none e h)]
  exact k c u n e
theorem r_ifJ {c : TT} {ta tb : TE} {σ : L2.St} {H : Hp} {Q : VK} (A : VK) (q : ∀ Q' : VK, (∀ x H', A x H' → Q' x H') → tIf c ta tb σ H Q') (key : ∀ x H', A x H' → Q x H') : tIf c ta tb σ H Q := q Q key
/-- a thing picked off a list of numbers -/
theorem pick_of {ys : List V} {xs : List Nat} {r : Int} (e : ys = xs.map vi) (h0 : 0 ≤ r) (h1 : r < ys.length ∨ ((ys.length : Int) < 2 ∧ r = 0)) (ne : xs ≠ []) : ∃ n : Nat, atI ys r = some (vi n) ∧ n ∈ xs := by
  subst e
  rw [List.length_map] at h1
  have := List.length_pos_iff.mpr ne
  obtain ⟨j, rfl⟩ : ∃ j : Nat, r = j := ⟨r.toNat, by omega⟩
  have hj : j < xs.length := by omega
  exact ⟨xs[j], atI_nat (by rw [List.getElem?_map, List.getElem?_eq_getElem hj]; rfl), List.getElem_mem _⟩
theorem tl_app (x y : Str) : tl (x ++ y) = tl x ++ tl y := K1.app_cps x y
theorem tl_cut_mid {z : Str} (i j : Nat) : tl (cutS z (some (i : Int)) (some (j : Int))) = ((tl z).drop i).take (j - i) := by
  show ((((tl z).drop (HT.sIx z.length 0 (some (i : Int)))).take (HT.sIx z.length z.length (some (j : Int)) - HT.sIx z.length 0 (some (i : Int)))).toArray).toList = _
  rw [HT.sIx_nat, HT.sIx_nat]
  have hl : z.length = (tl z).length := len_tl z
  by_cases h : i ≤ z.length
  · rw [Nat.min_eq_left h]
    by_cases h2 : j ≤ z.length
    · rw [Nat.min_eq_left h2]
    · rw [Nat.min_eq_right (by omega), List.take_of_length_le (by rw [List.length_drop]; omega), List.take_of_length_le (by rw [List.length_drop]; omega)]
  · have hi : min i z.length = z.length := Nat.min_eq_right (by omega)
    rw [hi]
    have e1 : (tl z).drop i = [] := List.drop_eq_nil_of_le (by omega)
    have e2 : (tl z).drop z.length = [] := List.drop_eq_nil_of_le (by omega)
    rw [e1, e2]
    simp
theorem tl_cut_to {x : Str} (j : Nat) : tl (cutS x none (some (j : Int))) = (tl x).take j := by
  have hl := len_tl x
  unfold cutS
  rw [HT.sIx_none, HT.sIx_nat]
  show ((tl x).drop 0).take (min j x.length - 0) = _
  rw [List.drop_zero, Nat.sub_zero]
  by_cases h : j ≤ x.length
  · rw [Nat.min_eq_left h]
  · rw [Nat.min_eq_right (by omega), List.take_of_length_le (by omega), List.take_of_length_le (by omega)]
theorem tl_cut_from {x : Str} (i : Nat) : tl (cutS x (some (i : Int)) none) = (tl x).drop i := by
  have hl := len_tl x
  unfold cutS
  rw [HT.sIx_none, HT.sIx_nat]
  show ((tl x).drop (min i x.length)).take (x.length - min i x.length) = _
  by_cases h : i ≤ x.length
  · rw [Nat.min_eq_left h, List.take_of_length_le (by rw [List.length_drop]; omega)]
  · rw [Nat.min_eq_right (by omega)]
    have e1 : (tl x).drop i = [] := List.drop_eq_nil_of_le (by omega)
    have e2 : (tl x).drop x.length = [] := List.drop_eq_nil_of_le (by omega)
    rw [e1, e2]; simp
theorem joinL_ones : ∀ l : List Nat, TL.joinL ([] : List Nat) (l.map fun c => [c]) = l
  | [] => rfl
  | [c] => rfl
  | c :: d :: l => by
    show [c] ++ ([] ++ TL.joinL [] ((d :: l).map fun c => [c])) = _
    rw [joinL_ones (d :: l)]
    rfl
theorem tl_join1 (l : List Nat) : tl (Txt.join "" (l.map one)) = l := by
  rw [tl_joinL, List.map_map]
  have e : (tl ("" : Str)) = [] := by decide +kernel
  rw [e]
  exact joinL_ones l
theorem cut_mem {x : Str} {lo hi : Option Int} : ∀ c ∈ tl (cutS x lo hi), c ∈ tl x := fun c hc => by
  unfold cutS at hc
  have h : c ∈ ((tl x).drop (HT.sIx x.length 0 lo)).take (HT.sIx x.length x.length hi - HT.sIx x.length 0 lo) := hc
  exact List.mem_of_mem_drop (List.mem_of_mem_take h)
section
variable {P : Program} {w : World} {K : PySem.W.Frag} {mg : Str → Option Value} {base : Heap} {dO dI : Addr}
/-- a sign picked -/
theorem one_sign {z : Str} {b : Addr} {n : Nat} {H : Hp} {Q : VK} (gz : Good z) (hb : IsBag H b n) (hn : n ≤ 2 ^ 40) (k : ∀ c H', c ∈ tl z → IsBag H' b (n + 1) → Off b H H' → Q (.str (one c)) H') : spOneOf K [.ref b, .str z] H Q E0 := by
  have z2 : 2 ≤ (K1.tl z).length := gz.lo
  have z12 : (K1.tl z).length ≤ 12 := gz.hi
  have lz : z.length = (K1.tl z).length := K1.len_tl' z
  refine ⟨b, _, _, n, rfl, hb, hn, .inl ⟨z, rfl, rfl, by omega⟩, ?_, fun x H2 hx hb2 of2 => ?_⟩
  · intro q
    have := congrArg List.length q
    rw [List.length_map, sgn_len, List.length_nil] at this
    omega
  · obtain ⟨c, hc, rfl⟩ := mem_sgn hx
    exact k c H2 hc hb2 of2
end
end K4

/-! L19b -/


namespace K4
open PySem L2 K1
abbrev sLSignsOf : Stmt := top 53
abbrev nLSignsOf : List Str := ["_law_bag", "_law_most", "_law_many", "_law_every", "_law_at", "_law_told", "_law_k"]
theorem scLSignsOf : FnScope nLSignsOf ["_law_bag", "_law_most"] (defScope sLSignsOf) := ⟨rfl, rfl, rfl, by decide +kernel, rfl, by decide +kernel, by decide +kernel⟩
abbrev sLWideSigns : Stmt := top 64
abbrev nLWideSigns : List Str := ["_law_bag", "_law_every", "_law_at", "_law_told", "_law_k"]
theorem scLWideSigns : FnScope nLWideSigns ["_law_bag"] (defScope sLWideSigns) := ⟨rfl, rfl, rfl, by decide +kernel, rfl, by decide +kernel, by decide +kernel⟩
def al (j : Nat) : Nat := (tl K4.ALL).getD j 0
theorem al_lt : ∀ i < 36, ∀ j < 36, i < j → al i < al j := by decide +kernel
theorem al_mem : ∀ i < 36, al i ∈ tl K4.ALL := by decide +kernel
theorem all36 : (tl K4.ALL).length = 36 := by decide +kernel
/-- signs off the alphabet, by their places -/
structure Js (js : List Nat) (y : Str) (a : Nat) : Prop where
  eq : tl y = js.map al
  up : js.Pairwise (· < ·)
  lt : ∀ j ∈ js, j < a
theorem Js.next {js : List Nat} {y : Str} {a c : Nat} (h : Js js y a) (hc : a ≤ c) : Js (js ++ [c]) (y ++ one (al c)) (c + 1) := by
  refine ⟨?_, ?_, fun j hj => ?_⟩
  · rw [List.map_append, ← h.eq]
    exact K1.app_cps y _
  · rw [List.pairwise_append]
    exact ⟨h.up, by simp, fun i hi j hj => by rw [List.mem_singleton.mp hj]; have := h.lt i hi; omega⟩
  · rcases List.mem_append.mp hj with q | q
    · have := h.lt j q; omega
    · rw [List.mem_singleton.mp q]; omega
theorem Js.good {js : List Nat} {y : Str} {a : Nat} (h : Js js y a) (ha : a ≤ 36) (l2 : 2 ≤ js.length) (l12 : js.length ≤ 12) : Good y := by
  have hl : (K1.tl y).length = js.length := by
    have : (tl y).length = js.length := by rw [h.eq, List.length_map]
    exact this
  refine ⟨by omega, by omega, ?_, ?_⟩
  · have : (tl y).Pairwise (· < ·) := by
      rw [h.eq, List.pairwise_map]
      exact List.Pairwise.imp_of_mem (fun {i j} hi hj q => al_lt i (by have := h.lt i hi; omega) j (by have := h.lt j hj; omega) q) h.up
    exact this
  · intro c hc
    have hc' : c ∈ tl y := hc
    rw [h.eq] at hc'
    obtain ⟨j, hj, rfl⟩ := List.mem_map.mp hc'
    exact al_mem j (by have := h.lt j hj; omega)
theorem ix_all {j : Nat} (hj : j < 36) {Q : VK} {H : Hp} (q : Q (.str (one (al j))) H) : rIxS (.str K4.ALL) (.int (j : Int)) H Q :=
  r_ixS (small_line (by decide +kernel)) (atI_nat (getD_at (xs := tl K4.ALL) (d := 0) (by rw [all36]; exact hj))) q
def spSigns (x : V → Prop) : Sp := fun vs H Q _ => ∃ (b : Addr) (y : List V) (n : Nat), vs = .ref b :: y ∧ (∀ v ∈ y, x v) ∧ y.length ≤ 1 ∧ IsBag H b n ∧ n ≤ 2 ^ 39 ∧ ∀ H' z, Good z → IsBag H' b (n + 40) → Kp b H H' → Q (.str z) H'
def spSignsOf : Sp := fun vs H Q _ => ∃ (b : Addr) (n : Nat), vs = [.ref b, .int 4] ∧ IsBag H b n ∧ n ≤ 2 ^ 39 ∧ ∀ H' z, Good z → (tl z).length ≤ 4 → IsBag H' b (n + 40) → Kp b H H' → Q (.str z) H'
def spWideSigns : Sp := fun vs H Q _ => ∃ (b : Addr) (n : Nat), vs = [.ref b] ∧ IsBag H b n ∧ n ≤ 2 ^ 38 ∧ ∀ H' z, Good z → IsBag H' b (n + 50) → Kp b H H' → Q (.str z) H'
section
variable {P : Program} {w : World} {K : PySem.W.Frag} {mg : Str → Option Value} {base : Heap} {dO dI : Addr}
/-- a number picked off a list that has just been written -/
theorem pick_new {H : Hp} {Q : VK} {b : Addr} {n i : Nat} {m : Int} {σ : L2.St} {ys : List V} {xs : List Nat} (hb : IsBag H b n) (e : ys = xs.map vi) (em : m = (ys.length : Int)) (hv : ∀ (H : Hp) (Q : VK), Q (.ref b) H → tVar i σ H Q) (hl : ys.length ≤ 1000) (ne : 2 ≤ xs.length) (hn : n ≤ 2 ^ 40)
    (k : ∀ (c : Nat) H', c ∈ xs → IsBag H' b (n + 1) → Kp b H H' → Q (vi c) H') : ys.length ≤ sizeLine ∧ ∀ p, H p = none → tCall spPick [] E0 (tCons (tVar i) (tCons (tC (V.int m)) tNil)) σ (upd H p (.lst ys)) (fun y H1 => rIxL K (.ref p) y H1 Q) := by
  refine ⟨small_line hl, fun p hp => ?_⟩
  refine r_call (r_cons (hv _ _ ?_))
  walk_at "go"
  refine ⟨b, _, n, rfl, hb.new hp, hn, by omega, fun r H2 r0 r1 hb2 of2 => ?_⟩
  have npb := hb.ne hp
  obtain ⟨c, ec, hc⟩ := pick_of (ys := ys) (xs := xs) e r0 (by rw [← em]; rcases r1 with q | q; exact .inl (by omega); exact .inr q) (fun q => by rw [q] at ne; simp at ne)
  exact r_ixL (SqL.of (of2.at npb upd_same)) ec (k c H2 hc hb2 ((Same.kp (same_new hp)).trans of2.kp))
theorem ok_signsOf {f : Addr} {fd : FuncData} (F : Fun K "_law_signs_of" "_law_signs_of" sLSignsOf f fd) (B : Bl mg) (Op : OPick P w K mg base) : FnOk P w K mg base CX0 2 f fd ["_law_bag", "_law_most"] spSignsOf := by
  refine F.ok scLSignsOf (fun vs H Q E h => ?_) (fun cdv A outer s H vs Q E hr h => ?_)
  · obtain ⟨b, n, rfl, _⟩ := h
    rfl
  · obtain ⟨b, n, rfl, hb, hn, k⟩ := h
    refine ⟨_, (pss_cons (ps_set (i := 2) scLSignsOf.nd rfl (Or.inl rfl) (pe_callB (call_min2 rfl) (by rfl) B.min (by decide +kernel) (pa_cons (pv 1) (pa_cons (pe_ix ix_list (pe_lst (pa_cons pe_int (pa_cons pe_int (pa_cons pe_int (pa_cons pe_int (pa_cons pe_int (pa_cons pe_int pa_nil))))))) (pe_own Op (hr.mono (by omega)) (pa_cons (pv 0) (pa_cons pe_int pa_nil))) (fun _ _ => rfl)) pa_nil)))) (pss_cons (ps_set (i := 3) scLSignsOf.nd rfl (Or.inl rfl) pe_str) (pss_cons (ps_set (i := 4) scLSignsOf.nd rfl (Or.inl rfl) (pe_ix ix_list (pe_lst (pa_cons pe_int (pa_cons pe_int (pa_cons pe_int (pa_cons pe_int (pa_cons pe_int (pa_cons pe_int (pa_cons pe_int (pa_cons pe_int pa_nil))))))))) (pe_own Op (hr.mono (by omega)) (pa_cons (pv 0) (pa_cons pe_int pa_nil))) (fun _ _ => rfl))) (pss_cons (ps_set (i := 5) scLSignsOf.nd rfl (Or.inl rfl) (pe_ix ix_str (pv 3) (pv 4) (fun _ _ => rfl))) (pss_cons (ps_for PassesOwn.never rfl (pi_range1 rfl B.range (pa_cons (pe_op op_sub (pv 2) pe_int) pa_nil)) (pg_name (i := 6) scLSignsOf.nd rfl (Or.inl rfl)) (pss_cons (ps_set (i := 4) scLSignsOf.nd rfl (Or.inl rfl) (pe_op op_add (pe_op op_add (pv 4) pe_int) (pe_ix ix_list (pe_lst (pa_cons pe_int (pa_cons pe_int (pa_cons pe_int (pa_cons pe_int pa_nil))))) (pe_own Op (hr.mono (by omega)) (pa_cons (pv 0) (pa_cons pe_int pa_nil))) (fun _ _ => rfl)))) (pss_one (ps_set (i := 5) scLSignsOf.nd rfl (Or.inl rfl) (pe_op op_add_str (pv 5) (pe_ix ix_str (pv 3) (pv 4) (fun _ _ => rfl))))))) (pss_one (ps_ret (pv 5)))))))), ?_⟩
    try dsimp only [cxOf, Cx.nox, Cx.wish]
    walk_at "go"
    refine pick_new (xs := [2, 2, 2, 3, 3, 4]) hb rfl rfl (fun _ _ q => ⟨_, rfl, q⟩) (by decide) (by decide) (by omega) (fun many H1 hm hb1 k1 => ?_)
    have hm24 : 2 ≤ many ∧ many ≤ 4 := by simp only [List.mem_cons, List.not_mem_nil, or_false] at hm; omega
    walk_at "go"
    refine ⟨_, _, rfl, ?_⟩
    walk_at "go"
    have hmin : (if (many : Int) < 4 then (many : Int) else 4) = (many : Int) := by
      by_cases q : (many : Int) < 4
      · rw [if_pos q]
      · rw [if_neg q]; omega
    rw [hmin]
    refine pick_new (xs := [0, 0, 0, 1, 8, 9, 10, 20]) hb1 rfl rfl (fun _ _ q => ⟨_, rfl, q⟩) (by decide) (by decide) (by omega) (fun a H2 ha hb2 k2 => ?_)
    have ha20 : a ≤ 20 := by simp only [List.mem_cons, List.not_mem_nil, or_false] at ha; omega
    walk_at "go"
    refine ix_all (by omega) ?_
    walk_at "go"
    rw [show ((many : Int) - 1) = ((many - 1 : Nat) : Int) by omega]
    refine ⟨by omega, by omega, fr_range (lo := 0) (n := many - 1) (fun i σ H' => ∃ (o6 : Option V) (js : List Nat) (y : Str) (c : Nat), σ = [some (.ref b), some (.int 4), some (vi many), some (.str K4.ALL), some (vi c), some (.str y), o6] ∧ Js js y (c + 1) ∧ js.length = i + 1 ∧ c ≤ a + 2 * i ∧
      IsBag H' b (n + 2 + i) ∧ Kp b H H') ⟨none, [a], one (al a), a, rfl, ⟨rfl, by simp, fun j hj => by rw [List.mem_singleton.mp hj]; omega⟩, rfl, by omega, hb2, k1.trans k2⟩ ?_ ?_⟩
    · rintro i σ H3 hi ⟨o6, js, y, c, rfl, hJ, hjl, hc, hb3, k3⟩
      walk_at "go"
      refine pick_new (xs := [0, 0, 0, 1]) hb3 rfl rfl (fun _ _ q => ⟨_, rfl, q⟩) (by decide) (by decide) (by omega) (fun d H4 hd hb4 k4 => ?_)
      have hd1 : d ≤ 1 := by simp only [List.mem_cons, List.not_mem_nil, or_false] at hd; omega
      walk_at "go"
      have e1 : ((c : Int) + 1 + (d : Int)) = ((c + 1 + d : Nat) : Int) := by omega
      rw [e1]
      refine ix_all (by omega) ?_
      have hyl : y.length = js.length := by rw [len_tl y, hJ.eq, List.length_map]
      refine ⟨y, _, rfl, rfl, small_line (by show y.length + 1 ≤ 1000; omega), ?_⟩
      walk_at "go"
      exact ⟨some (.int (0 + (i : Int))), js ++ [c + 1 + d], _, c + 1 + d, rfl, hJ.next (by omega), by rw [List.length_append, hjl]; rfl, by omega, hb4, k3.trans k4⟩
    · rintro σ H3 ⟨o6, js, y, c, rfl, hJ, hjl, hc, hb3, k3⟩
      walk_at "go"
      exact k H3 y (hJ.good (by omega) (by omega) (by omega)) (by rw [hJ.eq, List.length_map]; omega) (hb3.mono (by omega)) k3
abbrev OSignsOf (P : Program) (w : World) (K : PySem.W.Frag) (mg : Str → Option Value) (base : Heap) : Prop := Own P w K mg base "_law_signs_of" 2 ["_law_bag", "_law_most"] spSignsOf
theorem ok_wideSigns {f : Addr} {fd : FuncData} (F : Fun K "_law_wide_signs" "_law_wide_signs" sLWideSigns f fd) (B : Bl mg) (Op : OPick P w K mg base) (Oso : OSignsOf P w K mg base) : FnOk P w K mg base CX0 3 f fd ["_law_bag"] spWideSigns := by
  refine F.ok scLWideSigns (fun vs H Q E h => ?_) (fun cdv A outer s H vs Q E hr h => ?_)
  · obtain ⟨b, n, rfl, _⟩ := h
    rfl
  · obtain ⟨b, n, rfl, hb, hn, k⟩ := h
    refine ⟨_, (pss_cons (ps_if (pt_cmpR op_gt (pe_own Op (hr.mono (by omega)) (pa_cons (pv 0) (pa_cons pe_int pa_nil))) pe_int (nomark _)) (pss_one (ps_ret (pe_own Oso (hr.mono (by omega)) (pa_cons (pv 0) (pa_cons pe_int pa_nil))))) pss_nil) (pss_cons (ps_set (i := 1) scLWideSigns.nd rfl (Or.inl rfl) pe_str) (pss_cons (ps_set (i := 2) scLWideSigns.nd rfl (Or.inl rfl) (pe_own Op (hr.mono (by omega)) (pa_cons (pv 0) (pa_cons pe_int pa_nil)))) (pss_cons (ps_set (i := 3) scLWideSigns.nd rfl (Or.inl rfl) (pe_ix ix_str (pv 1) (pv 2) (fun _ _ => rfl))) (pss_cons (ps_for PassesOwn.never rfl (pi_range1 rfl B.range (pa_cons (pe_op op_add pe_int (pe_own Op (hr.mono (by omega)) (pa_cons (pv 0) (pa_cons pe_int pa_nil)))) pa_nil)) (pg_name (i := 4) scLWideSigns.nd rfl (Or.inl rfl)) (pss_cons (ps_set (i := 2) scLWideSigns.nd rfl (Or.inl rfl) (pe_op op_add (pe_op op_add (pv 2) pe_int) (pe_ix ix_list (pe_lst (pa_cons pe_int (pa_cons pe_int (pa_cons pe_int pa_nil)))) (pe_own Op (hr.mono (by omega)) (pa_cons (pv 0) (pa_cons pe_int pa_nil))) (fun _ _ => rfl)))) (pss_one (ps_set (i := 3) scLWideSigns.nd rfl (Or.inl rfl) (pe_op op_add_str (pv 3) (pe_ix ix_str (pv 1) (pv 2) (fun _ _ => rfl))))))) (pss_one (ps_ret (pv 3)))))))), ?_⟩
    try dsimp only [cxOf, Cx.nox, Cx.wish]
    walk_at "go"
    refine ⟨b, _, n, rfl, hb, by omega, by decide, fun r0 H1 r00 r01 hb1 of1 => ?_⟩
    walk_at "go"
    refine r_iteN' (fun h0 => ?_) (fun h0 => ?_)
    · walk_at "go"
      exact ⟨b, n + 1, rfl, hb1, by omega, fun H2 z gz lz hb2 k2 => k H2 z gz (hb2.mono (by omega)) (of1.kp.trans k2)⟩
    · walk_at "go"
      refine ⟨b, _, n + 1, rfl, hb1, by omega, by decide, fun r1 H2 r10 r11 hb2 of2 => ?_⟩
      obtain ⟨a, rfl⟩ : ∃ a : Nat, r1 = (a : Int) := ⟨r1.toNat, by omega⟩
      walk_at "go"
      refine ix_all (by omega) ?_
      walk_at "go"
      refine ⟨b, _, n + 2, rfl, hb2, by omega, by decide, fun r2 H3 r20 r21 hb3 of3 => ?_⟩
      obtain ⟨m, rfl⟩ : ∃ m : Nat, r2 = (m : Int) := ⟨r2.toNat, by omega⟩
      have k3 := of1.kp.trans (of2.kp.trans of3.kp)
      walk_at "go"
      rw [show (4 + (m : Int)) = ((4 + m : Nat) : Int) by omega]
      refine ⟨by omega, by omega, fr_range (lo := 0) (n := 4 + m) (fun i σ H' => ∃ (o6 : Option V) (js : List Nat) (y : Str) (c : Nat), σ = [some (.ref b), some (.str K4.ALL), some (vi c), some (.str y), o6] ∧ Js js y (c + 1) ∧ js.length = i + 1 ∧ c ≤ a + 2 * i ∧
        IsBag H' b (n + 3 + i) ∧ Kp b H H') ⟨none, [a], one (al a), a, rfl, ⟨rfl, by simp, fun j hj => by rw [List.mem_singleton.mp hj]; omega⟩, rfl, by omega, hb3, k3⟩ ?_ ?_⟩
      · rintro i σ H3 hi ⟨o6, js, y, c, rfl, hJ, hjl, hc, hb3, k3⟩
        walk_at "go"
        refine pick_new (xs := [0, 0, 1]) hb3 rfl rfl (fun _ _ q => ⟨_, rfl, q⟩) (by decide) (by decide) (by omega) (fun d H4 hd hb4 k4 => ?_)
        have hd1 : d ≤ 1 := by simp only [List.mem_cons, List.not_mem_nil, or_false] at hd; omega
        walk_at "go"
        have e1 : ((c : Int) + 1 + (d : Int)) = ((c + 1 + d : Nat) : Int) := by omega
        rw [e1]
        refine ix_all (by omega) ?_
        have hyl : y.length = js.length := by rw [len_tl y, hJ.eq, List.length_map]
        refine ⟨y, _, rfl, rfl, small_line (by show y.length + 1 ≤ 1000; omega), ?_⟩
        walk_at "go"
        exact ⟨some (.int (0 + (i : Int))), js ++ [c + 1 + d], _, c + 1 + d, rfl, hJ.next (by omega), by rw [List.length_append, hjl]; rfl, by omega, hb4, k3.trans k4⟩
      · rintro σ H3 ⟨o6, js, y, c, rfl, hJ, hjl, hc, hb3, k3⟩
        walk_at "go"
        exact k H3 y (hJ.good (by omega) (by omega) (by omega)) (hb3.mono (by omega)) k3
end
end K4

/-! L19c -/


namespace K4
open PySem L2 K1
abbrev sLNameOf : Stmt := top 51
abbrev nLNameOf : List Str := ["_law_bag", "_law_taken", "_law_name", "_law_k", "_law_first", "_law_other"]
theorem scLNameOf : FnScope nLNameOf ["_law_bag", "_law_taken"] (defScope sLNameOf) := ⟨rfl, rfl, rfl, by decide +kernel, rfl, by decide +kernel, by decide +kernel⟩
abbrev sLNamesOf : Stmt := top 52
abbrev nLNamesOf : List Str := ["_law_bag", "_law_many", "_law_taken", "_law_told", "_law_k", "_law_name"]
theorem scLNamesOf : FnScope nLNamesOf ["_law_bag", "_law_many", "_law_taken"] (defScope sLNamesOf) := ⟨rfl, rfl, rfl, by decide +kernel, rfl, by decide +kernel, by decide +kernel⟩
/-! Names that are drawn. -/
theorem r_mod {H : Hp} {Q : VK} {i n : Nat} (hn : 0 < n) (q : Q (vi (i % n)) H) : rI (fun _ j => j ≠ 0) (fun i j => V.int (i.fmod j)) (.int (i : Int)) (.int (n : Int)) H Q := by
  refine ⟨_, _, rfl, rfl, by omega, ?_⟩
  show Q (.int ((i : Int).fmod (n : Int))) H
  rw [← Int.ofNat_fmod]
  exact q
theorem r_modC {H : Hp} {Q : VK} {i n : Nat} {x m : Int} (ex : x = (i : Int)) (hn : 0 < n) (q : Q (vi (i % n)) H) (em : m = (n : Int) := by rfl) : rI (fun _ j => 0 < j) (fun i j => V.int (i % j)) (.int x) (.int m) H Q := by
  subst ex em
  refine ⟨_, _, rfl, rfl, by omega, ?_⟩
  show Q (.int ((i : Int) % (n : Int))) H
  rw [← Int.natCast_emod]
  exact q
abbrev G12 : Str := "gjklmopqtxyz"
def NmG (x : Str) : Prop := 1 ≤ (tl x).length ∧ (tl x).length ≤ 6 ∧ (∀ c ∈ tl x, c ∈ tl AZ) ∧ ∃ c r, tl x = c :: r ∧ c ∈ tl G12
theorem no_g12 : ∀ y ∈ noNames, ∀ c ∈ (tl y).head?, c ∉ tl G12 := by decide +kernel
theorem g12_az : ∀ c ∈ tl G12, c ∈ tl AZ := by decide +kernel
theorem NmG.ok {x : Str} (h : NmG x) : NmOk x := by
  obtain ⟨h1, h2, h3, c, r, e, hc⟩ := h
  exact ⟨text_mk (by omega) (by omega) h3, fun q => no_g12 x q c (by rw [e]; rfl) hc⟩
def azc (j : Nat) : Nat := (tl AZ).getD j 0
theorem az26 : (tl AZ).length = 26 := by decide +kernel
theorem azc_inj : ∀ i < 26, ∀ j < 26, azc i = azc j → i = j := by decide +kernel
theorem azc_mem : ∀ i < 26, azc i ∈ tl AZ := by decide +kernel
theorem ix_az {j : Nat} (hj : j < 26) {Q : VK} {H : Hp} (q : Q (.str (one (azc j))) H) : rIxS (.str AZ) (.int (j : Int)) H Q :=
  r_ixS (small_line (by decide +kernel)) (atI_nat (getD_at (xs := tl AZ) (d := 0) (by rw [az26]; exact hj))) q
theorem one_str {K : PySem.W.Frag} {z : Str} {b : Addr} {n : Nat} {H : Hp} {Q : VK} (hz : z.length ≤ 1000) (ne : tl z ≠ []) (hb : IsBag H b n) (hn : n ≤ 2 ^ 40) (k : ∀ c H', c ∈ tl z → IsBag H' b (n + 1) → Off b H H' → Q (.str (one c)) H') : spOneOf K [.ref b, .str z] H Q E0 := by
  have lz := len_tl z
  have hp := List.length_pos_iff.mpr ne
  refine ⟨b, _, _, n, rfl, hb, hn, .inl ⟨z, rfl, rfl, hz⟩, ?_, fun x H2 hx hb2 of2 => ?_⟩
  · intro q
    have := congrArg List.length q
    rw [List.length_map, sgn_len, List.length_nil] at this
    omega
  · obtain ⟨c, hc, rfl⟩ := mem_sgn hx
    exact k c H2 hc hb2 of2
theorem app_lenS (x y : Str) : (x ++ y).length = x.length + y.length := by rw [len_tl, tl_app, List.length_append, ← len_tl, ← len_tl]
def spNameOf : Sp := fun vs H Q _ => ∃ (b t : Addr) (ts : List Str) (n : Nat), vs = [.ref b, .ref t] ∧ IsBag H b n ∧ n ≤ 2 ^ 39 ∧ H t = some (.lst (ts.map V.str)) ∧ t ≠ b ∧ ts.length ≤ 20 ∧
  ∀ H' x, NmG x → x ∉ ts → IsBag H' b (n + 8) → Kp b H H' → Q (.str x) H'
section
variable {P : Program} {w : World} {K : PySem.W.Frag} {mg : Str → Option Value} {base : Heap}
theorem ok_nameOf {f : Addr} {fd : FuncData} (F : Fun K "_law_name_of" "_law_name_of" sLNameOf f fd) (B : Bl mg) (Op : OPick P w K mg base) (Oo : OOneOf P w K mg base) : FnOk P w K mg base CX0 3 f fd ["_law_bag", "_law_taken"] spNameOf := by
  refine F.ok scLNameOf (fun vs H Q E h => ?_) (fun cdv A outer s H vs Q E hr h => ?_)
  · obtain ⟨b, t, ts, n, rfl, _⟩ := h
    rfl
  · obtain ⟨b, t, ts, n, rfl, hb, hn, et, ntb, hts, k⟩ := h
    have hr1 : Room 1 _ := hr.mono (by decide)
    refine ⟨_, (pss_cons (ps_set (i := 2) scLNameOf.nd rfl (Or.inl rfl) (pe_own Oo (hr.mono (by omega)) (pa_cons (pv 0) (pa_cons pe_str pa_nil)))) (pss_cons (ps_for PassesOwn.never rfl (pi_range1 rfl B.range (pa_cons (pe_ix ix_list (pe_lst (pa_cons pe_int (pa_cons pe_int (pa_cons pe_int (pa_cons pe_int (pa_cons pe_int (pa_cons pe_int pa_nil))))))) (pe_own Op (hr.mono (by omega)) (pa_cons (pv 0) (pa_cons pe_int pa_nil))) (fun _ _ => rfl)) pa_nil)) (pg_name (i := 3) scLNameOf.nd rfl (Or.inl rfl)) (pss_one (ps_set (i := 2) scLNameOf.nd rfl (Or.inl rfl) (pe_op op_add_str (pv 2) (pe_own Oo (hr.mono (by omega)) (pa_cons (pv 0) (pa_cons pe_str pa_nil))))))) (pss_cons (ps_if (pt_cmpR op_notIn_seq (pv 2) (pv 1) (by rfl)) (pss_one (ps_ret (pv 2))) pss_nil) (pss_cons (ps_set (i := 4) scLNameOf.nd rfl (Or.inl rfl) (pe_own Op (hr.mono (by omega)) (pa_cons (pv 0) (pa_cons pe_int pa_nil)))) (pss_cons (ps_for PassesOwn.never rfl (pi_range1 rfl B.range (pa_cons pe_int pa_nil)) (pg_name (i := 3) scLNameOf.nd rfl (Or.inl rfl)) (pss_cons (ps_set (i := 5) scLNameOf.nd rfl (Or.inl rfl) (pe_op op_add_str (pe_slice sl_str (pv 2) po_none (po_some pe_int)) (pe_ix ix_str pe_str (pe_op op_mod (pe_callTy call_int1 (by rfl) B.int (by decide +kernel) (pa_cons (pe_op op_add (pv 4) (pv 3)) pa_nil)) pe_int) (fun _ _ => rfl)))) (pss_one (ps_if (pt_cmpR op_notIn_seq (pv 5) (pv 1) (by rfl)) (pss_one (ps_ret (pv 5))) pss_nil)))) (pss_one (ps_ret (pe_op op_add_str (pe_slice sl_str (pv 2) po_none (po_some pe_int)) pe_str)))))))), ?_⟩
    try dsimp only [cxOf, Cx.nox, Cx.wish]
    walk_at "go"
    refine one_str (by decide +kernel) (by decide +kernel) hb (by omega) (fun c0 H1 hc0 hb1 of1 => ?_)
    walk_at "go"
    refine pick_new (xs := [0, 1, 2, 2, 3, 4]) hb1 rfl rfl (fun _ _ q => ⟨_, rfl, q⟩) (by decide) (by decide) (by omega) (fun m H2 hm hb2 k2 => ?_)
    have hm4 : m ≤ 4 := by simp only [List.mem_cons, List.not_mem_nil, or_false] at hm; omega
    have k02 := of1.kp.trans k2
    walk_at "go"
    refine ⟨by omega, by omega, fr_range (lo := 0) (n := m) (fun i σ H' => ∃ (kk : Option V) (y : Str) (r : List Nat), σ = [some (.ref b), some (.ref t), some (.str y), kk, none, none] ∧ tl y = c0 :: r ∧ r.length = i ∧ (∀ c ∈ r, c ∈ tl AZ) ∧ IsBag H' b (n + 2 + i) ∧ Kp b H H') ⟨none, _, [], rfl, rfl, rfl, fun c q => (nomatch q), hb2, k02⟩ ?_ ?_⟩
    · rintro i σ H3 hi ⟨kk, y, r, rfl, hy, hrl, hra, hb3, k3⟩
      walk_at "go"
      refine one_str (by decide +kernel) (by decide +kernel) hb3 (by omega) (fun c H4 hc hb4 of4 => ?_)
      have ly : y.length = i + 1 := by rw [len_tl, hy, List.length_cons, hrl]
      refine ⟨_, _, rfl, rfl, small_line (by show y.length + 1 ≤ 1000; omega), ?_⟩
      walk_at "go"
      refine ⟨_, _, r ++ [c], rfl, by rw [tl_app, hy]; rfl, by rw [List.length_append, hrl]; rfl, fun d hd => ?_, hb4, k3.trans of4.kp⟩
      rcases List.mem_append.mp hd with q | q
      · exact hra d q
      · rw [List.mem_singleton.mp q]; exact hc
    · rintro σ H3 ⟨kk, y, r, rfl, hy, hrl, hra, hb3, k3⟩
      have ly : y.length = m + 1 := by rw [len_tl, hy, List.length_cons, hrl]
      have c0a : c0 ∈ tl AZ := g12_az c0 hc0
      have yg : NmG y := ⟨by rw [← len_tl]; omega, by rw [← len_tl]; omega, fun c hc => by
        rw [hy] at hc
        rcases List.mem_cons.mp hc with e | e
        · rw [e]; exact c0a
        · exact hra c e, c0, r, hy, hc0⟩
      have et3 : H3 t = some (.lst (ts.map V.str)) := k3 _ _ ntb et
      walk_at "go"
      refine ⟨t, _, rfl, .inl (SqL.of et3), rfl, flat_strs _, ?_⟩
      rw [inV_strs']
      walk_at "go"
      by_cases hin : y ∈ ts
      · rw [decide_eq_true hin]
        walk_at "go"
        refine ⟨b, _, n + 2 + m, rfl, hb3, by omega, by decide, fun rr H4 r40 r41 hb4 of4 => ?_⟩
        obtain ⟨f0, rfl⟩ : ∃ f0 : Nat, rr = (f0 : Int) := ⟨rr.toNat, by omega⟩
        have et4 : H4 t = some (.lst (ts.map V.str)) := of4.at ntb et3
        have k4 := k3.trans of4.kp
        have tc : tl (cutS y none (some 5)) = (tl y).take 5 := tl_cut_to 5
        have lc : (cutS y none (some 5)).length ≤ 5 := by rw [len_tl, tc, List.length_take]; omega
        walk_at "go"
        refine ⟨by decide, by decide, fr_range (lo := 0) (n := 26) (fun i σ H' => ∃ (k3 o5 : Option V), σ = [some (.ref b), some (.ref t), some (.str y), k3, some (vi f0), o5] ∧ H' = H4 ∧ ∀ j < i, (cutS y none (some 5) ++ one (azc ((f0 + j) % 26))) ∈ ts) ⟨_, _, rfl, rfl, fun j hj => absurd hj (Nat.not_lt_zero j)⟩ ?_ ?_⟩
        · rintro i σ H5 hi ⟨o3, o5, rfl, rfl, hall⟩
          walk_at "go"
          refine ⟨small_line (by omega), ?_⟩
          walk_at "go"
          refine r_modC (i := f0 + i) (n := 26) (by omega) (by decide) ?_
          refine ix_az (Nat.mod_lt _ (by decide)) ?_
          have la := app_lenS (cutS y none (some 5)) (one (azc ((f0 + i) % 26)))
          have l1 : (one (azc ((f0 + i) % 26))).length = 1 := rfl
          refine ⟨_, _, rfl, rfl, small_line (by omega), ?_⟩
          walk_at "go"
          refine ⟨t, _, rfl, .inl (SqL.of et4), rfl, flat_strs _, ?_⟩
          rw [inV_strs']
          walk_at "go"
          by_cases hin2 : (cutS y none (some 5) ++ one (azc ((f0 + i) % 26))) ∈ ts
          · rw [decide_eq_true hin2]
            walk_at "go"
            refine ⟨_, _, rfl, rfl, fun j hj => ?_⟩
            by_cases e : j = i
            · rw [e]; exact hin2
            · exact hall j (by omega)
          · rw [decide_eq_false hin2]
            walk_at "go"
            refine k H5 _ ?_ hin2 (hb4.mono (by omega)) k4
            have tt : tl (cutS y none (some 5) ++ one (azc ((f0 + i) % 26))) = (c0 :: r).take 5 ++ [azc ((f0 + i) % 26)] := by rw [tl_app, tc, hy]; rfl
            refine ⟨by rw [← len_tl]; omega, by rw [← len_tl]; omega, fun c hc => ?_, c0, r.take 4 ++ [azc ((f0 + i) % 26)], by rw [tt]; rfl, hc0⟩
            rw [tt] at hc
            rcases List.mem_append.mp hc with q | q
            · have := List.mem_of_mem_take q
              rcases List.mem_cons.mp this with e | e
              · rw [e]; exact c0a
              · exact hra c e
            · rw [List.mem_singleton.mp q]; exact azc_mem _ (Nat.mod_lt _ (by decide))
        · rintro σ H5 ⟨o3, o5, rfl, rfl, hall⟩
          have inj : ∀ i < 26, ∀ j < 26, (fun j => cutS y none (some 5) ++ one (azc ((f0 + j) % 26))) i = (fun j => cutS y none (some 5) ++ one (azc ((f0 + j) % 26))) j → i = j := fun i hi j hj e => by
            have e1 := congrArg tl e
            rw [tl_app, tl_app] at e1
            have e2 := List.append_cancel_left e1
            have e3 : azc ((f0 + i) % 26) = azc ((f0 + j) % 26) := (List.cons.inj e2).1
            have e4 := azc_inj _ (Nat.mod_lt _ (by decide)) _ (Nat.mod_lt _ (by decide)) e3
            omega
          obtain ⟨j, hj, hno⟩ := some_free (ys := ts) inj (by omega)
          exact absurd (hall j hj) hno
      · rw [decide_eq_false hin]
        walk_at "go"
        exact k H3 y yg hin (hb3.mono (by omega)) k3
abbrev ONameOf (P : Program) (w : World) (K : PySem.W.Frag) (mg : Str → Option Value) (base : Heap) : Prop := Own P w K mg base "_law_name_of" 3 ["_law_bag", "_law_taken"] spNameOf
def spNamesOf : Sp := fun vs H Q _ => ∃ (b t : Addr) (m n : Nat), vs = [.ref b, vi m, .ref t] ∧ IsBag H b n ∧ n ≤ 2 ^ 38 ∧ H t = some (.lst []) ∧ t ≠ b ∧ m ≤ 12 ∧
  ∀ H' q (ns : List Str), ns.length = m → ns.Nodup → (∀ x ∈ ns, NmG x) → IsBag H' b (n + 100) → (∀ c o, c ≠ b → c ≠ t → H c = some o → H' c = some o) → H q = none → H' q = some (.lst (ns.map V.str)) → Q (.ref q) H'
theorem ok_namesOf {f : Addr} {fd : FuncData} (F : Fun K "_law_names_of" "_law_names_of" sLNamesOf f fd) (B : Bl mg) (Ono : ONameOf P w K mg base) : FnOk P w K mg base CX0 4 f fd ["_law_bag", "_law_many", "_law_taken"] spNamesOf := by
  refine F.ok scLNamesOf (fun vs H Q E h => ?_) (fun cdv A outer s H vs Q E hr h => ?_)
  · obtain ⟨b, t, m, n, rfl, _⟩ := h
    rfl
  · obtain ⟨b, t, m, n, rfl, hb, hn, et, ntb, hm, k⟩ := h
    refine ⟨_, (pss_cons (ps_set (i := 3) scLNamesOf.nd rfl (Or.inl rfl) (pe_lst pa_nil)) (pss_cons (ps_for PassesOwn.never rfl (pi_range1 rfl B.range (pa_cons (pv 1) pa_nil)) (pg_name (i := 4) scLNamesOf.nd rfl (Or.inl rfl)) (pss_cons (ps_set (i := 5) scLNamesOf.nd rfl (Or.inl rfl) (pe_own Ono (hr.mono (by omega)) (pa_cons (pv 0) (pa_cons (pv 2) pa_nil)))) (pss_cons (ps_expr (pe_bm PySem.F.plainAttrs_list PySem.F.slot_list_append PySem.F.type_list_append mt_append (pv 2) (pa_cons (pv 5) pa_nil))) (pss_one (ps_expr (pe_bm PySem.F.plainAttrs_list PySem.F.slot_list_append PySem.F.type_list_append mt_append (pv 3) (pa_cons (pv 5) pa_nil))))))) (pss_one (ps_ret (pv 3))))), ?_⟩
    try dsimp only [cxOf, Cx.nox, Cx.wish]
    walk_at "go"
    refine ⟨Nat.zero_le _, fun q hq => ?_⟩
    have nqb := hb.ne hq
    have nqt : q ≠ t := fun e => by rw [e, et] at hq; cases hq
    have sq := same_new (o := HO.lst []) hq
    walk_at "go"
    refine ⟨by omega, by omega, fr_range (lo := 0) (n := m) (fun i σ H' => ∃ (k3 o5 : Option V) (ns : List Str), σ = [some (.ref b), some (vi m), some (.ref t), some (.ref q), k3, o5] ∧ H' t = some (.lst (ns.map V.str)) ∧ H' q = some (.lst (ns.map V.str)) ∧ ns.length = i ∧ ns.Nodup ∧ (∀ x ∈ ns, NmG x) ∧ IsBag H' b (n + 8 * i) ∧
      ∀ c o, c ≠ b → c ≠ t → H c = some o → H' c = some o) ⟨none, none, [], rfl, sq _ _ et, upd_same, rfl, List.nodup_nil, fun x h => (nomatch h), hb.same sq, fun c o _ _ h => sq _ _ h⟩ ?_ ?_⟩
    · rintro i σ H' hi ⟨k3, o5, ns, rfl, e1, e2, hl, nd, hg, hb1, kp⟩
      walk_at "go"
      refine ⟨b, t, ns, n + 8 * i, rfl, hb1, by omega, e1, ntb, by omega, fun H2 x hx hno hb2 k2 => ?_⟩
      have e12 := k2 _ _ ntb e1
      have e22 := k2 _ _ nqb e2
      walk_at "go"
      refine ⟨tyL (SqL.of e12), ?_⟩
      walk_at "go"
      refine ⟨t, _, _, rfl, rfl, e12, by rw [List.length_map]; exact line60 (by omega), ?_⟩
      walk_at "go"
      have e23 : (upd H2 t (.lst (ns.map V.str ++ [.str x]))) q = some (.lst (ns.map V.str)) := by rw [upd_ne nqt]; exact e22
      refine ⟨tyL (SqL.of e23), ?_⟩
      walk_at "go"
      refine ⟨q, _, _, rfl, rfl, e23, by rw [List.length_map]; exact line60 (by omega), ?_⟩
      refine ⟨_, _, ns ++ [x], rfl, ?_, ?_, by rw [List.length_append, hl]; rfl, ?_, fun y hy => ?_, ?_, fun c o nb nt h => ?_⟩
      · rw [upd_ne nqt.symm, upd_same, List.map_append]; rfl
      · rw [upd_same, List.map_append]; rfl
      · rw [List.nodup_append]
        exact ⟨nd, by simp, fun a ha y hy => by rw [List.mem_singleton.mp hy]; exact fun e => hno (e ▸ ha)⟩
      · rcases List.mem_append.mp hy with h | h
        · exact hg y h
        · rw [List.mem_singleton.mp h]; exact hx
      · exact bag_upd (bag_upd hb2 ntb) nqb
      · have nq : c ≠ q := ne_of_none h hq
        rw [upd_ne nq, upd_ne nt]
        exact k2 _ _ nb (kp c o nb nt h)
    · rintro σ H' ⟨k3, o5, ns, rfl, e1, e2, hl, nd, hg, hb1, kp⟩
      walk_at "go"
      exact k H' q ns hl nd hg (hb1.mono (by omega)) kp hq e2
abbrev ONamesOf (P : Program) (w : World) (K : PySem.W.Frag) (mg : Str → Option Value) (base : Heap) : Prop := Own P w K mg base "_law_names_of" 4 ["_law_bag", "_law_many", "_law_taken"] spNamesOf
end
end K4

/-! L19d -/


namespace K4
open PySem L2 K1
abbrev sLAllowed : Stmt := top 55
abbrev nLAllowed : List Str := ["_law_bag", "_law_signs", "_law_first", "_law_sign"]
theorem scLAllowed : FnScope nLAllowed ["_law_bag", "_law_signs"] (defScope sLAllowed) := ⟨rfl, rfl, rfl, by decide +kernel, rfl, by decide +kernel, by decide +kernel⟩
abbrev sLAnyField : Stmt := top 60
abbrev nLAnyField : List Str := ["_law_bag", "_law_signs", "_law_name", "_law_words", "_law_k", "_law_word", "_law_least", "_law_most"]
theorem scLAnyField : FnScope nLAnyField ["_law_bag", "_law_signs", "_law_name"] (defScope sLAnyField) := ⟨rfl, rfl, rfl, by decide +kernel, rfl, by decide +kernel, by decide +kernel⟩
abbrev sLAnyForm : Stmt := top 61
abbrev nLAnyForm : List Str := ["_law_bag", "_law_signs", "_law_most", "_law_names", "_law_name"]
theorem scLAnyForm : FnScope nLAnyForm ["_law_bag", "_law_signs", "_law_most"] (defScope sLAnyForm) := ⟨rfl, rfl, rfl, by decide +kernel, rfl, by decide +kernel, by decide +kernel⟩
/-! Fields and forms that are drawn. -/
def spAllowed : Sp := fun vs H Q _ => ∃ (b : Addr) (z : Str) (n : Nat), vs = [.ref b, .str z] ∧ IsBag H b n ∧ n ≤ 2 ^ 38 ∧ Good z ∧ ∀ H' al, textB 1 12 z al = true → ascL (tl al) = true → IsBag H' b (n + 15) → Kp b H H' → Q (.str al) H'
section
variable {P : Program} {w : World} {K : PySem.W.Frag} {mg : Str → Option Value} {base : Heap}
theorem ok_allowed {f : Addr} {fd : FuncData} (F : Fun K "_law_allowed" "_law_allowed" sLAllowed f fd) (B : Bl mg) (Op : OPick P w K mg base) (Oo : OOneOf P w K mg base) : FnOk P w K mg base CX0 3 f fd ["_law_bag", "_law_signs"] spAllowed := by
  refine F.ok scLAllowed (fun vs H Q E h => ?_) (fun cdv A outer s H vs Q E hr h => ?_)
  · obtain ⟨b, z, n, rfl, _⟩ := h
    rfl
  · obtain ⟨b, z, n, rfl, hb, hn, gz, k⟩ := h
    have hr1 : Room 1 _ := hr.mono (by decide)
    refine ⟨_, (pss_cons (ps_if (pt_cmpR op_gt (pe_own Op (hr.mono (by omega)) (pa_cons (pv 0) (pa_cons pe_int pa_nil))) pe_int (nomark _)) (pss_one (ps_ret (pv 1))) pss_nil) (pss_cons (ps_set (i := 2) scLAllowed.nd rfl (Or.inr rfl) (pe_own Oo (hr.mono (by omega)) (pa_cons (pv 0) (pa_cons (pv 1) pa_nil)))) (pss_one (ps_ret (pe_m1 PySem.F.slot_str_join PySem.F.type_str_join mt_join pe_str (pe_lc (own := [("_law_sign", 3)]) (g := gName 3) rfl scLAllowed.nd (pi_str (pv 1)) (blkOk_by (N := nLAllowed) (sc := defScope sLAllowed) (by decide +kernel)) (fun _ _ _ _ _ => (pg_name (i := 3) scLAllowed.nd rfl (Or.inl rfl))) (fun _ _ _ _ _ => (pts_one (PW.pt (pw_or (pt_cmpR op_eq (pv 3) (pv 2) (nomark _)) (pw_or1 (pt_cmpR op_eq (pe_own Op (hr.mono (by omega)) (pa_cons (pv 0) (pa_cons pe_int pa_nil))) pe_int (nomark _))))))) (fun _ _ _ _ _ => (pv 3)))))))), ?_⟩
    try dsimp only [cxOf, Cx.nox, Cx.wish]
    have z2 : 2 ≤ (tl z).length := gz.lo
    have z12 : (tl z).length ≤ 12 := gz.hi
    have lz := len_tl z
    have za : (tl z).Pairwise (· < ·) := gz.up
    walk_at "go"
    refine ⟨b, _, n, rfl, hb, by omega, by decide, fun r0 H1 _ _ hb1 of1 => ?_⟩
    walk_at "go"
    refine r_iteN' (fun h0 => ?_) (fun h0 => ?_)
    · walk_at "go"
      exact k H1 z (text_mk (by omega) (by omega) fun c hc => hc) (asc_true za) (hb1.mono (by omega)) of1.kp
    · walk_at "go"
      refine one_sign gz hb1 (by omega) (fun c0 H2 hc0 hb2 of2 => ?_)
      walk_at "go"
      intro D hD
      have nDb := hb2.ne hD
      refine lc_it (walk_sgn (z := z)) (fun i H' => ∃ l : List Nat, H' D = some (.lst ((l.map one).map V.str)) ∧ l.Sublist ((tl z).take i) ∧ (c0 ∈ (tl z).take i → c0 ∈ l) ∧ IsBag H' b (n + 2 + i) ∧ Kp b H2 H') ⟨[], upd_same, List.nil_sublist _, (fun q => by rw [List.take_zero] at q; cases q), bag_upd hb2 nDb, Same.kp (same_new hD)⟩ (fun _ _ _ _ => trivial) ?_ ?_
      · rintro i y H3 H3' hi ⟨l, eD, hs, hc, hb3, k3⟩ ⟨eH, hx⟩
        rw [eH]
        clear eH H3'
        obtain ⟨y0, hy0, rfl⟩ := get_map hx
        obtain ⟨c, hcz, rfl⟩ : ∃ c, (tl z)[i]? = some c ∧ y0 = one c := by
          have e : sgn z = (tl z).map one := K1.sgn_one z
          rw [e, List.getElem?_map] at hy0
          obtain ⟨c, h1, h2⟩ := Option.map_eq_some_iff.mp hy0
          exact ⟨c, h1, h2.symm⟩
        have tk : (tl z).take (i + 1) = (tl z).take i ++ [c] := by rw [List.take_add_one, hcz]; rfl
        have hi' := (List.getElem?_eq_some_iff.mp hcz).1
        have ll : l.length ≤ 12 := Nat.le_trans hs.length_le (by rw [List.length_take]; omega)
        refine ⟨rfl, ?_⟩
        walk_at "go"
        have yes : ∀ H4 : Hp, H4 D = some (.lst ((l.map one).map V.str)) → IsBag H4 b (n + 2 + (i + 1)) → Kp b H3 H4 → ∃ acc, H4 D = some (HO.lst acc) ∧ acc.length < sizeLine ∧ ∃ l : List Nat, upd H4 D (HO.lst (acc ++ [V.str (one c)])) D = some (HO.lst ((l.map one).map V.str)) ∧ l.Sublist ((tl z).take (i + 1)) ∧ (c0 ∈ (tl z).take (i + 1) → c0 ∈ l) ∧ IsBag (upd H4 D (HO.lst (acc ++ [V.str (one c)]))) b (n + 2 + (i + 1)) ∧ Kp b H2 (upd H4 D (HO.lst (acc ++ [V.str (one c)]))) := fun H4 e4 hb4 k4 => by
          refine ⟨_, e4, by rw [List.length_map, List.length_map]; exact line60 (by omega), l ++ [c], ?_, ?_, fun q => ?_, bag_upd hb4 nDb, kp_upd' (k3.trans k4) hD⟩
          · rw [upd_same, List.map_append, List.map_append]; rfl
          · rw [tk]; exact hs.append (List.Sublist.refl _)
          · rw [tk] at q
            rcases List.mem_append.mp q with q | q
            · exact List.mem_append_left _ (hc q)
            · exact List.mem_append_right _ q
        by_cases ec : c = c0
        · rw [decide_eq_true (show V.str (one c) = V.str (one c0) by rw [ec])]
          walk_at "go"
          exact yes H3 eD (hb3.mono (by omega)) (Kp.refl _ _)
        · rw [decide_eq_false (show ¬ V.str (one c) = V.str (one c0) from fun q => ec (K1.one_inj (V.str.inj q)))]
          walk_at "go"
          refine ⟨b, _, n + 2 + i, rfl, hb3, by omega, by decide, fun r1 H4 r10 r11 hb4 of4 => ?_⟩
          have e4 := of4.at nDb eD
          walk_at "go"
          by_cases er : r1 = 0
          · rw [er]
            walk_at "go"
            exact yes H4 e4 hb4 of4.kp
          · rw [decide_eq_false (show ¬ V.int r1 = V.int 0 from fun q => er (V.int.inj q))]
            walk_at "go"
            refine ⟨l, e4, ?_, fun q => ?_, hb4, k3.trans of4.kp⟩
            · rw [tk]; exact hs.trans (List.sublist_append_left _ _)
            · rw [tk] at q
              rcases List.mem_append.mp q with q | q
              · exact hc q
              · exact absurd (List.mem_singleton.mp q).symm ec
      · rintro H3 ⟨l, eD, hs, hc, hb3, k3⟩
        have en : ((sgn z).map V.str).length = (tl z).length := by rw [List.length_map, sgn_len, lz]
        rw [en, List.take_length] at hs hc
        rw [en] at hb3
        have ll : l.length ≤ 12 := Nat.le_trans hs.length_le (by omega)
        have l1 : l ≠ [] := fun q => by have := hc hc0; rw [q] at this; cases this
        have lp := List.length_pos_iff.mpr l1
        have sum1 : ((l.map one).map fun x : Str => x.length).sum = l.length := by
          rw [List.map_map]
          clear eD hs hc ll l1 lp
          induction l with
          | nil => rfl
          | cons c l ih => rw [List.map_cons, List.sum_cons, List.length_cons, ih]; show 1 + l.length = _; omega
        refine ⟨"", D, l.map one, rfl, rfl, .inl (SqL.of eD), ?_, ?_⟩
        · rw [sum1, List.length_map]
          have : (Str.length "") = 0 := by decide +kernel
          rw [this]; omega
        refine k H3 _ (text_mk ?_ ?_ ?_) (asc_true ?_) (hb3.mono (by omega)) (of1.kp.trans (of2.kp.trans k3))
        all_goals rw [tl_join1]
        · omega
        · omega
        · exact fun c hc => hs.subset hc
        · exact za.sublist hs
abbrev OAllowed (P : Program) (w : World) (K : PySem.W.Frag) (mg : Str → Option Value) (base : Heap) : Prop := Own P w K mg base "_law_allowed" 3 ["_law_bag", "_law_signs"] spAllowed
abbrev OPaper (P : Program) (w : World) (K : PySem.W.Frag) (mg : Str → Option Value) (base : Heap) : Prop := Own P w K mg base "_law_paper" 3 ["_law_bag", "_law_signs", "_law_most"] spPaperOf
def spAnyField (K : PySem.W.Frag) : Sp := fun vs H Q _ => ∃ (b : Addr) (z nm : Str) (n : Nat), vs = [.ref b, .str z, .str nm] ∧ IsBag H b n ∧ n ≤ 2 ^ 37 ∧ Good z ∧ NmG nm ∧ ∀ H' v f, Dp K H' v (Fd.data true f) → f.ok z → f.name = nm → IsBag H' b (n + 100) → Kp b H H' → Q v H'
theorem ok_anyField {f : Addr} {fd : FuncData} (F : Fun K "_law_any_field" "_law_any_field" sLAnyField f fd) (B : Bl mg) (Op : OPick P w K mg base) (Oo : OOneOf P w K mg base) (Opa : OPaper P w K mg base) (Oal : OAllowed P w K mg base) : FnOk P w K mg base CX0 4 f fd ["_law_bag", "_law_signs", "_law_name"] (spAnyField K) := by
  refine F.ok scLAnyField (fun vs H Q E h => ?_) (fun cdv A outer s H vs Q E hr h => ?_)
  · obtain ⟨b, z, nm, n, rfl, _⟩ := h
    rfl
  · obtain ⟨b, z, nm, n, rfl, hb, hn, gz, gn, k⟩ := h
    have hr1 : Room 1 _ := hr.mono (by decide)
    refine ⟨_, (pss_cons (ps_if (pt_cmpR op_eq (pe_own Op (hr.mono (by omega)) (pa_cons (pv 0) (pa_cons pe_int pa_nil))) pe_int (nomark _)) (pss_cons (ps_set (i := 3) scLAnyField.nd rfl (Or.inl rfl) (pe_lst pa_nil)) (pss_cons (ps_for PassesOwn.never rfl (pi_range1 rfl B.range (pa_cons (pe_ix ix_list (pe_lst (pa_cons pe_int (pa_cons pe_int (pa_cons pe_int (pa_cons pe_int (pa_cons pe_int (pa_cons pe_int pa_nil))))))) (pe_own Op (hr.mono (by omega)) (pa_cons (pv 0) (pa_cons pe_int pa_nil))) (fun _ _ => rfl)) pa_nil)) (pg_name (i := 4) scLAnyField.nd rfl (Or.inl rfl)) (pss_cons (ps_set (i := 5) scLAnyField.nd rfl (Or.inl rfl) (pe_op op_add_str (pe_own Oo (hr.mono (by omega)) (pa_cons (pv 0) (pa_cons (pv 1) pa_nil))) (pe_own Opa (hr.mono (by omega)) (pa_cons (pv 0) (pa_cons (pv 1) (pa_cons (pe_own Op (hr.mono (by omega)) (pa_cons (pv 0) (pa_cons pe_int pa_nil))) pa_nil)))))) (pss_one (ps_if (pt_cmpR op_notIn_seq (pv 5) (pv 3) (by rfl)) (pss_one (ps_expr (pe_bm PySem.F.plainAttrs_list PySem.F.slot_list_append PySem.F.type_list_append mt_append (pv 3) (pa_cons (pv 5) pa_nil)))) pss_nil)))) (pss_one (ps_ret (pe_tup (pa_cons pe_str (pa_cons (pv 2) (pa_cons (pe_callTy call_tuple_of (by rfl) B.tuple (by decide +kernel) (pa_cons (pv 3) pa_nil)) pa_nil)))))))) pss_nil) (pss_cons (ps_set (i := 6) scLAnyField.nd rfl (Or.inl rfl) (pe_ix ix_list (pe_lst (pa_cons pe_int (pa_cons pe_int (pa_cons pe_int (pa_cons pe_int (pa_cons pe_int (pa_cons pe_int (pa_cons pe_int (pa_cons pe_int pa_nil))))))))) (pe_own Op (hr.mono (by omega)) (pa_cons (pv 0) (pa_cons pe_int pa_nil))) (fun _ _ => rfl))) (pss_cons (ps_set (i := 7) scLAnyField.nd rfl (Or.inl rfl) pe_non) (pss_cons (ps_if (pt_cmpR op_gt (pe_own Op (hr.mono (by omega)) (pa_cons (pv 0) (pa_cons pe_int pa_nil))) pe_int (nomark _)) (pss_one (ps_set (i := 7) scLAnyField.nd rfl (Or.inl rfl) (pe_callB (call_min2 rfl) (by rfl) B.min (by decide +kernel) (pa_cons pe_int (pa_cons (pe_callB (call_max2 rfl) (by rfl) B.max (by decide +kernel) (pa_cons pe_int (pa_cons (pe_op op_add (pv 6) (pe_ix ix_list (pe_lst (pa_cons pe_int (pa_cons pe_int (pa_cons pe_int (pa_cons pe_int pa_nil))))) (pe_own Op (hr.mono (by omega)) (pa_cons (pv 0) (pa_cons pe_int pa_nil))) (fun _ _ => rfl))) pa_nil))) pa_nil))))) pss_nil) (pss_one (ps_ret (pe_tup (pa_cons pe_str (pa_cons (pv 2) (pa_cons (pe_own Oal (hr.mono (by omega)) (pa_cons (pv 0) (pa_cons (pv 1) pa_nil))) (pa_cons (pv 6) (pa_cons (pv 7) pa_nil)))))))))))), ?_⟩
    try dsimp only [cxOf, Cx.nox, Cx.wish]
    have z2 : 2 ≤ (tl z).length := gz.lo
    have z12 : (tl z).length ≤ 12 := gz.hi
    have lz := len_tl z
    walk_at "go"
    refine ⟨b, _, n, rfl, hb, by omega, by decide, fun r0 H1 _ _ hb1 of1 => ?_⟩
    walk_at "go"
    refine r_iteN' (fun h0 => ?_) (fun h0 => ?_)
    · walk_at "go"
      refine ⟨Nat.zero_le _, fun L hL => ?_⟩
      have nLb := hb1.ne hL
      have hbL := hb1.new (o := HO.lst []) hL
      have sL := same_new (o := HO.lst []) hL
      walk_at "go"
      refine pick_new (xs := [1, 2, 2, 3, 4, 12]) hbL rfl rfl (fun _ _ q => ⟨_, rfl, q⟩) (by decide) (by decide) (by omega) (fun m H2 hm hb2 k2 => ?_)
      have hm12 : 1 ≤ m ∧ m ≤ 12 := by simp only [List.mem_cons, List.not_mem_nil, or_false] at hm; omega
      walk_at "go"
      refine ⟨by omega, by omega, fr_range (lo := 0) (n := m) (fun i σ H' => ∃ (k4 o5 o6 o7 : Option V) (ws : List Str), σ = [some (.ref b), some (.str z), some (.str nm), some (.ref L), k4, o5, o6, o7] ∧ H' L = some (.lst (ws.map V.str)) ∧ ws.length ≤ i ∧ (i ≠ 0 → ws ≠ []) ∧ ws.Nodup ∧ (∀ x ∈ ws, textB 1 4 z x = true) ∧ IsBag H' b (n + 2 + 6 * i) ∧ Kp b H1 H') ⟨_, _, _, _, [], rfl, k2 _ _ nLb upd_same, Nat.le_refl _, fun q => absurd rfl q, List.nodup_nil, fun x h => (nomatch h), hb2, (Same.kp sL).trans k2⟩ ?_ ?_⟩
      · rintro i σ H3 hi ⟨k4, o5, o6, o7, ws, rfl, eL, hwl, hwn, nd, hw, hb3, k3⟩
        walk_at "go"
        refine one_sign gz hb3 (by omega) (fun c H4 hc hb4 of4 => ?_)
        walk_at "go"
        refine ⟨b, _, _, rfl, hb4, by omega, by decide, fun r1 H5 r10 r11 hb5 of5 => ?_⟩
        obtain ⟨q, rfl⟩ : ∃ q : Nat, r1 = (q : Int) := ⟨r1.toNat, by omega⟩
        walk_at "go"
        refine ⟨b, z, q, _, rfl, hb5, by omega, by omega, by omega, by omega, fun y H6 hy1 hy2 hb6 of6 => ?_⟩
        have la := app_lenS (one c) y
        have l1 : (one c).length = 1 := rfl
        refine ⟨_, _, rfl, rfl, small_line (by omega), ?_⟩
        have k6 := k3.trans (of4.kp.trans (of5.kp.trans of6.kp))
        have eL6 := of6.at nLb (of5.at nLb (of4.at nLb eL))
        have hwx : textB 1 4 z (one c ++ y) = true := text_mk (by rw [← len_tl]; omega) (by rw [← len_tl]; omega) fun d hd => by
          rw [tl_app] at hd
          rcases List.mem_append.mp hd with q | q
          · rw [show d = c by simpa using (show d ∈ [c] from q)]; exact hc
          · exact hy2 d q
        walk_at "go"
        refine ⟨L, _, rfl, .inl (SqL.of eL6), rfl, flat_strs _, ?_⟩
        rw [inV_strs']
        walk_at "go"
        by_cases hin : (one c ++ y) ∈ ws
        · rw [decide_eq_true hin]
          walk_at "go"
          exact ⟨_, _, _, _, ws, rfl, eL6, by omega, (fun _ q => by rw [q] at hin; cases hin), nd, hw, hb6.mono (by omega), k6⟩
        · rw [decide_eq_false hin]
          walk_at "go"
          refine ⟨tyL (SqL.of eL6), ?_⟩
          walk_at "go"
          refine ⟨L, _, _, rfl, rfl, eL6, by rw [List.length_map]; exact line60 (by omega), ?_⟩
          refine ⟨_, _, _, _, ws ++ [one c ++ y], rfl, by rw [upd_same, List.map_append]; rfl, by rw [List.length_append]; show ws.length + 1 ≤ _; omega, fun _ => by simp, ?_, fun x hx => ?_, bag_upd (hb6.mono (by omega)) nLb, kp_upd' k6 hL⟩
          · rw [List.nodup_append]
            exact ⟨nd, by simp, fun a ha y' hy' => by rw [List.mem_singleton.mp hy']; exact fun e => hin (e ▸ ha)⟩
          · rcases List.mem_append.mp hx with h | h
            · exact hw x h
            · rw [List.mem_singleton.mp h]; exact hwx
      · rintro σ H3 ⟨k4, o5, o6, o7, ws, rfl, eL, hwl, hwn, nd, hw, hb3, k3⟩
        walk_at "go"
        refine ⟨L, _, rfl, .inl ⟨SqL.of eL, fun T hT => ?_⟩⟩
        have sT := same_new (o := HO.tup (ws.map V.str)) hT
        walk_at "go"
        refine ⟨(by show 3 ≤ sizeLine; decide), fun R hR => ?_⟩
        have sR := same_new (o := HO.tup [V.str (Str.ofString "words"), V.str nm, V.ref T]) hR
        have eT : (upd (upd H3 T (HO.tup (ws.map V.str))) R (HO.tup [V.str (Str.ofString "words"), V.str nm, V.ref T])) T = some (.tup (ws.map V.str)) := sR _ _ upd_same
        refine k _ _ (.w nm ws) (.tup (SqT.of upd_same) (.cons (.str _) (.cons (.str _) (.cons (.tup (SqT.of eT) (dpA_strs.mpr rfl)) .nil)))) ⟨gn.ok, hwn (by omega), by omega, nd, hw⟩ rfl ((hb3.same (sT.trans sR)).mono (by omega)) (of1.kp.trans (k3.trans (Same.kp (sT.trans sR))))
    · walk_at "go"
      refine pick_new (xs := [0, 0, 0, 1, 1, 2, 3, 12]) hb1 rfl rfl (fun _ _ q => ⟨_, rfl, q⟩) (by decide) (by decide) (by omega) (fun lo H2 hm hb2 k2 => ?_)
      have hlo : lo ≤ 12 := by simp only [List.mem_cons, List.not_mem_nil, or_false] at hm; omega
      apply K1.r_name
      try dsimp only [List.set]
      apply K1.r_seq
      apply K1.r_asg
      apply K1.r_c
      apply K1.r_name
      try dsimp only [List.set]
      refine r_seqIf (fun σ H' => ∃ hi : Option Nat, σ = [some (.ref b), some (.str z), some (.str nm), none, none, none, some (vi lo), some (oV hi)] ∧ (∀ h, hi = some h → 1 ≤ h ∧ lo ≤ h ∧ h ≤ 12) ∧ IsBag H' b (n + 4) ∧ Kp b H1 H') (fun N hN => ?_) ?_
      · walk_at "go"
        refine ⟨b, _, _, rfl, hb2, by omega, by decide, fun r1 H3 _ _ hb3 of3 => ?_⟩
        walk_at "go"
        refine r_iteN' (fun h1 => ?_) (fun h1 => ?_)
        · walk_at "go"
          refine pick_new (xs := [0, 1, 2, 9]) hb3 rfl rfl (fun _ _ q => ⟨_, rfl, q⟩) (by decide) (by decide) (by omega) (fun dd H4 hdd hb4 k4 => ?_)
          walk_at "go"
          refine ⟨_, _, rfl, ?_⟩
          walk_at "go"
          refine ⟨_, _, rfl, ?_⟩
          walk_at "go"
          obtain ⟨mo, hmo, hmo1, hmo2, hmo3⟩ : ∃ mo : Nat, (if (if (lo : Int) + (dd : Int) > 1 then (lo : Int) + (dd : Int) else 1) < 12 then (if (lo : Int) + (dd : Int) > 1 then (lo : Int) + (dd : Int) else 1) else 12) = (mo : Int) ∧ 1 ≤ mo ∧ lo ≤ mo ∧ mo ≤ 12 := by
            refine ⟨(if (if (lo : Int) + (dd : Int) > 1 then (lo : Int) + (dd : Int) else 1) < 12 then (if (lo : Int) + (dd : Int) > 1 then (lo : Int) + (dd : Int) else 1) else 12).toNat, ?_⟩
            split <;> split <;> omega
          rw [hmo]
          exact hN _ _ ⟨some mo, rfl, fun h q => by obtain rfl := Option.some.inj q; exact ⟨hmo1, hmo2, hmo3⟩, hb4, k2.trans (of3.kp.trans k4)⟩
        · walk_at "go"
          exact hN _ _ ⟨none, rfl, (fun h q => by cases q), hb3.mono (by omega), k2.trans of3.kp⟩
      · rintro σ H3 ⟨hi, rfl, hh, hb3, k3⟩
        walk_at "go"
        refine ⟨b, z, n + 4, rfl, hb3, by omega, gz, fun H4 al ha1 ha2 hb4 k4 => ?_⟩
        walk_at "go"
        refine ⟨(by show 5 ≤ sizeLine; decide), fun R hR => ?_⟩
        have sR := same_new (o := HO.tup [V.str (Str.ofString "run"), V.str nm, V.str al, vi lo, oV hi]) hR
        have od : Dp K (upd H4 R (HO.tup [V.str (Str.ofString "run"), V.str nm, V.str al, vi lo, oV hi])) (oV hi) (oD hi) := by
          cases hi with
          | none => exact .non
          | some h => exact .int _
        exact k _ _ (.r nm al lo hi) (.tup (SqT.of upd_same) (.cons (.str _) (.cons (.str _) (.cons (.str _) (.cons (.int _) (.cons od .nil)))))) ⟨gn.ok, ha1, ha2, hlo, hh⟩ rfl ((hb4.same sR).mono (by omega)) (of1.kp.trans (k3.trans (k4.trans (Same.kp sR))))
theorem pure_strs (ws : List Str) : pureA (ws.map .str) = true := pureA_iff.mpr fun d hd => by obtain ⟨x, _, rfl⟩ := List.mem_map.mp hd; rfl
theorem Fd.pure : ∀ f : Fd, K4.pure (f.data true) = true
  | .w n ws => by
    show K4.pure (.tuple [.str "words", .str n, .tuple (ws.map .str)]) = true
    have h : K4.pure (.tuple (ws.map .str)) = true := by rw [K4.pure]; exact pure_strs ws
    simp only [K4.pure, K4.pureA, pure_strs, Bool.and_self]
  | .r n al lo none => rfl
  | .r n al lo (some h) => rfl
theorem forms_pure (fs : List Fd) : pureA (fs.map (Fd.data true)) = true := pureA_iff.mpr fun d hd => by obtain ⟨f, _, rfl⟩ := List.mem_map.mp hd; exact f.pure
abbrev OAnyField (P : Program) (w : World) (K : PySem.W.Frag) (mg : Str → Option Value) (base : Heap) : Prop := Own P w K mg base "_law_any_field" 4 ["_law_bag", "_law_signs", "_law_name"] (spAnyField K)
def spAnyForm (K : PySem.W.Frag) : Sp := fun vs H Q _ => ∃ (b : Addr) (z : Str) (m n : Nat), vs = [.ref b, .str z, vi m] ∧ IsBag H b n ∧ n ≤ 2 ^ 36 ∧ Good z ∧ 1 ≤ m ∧ m ≤ 6 ∧ ∀ H' v fs, Dp K H' v (formD true fs) → FormOk z fs → IsBag H' b (n + 1000) → Kp b H H' → Q v H'
theorem ok_anyForm {f : Addr} {fd : FuncData} (F : Fun K "_law_any_form" "_law_any_form" sLAnyForm f fd) (B : Bl mg) (Op : OPick P w K mg base) (Ons : ONamesOf P w K mg base) (Oaf : OAnyField P w K mg base) : FnOk P w K mg base CX0 5 f fd ["_law_bag", "_law_signs", "_law_most"] (spAnyForm K) := by
  refine F.ok scLAnyForm (fun vs H Q E h => ?_) (fun cdv A outer s H vs Q E hr h => ?_)
  · obtain ⟨b, z, m, n, rfl, _⟩ := h
    rfl
  · obtain ⟨b, z, m, n, rfl, hb, hn, gz, m1, m6, k⟩ := h
    refine ⟨_, (pss_cons (ps_set (i := 3) scLAnyForm.nd rfl (Or.inl rfl) (pe_own Ons (hr.mono (by omega)) (pa_cons (pv 0) (pa_cons (pe_callB (call_min2 rfl) (by rfl) B.min (by decide +kernel) (pa_cons (pv 2) (pa_cons (pe_ix ix_list (pe_lst (pa_cons pe_int (pa_cons pe_int (pa_cons pe_int (pa_cons pe_int (pa_cons pe_int (pa_cons pe_int (pa_cons pe_int (pa_cons pe_int pa_nil))))))))) (pe_own Op (hr.mono (by omega)) (pa_cons (pv 0) (pa_cons pe_int pa_nil))) (fun _ _ => rfl)) pa_nil))) (pa_cons (pe_lst pa_nil) pa_nil))))) (pss_one (ps_ret (pe_callTy call_tuple_of (by rfl) B.tuple (by decide +kernel) (pa_cons (pe_lc (own := [("_law_name", 4)]) (g := gName 4) (tt := tYes) rfl scLAnyForm.nd (pi_list (pv 3)) (blkOk_by (N := nLAnyForm) (sc := defScope sLAnyForm) (by decide +kernel)) (fun _ _ _ _ _ => (pg_name (i := 4) scLAnyForm.nd rfl (Or.inl rfl))) (fun _ _ _ _ _ => pts_nil) (fun _ _ _ _ _ => (pe_own Oaf (hr.mono (by omega)) (pa_cons (pv 0) (pa_cons (pv 1) (pa_cons (pv 4) pa_nil)))))) pa_nil))))), ?_⟩
    try dsimp only [cxOf, Cx.nox, Cx.wish]
    walk_at "go"
    refine pick_new (xs := [1, 1, 2, 2, 3, 3, 4, 6]) hb rfl rfl (fun _ _ q => ⟨_, rfl, q⟩) (by decide) (by decide) (by omega) (fun c H1 hc hb1 k1 => ?_)
    have hc6 : 1 ≤ c ∧ c ≤ 6 := by simp only [List.mem_cons, List.not_mem_nil, or_false] at hc; omega
    walk_at "go"
    refine ⟨_, _, rfl, ?_⟩
    obtain ⟨g, hg, hg1, hg6⟩ : ∃ g : Nat, (if (c : Int) < (m : Int) then (c : Int) else (m : Int)) = (g : Int) ∧ 1 ≤ g ∧ g ≤ 6 := by
      by_cases q : (c : Int) < (m : Int)
      · exact ⟨c, by rw [if_pos q], hc6.1, hc6.2⟩
      · exact ⟨m, by rw [if_neg q], m1, m6⟩
    rw [hg]
    walk_at "go"
    refine ⟨Nat.zero_le _, fun t ht => ?_⟩
    have ntb := hb1.ne ht
    walk_at "go"
    refine ⟨b, t, g, n + 1, rfl, hb1.new ht, by omega, upd_same, ntb, by omega, fun H2 q ns hl nd hng hb2 k2 hq eq => ?_⟩
    have nqb : q ≠ b := fun e => by rw [e] at hq; have := hb1.new (o := HO.lst []) ht; obtain ⟨_, _, _, e2, _⟩ := this; rw [e2] at hq; cases hq
    have k12 : Kp b H H2 := fun a o na h => k2 a o na (ne_of_none (k1 a o na h) ht) (by rw [upd_ne (ne_of_none (k1 a o na h) ht)]; exact k1 a o na h)
    walk_at "go"
    refine ⟨⟨_, SqL.of eq⟩, fun D hD => ?_⟩
    have nDb := hb2.ne hD
    have nDq : D ≠ q := fun e => by rw [e, eq] at hD; cases hD
    refine lc_gen (walk_list (K := K) (a := q) (xs := ns.map V.str)) (fun _ => rfl) (fun acc H' => ∃ fs : List Fd, DpAll K H' acc (fs.map (Fd.data true)) ∧ fs.map Fd.name = ns.take acc.length ∧ (∀ f ∈ fs, f.ok z) ∧ H' q = some (.lst (ns.map V.str)) ∧ IsBag H' b (n + 101 + 100 * acc.length) ∧ Kp b H2 H') ?_ (fun acc H' _ ⟨_, _, _, _, e, _⟩ => SqL.of e) ?_ ?_
    · exact ⟨[], .nil, rfl, fun f hf => (nomatch hf), by rw [upd_ne nDq.symm]; exact eq, hb2.new hD, Same.kp (same_new hD)⟩
    · rintro i x acc H3 hx la eD ⟨fs, dA, hnm, hok, eq3, hb3, k3⟩
      obtain ⟨y, hy, rfl⟩ := get_map hx
      have hi := (List.getElem?_eq_some_iff.mp hy).1
      walk_at "go"
      refine ⟨b, z, y, _, rfl, hb3, by omega, gz, hng y (List.mem_of_getElem? hy), fun H4 v4 f4 d4 ok4 nm4 hb4 k4 => ?_⟩
      have eD4 := k4 _ _ nDb eD
      refine pp_next eD4 la (line60 (by omega)) ⟨fs ++ [f4], ?_, ?_, fun g hg => ?_, ?_, ?_, kp_upd' (k3.trans k4) hD⟩
      · have kt1 := bag_kt (K := K) hb3 k4
        have kt2 : KT K H4 (upd H4 D (.lst (acc ++ [v4]))) := kt_lst eD4
        rw [List.map_append]
        exact dpA_app (dpA_pure (kt1.trans kt2) _ _ (forms_pure fs) dA) (.cons (dp_pure kt2 _ _ f4.pure d4) .nil)
      · rw [List.map_append, hnm, List.length_append, la]
        show ns.take i ++ [f4.name] = ns.take (i + 1)
        rw [List.take_add_one, hy, nm4]; rfl
      · rcases List.mem_append.mp hg with h | h
        · exact hok g h
        · rw [List.mem_singleton.mp h]; exact ok4
      · rw [upd_ne nDq.symm]; exact k4 _ _ nqb eq3
      · rw [List.length_append]
        exact bag_upd (hb4.mono (by show _ ≤ _ + 100 * (acc.length + 1); omega)) nDb
    · rintro acc H3 la eD ⟨fs, dA, hnm, hok, eq3, hb3, k3⟩
      rw [List.length_map] at la
      rw [la, List.take_length] at hnm
      have hfl : fs.length = g := by rw [← hl, ← hnm, List.length_map]
      walk_at "go"
      refine ⟨D, acc, rfl, .inl ⟨SqL.of eD, fun l hl2 => ?_⟩⟩
      have sl := same_new (o := HO.tup acc) hl2
      exact k _ _ fs (.tup (SqT.of upd_same) (dpA_same sl dA)) ⟨fun e => by rw [e] at hfl; simp at hfl; omega, by omega, by rw [hnm]; exact nd, hok⟩ ((hb3.same sl).mono (by omega)) (k12.trans (k3.trans (Same.kp sl)))
end
end K4

/-! L19e -/


namespace K4
open PySem L2 K1
abbrev sLPaperOf : Stmt := top 62
abbrev nLPaperOf : List Str := ["_law_bag", "_law_form", "_law_told", "_law_field", "_law_more", "_law_k"]
theorem scLPaperOf : FnScope nLPaperOf ["_law_bag", "_law_form"] (defScope sLPaperOf) := ⟨rfl, rfl, rfl, by decide +kernel, rfl, by decide +kernel, by decide +kernel⟩
/-! Papers that are drawn. -/
def spOneOfA (K : PySem.W.Frag) : Sp := fun vs H Q _ => ∃ (b : Addr) (r : V) (items : List V) (n : Nat), vs = [.ref b, r] ∧ IsBag H b n ∧ n ≤ 2 ^ 40 ∧ (RowAt K H b r items ∨ ∃ l, r = .ref l ∧ SqT K H l items ∧ items.length ≤ 1000) ∧ items ≠ [] ∧
  ∀ x H', x ∈ items → IsBag H' b (n + 1) → Off b H H' → Q x H'
abbrev OOneOfA (P : Program) (w : World) (K : PySem.W.Frag) (mg : Str → Option Value) (base : Heap) : Prop := Own P w K mg base "_law_one_of" 2 ["_law_bag", "_law_row"] (spOneOfA K)
theorem fd_wT {K : PySem.W.Frag} {H : Hp} {v : V} {n : Str} {ws : List Str} (h : Dp K H v (Fd.data true (.w n ws))) : ∃ l, Sq K H v [.str "words", .str n, .ref l] ∧ SqT K H l (ws.map V.str) := by
  obtain ⟨a, xs, rfl, h1, h2⟩ := dp_tuple h
  cases h2 with
  | cons a2 h2 => cases h2 with
    | cons b h2 => cases h2 with
      | cons c h2 =>
        cases h2
        obtain ⟨l, ys, rfl, h3, h4⟩ := dp_tuple c
        rw [dpA_strs.mp h4] at h3
        rw [dp_str a2, dp_str b] at h1
        exact ⟨l, ⟨_, rfl, .inr h1⟩, h3⟩
def spPaperF (K : PySem.W.Frag) : Sp := fun vs H Q _ => ∃ (b : Addr) (z : Str) (v : V) (fs : List Fd) (n : Nat), vs = [.ref b, v] ∧ IsBag H b n ∧ n ≤ 2 ^ 38 ∧ Good z ∧ Dp K H v (formD true fs) ∧ FormOk z fs ∧
  ∀ H' p, textB 0 60 z p = true → IsBag H' b (n + 120) → Off b H H' → Q (.str p) H'
section
variable {P : Program} {w : World} {K : PySem.W.Frag} {mg : Str → Option Value} {base : Heap}
theorem ok_oneOfA {f : Addr} {fd : FuncData} (F : Fun K "_law_one_of" "_law_one_of" sOneOf f fd) (B : Bl mg) (Op : OPick P w K mg base) : FnOk P w K mg base CX0 2 f fd ["_law_bag", "_law_row"] (spOneOfA K) := by
  refine F.ok scOneOf (fun vs H Q E h => ?_) (fun cdv A outer s H vs Q E hr h => ?_)
  · obtain ⟨b, r, items, n, rfl, _⟩ := h
    rfl
  · obtain ⟨b, r, items, n, rfl, hb, hn, hrow, hne, k⟩ := h
    refine ⟨_, pss_one (ps_ret (pe_ix ix_seq (pv 1) (pe_own Op hr (pa_cons (pv 0) (pa_cons (pe_callB call_len (by rfl) B.len PySem.boot_len (pa_cons (pv 1) pa_nil)) pa_nil))) (fun _ _ => rfl))), ?_⟩
    try dsimp only [cxOf, Cx.nox, Cx.wish]
    have hpos : 0 < items.length := List.length_pos_iff.mpr hne
    walk_at "go"
    rcases hrow with hrow | ⟨l, rfl, hT, hl⟩
    · refine ⟨_, _, rfl, hrow.len.1, ?_⟩
      walk_at "go"
      have hl := hrow.len.2
      refine ⟨_, _, n, rfl, hb, hn, by omega, fun r' H' r0 r1 hb' off => ?_⟩
      obtain ⟨x, ex, hx, _⟩ := at_nat' (xs := items) r0 (by omega)
      exact r_rowix (hrow.off off) ex (k x H' hx hb' off)
    · have hS : Sq K H (.ref l) items := ⟨l, rfl, .inr hT⟩
      refine ⟨_, _, rfl, hS.len, ?_⟩
      walk_at "go"
      refine ⟨_, _, n, rfl, hb, hn, by omega, fun r' H' r0 r1 hb' off => ?_⟩
      obtain ⟨x, ex, hx, _⟩ := at_nat' (xs := items) r0 (by omega)
      exact r_ixSq (xs := items) ⟨l, rfl, .inr (bag_kt hb off.kp _ _ hT)⟩ ex (k x H' hx hb' off)
theorem ok_paperF {f : Addr} {fd : FuncData} (F : Fun K "_law_paper_of" "_law_paper_of" sLPaperOf f fd) (B : Bl mg) (Op : OPick P w K mg base) (OoA : OOneOfA P w K mg base) : FnOk P w K mg base CX0 3 f fd ["_law_bag", "_law_form"] (spPaperF K) := by
  refine F.ok scLPaperOf (fun vs H Q E h => ?_) (fun cdv A outer s H vs Q E hr h => ?_)
  · obtain ⟨b, z, v, fs, n, rfl, _⟩ := h
    rfl
  · obtain ⟨b, z, v, fs, n, rfl, hb, hn, gz, hd, ho, k⟩ := h
    refine ⟨_, (pss_cons (ps_set (i := 2) scLPaperOf.nd rfl (Or.inl rfl) pe_str) (pss_cons (ps_for PassesOwn.never rfl (pi_sq (pv 1)) (pg_name (i := 3) scLPaperOf.nd rfl (Or.inl rfl)) (pss_one (ps_if (pt_cmpR op_eq (pe_ix ix_seq (pv 3) pe_int (fun _ _ => rfl)) pe_str (nomark _)) (pss_one (ps_set (i := 2) scLPaperOf.nd rfl (Or.inl rfl) (pe_op op_add_str (pv 2) (pe_own OoA (hr.mono (by omega)) (pa_cons (pv 0) (pa_cons (pe_ix ix_seq (pv 3) pe_int (fun _ _ => rfl)) pa_nil)))))) (pss_cons (ps_set (i := 4) scLPaperOf.nd rfl (Or.inl rfl) (pe_own Op (hr.mono (by omega)) (pa_cons (pv 0) (pa_cons pe_int pa_nil)))) (pss_one (ps_for PassesOwn.never rfl (pi_range1 rfl B.range (pa_cons (pe_op op_add (pe_ix ix_seq (pv 3) pe_int (fun _ _ => rfl)) (pe_ifExp (pt_cmpR op_isN (pe_ix ix_seq (pv 3) pe_int (fun _ _ => rfl)) pe_non (nomark _)) (pv 4) (pe_callB (call_min2 rfl) (by rfl) B.min (by decide +kernel) (pa_cons (pv 4) (pa_cons (pe_op op_sub (pe_ix ix_seq (pv 3) pe_int (fun _ _ => rfl)) (pe_ix ix_seq (pv 3) pe_int (fun _ _ => rfl))) pa_nil))))) pa_nil)) (pg_name (i := 5) scLPaperOf.nd rfl (Or.inl rfl)) (pss_one (ps_set (i := 2) scLPaperOf.nd rfl (Or.inl rfl) (pe_op op_add_str (pv 2) (pe_own OoA (hr.mono (by omega)) (pa_cons (pv 0) (pa_cons (pe_ix ix_seq (pv 3) pe_int (fun _ _ => rfl)) pa_nil)))))))))))) (pss_one (ps_ret (pe_slice sl_str (pv 2) po_none (po_some pe_int)))))), ?_⟩
    try dsimp only [cxOf, Cx.nox, Cx.wish]
    obtain ⟨a, xs, rfl, hS, hA⟩ := dp_tuple hd
    have hl := dpA_len hA
    rw [List.length_map] at hl
    have l6 := ho.2.1
    generalize ea : V.ref a = av
    walk_at "go"
    subst ea
    refine ⟨a, rfl, .inr ⟨⟨xs, hS⟩, fr_tup (xs := xs) (fun i σ H' => ∃ (o3 o4 o5 : Option V) (y : Str), σ = [some (.ref b), some (.ref a), some (.str y), o3, o4, o5] ∧ (tl y).length ≤ 16 * i ∧ (∀ c ∈ tl y, c ∈ tl z) ∧ IsBag H' b (n + 20 * i) ∧ Off b H H') ?_ ?_ ?_ ?_⟩⟩
    · exact ⟨none, none, none, _, rfl, Nat.le_refl _, fun c hc => (nomatch hc), hb, Off.refl _ _⟩
    · rintro i σ H' hi ⟨o3, o4, o5, y, rfl, hy1, hy2, hb1, of1⟩
      exact bag_kt hb of1.kp _ _ hS
    · rintro i x σ H' hx ⟨o3, o4, o5, y, rfl, hy1, hy2, hb1, of1⟩
      obtain ⟨dd, hd1, hd2⟩ := dpA_get hA hx
      rw [List.getElem?_map] at hd1
      obtain ⟨fl, hf, rfl⟩ := Option.map_eq_some_iff.mp hd1
      have hi := (List.getElem?_eq_some_iff.mp hf).1
      have ok := ho.2.2.2 fl (List.mem_of_getElem? hf)
      have hfd := dp_pure (bag_kt hb of1.kp) _ _ fl.pure hd2
      have ly := len_tl y
      walk_at "go"
      cases fl with
      | w nm ws =>
        obtain ⟨l, hq, hw⟩ := fd_wT hfd
        refine r_ixSq hq (at_0) ?_
        walk_at "go"
        refine r_ixSq hq (at_2) ?_
        walk_at "go"
        refine ⟨b, _, ws.map V.str, n + 20 * i, rfl, hb1, by omega, .inr ⟨l, rfl, hw, by rw [List.length_map]; have := ok.2.2.1; omega⟩, fun q => ok.2.1 (by simpa using q), fun x1 H2 hx1 hb2 of2 => ?_⟩
        obtain ⟨wd, hwd, rfl⟩ := List.mem_map.mp hx1
        have tw := text_of (ok.2.2.2.2 wd hwd)
        have lw := len_tl wd
        refine ⟨_, _, rfl, rfl, small_line (by omega), ?_⟩
        walk_at "go"
        refine ⟨_, _, _, _, rfl, by rw [tl_app, List.length_append]; omega, fun c hc => ?_, hb2.mono (by omega), of1.trans of2⟩
        rw [tl_app] at hc
        rcases List.mem_append.mp hc with q | q
        · exact hy2 c q
        · exact tw.2.2 c q
      | r nm al lo hi =>
        have hq := fd_r hfd
        refine r_ixSq hq (at_0) ?_
        walk_at "go"
        have ta := text_of ok.2.1
        have la := len_tl al
        have ok4 := ok.2.2.2.1
        have ok5 := ok.2.2.2.2
        refine ⟨b, _, n + 20 * i, rfl, hb1, by omega, by decide, fun r1 H2 r10 r11 hb2 of2 => ?_⟩
        obtain ⟨mo, rfl⟩ : ∃ mo : Nat, r1 = (mo : Int) := ⟨r1.toNat, by omega⟩
        have of12 := of1.trans of2
        have hq2 : Sq K H2 x [.str "run", .str nm, .str al, vi lo, oV hi] := fd_r (dp_pure (bag_kt hb1 of2.kp) _ _ (Fd.pure (.r nm al lo hi)) hfd)
        walk_at "go"
        refine r_ixSq hq2 (at_3) ?_
        refine r_ifJ (fun y2 H3 => ∃ g : Nat, y2 = vi g ∧ g ≤ 3 ∧ H3 = H2) (fun Q' hQ' => ?_) ?_
        · walk_at "go"
          refine r_ixSq hq2 (at_4) ?_
          walk_at "go"
          refine ⟨rfl, ?_⟩
          cases hi with
          | none =>
            refine ⟨true, rfl, ?_⟩
            rw [if_pos rfl]
            walk_at "go"
            exact hQ' _ _ ⟨mo, rfl, by omega, rfl⟩
          | some h =>
            obtain ⟨g1, g2, g3⟩ := ok5 h rfl
            refine ⟨false, by rw [decide_eq_false (fun q => by cases q)], ?_⟩
            rw [if_neg Bool.false_ne_true]
            walk_at "go"
            refine r_ixSq hq2 (at_4) ?_
            walk_at "go"
            refine r_ixSq hq2 (at_3) ?_
            refine K1.r_I0 ?_
            walk_at "go"
            refine ⟨_, _, rfl, ?_⟩
            obtain ⟨g, hg, hg3⟩ : ∃ g : Nat, (if ((h : Int) - (lo : Int)) < (mo : Int) then ((h : Int) - (lo : Int)) else (mo : Int)) = (g : Int) ∧ g ≤ 3 := by
              refine ⟨(if ((h : Int) - (lo : Int)) < (mo : Int) then ((h : Int) - (lo : Int)) else (mo : Int)).toNat, ?_⟩
              split <;> omega
            rw [hg]
            exact hQ' _ _ ⟨g, rfl, hg3, rfl⟩
        · rintro y2 H3 ⟨g, rfl, hg, rfl⟩
          walk_at "go"
          rw [show ((lo : Int) + (g : Int)) = ((lo + g : Nat) : Int) by omega]
          refine ⟨by omega, by omega, fr_range (lo := 0) (n := lo + g) (fun j σ H' => ∃ (o5 : Option V) (y' : Str), σ = [some (.ref b), some (.ref a), some (.str y'), some x, some (.int mo), o5] ∧ (tl y').length = (tl y).length + j ∧ (∀ c ∈ tl y', c ∈ tl z) ∧ IsBag H' b (n + 20 * i + 1 + j) ∧ Off b H H') ⟨_, y, rfl, rfl, hy2, hb2, of12⟩ ?_ ?_⟩
          · rintro j σ H4 hj ⟨o5', y', rfl, hl', hy', hb4, of4⟩
            have hq4 : Sq K H4 x [.str "run", .str nm, .str al, vi lo, oV hi] := fd_r (dp_pure (bag_kt hb of4.kp) _ _ (Fd.pure (.r nm al lo hi)) hd2)
            walk_at "go"
            refine r_ixSq hq4 (at_2) ?_
            walk_at "go"
            refine ⟨b, _, _, _, rfl, hb4, by omega, .inl (.inl ⟨al, rfl, rfl, by omega⟩), fun q => ?_, fun x1 H5 hx1 hb5 of5 => ?_⟩
            · have := congrArg List.length q
              rw [List.length_map, sgn_len, List.length_nil] at this
              omega
            obtain ⟨c, hc, rfl⟩ := mem_sgn hx1
            have ly' := len_tl y'
            refine ⟨_, _, rfl, rfl, small_line (by show y'.length + 1 ≤ 1000; omega), ?_⟩
            walk_at "go"
            refine ⟨_, _, rfl, by rw [tl_app, List.length_append, hl']; rfl, fun d hdd => ?_, hb5, of4.trans of5⟩
            rw [tl_app] at hdd
            rcases List.mem_append.mp hdd with q | q
            · exact hy' d q
            · rw [show d = c by simpa using (show d ∈ [c] from q)]; exact ta.2.2 c hc
          · rintro σ H4 ⟨o5', y', rfl, hl', hy', hb4, of4⟩
            exact ⟨_, _, _, y', rfl, by omega, hy', hb4.mono (by omega), of4⟩
    · rintro σ H' ⟨o3, o4, o5, y, rfl, hy1, hy2, hb1, of1⟩
      walk_at "go"
      have ly := len_tl y
      rw [hl] at hy1 hb1
      refine ⟨small_line (by omega), ?_⟩
      have tc : tl (cutS y none (some 60)) = (tl y).take 60 := tl_cut_to 60
      refine k H' _ (text_mk (by omega) (by rw [tc, List.length_take]; omega) fun c hc => ?_) (hb1.mono (by omega)) of1
      rw [tc] at hc
      exact hy2 c (List.mem_of_mem_take hc)
end
end K4

/-! L19f -/


namespace K4
open PySem L2 K1
abbrev sLSpoilt : Stmt := top 63
abbrev nLSpoilt : List Str := ["_law_bag", "_law_signs", "_law_paper_here", "_law_way", "_law_at"]
theorem scLSpoilt : FnScope nLSpoilt ["_law_bag", "_law_signs", "_law_paper_here"] (defScope sLSpoilt) := ⟨rfl, rfl, rfl, by decide +kernel, rfl, by decide +kernel, by decide +kernel⟩
abbrev sLBadPaper : Stmt := top 71
abbrev nLBadPaper : List Str := ["_law_bag", "_law_signs", "_law_paper_here", "_law_way", "_law_strange", "_law_at", "_law_sign"]
theorem scLBadPaper : FnScope nLBadPaper ["_law_bag", "_law_signs", "_law_paper_here"] (defScope sLBadPaper) := ⟨rfl, rfl, rfl, by decide +kernel, rfl, by decide +kernel, by decide +kernel⟩
theorem all128 : ∀ c ∈ tl K4.ALL, c < 128 := by decide +kernel
theorem nd_sub : ∀ {l m : List Nat}, l.Nodup → (∀ x ∈ l, x ∈ m) → l.length ≤ m.length
  | [], _, _, _ => Nat.zero_le _
  | a :: l, m, h, s => by
    rw [List.nodup_cons] at h
    have ha := s a (List.mem_cons_self ..)
    have ih := nd_sub (l := l) (m := m.erase a) h.2 fun x hx => (List.mem_erase_of_ne (fun e => h.1 (by rw [← e]; exact hx))).mpr (s x (List.mem_cons_of_mem _ hx))
    have := List.length_erase_of_mem ha
    have := List.length_pos_of_mem ha
    rw [List.length_cons]
    omega
theorem all_nd : (tl K4.ALL).Nodup ∧ (tl K4.ALL).length = 36 := by decide +kernel
/-- the signs that are not among these -/
def oth (z : List Nat) : List Nat := (tl K4.ALL).filter fun c => !decide (c ∈ z)
theorem filt_succ {l z : List Nat} {i c : Nat} (h : l[i]? = some c) : (l.take (i + 1)).filter (fun c => !decide (c ∈ z)) = (l.take i).filter (fun c => !decide (c ∈ z)) ++ (if c ∈ z then [] else [c]) := by
  rw [List.take_succ, h, List.filter_append]
  by_cases q : c ∈ z <;> simp [q]
theorem oth_ne {z : List Nat} (h : z.length ≤ 12) : oth z ≠ [] := by
  intro e
  have hs : ∀ c ∈ tl K4.ALL, c ∈ z := fun c hc => by
    by_cases q : c ∈ z
    · exact q
    · have : c ∈ oth z := List.mem_filter.mpr ⟨hc, by rw [decide_eq_false q]; rfl⟩
      rw [e] at this; cases this
  have := nd_sub all_nd.1 hs
  have := all_nd.2
  omega
theorem oth_mem {z : List Nat} {c : Nat} (h : c ∈ oth z) : c ∉ z ∧ c < 128 := by
  obtain ⟨h1, h2⟩ := List.mem_filter.mp h
  refine ⟨fun q => ?_, all128 c h1⟩
  rw [decide_eq_true q] at h2; cases h2
theorem oth_len (z : List Nat) : (oth z).length ≤ 36 := by
  have := List.length_filter_le (fun c => !decide (c ∈ z)) (tl K4.ALL)
  have := all_nd.2
  unfold oth
  omega
theorem fold_app : ∀ (l : List (Array Nat)) (a : Array Nat), (l.foldl (· ++ ·) a).toList = a.toList ++ (l.map Array.toList).flatten
  | [], a => by simp
  | b :: l, a => by rw [List.foldl_cons, fold_app l]; simp
theorem tl_rep (z : Str) (n : Nat) : tl (repS z n) = (List.replicate n (tl z)).flatten := by
  show ((List.replicate n z.cps).foldl (· ++ ·) #[]).toList = _
  rw [fold_app, List.map_replicate]
  rfl
theorem rep_mem {z : Str} {n : Nat} {c : Nat} (h : c ∈ tl (repS z n)) : c ∈ tl z := by
  rw [tl_rep] at h
  obtain ⟨l, hl, hc⟩ := List.mem_flatten.mp h
  rw [(List.mem_replicate.mp hl).2] at hc
  exact hc
theorem rep_len (z : Str) (n : Nat) : (tl (repS z n)).length = n * (tl z).length := by
  rw [tl_rep]
  simp
theorem text_char {z y : Str} {c : Nat} (h : c ∈ tl y) (n : c ∉ tl z) : textB 0 60 z y = false := by
  have : ((tl y).all fun c => decide (c ∈ tl z)) = false := by
    rw [← Bool.not_eq_true, List.all_eq_true]
    intro q
    exact n (of_decide_eq_true (q c h))
  unfold textB
  rw [this]; simp
theorem text_long {z y : Str} (h : 60 < y.length) : textB 0 60 z y = false := by
  unfold textB
  rw [decide_eq_false (show ¬ (y.length : Int) ≤ 60 by omega)]
  simp
theorem pick_any {K : PySem.W.Frag} {H : Hp} {Q : VK} {b : Addr} {n i : Nat} {m : Int} {σ : L2.St} {ys : List V} (hb : IsBag H b n) (em : m = (ys.length : Int)) (hv : ∀ (H : Hp) (Q : VK), Q (.ref b) H → tVar i σ H Q) (hl : ys.length ≤ 1000) (ne : 2 ≤ ys.length) (hn : n ≤ 2 ^ 40)
    (k : ∀ v H', v ∈ ys → IsBag H' b (n + 1) → Kp b H H' → Q v H') : ys.length ≤ sizeLine ∧ ∀ p, H p = none → tCall spPick [] E0 (tCons (tVar i) (tCons (tC (V.int m)) tNil)) σ (upd H p (.lst ys)) (fun y H1 => rIxL K (.ref p) y H1 Q) := by
  refine ⟨small_line hl, fun p hp => ?_⟩
  refine r_call (r_cons (hv _ _ ?_))
  walk_at "go"
  refine ⟨b, _, n, rfl, hb.new hp, hn, by omega, fun r H2 r0 r1 hb2 of2 => ?_⟩
  have npb := hb.ne hp
  obtain ⟨x, ex, hx, _⟩ := at_nat' (xs := ys) r0 (by omega)
  exact r_ixL (SqL.of (of2.at npb upd_same)) ex (k x H2 hx hb2 ((Same.kp (same_new hp)).trans of2.kp))

def spSpoilt : Sp := fun vs H Q _ => ∃ (b : Addr) (z p : Str) (n : Nat), vs = [.ref b, .str z, .str p] ∧ IsBag H b n ∧ n ≤ 2 ^ 38 ∧ Good z ∧ textB 0 60 z p = true ∧
  ∀ H' p', textB 0 60 z p' = true → IsBag H' b (n + 3) → Off b H H' → Q (.str p') H'
section
variable {P : Program} {w : World} {K : PySem.W.Frag} {mg : Str → Option Value} {base : Heap}
theorem ok_spoilt {f : Addr} {fd : FuncData} (F : Fun K "_law_spoilt" "_law_spoilt" sLSpoilt f fd) (B : Bl mg) (Op : OPick P w K mg base) (Oo : OOneOf P w K mg base) : FnOk P w K mg base CX0 3 f fd ["_law_bag", "_law_signs", "_law_paper_here"] spSpoilt := by
  refine F.ok scLSpoilt (fun vs H Q E h => ?_) (fun cdv A outer s H vs Q E hr h => ?_)
  · obtain ⟨b, z, p, n, rfl, _⟩ := h
    rfl
  · obtain ⟨b, z, p, n, rfl, hb, hn, gz, hp, k⟩ := h
    refine ⟨_, (pss_cons (ps_set (i := 3) scLSpoilt.nd rfl (Or.inl rfl) (pe_own Op (hr.mono (by omega)) (pa_cons (pv 0) (pa_cons pe_int pa_nil)))) (pss_cons (ps_set (i := 4) scLSpoilt.nd rfl (Or.inl rfl) (pe_own Op (hr.mono (by omega)) (pa_cons (pv 0) (pa_cons (pe_op op_add (pe_callB call_len (by rfl) B.len PySem.boot_len (pa_cons (pv 2) pa_nil)) pe_int) pa_nil)))) (pss_cons (ps_if (pt_cmpR op_eq (pv 3) pe_int (nomark _)) (pss_one (ps_ret (pe_slice sl_str (pe_op op_add_str (pe_op op_add_str (pe_slice sl_str (pv 2) po_none (po_some (pv 4))) (pe_own Oo (hr.mono (by omega)) (pa_cons (pv 0) (pa_cons (pv 1) pa_nil)))) (pe_slice sl_str (pv 2) (po_some (pe_op op_add (pv 4) pe_int)) po_none)) po_none (po_some pe_int)))) pss_nil) (pss_cons (ps_if (pt_cmpR op_eq (pv 3) pe_int (nomark _)) (pss_one (ps_ret (pe_op op_add_str (pe_slice sl_str (pv 2) po_none (po_some (pv 4))) (pe_slice sl_str (pv 2) (po_some (pe_op op_add (pv 4) pe_int)) po_none)))) pss_nil) (pss_cons (ps_if (pt_cmpR op_eq (pv 3) pe_int (nomark _)) (pss_one (ps_ret (pe_slice sl_str (pe_op op_add_str (pe_op op_add_str (pe_slice sl_str (pv 2) po_none (po_some (pv 4))) (pe_own Oo (hr.mono (by omega)) (pa_cons (pv 0) (pa_cons (pv 1) pa_nil)))) (pe_slice sl_str (pv 2) (po_some (pv 4)) po_none)) po_none (po_some pe_int)))) pss_nil) (pss_one (ps_ret (pe_op op_add_str (pe_op op_add_str (pe_op op_add_str (pe_slice sl_str (pv 2) po_none (po_some (pv 4))) (pe_slice sl_str (pv 2) (po_some (pe_op op_add (pv 4) pe_int)) (po_some (pe_op op_add (pv 4) pe_int)))) (pe_slice sl_str (pv 2) (po_some (pv 4)) (po_some (pe_op op_add (pv 4) pe_int)))) (pe_slice sl_str (pv 2) (po_some (pe_op op_add (pv 4) pe_int)) po_none))))))))), ?_⟩
    try dsimp only [cxOf, Cx.nox, Cx.wish]
    have tp := text_of hp
    have lp := len_tl p
    walk_at "go"
    refine ⟨b, _, n, rfl, hb, by omega, by decide, fun way H1 w0 w1 hb1 of1 => ?_⟩
    walk_at "go"
    refine ⟨_, _, rfl, lenS (small_line (by omega)), ?_⟩
    walk_at "go"
    refine ⟨b, _, n + 1, rfl, hb1, by omega, by omega, fun r H2 r0 r1 hb2 of2 => ?_⟩
    obtain ⟨a, rfl⟩ : ∃ a : Nat, r = (a : Int) := ⟨r.toNat, by omega⟩
    have e1 : ((a : Int) + 1) = ((a + 1 : Nat) : Int) := rfl
    have e2 : ((a : Int) + 2) = ((a + 2 : Nat) : Int) := rfl
    have tA : tl (cutS p none (some (a : Int))) = (tl p).take a := tl_cut_to a
    have tB : tl (cutS p (some ((a : Int) + 1)) none) = (tl p).drop (a + 1) := tl_cut_from (a + 1)
    have tC' : tl (cutS p (some ((a : Int) + 1)) (some ((a : Int) + 2))) = ((tl p).drop (a + 1)).take 1 := by
      rw [e1, e2, tl_cut_mid]; congr 1; omega
    have tD : tl (cutS p (some (a : Int)) (some ((a : Int) + 1))) = ((tl p).drop a).take 1 := by
      rw [e1, tl_cut_mid]; congr 1; omega
    have tE : tl (cutS p (some ((a : Int) + 2)) none) = (tl p).drop (a + 2) := tl_cut_from (a + 2)
    have tF : tl (cutS p (some (a : Int)) none) = (tl p).drop a := tl_cut_from a
    have lA : (cutS p none (some (a : Int))).length = min a (tl p).length := by rw [len_tl, tA, List.length_take]
    have lB : (cutS p (some ((a : Int) + 1)) none).length = (tl p).length - (a + 1) := by rw [len_tl, tB, List.length_drop]
    have lC : (cutS p (some ((a : Int) + 1)) (some ((a : Int) + 2))).length = min 1 ((tl p).length - (a + 1)) := by rw [len_tl, tC', List.length_take, List.length_drop]
    have lD : (cutS p (some (a : Int)) (some ((a : Int) + 1))).length = min 1 ((tl p).length - a) := by rw [len_tl, tD, List.length_take, List.length_drop]
    have lE : (cutS p (some ((a : Int) + 2)) none).length = (tl p).length - (a + 2) := by rw [len_tl, tE, List.length_drop]
    have lF : (cutS p (some (a : Int)) none).length = (tl p).length - a := by rw [len_tl, tF, List.length_drop]
    have l1 : ∀ c : Nat, (one c).length = 1 := fun _ => rfl
    have sub2 : ∀ x y : Str, (∀ c ∈ tl x, c ∈ tl z) → (∀ c ∈ tl y, c ∈ tl z) → ∀ c ∈ tl (x ++ y), c ∈ tl z := fun x y hx hy c hc => by
      rw [tl_app] at hc
      rcases List.mem_append.mp hc with q | q
      · exact hx c q
      · exact hy c q
    have sp : ∀ lo hi, ∀ c ∈ tl (cutS p lo hi), c ∈ tl z := fun lo hi c hc => tp.2.2 c (cut_mem c hc)
    have so : ∀ d, d ∈ tl z → ∀ c ∈ tl (one d), c ∈ tl z := fun d hd c hc => by
      rw [show c = d by simpa using (show c ∈ [d] from hc)]; exact hd
    have of12 := of1.trans of2
    walk_at "go"
    refine r_iteN' (fun h0 => ?_) (fun h0 => ?_)
    · walk_at "go"
      refine ⟨small_line (by omega), ?_⟩
      walk_at "go"
      refine one_sign gz hb2 (by omega) (fun c H3 hc hb3 of3 => ?_)
      have lw1 := l1 c
      have lw := app_lenS (cutS p none (some (a : Int))) (one c)
      refine ⟨_, _, rfl, rfl, small_line (by omega), ?_⟩
      walk_at "go"
      refine ⟨small_line (by omega), ?_⟩
      walk_at "go"
      have lw2 := app_lenS (cutS p none (some (a : Int)) ++ one c) (cutS p (some ((a : Int) + 1)) none)
      refine ⟨_, _, rfl, rfl, small_line (by omega), ?_⟩
      walk_at "go"
      refine ⟨small_line (by omega), ?_⟩
      have tcut : tl (cutS (cutS p none (some (a : Int)) ++ one c ++ cutS p (some ((a : Int) + 1)) none) none (some 60)) = (tl (cutS p none (some (a : Int)) ++ one c ++ cutS p (some ((a : Int) + 1)) none)).take 60 := tl_cut_to 60
      refine k _ _ (text_mk (by omega) (by rw [tcut, List.length_take]; omega) fun d hd => ?_) (hb3.mono (by omega)) (of12.trans of3)
      rw [tcut] at hd
      exact sub2 _ _ (sub2 _ _ (sp _ _) (so c hc)) (sp _ _) d (List.mem_of_mem_take hd)
    · walk_at "go"
      refine r_iteN' (fun h1 => ?_) (fun h1 => ?_)
      · walk_at "go"
        refine ⟨small_line (by omega), ?_⟩
        walk_at "go"
        refine ⟨small_line (by omega), ?_⟩
        walk_at "go"
        have lw := app_lenS (cutS p none (some (a : Int))) (cutS p (some ((a : Int) + 1)) none)
        refine ⟨_, _, rfl, rfl, small_line (by omega), ?_⟩
        exact k _ _ (text_mk (by omega) (by rw [← len_tl]; omega) (sub2 _ _ (sp _ _) (sp _ _))) (hb2.mono (by omega)) of12
      · walk_at "go"
        refine r_iteN' (fun h2 => ?_) (fun h2 => ?_)
        · walk_at "go"
          refine ⟨small_line (by omega), ?_⟩
          walk_at "go"
          refine one_sign gz hb2 (by omega) (fun c H3 hc hb3 of3 => ?_)
          have lw1 := l1 c
          have lw := app_lenS (cutS p none (some (a : Int))) (one c)
          refine ⟨_, _, rfl, rfl, small_line (by omega), ?_⟩
          walk_at "go"
          refine ⟨small_line (by omega), ?_⟩
          walk_at "go"
          have lw2 := app_lenS (cutS p none (some (a : Int)) ++ one c) (cutS p (some (a : Int)) none)
          refine ⟨_, _, rfl, rfl, small_line (by omega), ?_⟩
          walk_at "go"
          refine ⟨small_line (by omega), ?_⟩
          have tcut : tl (cutS (cutS p none (some (a : Int)) ++ one c ++ cutS p (some (a : Int)) none) none (some 60)) = (tl (cutS p none (some (a : Int)) ++ one c ++ cutS p (some (a : Int)) none)).take 60 := tl_cut_to 60
          refine k _ _ (text_mk (by omega) (by rw [tcut, List.length_take]; omega) fun d hd => ?_) (hb3.mono (by omega)) (of12.trans of3)
          rw [tcut] at hd
          exact sub2 _ _ (sub2 _ _ (sp _ _) (so c hc)) (sp _ _) d (List.mem_of_mem_take hd)
        · walk_at "go"
          refine ⟨small_line (by omega), ?_⟩
          walk_at "go"
          refine ⟨small_line (by omega), ?_⟩
          walk_at "go"
          have lt1 := app_lenS (cutS p none (some (a : Int))) (cutS p (some ((a : Int) + 1)) (some ((a : Int) + 2)))
          refine ⟨_, _, rfl, rfl, small_line (by omega), ?_⟩
          walk_at "go"
          refine ⟨small_line (by omega), ?_⟩
          walk_at "go"
          have lt2 := app_lenS (cutS p none (some (a : Int)) ++ cutS p (some ((a : Int) + 1)) (some ((a : Int) + 2))) (cutS p (some (a : Int)) (some ((a : Int) + 1)))
          refine ⟨_, _, rfl, rfl, small_line (by omega), ?_⟩
          walk_at "go"
          refine ⟨small_line (by omega), ?_⟩
          walk_at "go"
          have lt3 := app_lenS (cutS p none (some (a : Int)) ++ cutS p (some ((a : Int) + 1)) (some ((a : Int) + 2)) ++ cutS p (some (a : Int)) (some ((a : Int) + 1))) (cutS p (some ((a : Int) + 2)) none)
          refine ⟨_, _, rfl, rfl, small_line (by omega), ?_⟩
          exact k _ _ (text_mk (by omega) (by rw [← len_tl]; omega) (sub2 _ _ (sub2 _ _ (sub2 _ _ (sp _ _) (sp _ _)) (sp _ _)) (sp _ _))) (hb2.mono (by omega)) of12
def spBadPaper (K : PySem.W.Frag) : Sp := fun vs H Q _ => ∃ (b : Addr) (z x : Str) (n : Nat), vs = [.ref b, .str z, .str x] ∧ IsBag H b n ∧ n ≤ 2 ^ 38 ∧ Good z ∧ textB 0 60 z x = true ∧
  ∀ H' y, (∀ H2, Kp b H' H2 → BadP K H2 z y ∧ ∃ d, Dp K H2 y d ∧ flatN d = true ∧ d.depth ≤ 1) → IsBag H' b (n + 3) → Kp b H H' → Q y H'
theorem bad_str {K : PySem.W.Frag} {b : Addr} {H : Hp} {z y : Str} (h : ∀ c ∈ tl y, c < 128) (l : y.length ≤ 1000) (t : textB 0 60 z y = false) : ∀ H2, Kp b H H2 → BadP K H2 z (.str y) ∧ ∃ d, Dp K H2 (.str y) d ∧ flatN d = true ∧ d.depth ≤ 1 := fun H2 _ =>
  ⟨.inl ⟨y, rfl, l, t⟩, .str y, .str y, strOk_of fun c hc => by have := h c hc; omega, Nat.zero_le _⟩
theorem ok_badPaper {f : Addr} {fd : FuncData} (F : Fun K "_law_bad_paper" "_law_bad_paper" sLBadPaper f fd) (B : Bl mg) (Op : OPick P w K mg base) (Oo : OOneOf P w K mg base) : FnOk P w K mg base CX0 3 f fd ["_law_bag", "_law_signs", "_law_paper_here"] (spBadPaper K) := by
  refine F.ok scLBadPaper (fun vs H Q E h => ?_) (fun cdv A outer s H vs Q E hr h => ?_)
  · obtain ⟨b, z, x, n, rfl, _⟩ := h
    rfl
  · obtain ⟨b, z, x, n, rfl, hb, hn, gz, hx, k⟩ := h
    refine ⟨_, (pss_cons (ps_set (i := 3) scLBadPaper.nd rfl (Or.inl rfl) (pe_own Op (hr.mono (by omega)) (pa_cons (pv 0) (pa_cons pe_int pa_nil)))) (pss_cons (ps_setLc (i := 4) (own := [("_law_sign", 6)]) (g := gName 6) rfl scLBadPaper.nd rfl rfl (sw_true rfl rfl rfl (by decide +kernel)) (pi_str pe_str) (blkOk_by (N := nLBadPaper) (sc := defScope sLBadPaper) (by decide +kernel)) (fun _ _ _ _ _ => (pg_name (i := 6) scLBadPaper.nd rfl (Or.inl rfl))) (fun _ _ _ _ _ => (pts_one (pt_cmpR op_notIn_sign (pv 6) (pv 1) (by rfl)))) (fun _ _ _ _ _ => (pv 6))) (pss_cons (ps_set (i := 5) scLBadPaper.nd rfl (Or.inl rfl) (pe_own Op (hr.mono (by omega)) (pa_cons (pv 0) (pa_cons (pe_op op_add (pe_callB call_len (by rfl) B.len PySem.boot_len (pa_cons (pv 2) pa_nil)) pe_int) pa_nil)))) (pss_cons (ps_if (pt_cmpR op_lt (pv 3) pe_int (nomark _)) (pss_one (ps_ret (pe_op op_add_str (pe_op op_add_str (pe_slice sl_str (pv 2) po_none (po_some (pv 5))) (pe_own Oo (hr.mono (by omega)) (pa_cons (pv 0) (pa_cons (pv 4) pa_nil)))) (pe_slice sl_str (pv 2) (po_some (pv 5)) po_none)))) pss_nil) (pss_cons (ps_if (pt_cmpR op_lt (pv 3) pe_int (nomark _)) (pss_one (ps_ret (pe_op op_mul_str (pe_own Oo (hr.mono (by omega)) (pa_cons (pv 0) (pa_cons (pv 1) pa_nil))) pe_int))) pss_nil) (pss_one (ps_ret (pe_ix ix_list (pe_lst (pa_cons pe_non (pa_cons (pe_op op_add_str (pe_op op_add_str (pe_slice sl_str (pv 2) po_none (po_some (pv 5))) pe_str) (pe_slice sl_str (pv 2) (po_some (pv 5)) po_none)) (pa_cons (pe_lst (pa_cons (pe_ix ix_str (pv 1) pe_int (fun _ _ => rfl)) (pa_cons (pe_ix ix_str (pv 1) pe_int (fun _ _ => rfl)) pa_nil))) pa_nil)))) (pe_op op_sub (pv 3) pe_int) (fun _ _ => rfl))))))))), ?_⟩
    try dsimp only [cxOf, Cx.nox, Cx.wish]
    have tx := text_of hx
    have lx := len_tl x
    have z2 : 2 ≤ (tl z).length := gz.lo
    have z12 : (tl z).length ≤ 12 := gz.hi
    have lz := len_tl z
    have zA : ∀ c ∈ tl z, c < 128 := fun c hc => all128 c (gz.all c hc)
    have xA : ∀ c ∈ tl x, c < 128 := fun c hc => zA c (tx.2.2 c hc)
    walk_at "go"
    refine ⟨b, _, n, rfl, hb, by omega, by decide, fun way H1 w0 w1 hb1 of1 => ?_⟩
    walk_at "go"
    intro D hD
    have nDb := hb1.ne hD
    refine lc_it (walk_sgn (z := "0123456789ABCDEFGHIJKLMNOPQRSTUVWXYZ")) (fun i H' => H' D = some (.lst ((((tl K4.ALL).take i).filter fun c => !decide (c ∈ tl z)).map fun c => V.str (one c))) ∧ Same H1 H') ⟨upd_same, same_new hD⟩ (fun _ _ _ _ => trivial) ?_ ?_
    · rintro i y H2 H2' hi ⟨eD, s2⟩ ⟨eH, hx⟩
      rw [eH]
      clear eH H2'
      have hx2 : y = V.str (one ((tl K4.ALL).getD i 0)) ∧ (tl K4.ALL)[i]? = some ((tl K4.ALL).getD i 0) := by
        have hx3 : ((tl K4.ALL).map one).map V.str = ((sgn "0123456789ABCDEFGHIJKLMNOPQRSTUVWXYZ").map V.str) := rfl
        rw [← hx3, List.getElem?_map, List.getElem?_map] at hx
        cases e : (tl K4.ALL)[i]? with
        | none => rw [e] at hx; cases hx
        | some c =>
          rw [e] at hx
          have e2 : (tl K4.ALL).getD i 0 = c := by rw [List.getD_eq_getElem?_getD, e]; rfl
          rw [e2]
          exact ⟨(Option.some.inj hx).symm, rfl⟩
      obtain ⟨rfl, hc⟩ := hx2
      revert hc
      generalize (tl K4.ALL).getD i 0 = c
      intro hc
      have tk := filt_succ (z := tl z) hc
      refine ⟨rfl, ?_⟩
      walk_at "go"
      refine ⟨c, z, rfl, rfl, ?_⟩
      walk_at "go"
      by_cases q : c ∈ tl z
      · rw [decide_eq_true (show c ∈ z.cps.toList from q)]
        walk_at "go"
        rw [tk, if_pos q, List.append_nil]
        exact ⟨eD, s2⟩
      · rw [decide_eq_false (show ¬ c ∈ z.cps.toList from q)]
        walk_at "go"
        refine ⟨_, eD, line60 ?_, ?_, same_upd s2 hD⟩
        · rw [List.length_map]
          have := List.length_filter_le (fun c => !decide (c ∈ tl z)) ((tl K4.ALL).take i)
          rw [List.length_take] at this
          have := all_nd.2
          omega
        · rw [upd_same, tk, if_neg q, List.map_append]; rfl
    · rintro H2 ⟨eD, s2⟩
      have eD2 : H2 D = some (.lst (((oth (tl z)).map one).map V.str)) := by
        rw [eD, List.take_of_length_le (by decide +kernel), List.map_map]
        rfl
      have hb2 := hb1.same s2
      have k2 := of1.kp.trans (Same.kp s2)
      walk_at "go"
      refine ⟨_, _, rfl, lenS (small_line (by omega)), ?_⟩
      walk_at "go"
      refine ⟨b, _, n + 1, rfl, hb2, by omega, by omega, fun r3 H3 r30 r31 hb3 of3 => ?_⟩
      obtain ⟨a, rfl⟩ : ∃ a : Nat, r3 = (a : Int) := ⟨r3.toNat, by omega⟩
      have tA : tl (cutS x none (some (a : Int))) = (tl x).take a := tl_cut_to a
      have tF : tl (cutS x (some (a : Int)) none) = (tl x).drop a := tl_cut_from a
      have lA : (cutS x none (some (a : Int))).length ≤ 60 := by rw [len_tl, tA, List.length_take]; omega
      have lF : (cutS x (some (a : Int)) none).length ≤ 60 := by rw [len_tl, tF, List.length_drop]; omega
      have eD3 := of3.at nDb eD2
      have k3 := k2.trans of3.kp
      have mid : ∀ d, d ∉ tl z → d < 128 → (∀ e ∈ tl (cutS x none (some (a : Int)) ++ one d ++ cutS x (some (a : Int)) none), e < 128) ∧ textB 0 60 z (cutS x none (some (a : Int)) ++ one d ++ cutS x (some (a : Int)) none) = false := fun d d1 d2 => by
        refine ⟨fun e he => ?_, text_char (c := d) ?_ d1⟩
        · rw [tl_app, tl_app] at he
          rcases List.mem_append.mp he with q | q
          · rcases List.mem_append.mp q with q | q
            · rw [tA] at q; exact xA e (List.mem_of_mem_take q)
            · rw [show e = d by simpa using (show e ∈ [d] from q)]; exact d2
          · rw [tF] at q; exact xA e (List.mem_of_mem_drop q)
        · rw [tl_app, tl_app]
          exact List.mem_append_left _ (List.mem_append_right _ (show d ∈ [d] by simp))
      walk_at "go"
      refine r_iteN' (fun h0 => ?_) (fun h0 => ?_)
      · walk_at "go"
        refine ⟨small_line (by omega), ?_⟩
        walk_at "go"
        refine ⟨b, _, ((oth (tl z)).map one).map V.str, _, rfl, hb3, by omega, .inr ⟨D, rfl, SqL.of eD3, nDb, by rw [List.length_map, List.length_map]; have := oth_len (tl z); omega⟩, fun e => oth_ne z12 (by simpa using e), fun v H4 hv hb4 of4 => ?_⟩
        obtain ⟨y0, hy0, rfl⟩ := List.mem_map.mp hv
        obtain ⟨c, hc, rfl⟩ := List.mem_map.mp hy0
        obtain ⟨c1, c2⟩ := oth_mem hc
        have ap := app_lenS (cutS x none (some (a : Int))) (one c)
        have ap2 := app_lenS (cutS x none (some (a : Int)) ++ one c) (cutS x (some (a : Int)) none)
        have l1 : (one c).length = 1 := rfl
        refine ⟨_, _, rfl, rfl, small_line (by omega), ?_⟩
        walk_at "go"
        refine ⟨small_line (by omega), ?_⟩
        walk_at "go"
        refine ⟨_, _, rfl, rfl, small_line (by omega), ?_⟩
        exact k H4 _ (bad_str (mid c c1 c2).1 (by omega) (mid c c1 c2).2) (hb4.mono (by omega)) (k3.trans of4.kp)
      · walk_at "go"
        refine r_iteN' (fun h1 => ?_) (fun h1 => ?_)
        · walk_at "go"
          refine one_sign gz hb3 (by omega) (fun c H4 hc hb4 of4 => ?_)
          refine ⟨one c, 61, rfl, rfl, by decide, by decide, Nat.le_refl 1, small_line (by show 1 * 61 ≤ 1000; decide), ?_⟩
          have lr := rep_len (one c) 61
          have lr2 := len_tl (repS (one c) 61)
          have l1 : (tl (one c)).length = 1 := rfl
          rw [l1] at lr
          refine k H4 _ (bad_str (fun e he => ?_) (by show (repS (one c) 61).length ≤ 1000; omega) (text_long (by show 60 < (repS (one c) 61).length; omega))) (hb4.mono (by omega)) (k3.trans of4.kp)
          have := rep_mem he
          rw [show e = c by simpa using (show e ∈ [c] from this)]
          exact zA c hc
        · walk_at "go"
          refine ⟨small_line (by omega), ?_⟩
          walk_at "go"
          have ap := app_lenS (cutS x none (some (a : Int))) (one 120)
          have ap2 := app_lenS (cutS x none (some (a : Int)) ++ one 120) (cutS x (some (a : Int)) none)
          have l1 : (one 120).length = 1 := rfl
          refine ⟨_, one 120, rfl, rfl, small_line (by omega), ?_⟩
          walk_at "go"
          refine ⟨small_line (by omega), ?_⟩
          walk_at "go"
          refine ⟨_, _, rfl, rfl, small_line (by omega), ?_⟩
          walk_at "go"
          have g0 : (tl z)[0]? = some (tl z)[0] := List.getElem?_eq_getElem (by omega)
          have g1 : (tl z)[1]? = some (tl z)[1] := List.getElem?_eq_getElem (by omega)
          refine r_ixS (small_line (by omega)) (atI_nat (j := 0) g0) ?_
          walk_at "go"
          refine r_ixS (small_line (by omega)) (atI_nat (j := 1) g1) ?_
          walk_at "go"
          refine ⟨(by show 2 ≤ sizeLine; decide), fun L hL => ?_⟩
          have sL := same_new (o := HO.lst [V.str (one (tl z)[0]), V.str (one (tl z)[1])]) hL
          have eL : (upd H3 L (.lst [V.str (one (tl z)[0]), V.str (one (tl z)[1])])) L = some (.lst [V.str (one (tl z)[0]), V.str (one (tl z)[1])]) := upd_same
          have nLb := hb3.ne hL
          have hbL := hb3.same sL
          walk_at "go"
          refine ⟨(by show 3 ≤ sizeLine; decide), fun M hM => ?_⟩
          have sM := same_new (o := HO.lst [V.non, V.str (cutS x none (some (a : Int)) ++ one 120 ++ cutS x (some (a : Int)) none), V.ref L]) hM
          have hbM := hbL.same sM
          have eL5 := sM _ _ eL
          have kM := k3.trans (Same.kp (b := b) (sL.trans sM))
          have no120 : 120 ∉ tl z := fun q => (by decide +kernel : (120 : Nat) ∉ tl K4.ALL) (gz.all 120 q)
          have w5 : way = 5 ∨ way = 6 ∨ way = 7 := by omega
          walk_at "go"
          rcases w5 with rfl | rfl | rfl
          · refine ⟨M, _, 0, V.non, rfl, rfl, SqL.of upd_same, rfl, ?_⟩
            exact k _ _ (fun H9 k9 => ⟨.inr fun H8 _ => ⟨"NoneType", .base .non, kit_ty (by decide +kernel)⟩, .none, .non, rfl, Nat.zero_le _⟩) (hbM.mono (by omega)) kM
          · refine ⟨M, _, 1, V.str (cutS x none (some (a : Int)) ++ one 120 ++ cutS x (some (a : Int)) none), rfl, rfl, SqL.of upd_same, rfl, ?_⟩
            exact k _ _ (bad_str (mid 120 no120 (by decide)).1 (by omega) (mid 120 no120 (by decide)).2) (hbM.mono (by omega)) kM
          · refine ⟨M, _, 2, V.ref L, rfl, rfl, SqL.of upd_same, rfl, ?_⟩
            refine k _ _ (fun H9 k9 => ?_) (hbM.mono (by omega)) kM
            have e9 := k9 _ _ nLb eL5
            refine ⟨.inr fun H8 s8 => ⟨"list", .base (.lst (s8 _ _ e9)), kit_ty (by decide +kernel)⟩, .list [.str (one (tl z)[0]), .str (one (tl z)[1])], .lst (SqL.of e9) (.cons (.str _) (.cons (.str _) .nil)), ?_, Nat.le_refl 1⟩
            show (PyData.strOk _ && (PyData.strOk _ && true)) = true
            have st : ∀ c ∈ tl z, PyData.strOk (one c) = true := fun c hc => strOk_of fun d hd => by
              rw [show d = c by simpa using (show d ∈ [c] from hd)]
              have := zA c hc
              omega
            rw [st _ (List.getElem_mem _), st _ (List.getElem_mem _)]; rfl
end
end K4

/-! L19g -/


namespace K4
open PySem L2 K1
abbrev sLFieldEnds : Stmt := top 56
abbrev nLFieldEnds : List Str := ["_law_field", "_law_paper_here", "_law_at", "_law_told", "_law_end", "_law_word"]
theorem scLFieldEnds : FnScope nLFieldEnds ["_law_field", "_law_paper_here", "_law_at"] (defScope sLFieldEnds) := ⟨rfl, rfl, rfl, by decide +kernel, rfl, by decide +kernel, by decide +kernel⟩
/-! The law's ends of fields. -/
def spFieldEnds (K : PySem.W.Frag) : Sp := fun vs H Q _ => ∃ (z p : Str) (v : V) (f : Fd) (a : Nat), vs = [v, .str p, vi a] ∧ Dp K H v (f.data true) ∧ f.ok z ∧ (tl p).length ≤ 100 ∧ a ≤ (tl p).length ∧
  ∀ H' q, Same H H' → H q = none → H' q = some (.lst ((flen f (tl p) a).map fun n => vi (a + n))) → Q (.ref q) H'
theorem cut_fits {p w : Str} {a : Nat} : decide (V.str (cutS p (some (a : Int)) (some ((a : Int) + (w.length : Int)))) = V.str w) = fits (tl p) a (tl w) := by
  have lw := len_tl w
  have e : tl (cutS p (some (a : Int)) (some ((a : Int) + (w.length : Int)))) = ((tl p).drop a).take (tl w).length := by
    rw [show ((a : Int) + (w.length : Int)) = ((a + w.length : Nat) : Int) by omega, tl_cut_mid, Nat.add_sub_cancel_left, lw]
  unfold fits
  rw [← e]
  by_cases h : tl (cutS p (some (a : Int)) (some ((a : Int) + (w.length : Int)))) = tl w
  · rw [decide_eq_true (show V.str _ = V.str w by rw [str_ext h]), h]
    exact (beq_self_eq_true _).symm
  · rw [decide_eq_false (fun q => h (congrArg tl (V.str.inj q)))]
    exact (beq_eq_false_iff_ne.mpr h).symm
section
variable {P : Program} {w : World} {K : PySem.W.Frag} {mg : Str → Option Value} {base : Heap}
theorem ok_fieldEnds {f : Addr} {fd : FuncData} (F : Fun K "_law_field_ends" "_law_field_ends" sLFieldEnds f fd) (B : Bl mg) : FnOk P w K mg base CX0 1 f fd ["_law_field", "_law_paper_here", "_law_at"] (spFieldEnds K) := by
  refine F.ok scLFieldEnds (fun vs H Q E h => ?_) (fun cdv A outer s H vs Q E hr h => ?_)
  · obtain ⟨z, p, v, f, a, rfl, _⟩ := h
    rfl
  · obtain ⟨z, p, v, fl, a, rfl, hd, ho, hp, ha, k⟩ := h
    refine ⟨_, (pss_cons (ps_if (pt_cmpR op_eq (pe_ix ix_seq (pv 0) pe_int (fun _ _ => rfl)) pe_str (nomark _)) (pss_one (ps_ret (pe_callB cr_sorted (by rfl) B.sorted (by decide +kernel) (pa_cons (pe_lc (own := [("_law_word", 5)]) (g := gName 5) rfl scLFieldEnds.nd (pi_sq (pe_ix ix_seq (pv 0) pe_int (fun _ _ => rfl))) (blkOk_by (N := nLFieldEnds) (sc := defScope sLFieldEnds) (by decide +kernel)) (fun _ _ _ _ _ => (pg_name (i := 5) scLFieldEnds.nd rfl (Or.inl rfl))) (fun _ _ _ _ _ => (pts_one (pt_cmpR op_eq (pe_slice sl_str (pv 1) (po_some (pv 2)) (po_some (pe_op op_add (pv 2) (pe_callB (r := rLenK K) call_len (by rfl) B.len PySem.boot_len (pa_cons (pv 5) pa_nil))))) (pv 5) (nomark _)))) (fun _ _ _ _ _ => (pe_op op_add (pv 2) (pe_callB (r := rLenK K) call_len (by rfl) B.len PySem.boot_len (pa_cons (pv 5) pa_nil))))) pa_nil)))) pss_nil) (pss_cons (ps_set (i := 3) scLFieldEnds.nd rfl (Or.inl rfl) (pe_lst pa_nil)) (pss_cons (ps_set (i := 4) scLFieldEnds.nd rfl (Or.inl rfl) (pv 2)) (pss_cons (ps_while PassesOwn.never (pt_cmpR op_le (pv 4) (pe_callB call_len (by rfl) B.len PySem.boot_len (pa_cons (pv 1) pa_nil)) (nomark _)) (pss_cons (ps_if (pt_cmpR op_ge (pe_op op_sub (pv 4) (pv 2)) (pe_ix ix_seq (pv 0) pe_int (fun _ _ => rfl)) (nomark _)) (pss_one (ps_expr (pe_bm PySem.F.plainAttrs_list PySem.F.slot_list_append PySem.F.type_list_append mt_append (pv 3) (pa_cons (pv 4) pa_nil)))) pss_nil) (pss_cons (ps_if (PW.pt (pw_or (pt_cmpR op_eq (pv 4) (pe_callB call_len (by rfl) B.len PySem.boot_len (pa_cons (pv 1) pa_nil)) (nomark _)) (pw_or (pt_cmpR op_notIn_sign (pe_ix ix_str (pv 1) (pv 4) (fun _ _ => rfl)) (pe_ix ix_seq (pv 0) pe_int (fun _ _ => rfl)) (by rfl)) (pw_or1 (PW.pt (pw_and (pt_cmpR op_notN (pe_ix ix_seq (pv 0) pe_int (fun _ _ => rfl)) pe_non (nomark _)) (pw_and1 (pt_cmpR op_ge (pe_op op_sub (pv 4) (pv 2)) (pe_ix ix_seq (pv 0) pe_int (fun _ _ => rfl)) (nomark _))))))))) (pss_one (ps_ret (pv 3))) pss_nil) (pss_one (ps_set (i := 4) scLFieldEnds.nd rfl (Or.inl rfl) (pe_op op_add (pv 4) pe_int)))))) (pss_one (ps_ret (pv 3))))))), ?_⟩
    try dsimp only [cxOf, Cx.nox, Cx.wish]
    have lp := len_tl p
    walk_at "go"
    cases fl with
    | w nm ws =>
      obtain ⟨wv, hS, hW⟩ := fd_w hd
      have h4 : ∀ w ∈ ws, (tl w).length ≤ 4 := fun w hw => by have := (text_of (ho.2.2.2.2 w hw)).2.1; omega
      have lw := ho.2.2.1
      refine r_ixSq hS (at_0) ?_
      walk_at "go"
      refine r_ixSq hS (at_2) ?_
      refine lc_fil (pb := fun w => fits (tl p) a (tl w)) (e := fun w => vi (a + (tl w).length)) hW (by omega) (fun _ => rfl) ?_ ?_ _ ?_ (fun J h => h)
      · intro i w H1 R hw sm q
        have := h4 w (List.mem_of_getElem? hw)
        have e := len_tl w
        walk_at "go"
        refine ⟨_, _, rfl, lenS (small_line (by omega)), ?_⟩
        walk_at "go"
        refine ⟨small_line (by omega), ?_⟩
        walk_at "go"
        rw [cut_fits]
        exact q _ (Same.refl _)
      · intro i w H1 R hw hb sm q
        have := h4 w (List.mem_of_getElem? hw)
        have e := len_tl w
        walk_at "go"
        refine ⟨_, _, rfl, lenS (small_line (by omega)), ?_⟩
        walk_at "go"
        rw [show ((a : Int) + (w.length : Int)) = ((a + (tl w).length : Nat) : Int) by omega]
        exact q _ (Same.refl _)
      · intro D H1 hD s1 eD
        walk_at "go"
        have few : (ws.filter fun w => fits (tl p) a (tl w)).length ≤ 12 := Nat.le_trans (List.length_filter_le _ _) lw
        refine ⟨D, (ws.filter fun w => fits (tl p) a (tl w)).map fun w => ((a + (tl w).length : Nat) : Int), rfl, ?_, by rw [List.length_map]; omega, fun ns q pm so hq => ?_⟩
        · rw [List.map_map]
          exact SqL.of eD
        have e := ends_words (nm := nm) ho.2.2.2.1 h4 pm so
        refine k _ q (s1.trans (same_new hq)) (Same.free s1 hq) ?_
        rw [e, List.map_map]
        exact upd_same
    | r nm al lo hi =>
      have hS := fd_r hd
      refine r_ixSq hS (at_0) ?_
      walk_at "go"
      refine r_no (fun q => absurd (V.str.inj q) (by decide +kernel)) ?_
      walk_at "go"
      refine ⟨Nat.zero_le _, fun T hT => ?_⟩
      have hS2 := hS.same (same_new (o := HO.lst []) hT)
      have sT := same_new (o := HO.lst []) hT
      have eT : (upd H T (HO.lst [])) T = some (.lst []) := upd_same
      have hd1 := dp_same sT hd
      generalize upd H T (HO.lst []) = H1 at hS2 sT eT hd1
      walk_at "go"
      have hld := lead_le (tl al) ((tl p).drop a)
      rw [List.length_drop] at hld
      have hM := mostOf_le hi (lead (tl al) ((tl p).drop a))
      obtain ⟨M, hMe⟩ : ∃ M, mostOf hi (lead (tl al) ((tl p).drop a)) = M := ⟨_, rfl⟩
      rw [hMe] at hM
      refine ⟨fun m σ H' => ∃ j, j ≤ M ∧ m = M - j ∧ σ = [some v, some (.str p), some (vi a), some (.ref T), some (vi (a + j)), none] ∧ H' T = some (.lst ((List.range (j - lo)).map fun i => vi (a + (lo + i)))) ∧ Kp T H1 H', ⟨_, 0, Nat.zero_le _, rfl, rfl, by rw [Nat.zero_sub]; exact eT, Kp.refl _ _⟩, ?_⟩
      rintro m σ H' ⟨j, hj, rfl, rfl, eT', kp⟩
      have hS' : ∀ H2, Kp T H1 H2 → Sq K H2 v [.str "run", .str nm, .str al, vi lo, oV hi] := fun H2 k2 => fd_r (dp_pure (fun a xs q => Kp.sqT k2 eT q) _ _ (Fd.pure (.r nm al lo hi)) hd1)
      walk_at "go"
      refine ⟨_, _, rfl, lenS (small_line (by omega)), ?_⟩
      walk_at "go"
      refine r_yes (by omega) ?_
      refine ⟨fun σ' H2 => j < M ∧ σ' = [some v, some (.str p), some (vi a), some (.ref T), some (vi (a + (j + 1))), none] ∧ H2 T = some (.lst ((List.range (j + 1 - lo)).map fun i => vi (a + (lo + i)))) ∧ Kp T H1 H2, fun σ' H2 ⟨q1, q2, q3, q4⟩ => ⟨M - (j + 1), by omega, j + 1, q1, rfl, q2, q3, q4⟩, ?_⟩
      refine r_seqIf (fun σ' H2 => σ' = [some v, some (.str p), some (vi a), some (.ref T), some (vi (a + j)), none] ∧ H2 T = some (.lst ((List.range (j + 1 - lo)).map fun i => vi (a + (lo + i)))) ∧ Kp T H1 H2) (fun N hN => ?_) ?_
      · walk_at "go"
        refine r_ixSq (hS' H' kp) (at_3) ?_
        walk_at "go"
        by_cases hlo : lo ≤ j
        · refine r_yes (by omega) ?_
          walk_at "go"
          refine ⟨tyL (SqL.of eT'), ?_⟩
          walk_at "go"
          refine ⟨T, _, _, rfl, rfl, eT', by rw [List.length_map, List.length_range]; exact line60 (by omega), ?_⟩
          refine hN _ _ ⟨rfl, ?_, fun c u nc h => by rw [upd_ne nc]; exact kp c u nc h⟩
          rw [upd_same, show j + 1 - lo = j - lo + 1 by omega, List.range_succ, List.map_append]
          show some (HO.lst (_ ++ [vi (a + j)])) = some (HO.lst (_ ++ [vi (a + (lo + (j - lo)))]))
          rw [show lo + (j - lo) = j by omega]
        · refine r_no (by omega) ?_
          walk_at "go"
          have e0 : j - lo = j + 1 - lo := by omega
          rw [e0] at eT'
          exact hN _ _ ⟨rfl, eT', kp⟩
      · rintro σ H2 ⟨rfl, eT2, kp2⟩
        walk_at "go"
        have done : j = M → Q (.ref T) H2 := fun ej => by
          refine k _ T (fun c u h => kp2 c u (ne_of_none h hT) (sT c u h)) hT ?_
          rw [eT2]
          unfold flen
          rw [List.map_map, hMe, ← ej]
          rfl
        refine ⟨_, _, rfl, lenS (small_line (by omega)), ?_⟩
        walk_at "go"
        by_cases hlt : j < M
        · obtain ⟨h1, h2⟩ := lead_step (tl al) (tl p) a j (by omega)
          have ec : (tl p)[a + j]? = some (tl p)[a + j] := List.getElem?_eq_getElem h1
          have hc := h2 _ ec
          rw [decide_eq_false (show ¬ vi (a + j) = V.int (p.length : Int) from fun q => by have := V.int.inj q; omega)]
          walk_at "go"
          refine r_ixS (small_line (by omega)) (atI_nat (j := a + j) ec) ?_
          walk_at "go"
          refine r_ixSq (hS' H2 kp2) (at_2) ?_
          walk_at "go"
          refine ⟨_, al, rfl, rfl, ?_⟩
          rw [decide_eq_true hc]
          walk_at "go"
          refine r_ixSq (hS' H2 kp2) (at_4) ?_
          walk_at "go"
          refine ⟨rfl, ?_⟩
          cases hi with
          | none =>
            refine ⟨false, by rw [decide_eq_true (show oV none = V.non from rfl)]; rfl, ?_⟩
            rw [if_neg Bool.false_ne_true, if_neg Bool.false_ne_true]
            walk_at "go"
            exact ⟨hlt, rfl, eT2, kp2⟩
          | some h =>
            refine ⟨true, by rw [decide_eq_false (fun q => by cases q)]; rfl, ?_⟩
            have hlt' : j < min h (lead (tl al) ((tl p).drop a)) := by have : min h (lead (tl al) ((tl p).drop a)) = M := hMe; omega
            rw [if_pos rfl]
            walk_at "go"
            refine r_ixSq (hS' H2 kp2) (at_4) ?_
            refine K1.r_I0 ?_
            refine ⟨_, rfl, ?_⟩
            refine r_no (by omega) ?_
            walk_at "go"
            exact ⟨hlt, rfl, eT2, kp2⟩
        · have ej : j = M := by omega
          have c3 : (a + j = (tl p).length) ∨ (a + j < (tl p).length ∧ ∃ c, (tl p)[a + j]? = some c ∧ c ∉ tl al) ∨ (a + j < (tl p).length ∧ ∃ c, (tl p)[a + j]? = some c ∧ c ∈ tl al ∧ ∃ h, hi = some h ∧ h ≤ j) := by
            by_cases hj2 : j < lead (tl al) ((tl p).drop a)
            · obtain ⟨h1, h2⟩ := lead_step (tl al) (tl p) a j hj2
              have ec : (tl p)[a + j]? = some (tl p)[a + j] := List.getElem?_eq_getElem h1
              refine .inr (.inr ⟨h1, _, ec, h2 _ ec, ?_⟩)
              cases hi with
              | none => exact absurd hMe (by show ¬ lead _ _ = M; omega)
              | some h =>
                refine ⟨h, rfl, ?_⟩
                have hMe : min h (lead (tl al) ((tl p).drop a)) = M := hMe
                omega
            · have e : j = lead (tl al) ((tl p).drop a) := by omega
              rcases lead_end (tl al) (tl p) a ha with q | ⟨c, q1, q2⟩
              · exact .inl (by omega)
              · rw [← e] at q1
                exact .inr (.inl ⟨(List.getElem?_eq_some_iff.mp q1).1, c, q1, q2⟩)
          rcases c3 with c | ⟨h1, c, ec, hn⟩ | ⟨h1, c, ec, hc, h, rfl, hh⟩
          · rw [decide_eq_true (show vi (a + j) = V.int (p.length : Int) by show V.int ((a + j : Nat) : Int) = _; rw [c, lp])]
            walk_at "go"
            exact done ej
          · rw [decide_eq_false (show ¬ vi (a + j) = V.int (p.length : Int) from fun q => by have := V.int.inj q; omega)]
            walk_at "go"
            refine r_ixS (small_line (by omega)) (atI_nat (j := a + j) ec) ?_
            walk_at "go"
            refine r_ixSq (hS' H2 kp2) (at_2) ?_
            walk_at "go"
            refine ⟨_, al, rfl, rfl, ?_⟩
            rw [decide_eq_false hn]
            walk_at "go"
            exact done ej
          · rw [decide_eq_false (show ¬ vi (a + j) = V.int (p.length : Int) from fun q => by have := V.int.inj q; omega)]
            walk_at "go"
            refine r_ixS (small_line (by omega)) (atI_nat (j := a + j) ec) ?_
            walk_at "go"
            refine r_ixSq (hS' H2 kp2) (at_2) ?_
            walk_at "go"
            refine ⟨_, al, rfl, rfl, ?_⟩
            rw [decide_eq_true hc]
            walk_at "go"
            refine r_ixSq (hS' H2 kp2) (at_4) ?_
            walk_at "go"
            refine ⟨rfl, true, by rw [decide_eq_false (fun q => by cases q)]; rfl, ?_⟩
            rw [if_pos rfl]
            walk_at "go"
            refine r_ixSq (hS' H2 kp2) (at_4) ?_
            refine K1.r_I0 ?_
            refine ⟨_, rfl, ?_⟩
            refine r_yes (by omega) ?_
            walk_at "go"
            exact done ej
end
end K4

/-! L19h -/


namespace K4
open PySem L2 K1
abbrev sLRestsOf : Stmt := top 65
abbrev nLRestsOf : List Str := ["_law_form", "_law_paper_here", "_law_told", "_law_field", "_law_row", "_law_at", "_law_end"]
theorem scLRestsOf : FnScope nLRestsOf ["_law_form", "_law_paper_here"] (defScope sLRestsOf) := ⟨rfl, rfl, rfl, by decide +kernel, rfl, by decide +kernel, by decide +kernel⟩
/-! How many readings the rests have. -/
def wrow (p : List Nat) (fs : List Fd) : PyData := .list ((List.range (p.length + 1)).map fun a => pn (ways fs p a))
def restsD (p : List Nat) : List Fd → List PyData
  | [] => [wrow p []]
  | f :: fs => wrow p (f :: fs) :: restsD p fs
theorem restsD_len (p : List Nat) : ∀ fs : List Fd, (restsD p fs).length = fs.length + 1
  | [] => rfl
  | f :: fs => congrArg (· + 1) (restsD_len p fs)
theorem restsD_get (p : List Nat) : ∀ (fs : List Fd) (i : Nat), i ≤ fs.length → (restsD p fs)[i]? = some (wrow p (fs.drop i))
  | [], 0, _ => rfl
  | [], i + 1, h => absurd h (by simp)
  | f :: fs, 0, _ => rfl
  | f :: fs, i + 1, h => restsD_get p fs i (by simpa using h)
def spRestsOf (K : PySem.W.Frag) : Sp := fun vs H Q _ => ∃ (z p : Str) (v : V) (fs : List Fd), vs = [v, .str p] ∧ Dp K H v (formD true fs) ∧ FormOk z fs ∧ (tl p).length ≤ 100 ∧
  ∀ H' q, Same H H' → H q = none → Dp K H' (.ref q) (.list (restsD (tl p) fs)) → Q (.ref q) H'
theorem list_open {K : PySem.W.Frag} {H : Hp} {a : Addr} {ds : List PyData} (h : Dp K H (.ref a) (.list ds)) : ∃ xs, SqL K H a xs ∧ DpAll K H xs ds := by
  cases h with
  | lst a b => exact ⟨_, a, b⟩
theorem wrow_open {K : PySem.W.Frag} {H : Hp} {v : V} {p : List Nat} {fs : List Fd} (h : Dp K H v (wrow p fs)) : ∃ a, v = .ref a ∧ SqL K H a ((List.range (p.length + 1)).map fun a => vi (ways fs p a)) := by
  cases h with
  | lst a b =>
    have e : (List.range (p.length + 1)).map (fun a => pn (ways fs p a)) = ((List.range (p.length + 1)).map fun a => ways fs p a).map pn := by rw [List.map_map]; rfl
    rw [e] at b
    rw [dpA_nums.mp b, List.map_map] at a
    exact ⟨_, rfl, a⟩
theorem rep_new {H : Hp} {Q : VK} {l : Addr} {x : V} {n : Nat} (e : H l = some (.lst [x])) (hn : n ≤ 1000) (q : ∀ H' p, H p = none → Same H H' → H' p = some (.lst (List.replicate n x)) → Q (.ref p) H') : rRep (.ref l) (.int (n : Int)) H Q := by
  refine ⟨l, (n : Int), [x], rfl, rfl, e, by omega, by omega, by rw [Int.toNat_natCast]; exact small_line (by show 1 * n ≤ 1000; omega), fun p hp => q _ p hp (same_new hp) ?_⟩
  rw [Int.toNat_natCast, upd_same]
  have : ∀ m : Nat, (List.replicate m [x]).flatten = List.replicate m x := fun m => by
    induction m with
    | zero => rfl
    | succ m ih => rw [List.replicate_succ, List.flatten_cons, ih, List.replicate_succ]; rfl
  rw [this]
theorem sum_castf (f : Nat → Nat) : ∀ l : List Nat, (l.map fun n => ((f n : Nat) : Int)).sum = (((l.map f).sum : Nat) : Int)
  | [] => rfl
  | a :: l => by
    rw [List.map_cons, List.sum_cons, List.map_cons, List.sum_cons, sum_castf f l]
    omega
theorem init_row (p : List Nat) : (List.range (p.length + 1)).map (fun a => vi (ways [] p a)) = List.replicate p.length (V.int 0) ++ [V.int 1] := by
  rw [List.range_succ, List.map_append]
  congr 1
  · refine List.ext_getElem (by simp) fun i h1 h2 => ?_
    rw [List.getElem_map, List.getElem_range, List.getElem_replicate]
    have hi : i < p.length := by simpa using h1
    show V.int ((ways [] p i : Nat) : Int) = V.int 0
    have : ways [] p i = 0 := by unfold ways; rw [if_neg (by omega)]
    rw [this]; rfl
  · show [V.int ((ways [] p p.length : Nat) : Int)] = [V.int 1]
    have : ways [] p p.length = 1 := by unfold ways; rw [if_pos rfl]
    rw [this]; rfl
theorem row_dp {K : PySem.W.Frag} {H : Hp} {a : Addr} {p : List Nat} {fs : List Fd} (e : H a = some (.lst ((List.range (p.length + 1)).map fun a => vi (ways fs p a)))) : Dp K H (.ref a) (wrow p fs) := by
  refine .lst (SqL.of e) ?_
  have e1 : (List.range (p.length + 1)).map (fun a => pn (ways fs p a)) = ((List.range (p.length + 1)).map fun a => ways fs p a).map pn := by rw [List.map_map]; rfl
  rw [e1, dpA_nums, List.map_map]
  rfl
section
variable {P : Program} {w : World} {K : PySem.W.Frag} {mg : Str → Option Value} {base : Heap}
abbrev OFieldEnds (P : Program) (w : World) (K : PySem.W.Frag) (mg : Str → Option Value) (base : Heap) : Prop := Own P w K mg base "_law_field_ends" 1 ["_law_field", "_law_paper_here", "_law_at"] (spFieldEnds K)
theorem ok_restsOf {f : Addr} {fd : FuncData} (F : Fun K "_law_rests_of" "_law_rests_of" sLRestsOf f fd) (B : Bl mg) (Ofe : OFieldEnds P w K mg base) : FnOk P w K mg base CX0 2 f fd ["_law_form", "_law_paper_here"] (spRestsOf K) := by
  refine F.ok scLRestsOf (fun vs H Q E h => ?_) (fun cdv A outer s H vs Q E hr h => ?_)
  · obtain ⟨z, p, v, fs, rfl, _⟩ := h
    rfl
  · obtain ⟨z, p, v, fs, rfl, hd, ho, hp, k⟩ := h
    refine ⟨_, (pss_cons (ps_set (i := 2) scLRestsOf.nd rfl (Or.inr rfl) (pe_lst (pa_cons (pe_op op_cat (pe_op op_rep (pe_lst (pa_cons pe_int pa_nil)) (pe_callB call_len (by rfl) B.len PySem.boot_len (pa_cons (pv 1) pa_nil))) (pe_lst (pa_cons pe_int pa_nil))) pa_nil))) (pss_cons (ps_for PassesOwn.never rfl (pi_tup (pe_revT (pv 0))) (pg_name (i := 3) scLRestsOf.nd rfl (Or.inl rfl)) (pss_cons (ps_set (i := 4) scLRestsOf.nd rfl (Or.inl rfl) (pe_lst pa_nil)) (pss_cons (ps_for PassesOwn.never rfl (pi_range1 rfl B.range (pa_cons (pe_op op_add (pe_callB call_len (by rfl) B.len PySem.boot_len (pa_cons (pv 1) pa_nil)) pe_int) pa_nil)) (pg_name (i := 5) scLRestsOf.nd rfl (Or.inl rfl)) (pss_one (ps_expr (pe_bm PySem.F.plainAttrs_list PySem.F.slot_list_append PySem.F.type_list_append mt_append (pv 4) (pa_cons (pe_callB (cr_sum rfl) (by rfl) B.sum (by decide +kernel) (pa_cons (pe_lc (own := [("_law_end", 6)]) (g := gName 6) (tt := tYes) rfl scLRestsOf.nd (pi_sq (pe_own Ofe (hr.mono (by omega)) (pa_cons (pv 3) (pa_cons (pv 1) (pa_cons (pv 5) pa_nil))))) (blkOk_by (N := nLRestsOf) (sc := defScope sLRestsOf) (by decide +kernel)) (fun _ _ _ _ _ => (pg_name (i := 6) scLRestsOf.nd rfl (Or.inl rfl))) (fun _ _ _ _ _ => pts_nil) (fun _ _ _ _ _ => (pe_ix (r := rIxL K) ix_list (pe_ix (r := rIxL K) ix_list (pv 2) pe_int (fun _ _ => rfl)) (pv 6) (fun _ _ => rfl)))) pa_nil)) pa_nil))))) (pss_one (ps_set (i := 2) scLRestsOf.nd rfl (Or.inr rfl) (pe_op op_cat (pe_lst (pa_cons (pv 4) pa_nil)) (pv 2))))))) (pss_one (ps_ret (pv 2))))), ?_⟩
    try dsimp only [cxOf, Cx.nox, Cx.wish]
    obtain ⟨a, xs, rfl, hS, hA⟩ := dp_tuple hd
    have hl := dpA_len hA
    rw [List.length_map] at hl
    have l6 := ho.2.1
    have lp := len_tl p
    walk_at "go"
    refine ⟨(by show 1 ≤ sizeLine; decide), fun A0 hA0 => ?_⟩
    walk_at "go"
    refine ⟨_, _, rfl, lenS (small_line (by omega)), ?_⟩
    walk_at "go"
    refine rep_new upd_same (by omega) fun H1 A1 hA1 s1 e1 => ?_
    have s01 := (same_new (o := HO.lst [V.int 0]) hA0).trans s1
    walk_at "go"
    refine ⟨(by show 1 ≤ sizeLine; decide), fun A2 hA2 => ?_⟩
    have s02 := s01.trans (same_new (o := HO.lst [V.int 1]) hA2)
    have e12 := same_new (o := HO.lst [V.int 1]) hA2 _ _ e1
    walk_at "go"
    refine cat_two e12 upd_same (by rw [List.length_replicate]; show p.length + 1 ≤ 1000; omega) fun H3 A3 s3 e3 => ?_
    have s03 := s02.trans s3
    walk_at "go"
    refine ⟨(by show 1 ≤ sizeLine; decide), fun A4 hA4 => ?_⟩
    have s04 := s03.trans (same_new (o := HO.lst [V.ref A3]) hA4)
    have e4 : (upd H3 A4 (HO.lst [V.ref A3])) A4 = some (.lst [V.ref A3]) := upd_same
    have d4 : DpAll K (upd H3 A4 (HO.lst [V.ref A3])) [.ref A3] (restsD (tl p) []) := by
      refine .cons (row_dp ?_) .nil
      rw [init_row, ← lp]
      exact same_new (o := HO.lst [V.ref A3]) hA4 _ _ e3
    have f4 : H A4 = none := Same.free s03 hA4
    generalize upd H3 A4 (HO.lst [V.ref A3]) = H4 at s04 d4 e4
    clear s03 s3 e3 e12 s02 s01 s1 e1 hA0 hA1 hA2 hA4
    walk_at "go"
    refine ⟨a, xs, rfl, Same.sqT s04 hS, fun r hr0 => ?_⟩
    have sr := s04.trans (same_new (o := HO.tup xs.reverse) hr0)
    have dr := dpA_same (same_new (o := HO.tup xs.reverse) hr0) d4
    have er4 := same_new (o := HO.tup xs.reverse) hr0 _ _ e4
    have er : SqT K (upd H4 r (HO.tup xs.reverse)) r xs.reverse := SqT.of upd_same
    generalize upd H4 r (HO.tup xs.reverse) = H5 at sr dr er er4
    refine ⟨r, rfl, ⟨xs.reverse, er⟩, ?_⟩
    refine fr_tup (xs := xs.reverse) (fun i σ H' => ∃ (T0 : Addr) (ys : List V) (o3 o4 o5 o6 : Option V), σ = [some (.ref a), some (.str p), some (.ref T0), o3, o4, o5, o6] ∧ H' T0 = some (.lst ys) ∧ DpAll K H' ys (restsD (tl p) (fs.drop (fs.length - i))) ∧ H T0 = none ∧ Same H5 H') ?_ ?_ ?_ ?_
    · refine ⟨A4, _, none, none, none, none, rfl, er4, ?_, f4, Same.refl _⟩
      rw [Nat.sub_zero, List.drop_length]
      exact dr
    · rintro i σ H' hi ⟨T0, ys, o3, o4, o5, o6, rfl, eT0, hdp, hT0, sm⟩
      exact Same.sqT sm er
    · rintro i x σ H' hx ⟨T0, ys, o3, o4, o5, o6, rfl, eT0, hdp, hT0, sm⟩
      have hi : i < fs.length := by
        have := (List.getElem?_eq_some_iff.mp hx).1
        rw [List.length_reverse] at this
        omega
      rw [List.getElem?_reverse (by omega), hl] at hx
      obtain ⟨dd, hd1, hd2⟩ := dpA_get hA hx
      rw [List.getElem?_map] at hd1
      obtain ⟨fl, hf, rfl⟩ := Option.map_eq_some_iff.mp hd1
      have rest : fs.drop (fs.length - (i + 1)) = fl :: fs.drop (fs.length - i) := by
        have e1 : fs.length - (i + 1) = fs.length - 1 - i := by omega
        have h1 : fs.length - 1 - i < fs.length := by omega
        rw [e1, List.drop_eq_getElem_cons h1, show fs.length - 1 - i + 1 = fs.length - i by omega]
        rw [(List.getElem?_eq_some_iff.mp hf).2]
      have ok := ho.2.2.2 fl (List.mem_of_getElem? hf)
      have sH := sr.trans sm
      have hfd := dp_same sH hd2
      have hll : (fs.drop (fs.length - i)).length ≤ 6 := by rw [List.length_drop]; omega
      generalize fs.drop (fs.length - i) = rs at hdp rest hll
      rw [rest]
      walk_at "go"
      have hyd := hdp
      have hys : SqL K H' T0 ys := SqL.of eT0
      have hyl := dpA_len hyd
      rw [restsD_len] at hyl
      obtain ⟨y0, hy0⟩ : ∃ y0, ys[0]? = some y0 := ⟨ys[0], List.getElem?_eq_getElem (by omega)⟩
      obtain ⟨d0, g1, g2⟩ := dpA_get hyd hy0
      rw [restsD_get (tl p) rs 0 (Nat.zero_le _), List.drop_zero] at g1
      obtain rfl := Option.some.inj g1
      obtain ⟨W0, rfl, hW0⟩ := wrow_open g2
      refine ⟨Nat.zero_le _, fun R hR => ?_⟩
      have sR := same_new (o := HO.lst []) hR
      have fR : H R = none := Same.free sH hR
      walk_at "go"
      refine ⟨_, _, rfl, lenS (small_line (by omega)), ?_⟩
      walk_at "go"
      refine ⟨by omega, by omega, ?_⟩
      rw [show ((p.length : Int) + 1).toNat = (tl p).length + 1 by omega]
      refine fr_range (lo := 0) (n := (tl p).length + 1) (fun b σ H6 => ∃ (o5 o6 : Option V), σ = [some (.ref a), some (.str p), some (.ref T0), some x, some (.ref R), o5, o6] ∧ H6 R = some (.lst ((List.range b).map fun a => vi (ways (fl :: rs) (tl p) a))) ∧ Same H' H6) ⟨_, _, rfl, upd_same, sR⟩ ?_ ?_
      · rintro b σ H6 hb ⟨o5, o6, rfl, eR, s6⟩
        walk_at "go"
        refine ⟨tyL (SqL.of eR), ?_⟩
        walk_at "go"
        refine ⟨z, p, x, fl, b, by rw [show ((0 : Int) + (b : Int)) = (b : Int) by omega]; rfl, dp_same s6 hfd, ok, hp, by omega, fun H7 q s7 hq eq => ?_⟩
        have s67 := s6.trans s7
        refine lc_fil (l := flen fl (tl p) b) (f0 := fun n => vi (b + n)) (e := fun n => vi (ways rs (tl p) (b + n))) (pb := fun _ => true) ⟨q, rfl, .inl (SqL.of eq)⟩ (by have := flen_few (f := fl) (p := tl p) (a := b) (by omega); omega) (fun _ => rfl) ?_ ?_ _ ?_ (fun J h => h)
        · intro i5 n H8 R8 hn s8 q8
          exact q8 H8 (Same.refl _)
        · intro i5 n H8 R8 hn _ s8 q8
          have hle := flen_le (f := fl) (p := tl p) (a := b) (by omega) (List.mem_of_getElem? hn)
          have s78 := s67.trans s8
          walk_at "go"
          refine ⟨T0, ys, 0, _, rfl, rfl, s78.seq hys, atI_nat (j := 0) hy0, ?_⟩
          walk_at "go"
          refine ⟨W0, _, ((b + n : Nat) : Int), _, rfl, rfl, s78.seq hW0, atI_nat (j := b + n) (by rw [List.getElem?_map, List.getElem?_range (by omega)]; rfl), ?_⟩
          exact q8 H8 (Same.refl _)
        · intro D H8 hD s8 eD
          walk_at "go"
          have ef : (flen fl (tl p) b).filter (fun _ => true) = flen fl (tl p) b := List.filter_eq_self.mpr fun _ _ => rfl
          rw [ef] at eD
          refine r_sum (ns := (flen fl (tl p) b).map fun n => ((ways rs (tl p) (b + n) : Nat) : Int)) (by rw [List.map_map]; exact SqL.of eD) ?_
          walk_at "go"
          have eR8 := s8 _ _ (s7 _ _ eR)
          have esum : ((flen fl (tl p) b).map fun n => ((ways rs (tl p) (b + n) : Nat) : Int)).sum = ((ways (fl :: rs) (tl p) b : Nat) : Int) := by
            show _ = ((((flen fl (tl p) b).map fun n => ways rs (tl p) (b + n)).sum : Nat) : Int)
            exact sum_castf _ _
          refine ⟨R, _, _, rfl, rfl, eR8, by rw [List.length_map, List.length_range]; exact line60 (by omega), ?_⟩
          refine ⟨_, _, rfl, ?_, same_upd (s67.trans s8) hR⟩
          rw [upd_same, List.range_succ, List.map_append, esum]; rfl
      · rintro σ H6 ⟨o5, o6, rfl, eR, s6⟩
        walk_at "go"
        refine ⟨(by show 1 ≤ sizeLine; decide), fun A6 hA6 => ?_⟩
        have s7 := s6.trans (same_new (o := HO.lst [V.ref R]) hA6)
        have eR7 := same_new (o := HO.lst [V.ref R]) hA6 _ _ eR
        have fA6 : H A6 = none := Same.free (sH.trans s6) hA6
        walk_at "go"
        have eT7 := s7 _ _ eT0
        refine cat_twoF upd_same eT7 (by show 1 + ys.length ≤ 1000; omega) fun H8 A8 hA8 s8 e8 => ?_
        refine ⟨A8, _, _, _, _, _, rfl, e8, .cons (row_dp ?_) (dpA_same (s7.trans s8) hyd), Same.free (sH.trans s7) hA8, (sm.trans s7).trans s8⟩
        exact s8 _ _ eR7
    · rintro σ H' ⟨T0, ys, o3, o4, o5, o6, rfl, eT0, hdp, hT0, sm⟩
      have e0 : fs.length - xs.reverse.length = 0 := by rw [List.length_reverse]; omega
      rw [e0, List.drop_zero] at hdp
      walk_at "go"
      exact k H' T0 (sr.trans sm) hT0 (.lst (SqL.of eT0) hdp)
end
end K4

/-! L19i -/


namespace K4
open PySem L2 K1
abbrev sLCuts : Stmt := top 66
abbrev nLCuts : List Str := ["_law_form", "_law_paper_here", "_law_rests", "_law_here", "_law_k", "_law_ahead", "_law_parts", "_law_at", "_law_end"]
theorem scLCuts : FnScope nLCuts ["_law_form", "_law_paper_here", "_law_rests"] (defScope sLCuts) := ⟨rfl, rfl, rfl, by decide +kernel, rfl, by decide +kernel, by decide +kernel⟩
/-! The law's readings. -/
def pairD (c : List Str × Nat) : PyData := .tuple [tupS c, pn c.2]
theorem pairD_pure (l : List (List Str × Nat)) : pureA (l.map pairD) = true := pureA_iff.mpr fun d hd => by
  obtain ⟨c, _, rfl⟩ := List.mem_map.mp hd
  have h := pureA_iff.mp (tupS_pure [c]) (tupS c) (List.mem_singleton.mpr rfl)
  show K4.pure (.tuple [tupS c, pn c.2]) = true
  simp only [K4.pure, K4.pureA, h, pn, Bool.and_self]
theorem pair_open {K : PySem.W.Frag} {H : Hp} {v : V} {c : List Str × Nat} (h : Dp K H v (pairD c)) : ∃ a t, v = .ref a ∧ SqT K H a [.ref t, vi c.2] ∧ SqT K H t (c.1.map V.str) := by
  obtain ⟨a, xs, rfl, h1, h2⟩ := dp_tuple h
  cases h2 with
  | cons a2 h2 => cases h2 with
    | cons b h2 =>
      cases h2
      obtain ⟨t, ys, rfl, h3, h4⟩ := dp_tuple a2
      rw [dpA_strs.mp h4] at h3
      rw [dp_pn b] at h1
      exact ⟨a, t, rfl, h1, h3⟩
theorem r_catOne {K : PySem.W.Frag} {H : Hp} {Q : VK} {t U : Addr} {xs : List V} {y : V} (h : SqT K H t xs) (hU : H U = some (.tup [y])) (z : xs.length ≤ 100) (q : ∀ H' u, Same H H' → SqT K H' u (xs ++ [y]) → Q (.ref u) H') : rCatA K (.ref t) (.ref U) H Q := by
  refine ⟨t, U, xs, [y], rfl, rfl, h, SqT.of hU, small_line (by show xs.length + 1 ≤ 1000; omega), fun e => ?_, fun _ e => (nomatch e), fun _ _ p hp => q _ p (same_new hp) (SqT.of upd_same)⟩
  subst e
  exact q H U (Same.refl _) (SqT.of hU)
def spCuts (K : PySem.W.Frag) : Sp := fun vs H Q _ => ∃ (z p : Str) (v r : V) (fs : List Fd), vs = [v, .str p, r] ∧ Dp K H v (formD true fs) ∧ FormOk z fs ∧ (tl p).length ≤ 100 ∧ Dp K H r (.list (restsD (tl p) fs)) ∧ ways fs (tl p) 0 ≤ 500 ∧
  ∀ H' v', Same H H' → Dp K H' v' (readD fs p) → Q v' H'
section
variable {P : Program} {w : World} {K : PySem.W.Frag} {mg : Str → Option Value} {base : Heap}
theorem ok_cuts {f : Addr} {fd : FuncData} (F : Fun K "_law_cuts" "_law_cuts" sLCuts f fd) (B : Bl mg) (Ofe : OFieldEnds P w K mg base) : FnOk P w K mg base CX0 2 f fd ["_law_form", "_law_paper_here", "_law_rests"] (spCuts K) := by
  refine F.ok scLCuts (fun vs H Q E h => ?_) (fun cdv A outer s H vs Q E hr h => ?_)
  · obtain ⟨z, p, v, r, fs, rfl, _⟩ := h
    rfl
  · obtain ⟨z, p, v, r, fs, rfl, hd, ho, hp, hrr, hw, k⟩ := h
    refine ⟨_, (pss_cons (ps_set (i := 3) scLCuts.nd rfl (Or.inl rfl) (pe_lst (pa_cons (pe_tup (pa_cons (pe_tup pa_nil) (pa_cons pe_int pa_nil))) pa_nil))) (pss_cons (ps_for PassesOwn.never rfl (pi_range1 rfl B.range (pa_cons (pe_callB call_len (by rfl) B.len PySem.boot_len (pa_cons (pv 0) pa_nil)) pa_nil)) (pg_name (i := 4) scLCuts.nd rfl (Or.inl rfl)) (pss_cons (ps_set (i := 5) scLCuts.nd rfl (Or.inl rfl) (pe_lst pa_nil)) (pss_cons (ps_for PassesOwn.never rfl (pi_list (pv 3)) (pg_tup rfl (pgs_cons (pg_name (i := 6) scLCuts.nd rfl (Or.inl rfl)) (pgs_cons (pg_name (i := 7) scLCuts.nd rfl (Or.inl rfl)) pgs_nil))) (pss_one (ps_for PassesOwn.never rfl (pi_sq (pe_own Ofe (hr.mono (by omega)) (pa_cons (pe_ix ix_seq (pv 0) (pv 4) (fun _ _ => rfl)) (pa_cons (pv 1) (pa_cons (pv 7) pa_nil))))) (pg_name (i := 8) scLCuts.nd rfl (Or.inl rfl)) (pss_one (ps_if (pt_cmpR op_gt (pe_ix ix_list (pe_ix ix_list (pv 2) (pe_op op_add (pv 4) pe_int) (fun _ _ => rfl)) (pv 8) (fun _ _ => rfl)) pe_int (nomark _)) (pss_one (ps_expr (pe_bm PySem.F.plainAttrs_list PySem.F.slot_list_append PySem.F.type_list_append mt_append (pv 5) (pa_cons (pe_tup (pa_cons (pe_op op_catA (pv 6) (pe_tup (pa_cons (pe_slice sl_str (pv 1) (po_some (pv 7)) (po_some (pv 8))) pa_nil))) (pa_cons (pv 8) pa_nil))) pa_nil)))) pss_nil))))) (pss_one (ps_set (i := 3) scLCuts.nd rfl (Or.inl rfl) (pe_callTy call_list_of (by rfl) B.list (by decide +kernel) (pa_cons (pv 5) pa_nil))))))) (pss_one (ps_ret (pe_callTy call_tuple_of (by rfl) B.tuple (by decide +kernel) (pa_cons (pe_lc (own := [("_law_parts", 6), ("_law_at", 7)]) (g := gTup K 2 (gCons (gName 6) (gCons (gName 7) gNil))) (tt := tYes) rfl scLCuts.nd (pi_list (pv 3)) (blkOk_by (N := nLCuts) (sc := defScope sLCuts) (by decide +kernel)) (fun _ _ _ _ _ => (pg_tup rfl (pgs_cons (pg_name (i := 6) scLCuts.nd rfl (Or.inl rfl)) (pgs_cons (pg_name (i := 7) scLCuts.nd rfl (Or.inl rfl)) pgs_nil)))) (fun _ _ _ _ _ => pts_nil) (fun _ _ _ _ _ => (pv 6))) pa_nil)))))), ?_⟩
    try dsimp only [cxOf, Cx.nox, Cx.wish]
    obtain ⟨a, xs, rfl, hS, hA⟩ := dp_tuple hd
    have hl := dpA_len hA
    rw [List.length_map] at hl
    have l6 := ho.2.1
    have lp := len_tl p
    walk_at "go"
    refine ⟨Nat.zero_le _, fun T hT => ?_⟩
    have s1 := same_new (o := HO.tup []) hT
    have e1 : (upd H T (HO.tup [])) T = some (.tup []) := upd_same
    generalize upd H T (HO.tup []) = H1 at s1 e1
    walk_at "go"
    refine ⟨(by show 2 ≤ sizeLine; decide), fun T2 hT2 => ?_⟩
    have s2 := s1.trans (same_new (o := HO.tup [V.ref T, V.int 0]) hT2)
    have d2 : Dp K (upd H1 T2 (HO.tup [V.ref T, V.int 0])) (.ref T2) (pairD ([], 0)) := .tup (SqT.of upd_same) (.cons (.tup (xs := []) (SqT.of (same_new (o := HO.tup [V.ref T, V.int 0]) hT2 _ _ e1)) .nil) (.cons (.int 0) .nil))
    generalize upd H1 T2 (HO.tup [V.ref T, V.int 0]) = H2 at s2 d2
    walk_at "go"
    refine ⟨(by show 1 ≤ sizeLine; decide), fun D hD => ?_⟩
    have s3 := s2.trans (same_new (o := HO.lst [V.ref T2]) hD)
    have d3 := dp_same (same_new (o := HO.lst [V.ref T2]) hD) d2
    have e3 : (upd H2 D (HO.lst [V.ref T2])) D = some (.lst [V.ref T2]) := upd_same
    generalize upd H2 D (HO.lst [V.ref T2]) = H3 at s3 d3 e3
    clear s1 s2 d2 e1 hT hT2 hD
    walk_at "go"
    refine ⟨_, _, rfl, (show Sq K H3 (.ref a) xs from ⟨a, rfl, .inr (Same.sqT s3 hS)⟩).len, ?_⟩
    walk_at "go"
    rw [hl]
    refine ⟨by omega, by omega, fr_range (lo := 0) (n := fs.length) (fun i σ H' => ∃ (F1 : Addr) (acc : List V) (h : List (List Str × Nat)) (o4 o5 o6 o7 o8 : Option V), σ = [some (.ref a), some (.str p), some r, some (.ref F1), o4, o5, o6, o7, o8] ∧ H' F1 = some (.lst acc) ∧ DpAll K H' acc (h.map pairD) ∧
      (∀ y ∈ h, y.2 ≤ (tl p).length) ∧ (∀ y ∈ h, y.1.length = i) ∧ h.length ≤ 500 ∧ cutsN (cutP p) (tl p) (fs.drop i) h = cutsN (cutP p) (tl p) fs [([], 0)] ∧ wtot (fs.drop i) (tl p) h = ways fs (tl p) 0 ∧ Same H H') ?_ ?_ ?_⟩
    · refine ⟨D, _, [([], 0)], none, none, none, none, none, rfl, e3, .cons d3 .nil, fun y hy => ?_, fun y hy => ?_, by show 1 ≤ 500; decide, rfl, wtot_one _ _ _ _, s3⟩
      · rw [List.mem_singleton.mp hy]; exact Nat.zero_le _
      · rw [List.mem_singleton.mp hy]; rfl
    · rintro i σ H' hi ⟨F1, acc, hc, o4, o5, o6, o7, o8, rfl, eF, dA, hle, hpl, h5, hcut, htot, sm⟩
      have hal := dpA_len dA
      rw [List.length_map] at hal
      obtain ⟨fv, hfv⟩ : ∃ fv, xs[i]? = some fv := ⟨xs[i], List.getElem?_eq_getElem (by omega)⟩
      obtain ⟨dd, g1, g2⟩ := dpA_get hA hfv
      rw [List.getElem?_map] at g1
      obtain ⟨fl, hf, rfl⟩ := Option.map_eq_some_iff.mp g1
      have ok := ho.2.2.2 fl (List.mem_of_getElem? hf)
      have hdr : fs.drop i = fl :: fs.drop (i + 1) := by
        rw [List.drop_eq_getElem_cons hi, (List.getElem?_eq_some_iff.mp hf).2]
      obtain ⟨ra, rfl⟩ : ∃ ra, r = .ref ra := by cases hrr; exact ⟨_, rfl⟩
      obtain ⟨rys, hrs, hrd⟩ := list_open hrr
      have hrl := dpA_len hrd
      rw [restsD_len] at hrl
      obtain ⟨rv, hrv⟩ : ∃ rv, rys[i + 1]? = some rv := ⟨rys[i + 1], List.getElem?_eq_getElem (by omega)⟩
      obtain ⟨rd, q1, q2⟩ := dpA_get hrd hrv
      rw [restsD_get (tl p) fs (i + 1) (by omega)] at q1
      obtain rfl := Option.some.inj q1
      obtain ⟨W0, rfl, hW0⟩ := wrow_open q2
      rw [hdr] at hcut htot
      generalize fs.drop (i + 1) = rs at hdr hcut htot hW0
      have few : ∀ j, ((hc.take j).flatMap (stepN (cutP p) (tl p) fl rs)).length ≤ 500 * 105 := fun j => by
        refine Nat.le_trans (flat_len (c := 105) fun y hy => ?_) (Nat.mul_le_mul_right _ (by rw [List.length_take]; omega))
        show (List.map _ _).length ≤ 105
        rw [List.length_map]
        have := manyA_few (f := fl) (fs := rs) (hle y (List.mem_of_mem_take hy))
        omega
      walk_at "go"
      refine ⟨Nat.zero_le _, fun A0 hA0 => ?_⟩
      have sA := same_new (o := HO.lst []) hA0
      have eA : (upd H' A0 (HO.lst [])) A0 = some (.lst []) := upd_same
      generalize upd H' A0 (HO.lst []) = H4 at sA eA
      walk_at "go"
      rw [Int.zero_add]
      refine ⟨⟨_, SqL.of (sA _ _ eF)⟩, ?_⟩
      refine fr_list (xs := acc) (fun j σ H6 => ∃ (o6 o7 o8 : Option V) (accA : List V), σ = [some (.ref a), some (.str p), some (.ref ra), some (.ref F1), some (.int (i : Int)), some (.ref A0), o6, o7, o8] ∧ H6 A0 = some (.lst accA) ∧ DpAll K H6 accA (((hc.take j).flatMap (stepN (cutP p) (tl p) fl rs)).map pairD) ∧ Same H' H6) ⟨o6, o7, o8, [], rfl, eA, .nil, sA⟩ ?_ ?_ ?_
      · rintro j σ H6 hj ⟨o6, o7, o8, accA, rfl, eA6, dA6, s6⟩
        exact s6.seq (SqL.of eF)
      · rintro j x σ H6 hx ⟨o6, o7, o8, accA, rfl, eA6, dA6, s6⟩
        obtain ⟨pd, hp1, hp2⟩ := dpA_get dA hx
        rw [List.getElem?_map] at hp1
        obtain ⟨c, hc1, rfl⟩ := Option.map_eq_some_iff.mp hp1
        have hcl := hle c (List.mem_of_getElem? hc1)
        have hcp := hpl c (List.mem_of_getElem? hc1)
        have tk : hc.take (j + 1) = hc.take j ++ [c] := by rw [List.take_add_one, hc1]; rfl
        obtain ⟨pa, t, rfl, hpa, hpt⟩ := pair_open (dp_same s6 hp2)
        walk_at "go"
        refine ⟨_, _, rfl, hpa, rfl, ?_⟩
        walk_at "go"
        have s06 := sm.trans s6
        refine r_ixSq (xs := xs) ⟨a, rfl, .inr (Same.sqT s06 hS)⟩ (atI_nat (j := i) hfv) ?_
        walk_at "go"
        refine ⟨z, p, fv, fl, c.2, rfl, dp_same s06 g2, ok, hp, hcl, fun H7 q s7 hq eq => ?_⟩
        have nq : q ≠ A0 := fun e => by rw [e, eA6] at hq; cases hq
        have eA7 := s7 _ _ eA6
        have s67 := s6.trans s7
        have f1 := few j
        have f2 := flen_few (f := fl) (p := tl p) (a := c.2) hcl
        refine fr_sq ⟨q, rfl, .inl (SqL.of eq)⟩ (fun m σ H8 => ∃ (o8 : Option V) (ac : List V), σ = [some (.ref a), some (.str p), some (.ref ra), some (.ref F1), some (.int (i : Int)), some (.ref A0), some (.ref t), some (vi c.2), o8] ∧ H8 A0 = some (.lst ac) ∧
          DpAll K H8 ac (((hc.take j).flatMap (stepN (cutP p) (tl p) fl rs) ++ (((flen fl (tl p) c.2).take m).filter fun n => decide (0 < ways rs (tl p) (c.2 + n))).map fun n => (c.1 ++ [cutP p c.2 (c.2 + n)], c.2 + n)).map pairD) ∧ Same H' H8 ∧ Kp A0 H7 H8) ?_ ?_ ?_ ?_ (fun J h => h)
        · refine ⟨_, _, rfl, eA7, ?_, s67, Kp.refl _ _⟩
          rw [List.take_zero, List.filter_nil, List.map_nil, List.append_nil]
          exact dpA_same s7 dA6
        · rintro m σ H8 hm ⟨o8, ac, rfl, e8, d8, s8, k8⟩
          exact Kp.at k8 fun e => nq (V.ref.inj e)
        · rintro m y σ H8 hy ⟨o8, ac, rfl, e8, d8, s8, k8⟩
          obtain ⟨n, hn, rfl⟩ := get_map hy
          have hnl := flen_le hcl (List.mem_of_getElem? hn)
          have s08 := sm.trans s8
          have tkm : (flen fl (tl p) c.2).take (m + 1) = (flen fl (tl p) c.2).take m ++ [n] := by rw [List.take_add_one, hn]; rfl
          walk_at "go"
          refine ⟨ra, rys, ((i + 1 : Nat) : Int), _, rfl, rfl, s08.seq hrs, atI_nat (j := i + 1) hrv, ?_⟩
          walk_at "go"
          refine ⟨W0, _, ((c.2 + n : Nat) : Int), _, rfl, rfl, s08.seq hW0, atI_nat (j := c.2 + n) (by rw [List.getElem?_map, List.getElem?_range (by omega)]; rfl), ?_⟩
          walk_at "go"
          have l8 := dpA_len d8
          have f3 : ((((flen fl (tl p) c.2).take m).filter fun n => decide (0 < ways rs (tl p) (c.2 + n))).map fun n => (c.1 ++ [cutP p c.2 (c.2 + n)], c.2 + n)).length ≤ 105 := by
            rw [List.length_map]
            have := List.length_filter_le (fun n => decide (0 < ways rs (tl p) (c.2 + n))) ((flen fl (tl p) c.2).take m)
            rw [List.length_take] at this
            omega
          rw [List.length_map, List.length_append] at l8
          by_cases hpos : 0 < ways rs (tl p) (c.2 + n)
          · refine r_yes (by omega) ?_
            walk_at "go"
            refine ⟨tyL (SqL.of e8), ?_⟩
            walk_at "go"
            refine ⟨small_line (by omega), ?_⟩
            walk_at "go"
            refine ⟨(by show 1 ≤ sizeLine; decide), fun U hU => ?_⟩
            have sU := same_new (o := HO.tup [V.str (cutP p c.2 (c.2 + n))]) hU
            refine r_catOne (Same.sqT sU (Kp.sqT k8 eA7 (Same.sqT s7 hpt))) upd_same (by rw [List.length_map]; omega) fun H9 u s9 hu => ?_
            walk_at "go"
            refine ⟨(by show 2 ≤ sizeLine; decide), fun G hG => ?_⟩
            have sG := sU.trans (s9.trans (same_new (o := HO.tup [V.ref u, vi (c.2 + n)]) hG))
            have e10 := sG _ _ e8
            have dG : Dp K (upd H9 G (HO.tup [V.ref u, vi (c.2 + n)])) (.ref G) (pairD (c.1 ++ [cutP p c.2 (c.2 + n)], c.2 + n)) := by
              refine .tup (SqT.of upd_same) (.cons (.tup (Same.sqT (same_new (o := HO.tup [V.ref u, vi (c.2 + n)]) hG) hu) ?_) (.cons (.int _) .nil))
              rw [List.map_append]
              exact dpA_app (dpA_strs.mpr rfl) (.cons (.str _) .nil)
            have d10 := dpA_same sG d8
            generalize upd H9 G (HO.tup [V.ref u, vi (c.2 + n)]) = H10 at sG e10 dG d10
            walk_at "go"
            have kt : KT K H10 (upd H10 A0 (.lst (ac ++ [.ref G]))) := kt_lst e10
            refine ⟨A0, ac, _, rfl, rfl, e10, by rw [sizeLine_eq]; omega, ?_⟩
            refine ⟨_, ac ++ [.ref G], rfl, upd_same, ?_, same_upd (s8.trans sG) hA0, fun x y nx hxy => by rw [upd_ne nx]; exact sG _ _ (k8 x y nx hxy)⟩
            have hk1 : (((flen fl (tl p) c.2).take (m + 1)).filter fun n => decide (0 < ways rs (tl p) (c.2 + n))).map (fun n => (c.1 ++ [cutP p c.2 (c.2 + n)], c.2 + n)) = (((flen fl (tl p) c.2).take m).filter fun n => decide (0 < ways rs (tl p) (c.2 + n))).map (fun n => (c.1 ++ [cutP p c.2 (c.2 + n)], c.2 + n)) ++ [(c.1 ++ [cutP p c.2 (c.2 + n)], c.2 + n)] := by
              rw [tkm, List.filter_append, List.filter_cons_of_pos (by exact decide_eq_true hpos), List.filter_nil, List.map_append]; rfl
            rw [hk1, ← List.append_assoc, List.map_append]
            exact dpA_app (dpA_pure kt _ _ (pairD_pure _) d10) (.cons (dp_pure kt _ _ (pureA_iff.mp (pairD_pure [(c.1 ++ [cutP p c.2 (c.2 + n)], c.2 + n)]) _ (List.mem_singleton.mpr rfl)) dG) .nil)
          · refine r_no (by omega) ?_
            walk_at "go"
            refine ⟨_, ac, rfl, e8, ?_, s8, k8⟩
            rw [tkm, List.filter_append, List.filter_cons_of_neg (by rw [decide_eq_false hpos]; exact Bool.false_ne_true), List.filter_nil, List.append_nil]
            exact d8
        · rintro σ H8 ⟨o8, ac, rfl, e8, d8, s8, k8⟩
          refine ⟨_, _, _, ac, rfl, e8, ?_, s8⟩
          rw [tk, List.flatMap_append, List.flatMap_singleton]
          rw [List.length_map, List.take_length] at d8
          exact d8
      · rintro σ H6 ⟨o6, o7, o8, accA, rfl, eA6, dA6, s6⟩
        rw [hal, List.take_length] at dA6
        walk_at "go"
        have tot2 := (wtot_flat (cutP p) (tl p) fl rs hc).trans htot
        have lt2 := len_wtot (fs := rs) (p := tl p) (h := hc.flatMap (stepN (cutP p) (tl p) fl rs)) step_pos
        refine ⟨A0, accA, rfl, .inl (SqL.of eA6), fun l hl2 => ?_⟩
        have sl := same_new (o := HO.lst accA) hl2
        refine ⟨l, accA, hc.flatMap (stepN (cutP p) (tl p) fl rs), _, _, _, _, _, rfl, upd_same, dpA_same sl dA6, step_le hle, fun y hy => ?_, by omega, hcut, tot2, (sm.trans s6).trans sl⟩
        obtain ⟨x1, hx1, hx2⟩ := List.mem_flatMap.mp hy
        obtain ⟨n, _, rfl⟩ := List.mem_map.mp hx2
        show (x1.1 ++ [_]).length = i + 1
        rw [List.length_append, hpl x1 hx1]; rfl
    · rintro σ H' ⟨F1, acc, hc, o4, o5, o6, o7, o8, rfl, eF, dA, hle, hpl, h5, hcut, htot, sm⟩
      rw [List.drop_length] at hcut
      walk_at "go"
      have hal := dpA_len dA
      rw [List.length_map] at hal
      have e1 : hc = cutsN (cutP p) (tl p) fs [([], 0)] := hcut
      refine ⟨⟨_, SqL.of eF⟩, fun D2 hD2 => lc_it (walk_list (K := K) (a := F1) (xs := acc)) (fun j H6 => ∃ ac, H6 D2 = some (.lst ac) ∧ ac.length = j ∧ DpAll K H6 ac ((hc.take j).map tupS) ∧ Same H' H6) ⟨[], upd_same, rfl, .nil, same_new hD2⟩ (fun j H6 _ ⟨_, _, _, _, s6⟩ => s6.seq (SqL.of eF)) ?_ ?_⟩
      · rintro j x H6 H7 hj ⟨ac, e6, l6', d6, s6⟩ ⟨eH, hx⟩
        rw [eH]
        clear eH H7
        obtain ⟨pd, hp1, hp2⟩ := dpA_get dA hx
        rw [List.getElem?_map] at hp1
        obtain ⟨c, hc1, rfl⟩ := Option.map_eq_some_iff.mp hp1
        obtain ⟨pa, t, rfl, hpa, hpt⟩ := pair_open (dp_same s6 hp2)
        walk_at "go"
        refine ⟨_, _, rfl, hpa, rfl, ?_⟩
        walk_at "go"
        refine ⟨rfl, ?_⟩
        walk_at "go"
        refine ⟨ac, e6, line60 (by omega), ac ++ [.ref t], upd_same, by rw [List.length_append, l6']; rfl, ?_, same_upd s6 hD2⟩
        have kt : KT K H6 (upd H6 D2 (.lst (ac ++ [.ref t]))) := kt_lst e6
        rw [List.take_add_one, hc1, List.map_append]
        exact dpA_app (dpA_pure kt _ _ (tupS_pure _) d6) (.cons (dp_pure kt _ _ (pureA_iff.mp (tupS_pure [c]) _ (List.mem_singleton.mpr rfl)) (.tup hpt (dpA_strs.mpr rfl))) .nil)
      · rintro H6 ⟨ac, e6, l6', d6, s6⟩
        rw [hal, List.take_length] at d6
        walk_at "go"
        refine ⟨D2, ac, rfl, .inl ⟨SqL.of e6, fun l hl2 => k _ _ ((sm.trans s6).trans (same_new hl2)) ?_⟩⟩
        unfold readD
        rw [← e1]
        exact .tup (SqT.of upd_same) (dpA_same (same_new hl2) d6)
end
end K4

/-! L19j -/


namespace K4
open PySem L2 K1
abbrev sLWanted : Stmt := top 67
abbrev nLWanted : List Str := ["_law_form", "_law_paper_here", "_law_rests"]
theorem scLWanted : FnScope nLWanted ["_law_form", "_law_paper_here"] (defScope sLWanted) := ⟨rfl, rfl, rfl, by decide +kernel, rfl, by decide +kernel, by decide +kernel⟩
abbrev sLCuttings : Stmt := top 72
abbrev nLCuttings : List Str := ["_law_form", "_law_paper_here", "_law_here", "_law_many", "_law_field", "_law_ahead", "_law_at", "_law_end"]
theorem scLCuttings : FnScope nLCuttings ["_law_form", "_law_paper_here"] (defScope sLCuttings) := ⟨rfl, rfl, rfl, by decide +kernel, rfl, by decide +kernel, by decide +kernel⟩
/-! What is due; how many ways there are to cut. -/
def wantD (fs : List Fd) (p : Str) : PyData := if 500 < ways fs (tl p) 0 then .list [.str "reading"] else readD fs p
def spWanted (K : PySem.W.Frag) : Sp := fun vs H Q _ => ∃ (z p : Str) (v : V) (fs : List Fd), vs = [v, .str p] ∧ Dp K H v (formD true fs) ∧ FormOk z fs ∧ (tl p).length ≤ 100 ∧
  ∀ H' v', Same H H' → Dp K H' v' (wantD fs p) → Q v' H'
def spCuttings (K : PySem.W.Frag) : Sp := fun vs H Q _ => ∃ (z p : Str) (v : V) (fs : List Fd), vs = [v, .str p] ∧ Dp K H v (formD true fs) ∧ FormOk z fs ∧ (tl p).length ≤ 100 ∧
  ∀ H' (c : Int), Same H H' → Q (.int c) H'
theorem ixN_of {n k : Nat} (h : k < n) : ixN n (k : Int) = some k := by
  unfold ixN
  rw [if_pos (by omega), if_pos (by omega)]
  simp
section
variable {P : Program} {w : World} {K : PySem.W.Frag} {mg : Str → Option Value} {base : Heap}
abbrev ORestsOf (P : Program) (w : World) (K : PySem.W.Frag) (mg : Str → Option Value) (base : Heap) : Prop := Own P w K mg base "_law_rests_of" 2 ["_law_form", "_law_paper_here"] (spRestsOf K)
abbrev OCuts (P : Program) (w : World) (K : PySem.W.Frag) (mg : Str → Option Value) (base : Heap) : Prop := Own P w K mg base "_law_cuts" 2 ["_law_form", "_law_paper_here", "_law_rests"] (spCuts K)
theorem ok_wanted {f : Addr} {fd : FuncData} (F : Fun K "_law_wanted_of" "_law_wanted_of" sLWanted f fd) (B : Bl mg) (Oro : ORestsOf P w K mg base) (Ocu : OCuts P w K mg base) : FnOk P w K mg base CX0 3 f fd ["_law_form", "_law_paper_here"] (spWanted K) := by
  refine F.ok scLWanted (fun vs H Q E h => ?_) (fun cdv A outer s H vs Q E hr h => ?_)
  · obtain ⟨z, p, v, fs, rfl, _⟩ := h
    rfl
  · obtain ⟨z, p, v, fs, rfl, hd, ho, hp, k⟩ := h
    refine ⟨_, (pss_cons (ps_set (i := 2) scLWanted.nd rfl (Or.inl rfl) (pe_own Oro (hr.mono (by omega)) (pa_cons (pv 0) (pa_cons (pv 1) pa_nil)))) (pss_cons (ps_if (pt_cmpR op_gt (pe_ix ix_list (pe_ix ix_list (pv 2) pe_int (fun _ _ => rfl)) pe_int (fun _ _ => rfl)) pe_int (nomark _)) (pss_one (ps_ret (pe_lst (pa_cons pe_str pa_nil)))) pss_nil) (pss_one (ps_ret (pe_own Ocu (hr.mono (by omega)) (pa_cons (pv 0) (pa_cons (pv 1) (pa_cons (pv 2) pa_nil)))))))), ?_⟩
    try dsimp only [cxOf, Cx.nox, Cx.wish]
    walk_at "go"
    refine ⟨z, p, v, fs, rfl, hd, ho, hp, fun H1 q s1 hq dq => ?_⟩
    obtain ⟨ys, hys, hyd⟩ := list_open dq
    have hyl := dpA_len hyd
    rw [restsD_len] at hyl
    obtain ⟨y0, hy0⟩ : ∃ y0, ys[0]? = some y0 := ⟨ys[0], List.getElem?_eq_getElem (by omega)⟩
    obtain ⟨d0, g1, g2⟩ := dpA_get hyd hy0
    rw [restsD_get (tl p) fs 0 (Nat.zero_le _), List.drop_zero] at g1
    obtain rfl := Option.some.inj g1
    obtain ⟨W0, rfl, hW0⟩ := wrow_open g2
    walk_at "go"
    refine ⟨q, ys, 0, _, rfl, rfl, hys, atI_nat (j := 0) hy0, ?_⟩
    walk_at "go"
    refine ⟨W0, _, 0, vi (ways fs (tl p) 0), rfl, rfl, hW0, atI_nat (j := 0) (by rw [List.getElem?_map, List.getElem?_range (by omega)]; rfl), ?_⟩
    walk_at "go"
    by_cases big : 500 < ways fs (tl p) 0
    · refine r_yes (by omega) ?_
      walk_at "go"
      refine ⟨(by show 1 ≤ sizeLine; decide), fun R hR => ?_⟩
      refine k _ _ (s1.trans (same_new hR)) ?_
      unfold wantD
      rw [if_pos big]
      exact .lst (SqL.of upd_same) (.cons (.str _) .nil)
    · refine r_no (by omega) ?_
      walk_at "go"
      refine ⟨z, p, v, _, fs, rfl, dp_same s1 hd, ho, hp, dq, by omega, fun H2 v2 s2 d2 => k _ _ (s1.trans s2) ?_⟩
      unfold wantD
      rw [if_neg big]
      exact d2
theorem ok_cuttings {f : Addr} {fd : FuncData} (F : Fun K "_law_cuttings" "_law_cuttings" sLCuttings f fd) (B : Bl mg) (Ofe : OFieldEnds P w K mg base) : FnOk P w K mg base CX0 2 f fd ["_law_form", "_law_paper_here"] (spCuttings K) := by
  refine F.ok scLCuttings (fun vs H Q E h => ?_) (fun cdv A outer s H vs Q E hr h => ?_)
  · obtain ⟨z, p, v, fs, rfl, _⟩ := h
    rfl
  · obtain ⟨z, p, v, fs, rfl, hd, ho, hp, k⟩ := h
    refine ⟨_, (pss_cons (ps_set (i := 2) scLCuttings.nd rfl (Or.inl rfl) (pe_op op_cat (pe_lst (pa_cons pe_int pa_nil)) (pe_op op_rep (pe_lst (pa_cons pe_int pa_nil)) (pe_callB call_len (by rfl) B.len PySem.boot_len (pa_cons (pv 1) pa_nil))))) (pss_cons (ps_set (i := 3) scLCuttings.nd rfl (Or.inl rfl) pe_int) (pss_cons (ps_for PassesOwn.never rfl (pi_sq (pv 0)) (pg_name (i := 4) scLCuttings.nd rfl (Or.inl rfl)) (pss_cons (ps_set (i := 5) scLCuttings.nd rfl (Or.inl rfl) (pe_op op_rep (pe_lst (pa_cons pe_int pa_nil)) (pe_op op_add (pe_callB call_len (by rfl) B.len PySem.boot_len (pa_cons (pv 1) pa_nil)) pe_int))) (pss_cons (ps_for PassesOwn.never rfl (pi_range1 rfl B.range (pa_cons (pe_op op_add (pe_callB call_len (by rfl) B.len PySem.boot_len (pa_cons (pv 1) pa_nil)) pe_int) pa_nil)) (pg_name (i := 6) scLCuttings.nd rfl (Or.inl rfl)) (pss_one (ps_if (pt_cmpR op_gt (pe_ix ix_list (pv 2) (pv 6) (fun _ _ => rfl)) pe_int (nomark _)) (pss_one (ps_for PassesOwn.never rfl (pi_sq (pe_own Ofe (hr.mono (by omega)) (pa_cons (pv 4) (pa_cons (pv 1) (pa_cons (pv 6) pa_nil))))) (pg_name (i := 7) scLCuttings.nd rfl (Or.inl rfl)) (pss_one (ps_asg (pe_op op_add (pe_ix ix_list (pv 5) (pv 7) (fun _ _ => rfl)) (pe_ix ix_list (pv 2) (pv 6) (fun _ _ => rfl))) (pg_sub (pv 5) (pv 7) set_list))))) pss_nil))) (pss_cons (ps_set (i := 2) scLCuttings.nd rfl (Or.inl rfl) (pe_callTy call_list_of (by rfl) B.list (by decide +kernel) (pa_cons (pv 5) pa_nil))) (pss_one (ps_set (i := 3) scLCuttings.nd rfl (Or.inl rfl) (pe_callB (call_max2 rfl) (by rfl) B.max (by decide +kernel) (pa_cons (pv 3) (pa_cons (pe_callB (cr_sum rfl) (by rfl) B.sum (by decide +kernel) (pa_cons (pv 2) pa_nil)) pa_nil))))))))) (pss_one (ps_ret (pv 3)))))), ?_⟩
    try dsimp only [cxOf, Cx.nox, Cx.wish]
    obtain ⟨a, xs, rfl, hS, hA⟩ := dp_tuple hd
    have hl := dpA_len hA
    rw [List.length_map] at hl
    have l6 := ho.2.1
    have lp := len_tl p
    generalize ea : V.ref a = av
    walk_at "go"
    refine ⟨(by show 1 ≤ sizeLine; decide), fun A0 hA0 => ?_⟩
    have s0 := same_new (o := HO.lst [V.int 1]) hA0
    have e0 : (upd H A0 (HO.lst [V.int 1])) A0 = some (.lst [V.int 1]) := upd_same
    generalize upd H A0 (HO.lst [V.int 1]) = H0 at s0 e0
    walk_at "go"
    refine ⟨(by show 1 ≤ sizeLine; decide), fun A1 hA1 => ?_⟩
    walk_at "go"
    refine ⟨_, _, rfl, lenS (small_line (by omega)), ?_⟩
    walk_at "go"
    refine rep_new upd_same (by omega) fun H1 A2 hA2 s1 e1 => ?_
    have s01 := (same_new (o := HO.lst [V.int 0]) hA1).trans s1
    refine cat_two (s01 _ _ e0) e1 (by rw [List.length_replicate]; show 1 + p.length ≤ 1000; omega) fun H2 A3 s2 e2 => ?_
    have s02 := s0.trans (s01.trans s2)
    have e2' : H2 A3 = some (.lst (((1 : Int) :: List.replicate p.length 0).map V.int)) := by rw [e2, List.map_cons, List.map_replicate]; rfl
    clear e2 e1 s1 s2 s01 hA0 hA1 hA2 e0 s0
    walk_at "go"
    subst ea
    refine ⟨a, rfl, .inr ⟨⟨xs, Same.sqT s02 hS⟩, fr_tup (xs := xs) (fun i σ H' => ∃ (F1 : Addr) (ns : List Int) (c : Int) (o4 o5 o6 o7 : Option V), σ = [some (.ref a), some (.str p), some (.ref F1), some (.int c), o4, o5, o6, o7] ∧ H' F1 = some (.lst (ns.map V.int)) ∧ ns.length = (tl p).length + 1 ∧ Same H H') ?_ ?_ ?_ ?_⟩⟩
    · exact ⟨A3, _, 1, none, none, none, none, rfl, e2', by rw [List.length_cons, List.length_replicate, lp], s02⟩
    · rintro i σ H' hi ⟨F1, ns, c, o4, o5, o6, o7, rfl, eF, hnl, sm⟩
      exact Same.sqT sm hS
    · rintro i x σ H' hx ⟨F1, ns, c, o4, o5, o6, o7, rfl, eF, hnl, sm⟩
      obtain ⟨dd, g1, g2⟩ := dpA_get hA hx
      rw [List.getElem?_map] at g1
      obtain ⟨fl, hf, rfl⟩ := Option.map_eq_some_iff.mp g1
      have ok := ho.2.2.2 fl (List.mem_of_getElem? hf)
      walk_at "go"
      refine ⟨(by show 1 ≤ sizeLine; decide), fun B0 hB0 => ?_⟩
      walk_at "go"
      refine ⟨_, _, rfl, lenS (small_line (by omega)), ?_⟩
      walk_at "go"
      rw [show ((p.length : Int) + 1) = (((tl p).length + 1 : Nat) : Int) by omega]
      refine rep_new upd_same (by omega) fun H1 A hA s1 eA => ?_
      have s01 := (same_new (o := HO.lst [V.int 0]) hB0).trans s1
      have eA' : H1 A = some (.lst ((List.replicate ((tl p).length + 1) (0 : Int)).map V.int)) := by rw [eA, List.map_replicate]
      have fA : H' A = none := Same.free (same_new (o := HO.lst [V.int 0]) hB0) hA
      have eF1 := s01 _ _ eF
      clear eA s1 hA
      walk_at "go"
      refine ⟨_, _, rfl, lenS (small_line (by omega)), ?_⟩
      walk_at "go"
      rw [show ((p.length : Int) + 1) = (((tl p).length + 1 : Nat) : Int) by omega]
      refine ⟨by omega, by omega, ?_⟩
      rw [Int.toNat_natCast]
      have nAF : F1 ≠ A := fun e => by rw [e] at eF; rw [eF] at fA; cases fA
      refine fr_range (lo := 0) (n := (tl p).length + 1) (fun b σ H6 => ∃ (o6 o7 : Option V) (ms : List Int), σ = [some (.ref a), some (.str p), some (.ref F1), some (.int c), some x, some (.ref A), o6, o7] ∧ H6 A = some (.lst (ms.map V.int)) ∧ ms.length = (tl p).length + 1 ∧ Same H' H6) ⟨_, _, _, rfl, eA', List.length_replicate, s01⟩ ?_ ?_
      · rintro b σ H6 hb ⟨o6, o7, ms, rfl, eM, hml, s6⟩
        have hbn : b < ns.length := by omega
        have eF6 := s6 _ _ eF
        walk_at "go"
        rw [Int.zero_add]
        refine ⟨F1, _, (b : Int), V.int ns[b], rfl, rfl, SqL.of eF6, atI_nat (j := b) (by rw [List.getElem?_map, List.getElem?_eq_getElem hbn]; rfl), ?_⟩
        walk_at "go"
        by_cases hpos : 0 < ns[b]
        · refine r_yes hpos ?_
          walk_at "go"
          refine ⟨z, p, x, fl, b, rfl, dp_same (sm.trans s6) g2, ok, hp, by omega, fun H7 q s7 hq eq => ?_⟩
          have nq : q ≠ A := fun e => by rw [e, eM] at hq; cases hq
          have s67 := s6.trans s7
          refine fr_sq ⟨q, rfl, .inl (SqL.of eq)⟩ (fun m σ H8 => ∃ (o7 : Option V) (ms : List Int), σ = [some (.ref a), some (.str p), some (.ref F1), some (.int c), some x, some (.ref A), some (vi b), o7] ∧ H8 A = some (.lst (ms.map V.int)) ∧ ms.length = (tl p).length + 1 ∧ Same H' H8 ∧ Kp A H7 H8) ⟨_, ms, rfl, s7 _ _ eM, hml, s67, Kp.refl _ _⟩ ?_ ?_ ?_ (fun J h => h)
          · rintro m σ H8 hm ⟨o7, ms, rfl, e8, l8, s8, k8⟩
            exact Kp.at k8 fun e => nq (V.ref.inj e)
          · rintro m y σ H8 hy ⟨o7, ms, rfl, e8, l8, s8, k8⟩
            obtain ⟨n, hn, rfl⟩ := get_map hy
            have hnl := flen_le (f := fl) (p := tl p) (a := b) (by omega) (List.mem_of_getElem? hn)
            have hbn2 : b + n < ms.length := by omega
            walk_at "go"
            refine ⟨A, _, ((b + n : Nat) : Int), V.int ms[b + n], rfl, rfl, SqL.of e8, atI_nat (j := b + n) (by rw [List.getElem?_map, List.getElem?_eq_getElem hbn2]; rfl), ?_⟩
            walk_at "go"
            refine ⟨F1, _, (b : Int), V.int ns[b], rfl, rfl, SqL.of (s8 _ _ eF), atI_nat (j := b) (by rw [List.getElem?_map, List.getElem?_eq_getElem hbn]; rfl), ?_⟩
            walk_at "go"
            refine ⟨A, _, ((b + n : Nat) : Int), b + n, rfl, rfl, e8, ixN_of (by rw [List.length_map]; exact hbn2), ?_⟩
            refine ⟨_, ms.set (b + n) (ms[b + n] + ns[b]), rfl, by rw [upd_same, List.map_set], by rw [List.length_set]; exact l8, same_upd s8 fA, fun u o nu h => by rw [upd_ne nu]; exact k8 u o nu h⟩
          · rintro σ H8 ⟨o7, ms, rfl, e8, l8, s8, k8⟩
            exact ⟨_, _, ms, rfl, e8, l8, s8⟩
        · refine r_no hpos ?_
          walk_at "go"
          exact ⟨_, _, ms, rfl, eM, hml, s6⟩
      · rintro σ H6 ⟨o6, o7, ms, rfl, eM, hml, s6⟩
        walk_at "go"
        refine ⟨A, _, rfl, .inl (SqL.of eM), fun l hl2 => ?_⟩
        have sl := same_new (o := HO.lst (ms.map V.int)) hl2
        have el : (upd H6 l (HO.lst (ms.map V.int))) l = some (.lst (ms.map V.int)) := upd_same
        walk_at "go"
        refine r_sum (SqL.of el) ?_
        walk_at "go"
        refine ⟨_, _, rfl, ?_⟩
        exact ⟨l, ms, _, _, _, _, _, rfl, el, hml, (sm.trans s6).trans sl⟩
    · rintro σ H' ⟨F1, ns, c, o4, o5, o6, o7, rfl, eF, hnl, sm⟩
      walk_at "go"
      exact k H' c sm
end
end K4

/-! L19k -/


namespace K1
open PySem L2
def spMixedL : Sp := fun vs H Q _ => ∃ (b R : Addr) (zs : List V) (n : Nat), vs = [.ref b, .ref R] ∧ IsBag H b n ∧ n + zs.length ≤ 2 ^ 40 ∧ H R = some (.lst zs) ∧ R ≠ b ∧ zs.length ≤ 1000 ∧
  ∀ (ys : List V) H' p, ys.Perm zs → IsBag H' b (n + zs.length) → Kp b H H' → H p = none → H' p = some (.lst ys) → p ≠ b → Q (.ref p) H'
section
variable {P : Program} {w : World} {K : PySem.W.Frag} {mg : Str → Option Value} {base : Heap}
theorem ok_mixedL {f : Addr} {fd : FuncData} (F : Fun K "_law_mixed" "_law_mixed" sMixed f fd) (B : Bl mg) (Op : OPick P w K mg base) : FnOk P w K mg base CX0 2 f fd ["_law_bag", "_law_row"] spMixedL := by
  refine F.ok scMixed (fun vs H Q E h => ?_) (fun cdv A outer s H vs Q E hr h => ?_)
  · obtain ⟨b, R, zs, n, rfl, _⟩ := h
    rfl
  · obtain ⟨b, R, zs, n, rfl, hb, hn, eR, nRb, hz, k⟩ := h
    refine ⟨_, pss_cons (ps_set (i := 2) scMixed.nd rfl (Or.inl rfl) (pe_callTy call_list_of (by rfl) B.list (by decide +kernel) (pa_cons (pv 1) pa_nil)))
      (pss_cons (ps_set (i := 3) scMixed.nd rfl (Or.inl rfl) (pe_lst pa_nil))
      (pss_cons (ps_for PassesOwn.never rfl (pi_range1 rfl B.range (pa_cons (pe_callB call_len (by rfl) B.len PySem.boot_len (pa_cons (pv 1) pa_nil)) pa_nil)) (pg_name (i := 4) scMixed.nd rfl (Or.inl rfl))
        (pss_one (ps_expr (pe_bm PySem.F.plainAttrs_list PySem.F.slot_list_append PySem.F.type_list_append mt_append (pv 3) (pa_cons
          (pe_bm PySem.F.plainAttrs_list PySem.F.slot_list_pop PySem.F.type_list_pop mt_popAt (pv 2) (pa_cons
            (pe_own Op hr (pa_cons (pv 0) (pa_cons (pe_callB call_len (by rfl) B.len PySem.boot_len (pa_cons (pv 2) pa_nil)) pa_nil))) pa_nil)) pa_nil)))))
      (pss_one (ps_ret (pv 3))))), ?_⟩
    try dsimp only [cxOf, Cx.nox, Cx.wish]
    walk_at "go"
    refine ⟨R, _, rfl, .inl (SqL.of eR), fun L hL => ?_⟩
    walk_at "go"
    refine ⟨Nat.zero_le _, fun T hT => ?_⟩
    have nLb : L ≠ b := fun q => by obtain ⟨_, _, _, e, _⟩ := hb; rw [q, e] at hL; cases hL
    have nTL : T ≠ L := fun q => by rw [q, upd_same] at hT; cases hT
    rw [upd_ne nTL] at hT
    have nTb : T ≠ b := fun q => by obtain ⟨_, _, _, e, _⟩ := hb; rw [q, e] at hT; cases hT
    walk_at "go"
    have sLT : Same H (upd (upd H L (.lst zs)) T (.lst [])) := Same.trans (same_new (o := HO.lst zs) hL) (same_new (by rw [upd_ne nTL]; exact hT))
    refine ⟨_, _, rfl, lenL (SqL.of (sLT _ _ eR)), ?_⟩
    walk_at "go"
    refine ⟨by omega, by omega, fr_range (lo := 0) (n := zs.length) (fun i σ H' => ∃ (kk : Option V) (xs ys : List V), σ = [some (.ref b), some (.ref R), some (.ref L), some (.ref T), kk] ∧ H' L = some (.lst xs) ∧ H' T = some (.lst ys) ∧
        (ys ++ xs).Perm zs ∧ ys.length = i ∧ IsBag H' b (n + i) ∧ Kp b H H') ?_ ?_ ?_⟩
    · refine ⟨none, zs, [], rfl, ?_, upd_same, List.Perm.refl _, rfl, ?_, ?_⟩
      · rw [upd_ne nTL.symm, upd_same]
      · obtain ⟨d, s, c, e, r⟩ := hb
        exact ⟨d, s, c, by rw [upd_ne nTb.symm, upd_ne nLb.symm]; exact e, r⟩
      · exact Same.kp sLT
    · rintro i σ H' hi ⟨kk, xs, ys, rfl, eL, eT, pm, ly, hb', kp⟩
      have lxs : xs.length = zs.length - i := by
        have := pm.length_eq
        rw [List.length_append] at this
        omega
      walk_at "go"
      refine ⟨tyL (SqL.of eT), ?_⟩
      walk_at "go"
      refine ⟨tyL (SqL.of eL), ?_⟩
      walk_at "go"
      refine ⟨_, _, rfl, lenL (SqL.of eL), ?_⟩
      walk_at "go"
      refine ⟨_, _, _, rfl, hb', by omega, by omega, fun r H2 r0 r1 hb2 off => ?_⟩
      have hr1 : r < xs.length := by omega
      have hj : r.toNat < xs.length := by omega
      walk_at "go"
      have eL2 := off.at nLb eL
      have eT2 := off.at nTb eT
      refine ⟨L, xs, r, r.toNat, xs[r.toNat], rfl, rfl, eL2, by omega, by omega, seqIx r0 hr1, by simp [hj], ?_⟩
      walk_at "go"
      refine ⟨T, ys, _, rfl, rfl, by rw [upd_ne nTL]; exact eT2, small1000 (by omega), ?_⟩
      walk_at "go"
      refine ⟨some (.int (0 + i)), xs.eraseIdx r.toNat, ys ++ [xs[r.toNat]], rfl, ?_, ?_, ?_, by simp [ly], ?_, ?_⟩
      · rw [upd_ne nTL.symm, upd_same]
      · rw [upd_same]
      · refine List.Perm.trans ?_ pm
        rw [List.append_assoc]
        exact (List.Perm.append_left ys (erase_perm hj))
      · obtain ⟨d, s, c, e, q⟩ := hb2
        exact ⟨d, s, c, by rw [upd_ne nTb.symm, upd_ne nLb.symm]; exact e, q⟩
      · intro c o hc e
        have n1 : c ≠ L := fun q => by rw [q, hL] at e; cases e
        have n2 : c ≠ T := fun q => by rw [q, hT] at e; cases e
        rw [upd_ne n2, upd_ne n1]
        exact off.at hc (kp c o hc e)
    · rintro σ H' ⟨kk, xs, ys, rfl, eL, eT, pm, ly, hb', kp⟩
      walk_at "go"
      have lx : xs = [] := by
        have := pm.length_eq
        rw [List.length_append] at this
        exact List.eq_nil_of_length_eq_zero (by omega)
      subst lx
      rw [List.append_nil] at pm
      exact k ys H' T pm hb' kp hT eT nTb

abbrev OMixedL (P : Program) (w : World) (K : PySem.W.Frag) (mg : Str → Option Value) (base : Heap) : Prop := Own P w K mg base "_law_mixed" 2 ["_law_bag", "_law_row"] spMixedL
end
end K1
namespace K4
open PySem L2 K1
abbrev sLManyWays : Stmt := top 70
abbrev nLManyWays : List Str := ["_law_bag", "_law_sign", "_law_signs", "_law_names", "_law_way", "_law_many", "_law_size", "_law_runs", "_law_words", "_law_name"]
theorem scLManyWays : FnScope nLManyWays ["_law_bag", "_law_sign", "_law_signs"] (defScope sLManyWays) := ⟨rfl, rfl, rfl, by decide +kernel, rfl, by decide +kernel, by decide +kernel⟩
theorem dpA_perm {K : PySem.W.Frag} {H : Hp} : ∀ {ys vs : List V}, ys.Perm vs → ∀ {fs : List Fd}, DpAll K H vs (fs.map (Fd.data true)) → ∃ fs' : List Fd, fs'.Perm fs ∧ DpAll K H ys (fs'.map (Fd.data true)) := by
  intro ys vs h
  induction h with
  | nil => exact fun {fs} d => ⟨fs, List.Perm.refl _, d⟩
  | cons x _ ih =>
    intro fs d
    cases fs with
    | nil => cases d
    | cons f fs =>
      cases d with
      | cons a b =>
        obtain ⟨fs', p, d'⟩ := ih b
        exact ⟨f :: fs', p.cons f, .cons a d'⟩
  | swap x y l =>
    intro fs d
    cases fs with
    | nil => cases d
    | cons f fs =>
      cases d with
      | cons a b =>
        cases fs with
        | nil => cases b
        | cons g fs =>
          cases b with
          | cons c e => exact ⟨g :: f :: fs, List.Perm.swap _ _ _, .cons c (.cons a e)⟩
  | trans _ _ ih1 ih2 =>
    intro fs d
    obtain ⟨f1, p1, d1⟩ := ih2 d
    obtain ⟨f2, p2, d2⟩ := ih1 d1
    exact ⟨f2, p2.trans p1, d2⟩
theorem FormOk.perm {z : Str} {fs gs : List Fd} (h : FormOk z fs) (p : gs.Perm fs) : FormOk z gs :=
  ⟨fun e => h.1 (by rw [e] at p; exact p.symm.eq_nil), by rw [p.length_eq]; exact h.2.1, (p.map Fd.name).nodup_iff.mpr h.2.2.1, fun f hf => h.2.2.2 f (p.mem_iff.mp hf)⟩
theorem cutV_to {xs : List V} (j : Nat) : cutV xs none (some (j : Int)) = xs.take j := by
  unfold cutV
  rw [HT.sIx_none, HT.sIx_nat]
  rw [List.drop_zero, Nat.sub_zero]
  by_cases h : j ≤ xs.length
  · rw [Nat.min_eq_left h]
  · rw [Nat.min_eq_right (by omega), List.take_of_length_le (by omega), List.take_of_length_le (by omega)]
theorem rep_paper {z : Str} {c n : Nat} (hc : c ∈ tl z) (hn : n ≤ 60) : textB 0 60 z (repS (one c) n) = true := by
  have l1 : (tl (one c)).length = 1 := rfl
  have lr := rep_len (one c) n
  rw [l1] at lr
  refine text_mk (by omega) (by omega) fun d hd => ?_
  rw [show d = c by simpa using (show d ∈ [c] from rep_mem hd)]
  exact hc
/-- a run is written out -/
theorem r_run {K : PySem.W.Frag} {σ : L2.St} {H : Hp} {Q : VK} {D : Addr} {ns : List Str} {nm al : Str} {x j i : Nat} {hi : Option Nat} {mv : V} (e : H D = some (.lst (ns.map V.str))) (ed : σ[x]? = some (some (.ref D))) (ei : ns[i]? = some nm) (ej : σ[j]? = some (some (.str al))) (em : mv = oV hi)
    (q : ∀ H' v, Same H H' → Dp K H' v (Fd.data true (.r nm al 0 hi)) → Q v H') : tTup (tCons (tC (.str (Str.ofString "run"))) (tCons (tOp (rIxL K) (tVar x) (tC (.int (i : Nat)))) (tCons (tVar j) (tCons (tC (.int 0)) (tCons (tC mv) tNil))))) σ H Q := by
  subst em
  refine r_tup (r_cons (r_c (r_cons (r_op ?_))))
  refine ⟨_, ed, r_c ?_⟩
  refine ⟨D, _, (i : Int), V.str nm, rfl, rfl, SqL.of e, atI_nat (j := i) (by rw [List.getElem?_map, ei]; rfl), ?_⟩
  refine r_cons ⟨_, ej, r_cons (r_c (r_cons (r_c (r_nil ?_))))⟩
  refine ⟨(by show 5 ≤ sizeLine; decide), fun p hp => q _ _ (same_new hp) (.tup (SqT.of upd_same) (.cons (.str _) (.cons (.str _) (.cons (.str _) (.cons (.int _) (.cons ?_ .nil))))))⟩
  cases hi with
  | none => exact .non
  | some h => exact .int _
def spManyWays (K : PySem.W.Frag) : Sp := fun vs H Q _ => ∃ (b : Addr) (z : Str) (c n : Nat), vs = [.ref b, .str (one c), .str z] ∧ IsBag H b n ∧ n ≤ 2 ^ 37 ∧ Good z ∧ c ∈ tl z ∧
  ∀ H' T fv fs p, H' T = some (.tup [fv, .str p]) → Dp K H' fv (formD true fs) → FormOk z fs → textB 0 60 z p = true → IsBag H' b (n + 200) → Kp b H H' → Q (.ref T) H'
section
variable {P : Program} {w : World} {K : PySem.W.Frag} {mg : Str → Option Value} {base : Heap}
theorem ok_manyWays {f : Addr} {fd : FuncData} (F : Fun K "_law_many_ways" "_law_many_ways" sLManyWays f fd) (B : Bl mg) (Op : OPick P w K mg base) (Ons : ONamesOf P w K mg base) (Omx : OMixedL P w K mg base) : FnOk P w K mg base CX0 5 f fd ["_law_bag", "_law_sign", "_law_signs"] (spManyWays K) := by
  refine F.ok scLManyWays (fun vs H Q E h => ?_) (fun cdv A outer s H vs Q E hr h => ?_)
  · obtain ⟨b, z, c, n, rfl, _⟩ := h
    rfl
  · obtain ⟨b, z, c, n, rfl, hb, hn, gz, hc, k⟩ := h
    refine ⟨_, (pss_cons (ps_set (i := 3) scLManyWays.nd rfl (Or.inl rfl) (pe_own Ons (hr.mono (by omega)) (pa_cons (pv 0) (pa_cons pe_int (pa_cons (pe_lst pa_nil) pa_nil))))) (pss_cons (ps_set (i := 4) scLManyWays.nd rfl (Or.inl rfl) (pe_own Op (hr.mono (by omega)) (pa_cons (pv 0) (pa_cons pe_int pa_nil)))) (pss_cons (ps_if (pt_cmpR op_lt (pv 4) pe_int (nomark _)) (pss_cons (ps_set (i := 5) scLManyWays.nd rfl (Or.inl rfl) (pe_op op_add pe_int (pe_own Op (hr.mono (by omega)) (pa_cons (pv 0) (pa_cons pe_int pa_nil))))) (pss_cons (ps_set (i := 6) scLManyWays.nd rfl (Or.inl rfl) (pe_op op_sub (pe_op op_add (pe_ix ix_list (pe_lst (pa_cons pe_int (pa_cons pe_int (pa_cons pe_int (pa_cons pe_int pa_nil))))) (pe_op op_sub (pv 5) pe_int) (fun _ _ => rfl)) (pe_own Op (hr.mono (by omega)) (pa_cons (pv 0) (pa_cons pe_int pa_nil)))) pe_int)) (pss_one (ps_ret (pe_tup (pa_cons (pe_callTy call_tuple_of (by rfl) B.tuple (by decide +kernel) (pa_cons (pe_lc (own := [("_law_name", 9)]) (g := gName 9) (tt := tYes) rfl scLManyWays.nd (pi_list (pe_slice sl_list (pv 3) po_none (po_some (pv 5)))) (blkOk_by (N := nLManyWays) (sc := defScope sLManyWays) (by decide +kernel)) (fun _ _ _ _ _ => (pg_name (i := 9) scLManyWays.nd rfl (Or.inl rfl))) (fun _ _ _ _ _ => pts_nil) (fun _ _ _ _ _ => (pe_tup (pa_cons pe_str (pa_cons (pv 9) (pa_cons (pv 2) (pa_cons pe_int (pa_cons pe_non pa_nil)))))))) pa_nil)) (pa_cons (pe_op op_mul_str (pv 1) (pv 6)) pa_nil))))))) pss_nil) (pss_cons (ps_if (pt_cmpR op_lt (pv 4) pe_int (nomark _)) (pss_cons (ps_set (i := 7) scLManyWays.nd rfl (Or.inl rfl) (pe_lst (pa_cons (pe_tup (pa_cons pe_str (pa_cons (pe_ix ix_list (pv 3) pe_int (fun _ _ => rfl)) (pa_cons (pv 2) (pa_cons pe_int (pa_cons pe_int pa_nil)))))) (pa_cons (pe_tup (pa_cons pe_str (pa_cons (pe_ix ix_list (pv 3) pe_int (fun _ _ => rfl)) (pa_cons (pv 1) (pa_cons pe_int (pa_cons pe_int pa_nil)))))) (pa_cons (pe_tup (pa_cons pe_str (pa_cons (pe_ix ix_list (pv 3) pe_int (fun _ _ => rfl)) (pa_cons (pv 2) (pa_cons pe_int (pa_cons pe_int pa_nil)))))) pa_nil))))) (pss_cons (ps_set (i := 6) scLManyWays.nd rfl (Or.inl rfl) (pe_ix ix_list (pe_lst (pa_cons pe_int (pa_cons pe_int (pa_cons pe_int (pa_cons pe_int pa_nil))))) (pe_own Op (hr.mono (by omega)) (pa_cons (pv 0) (pa_cons pe_int pa_nil))) (fun _ _ => rfl))) (pss_one (ps_ret (pe_tup (pa_cons (pe_callTy call_tuple_of (by rfl) B.tuple (by decide +kernel) (pa_cons (pe_own Omx (hr.mono (by omega)) (pa_cons (pv 0) (pa_cons (pe_op op_cat (pv 7) (pe_lst (pa_cons (pe_tup (pa_cons pe_str (pa_cons (pe_ix ix_list (pv 3) pe_int (fun _ _ => rfl)) (pa_cons (pv 2) (pa_cons pe_int (pa_cons pe_non pa_nil)))))) pa_nil))) pa_nil))) pa_nil)) (pa_cons (pe_op op_mul_str (pv 1) (pv 6)) pa_nil))))))) pss_nil) (pss_cons (ps_set (i := 7) scLManyWays.nd rfl (Or.inl rfl) (pe_lst (pa_cons (pe_tup (pa_cons pe_str (pa_cons (pe_ix ix_list (pv 3) pe_int (fun _ _ => rfl)) (pa_cons (pv 2) (pa_cons pe_int (pa_cons pe_int pa_nil)))))) (pa_cons (pe_tup (pa_cons pe_str (pa_cons (pe_ix ix_list (pv 3) pe_int (fun _ _ => rfl)) (pa_cons (pv 2) (pa_cons pe_int (pa_cons pe_int pa_nil)))))) (pa_cons (pe_tup (pa_cons pe_str (pa_cons (pe_ix ix_list (pv 3) pe_int (fun _ _ => rfl)) (pa_cons (pv 1) (pa_cons pe_int (pa_cons pe_int pa_nil)))))) pa_nil))))) (pss_cons (ps_set (i := 8) scLManyWays.nd rfl (Or.inl rfl) (pe_tup (pa_cons pe_str (pa_cons (pe_ix ix_list (pv 3) pe_int (fun _ _ => rfl)) (pa_cons (pe_tup (pa_cons (pe_op op_mul_str (pv 1) pe_int) (pa_cons (pv 1) pa_nil))) pa_nil))))) (pss_cons (ps_set (i := 6) scLManyWays.nd rfl (Or.inl rfl) (pe_op op_add pe_int (pe_own Op (hr.mono (by omega)) (pa_cons (pv 0) (pa_cons pe_int pa_nil))))) (pss_one (ps_ret (pe_tup (pa_cons (pe_callTy call_tuple_of (by rfl) B.tuple (by decide +kernel) (pa_cons (pe_own Omx (hr.mono (by omega)) (pa_cons (pv 0) (pa_cons (pe_op op_cat (pv 7) (pe_lst (pa_cons (pe_tup (pa_cons pe_str (pa_cons (pe_ix ix_list (pv 3) pe_int (fun _ _ => rfl)) (pa_cons (pv 2) (pa_cons pe_int (pa_cons pe_non pa_nil)))))) (pa_cons (pv 8) pa_nil)))) pa_nil))) pa_nil)) (pa_cons (pe_op op_mul_str (pv 1) (pv 6)) pa_nil)))))))))))), ?_⟩
    try dsimp only [cxOf, Cx.nox, Cx.wish]
    have z2 : 2 ≤ (tl z).length := gz.lo
    have z12 : (tl z).length ≤ 12 := gz.hi
    have za : (tl z).Pairwise (· < ·) := gz.up
    walk_at "go"
    refine ⟨Nat.zero_le _, fun t ht => ?_⟩
    have ntb := hb.ne ht
    walk_at "go"
    refine ⟨b, t, 6, n, rfl, hb.new ht, by omega, upd_same, ntb, by omega, fun H2 D ns hl nd hng hb2 k2 hD eD => ?_⟩
    have nDb : D ≠ b := fun e => by rw [e] at hD; have := hb.new (o := HO.lst []) ht; obtain ⟨_, _, _, e2, _⟩ := this; rw [e2] at hD; cases hD
    have k12 : Kp b H H2 := fun a o na h => k2 a o na (ne_of_none h ht) (by rw [upd_ne (ne_of_none h ht)]; exact h)
    walk_at "go"
    refine ⟨b, _, _, rfl, hb2, by omega, by decide, fun way H3 w0 w1 hb3 of3 => ?_⟩
    have eD3 := of3.at nDb eD
    have k13 := k12.trans of3.kp
    walk_at "go"
    refine r_iteN' (fun h0 => ?_) (fun h0 => ?_)
    · walk_at "go"
      refine ⟨b, _, _, rfl, hb3, by omega, by decide, fun r4 H4 r40 r41 hb4 of4 => ?_⟩
      obtain ⟨m0, rfl⟩ : ∃ m0 : Nat, r4 = (m0 : Int) := ⟨r4.toNat, by omega⟩
      walk_at "go"
      refine ⟨(by show 4 ≤ sizeLine; decide), fun L hL => ?_⟩
      have nLb := hb4.ne hL
      have sL := same_new (o := HO.lst [V.int 30, V.int 12, V.int 8, V.int 6]) hL
      walk_at "go"
      rw [show ((3 : Int) + (m0 : Int) - 3) = (m0 : Int) by omega]
      obtain ⟨s0, hs0, hs1, hs2⟩ : ∃ s0 : Nat, [V.int 30, V.int 12, V.int 8, V.int 6][m0]? = some (vi s0) ∧ 6 ≤ s0 ∧ s0 ≤ 30 := by
        have : m0 = 0 ∨ m0 = 1 ∨ m0 = 2 ∨ m0 = 3 := by omega
        rcases this with rfl | rfl | rfl | rfl
        · exact ⟨30, rfl, by decide, by decide⟩
        · exact ⟨12, rfl, by decide, by decide⟩
        · exact ⟨8, rfl, by decide, by decide⟩
        · exact ⟨6, rfl, by decide, by decide⟩
      refine ⟨L, _, (m0 : Int), vi s0, rfl, rfl, SqL.of upd_same, atI_nat (j := m0) hs0, ?_⟩
      have hbL := hb4.same sL
      have eD5 := sL _ _ (of4.at nDb eD3)
      have k5 := k13.trans (of4.kp.trans (Same.kp sL))
      generalize upd H4 L (HO.lst [V.int 30, V.int 12, V.int 8, V.int 6]) = H5 at hbL eD5 k5
      walk_at "go"
      refine ⟨b, _, _, rfl, hbL, by omega, by decide, fun r6 H6 r60 r61 hb6 of6 => ?_⟩
      obtain ⟨r, rfl⟩ : ∃ r : Nat, r6 = (r : Int) := ⟨r6.toNat, by omega⟩
      have eD6 := of6.at nDb eD5
      have k6 := k5.trans of6.kp
      walk_at "go"
      rw [show ((s0 : Int) + (r : Int) - 1) = ((s0 + r - 1 : Nat) : Int) by omega, show ((3 : Int) + (m0 : Int)) = ((3 + m0 : Nat) : Int) by omega]
      refine sl_newF eD6 fun H7 S hS s7 eS => ?_
      rw [cutV_to, ← List.map_take] at eS
      have nSb := hb6.ne hS
      have hb7 := hb6.same s7
      refine ⟨S, rfl, ⟨_, SqL.of eS⟩, fun E1 hE1 => ?_⟩
      have hml : (ns.take (3 + m0)).length ≤ 6 := by rw [List.length_take]; omega
      refine lc_it (walk_list (K := K) (a := S) (xs := (ns.take (3 + m0)).map V.str)) (fun j H8 => ∃ acc, H8 E1 = some (.lst acc) ∧ acc.length = j ∧ DpAll K H8 acc ((((ns.take (3 + m0)).take j).map fun nm => Fd.r nm z 0 none).map (Fd.data true)) ∧ Same H7 H8) ⟨[], upd_same, rfl, .nil, same_new hE1⟩ (fun j H8 _ ⟨_, _, _, _, s8⟩ => s8.seq (SqL.of eS)) ?_ ?_
      · rintro j x H8 H8' hj ⟨acc, e8, l8, d8, s8⟩ ⟨eH, hx⟩
        rw [eH]
        clear eH H8'
        obtain ⟨nm, hnm, rfl⟩ := get_map hx
        have hj' := (List.getElem?_eq_some_iff.mp hnm).1
        refine ⟨rfl, ?_⟩
        walk_at "go"
        refine ⟨(by show 5 ≤ sizeLine; decide), fun G hG => ?_⟩
        have sG := same_new (o := HO.tup [V.str (Str.ofString "run"), V.str nm, V.str z, V.int 0, V.non]) hG
        have e9 := sG _ _ e8
        have dG : Dp K (upd H8 G (HO.tup [V.str (Str.ofString "run"), V.str nm, V.str z, V.int 0, V.non])) (.ref G) (Fd.data true (.r nm z 0 none)) := .tup (SqT.of upd_same) (.cons (.str _) (.cons (.str _) (.cons (.str _) (.cons (.int _) (.cons .non .nil)))))
        have d9 := dpA_same sG d8
        generalize upd H8 G (HO.tup [V.str (Str.ofString "run"), V.str nm, V.str z, V.int 0, V.non]) = H9 at sG e9 dG d9
        have kt : KT K H9 (upd H9 E1 (.lst (acc ++ [.ref G]))) := kt_lst e9
        refine ⟨acc, e9, line60 (by omega), acc ++ [.ref G], upd_same, by rw [List.length_append, l8]; rfl, ?_, same_upd (s8.trans sG) hE1⟩
        rw [List.take_add_one, hnm, List.map_append, List.map_append]
        exact dpA_app (dpA_pure kt _ _ (forms_pure _) d9) (.cons (dp_pure kt _ _ (Fd.pure _) dG) .nil)
      · rintro H8 ⟨acc, e8, l8, d8, s8⟩
        rw [List.length_map, List.take_length] at d8
        have hb8 := hb7.same s8
        walk_at "go"
        refine ⟨E1, acc, rfl, .inl ⟨SqL.of e8, fun TT hTT => ?_⟩⟩
        have sTT := same_new (o := HO.tup acc) hTT
        walk_at "go"
        refine ⟨one c, ((s0 + r - 1 : Nat) : Int), rfl, rfl, by omega, by omega, Nat.le_refl 1, ?_, ?_⟩
        · rw [Int.toNat_natCast]
          exact small_line (by show 1 * (s0 + r - 1) ≤ 1000; omega)
        rw [Int.toNat_natCast]
        walk_at "go"
        refine ⟨(by show 2 ≤ sizeLine; decide), fun U hU => ?_⟩
        have sU := sTT.trans (same_new (o := HO.tup [V.ref TT, V.str (repS (one c) (s0 + r - 1))]) hU)
        refine k _ U (.ref TT) ((ns.take (3 + m0)).map fun nm => Fd.r nm z 0 none) _ upd_same (.tup (Same.sqT (same_new (o := HO.tup [V.ref TT, V.str (repS (one c) (s0 + r - 1))]) hU) (SqT.of upd_same)) (dpA_same sU d8)) ⟨?_, ?_, ?_, ?_⟩ (rep_paper hc (by omega)) ((hb8.same sU).mono (by omega)) (k6.trans (Same.kp (s7.trans (s8.trans sU))))
        · intro e
          have := congrArg List.length e
          rw [List.length_map, List.length_take, List.length_nil] at this
          omega
        · rw [List.length_map]; exact hml
        · rw [List.map_map]
          show ((ns.take (3 + m0)).map fun nm => nm).Nodup
          rw [List.map_id']
          exact nd.sublist (List.take_sublist _ _)
        · intro f hf
          obtain ⟨nm, hnm, rfl⟩ := List.mem_map.mp hf
          exact ⟨(hng nm (List.mem_of_mem_take hnm)).ok, text_mk (by omega) (by omega) fun _ h => h, asc_true za, Nat.zero_le _, fun h q => (nomatch q)⟩
    · walk_at "go"
      refine r_iteN' (fun h1 => ?_) (fun h1 => ?_)
      · obtain ⟨a0, a1, a2, a3, a4, a5, ens⟩ : ∃ a0 a1 a2 a3 a4 a5, ns = [a0, a1, a2, a3, a4, a5] := by
          match ns, hl with
          | [a0, a1, a2, a3, a4, a5], _ => exact ⟨a0, a1, a2, a3, a4, a5, rfl⟩
        apply K1.r_seq
        apply K1.r_asg
        apply K1.r_lst
        refine r_cons (r_run (ns := ns) (i := 0) (nm := a0) (al := z) (hi := some 4) eD3 rfl (by rw [ens]; rfl) rfl rfl fun H4 v0 s4 d0 => ?_)
        refine r_cons (r_run (ns := ns) (i := 1) (nm := a1) (al := one c) (hi := some 9) (s4 _ _ eD3) rfl (by rw [ens]; rfl) rfl rfl fun H5 v1 s5 d1 => ?_)
        have s45 := s4.trans s5
        refine r_cons (r_run (ns := ns) (i := 2) (nm := a2) (al := z) (hi := some 9) (s45 _ _ eD3) rfl (by rw [ens]; rfl) rfl rfl fun H6 v2 s6 d2 => ?_)
        have s46 := s45.trans s6
        have dA : DpAll K H6 [v0, v1, v2] ([Fd.r a0 z 0 (some 4), Fd.r a1 (one c) 0 (some 9), Fd.r a2 z 0 (some 9)].map (Fd.data true)) := .cons (dp_same (s5.trans s6) d0) (.cons (dp_same s6 d1) (.cons d2 .nil))
        clear d0 d1 d2 s4 s5 s6 s45
        walk_at "go"
        refine ⟨(by show 3 ≤ sizeLine; decide), fun L hL => ?_⟩
        have sL := same_new (o := HO.lst [v0, v1, v2]) hL
        have s7 := s46.trans sL
        have e7 : (upd H6 L (HO.lst [v0, v1, v2])) L = some (.lst [v0, v1, v2]) := upd_same
        have dA7 := dpA_same sL dA
        generalize upd H6 L (HO.lst [v0, v1, v2]) = H7 at sL s7 e7 dA7
        walk_at "go"
        have hb7 := hb3.same s7
        have nLb : L ≠ b := (hb3.same s46).ne hL
        refine pick_new (xs := [21, 22, 23, 60]) hb7 rfl rfl (fun _ _ q => ⟨_, rfl, q⟩) (by decide) (by decide) (by omega) (fun sz H8 hsz hb8 k8 => ?_)
        have hsz60 : 21 ≤ sz ∧ sz ≤ 60 := by simp only [List.mem_cons, List.not_mem_nil, or_false] at hsz; omega
        have dA8 := dpA_pure (bag_kt hb7 k8) _ _ (forms_pure _) dA7
        have e8 := k8 _ _ nLb e7
        have eD8 := k8 _ _ nDb (s7 _ _ eD3)
        have k18 := k13.trans ((Same.kp s7).trans k8)
        walk_at "go"
        refine ⟨D, _, 3, V.str a3, rfl, rfl, SqL.of eD8, by rw [ens]; rfl, ?_⟩
        walk_at "go"
        refine ⟨(by show 5 ≤ sizeLine; decide), fun G hG => ?_⟩
        have sG := same_new (o := HO.tup [V.str (Str.ofString "run"), V.str a3, V.str z, V.int 0, V.non]) hG
        have dG : Dp K (upd H8 G (HO.tup [V.str (Str.ofString "run"), V.str a3, V.str z, V.int 0, V.non])) (.ref G) (Fd.data true (.r a3 z 0 none)) := .tup (SqT.of upd_same) (.cons (.str _) (.cons (.str _) (.cons (.str _) (.cons (.int _) (.cons .non .nil)))))
        generalize upd H8 G (HO.tup [V.str (Str.ofString "run"), V.str a3, V.str z, V.int 0, V.non]) = H9 at sG dG
        walk_at "go"
        refine ⟨(by show 1 ≤ sizeLine; decide), fun L2 hL2 => ?_⟩
        have sL2 := same_new (o := HO.lst [V.ref G]) hL2
        refine cat_twoF (sL2 _ _ (sG _ _ e8)) upd_same (by show 3 + 1 ≤ 1000; decide) fun H10 R hR s10 e10 => ?_
        have sX := sG.trans (sL2.trans s10)
        have hb10 := hb8.same sX
        have nRb : R ≠ b := (hb8.same (sG.trans sL2)).ne hR
        have k10 := k18.trans (Same.kp sX)
        have dA10 : DpAll K H10 ([v0, v1, v2] ++ [.ref G]) ([Fd.r a0 z 0 (some 4), Fd.r a1 (one c) 0 (some 9), Fd.r a2 z 0 (some 9), Fd.r a3 z 0 none].map (Fd.data true)) := by
          have := dpA_app (dpA_same sX dA8) (.cons (dp_same (sL2.trans s10) dG) .nil)
          exact this
        have okz : textB 1 12 z z = true := text_mk (by omega) (by omega) fun _ h => h
        have ok1 : textB 1 12 z (one c) = true := text_mk (Int.le_refl 1) (by show (1 : Int) ≤ 12; decide) fun d hd => by rw [show d = c by simpa using (show d ∈ [c] from hd)]; exact hc
        have nmok : ∀ x ∈ ns, NmOk x := fun x hx => (hng x hx).ok
        rw [ens] at nmok nd
        have fok : FormOk z [Fd.r a0 z 0 (some 4), Fd.r a1 (one c) 0 (some 9), Fd.r a2 z 0 (some 9), Fd.r a3 z 0 none] := by
          refine ⟨by simp, (by show 4 ≤ 6; decide), ?_, fun f hf => ?_⟩
          · show [a0, a1, a2, a3].Nodup
            exact nd.sublist (by exact List.Sublist.cons_cons _ (.cons_cons _ (.cons_cons _ (.cons_cons _ (List.nil_sublist _)))))
          · simp only [List.mem_cons, List.not_mem_nil, or_false] at hf
            rcases hf with rfl | rfl | rfl | rfl
            · exact ⟨nmok a0 (by simp), okz, asc_true za, Nat.zero_le _, fun h q => by obtain rfl := Option.some.inj q; omega⟩
            · exact ⟨nmok a1 (by simp), ok1, rfl, Nat.zero_le _, fun h q => by obtain rfl := Option.some.inj q; omega⟩
            · exact ⟨nmok a2 (by simp), okz, asc_true za, Nat.zero_le _, fun h q => by obtain rfl := Option.some.inj q; omega⟩
            · exact ⟨nmok a3 (by simp), okz, asc_true za, Nat.zero_le _, fun h q => (nomatch q)⟩
        walk_at "go"
        refine ⟨b, R, _, _, rfl, hb10, by simp only [List.length_append, List.length_cons, List.length_nil]; omega, e10, nRb, by show 4 ≤ 1000; decide, fun ys H11 Y pm hb11 k11 hY eY nYb => ?_⟩
        have dA11 := dpA_pure (bag_kt hb10 k11) _ _ (forms_pure _) dA10
        obtain ⟨gs, gp, dgs⟩ := dpA_perm pm dA11
        have gok := fok.perm gp
        walk_at "go"
        refine ⟨Y, ys, rfl, .inl ⟨SqL.of eY, fun TT hTT => ?_⟩⟩
        have sTT := same_new (o := HO.tup ys) hTT
        walk_at "go"
        refine ⟨one c, ((sz : Nat) : Int), rfl, rfl, by omega, by omega, Nat.le_refl 1, ?_, ?_⟩
        · rw [Int.toNat_natCast]
          exact small_line (by show 1 * sz ≤ 1000; omega)
        rw [Int.toNat_natCast]
        walk_at "go"
        refine ⟨(by show 2 ≤ sizeLine; decide), fun U hU => ?_⟩
        have sU := sTT.trans (same_new (o := HO.tup [V.ref TT, V.str (repS (one c) sz)]) hU)
        exact k _ U (.ref TT) gs _ upd_same (.tup (Same.sqT (same_new (o := HO.tup [V.ref TT, V.str (repS (one c) sz)]) hU) (SqT.of upd_same)) (dpA_same sU dgs)) gok (rep_paper hc (by omega)) ((hb11.same sU).mono (by simp only [List.length_append, List.length_cons, List.length_nil]; omega)) (k10.trans (k11.trans (Same.kp sU)))
      · obtain ⟨a0, a1, a2, a3, a4, a5, ens⟩ : ∃ a0 a1 a2 a3 a4 a5, ns = [a0, a1, a2, a3, a4, a5] := by
          match ns, hl with
          | [a0, a1, a2, a3, a4, a5], _ => exact ⟨a0, a1, a2, a3, a4, a5, rfl⟩
        apply K1.r_next
        try dsimp only
        apply K1.r_seq
        apply K1.r_asg
        apply K1.r_lst
        refine r_cons (r_run (ns := ns) (i := 0) (nm := a0) (al := z) (hi := some 3) eD3 rfl (by rw [ens]; rfl) rfl rfl fun H4 v0 s4 d0 => ?_)
        refine r_cons (r_run (ns := ns) (i := 1) (nm := a1) (al := z) (hi := some 7) (s4 _ _ eD3) rfl (by rw [ens]; rfl) rfl rfl fun H5 v1 s5 d1 => ?_)
        have s45 := s4.trans s5
        refine r_cons (r_run (ns := ns) (i := 2) (nm := a2) (al := one c) (hi := some 7) (s45 _ _ eD3) rfl (by rw [ens]; rfl) rfl rfl fun H6 v2 s6 d2 => ?_)
        have s46 := s45.trans s6
        have dA : DpAll K H6 [v0, v1, v2] ([Fd.r a0 z 0 (some 3), Fd.r a1 z 0 (some 7), Fd.r a2 (one c) 0 (some 7)].map (Fd.data true)) := .cons (dp_same (s5.trans s6) d0) (.cons (dp_same s6 d1) (.cons d2 .nil))
        clear d0 d1 d2 s4 s5 s6 s45
        walk_at "go"
        refine ⟨(by show 3 ≤ sizeLine; decide), fun L hL => ?_⟩
        have sL := same_new (o := HO.lst [v0, v1, v2]) hL
        have s7 := s46.trans sL
        have e7 : (upd H6 L (HO.lst [v0, v1, v2])) L = some (.lst [v0, v1, v2]) := upd_same
        have dA7 := dpA_same sL dA
        generalize upd H6 L (HO.lst [v0, v1, v2]) = H7 at sL s7 e7 dA7
        have nLb : L ≠ b := (hb3.same s46).ne hL
        walk_at "go"
        refine ⟨D, _, 4, V.str a4, rfl, rfl, SqL.of (s7 _ _ eD3), by rw [ens]; rfl, ?_⟩
        walk_at "go"
        refine ⟨one c, 3, rfl, rfl, by decide, by decide, Nat.le_refl 1, small_line (by show 1 * 3 ≤ 1000; decide), ?_⟩
        walk_at "go"
        refine ⟨(by show 2 ≤ sizeLine; decide), fun W1 hW1 => ?_⟩
        walk_at "go"
        refine ⟨(by show 3 ≤ sizeLine; decide), fun W2 hW2 => ?_⟩
        have sW1 := same_new (o := HO.tup [V.str (repS (one c) (3 : Int).toNat), V.str (one c)]) hW1
        have sW2 := same_new (o := HO.tup [V.str (Str.ofString "words"), V.str a4, V.ref W1]) hW2
        have dW : Dp K (upd (upd H7 W1 (HO.tup [V.str (repS (one c) (3 : Int).toNat), V.str (one c)])) W2 (HO.tup [V.str (Str.ofString "words"), V.str a4, V.ref W1])) (.ref W2) (Fd.data true (.w a4 [repS (one c) 3, one c])) :=
          .tup (SqT.of upd_same) (.cons (.str _) (.cons (.str _) (.cons (.tup (SqT.of (sW2 _ _ upd_same)) (.cons (.str _) (.cons (.str _) .nil))) .nil)))
        have s7b := sW1.trans sW2
        generalize upd (upd H7 W1 (HO.tup [V.str (repS (one c) (3 : Int).toNat), V.str (one c)])) W2 (HO.tup [V.str (Str.ofString "words"), V.str a4, V.ref W1]) = H8 at s7b dW
        clear sW1 sW2 hW1 hW2
        walk_at "go"
        have s78 := s7.trans s7b
        have hb8 := hb3.same s78
        refine ⟨b, _, _, rfl, hb8, by omega, by decide, fun r9 H9 r90 r91 hb9 of9 => ?_⟩
        obtain ⟨sz0, rfl⟩ : ∃ sz0 : Nat, r9 = (sz0 : Int) := ⟨r9.toNat, by omega⟩
        obtain ⟨sz, hsz, hsz2⟩ : ∃ sz : Nat, sz = 16 + sz0 ∧ sz ≤ 18 := ⟨16 + sz0, rfl, by omega⟩
        have k8 := of9.kp
        have dA9 := dpA_pure (bag_kt hb8 k8) _ _ (forms_pure _) (dpA_same s7b dA7)
        have dW9 := dp_pure (bag_kt hb8 k8) _ _ (Fd.pure (.w a4 [repS (one c) 3, one c])) dW
        have e9 := k8 _ _ nLb (s7b _ _ e7)
        have eD9 := k8 _ _ nDb (s78 _ _ eD3)
        have k18 := k13.trans ((Same.kp s78).trans k8)
        walk_at "go"
        rw [show ((16 : Int) + (sz0 : Int)) = ((sz : Nat) : Int) by omega]
        refine ⟨D, _, 3, V.str a3, rfl, rfl, SqL.of eD9, by rw [ens]; rfl, ?_⟩
        walk_at "go"
        refine ⟨(by show 5 ≤ sizeLine; decide), fun G hG => ?_⟩
        have sG := same_new (o := HO.tup [V.str (Str.ofString "run"), V.str a3, V.str z, V.int 0, V.non]) hG
        have dG : Dp K (upd H9 G (HO.tup [V.str (Str.ofString "run"), V.str a3, V.str z, V.int 0, V.non])) (.ref G) (Fd.data true (.r a3 z 0 none)) := .tup (SqT.of upd_same) (.cons (.str _) (.cons (.str _) (.cons (.str _) (.cons (.int _) (.cons .non .nil)))))
        generalize upd H9 G (HO.tup [V.str (Str.ofString "run"), V.str a3, V.str z, V.int 0, V.non]) = H9b at sG dG
        walk_at "go"
        refine ⟨(by show 2 ≤ sizeLine; decide), fun L2 hL2 => ?_⟩
        have sL2 := same_new (o := HO.lst [V.ref G, V.ref W2]) hL2
        refine cat_twoF (sL2 _ _ (sG _ _ e9)) upd_same (by show 3 + 2 ≤ 1000; decide) fun H10 R hR s10 e10 => ?_
        have sX := sG.trans (sL2.trans s10)
        have hb10 := hb9.same sX
        have nRb : R ≠ b := (hb9.same (sG.trans sL2)).ne hR
        have k10 := k18.trans (Same.kp sX)
        have dA10 : DpAll K H10 ([v0, v1, v2] ++ [.ref G, .ref W2]) ([Fd.r a0 z 0 (some 3), Fd.r a1 z 0 (some 7), Fd.r a2 (one c) 0 (some 7), Fd.r a3 z 0 none, Fd.w a4 [repS (one c) 3, one c]].map (Fd.data true)) := by
          have := dpA_app (dpA_same sX dA9) (.cons (dp_same (sL2.trans s10) dG) (.cons (dp_same sX dW9) .nil))
          exact this
        have okz : textB 1 12 z z = true := text_mk (by omega) (by omega) fun _ h => h
        have onec : ∀ d ∈ tl (one c), d ∈ tl z := fun d hd => by rw [show d = c by simpa using (show d ∈ [c] from hd)]; exact hc
        have ok1 : textB 1 12 z (one c) = true := text_mk (Int.le_refl 1) (by show (1 : Int) ≤ 12; decide) onec
        have l3 : (tl (repS (one c) 3)).length = 3 := rep_len (one c) 3
        have nmok : ∀ x ∈ ns, NmOk x := fun x hx => (hng x hx).ok
        rw [ens] at nmok nd
        have fok : FormOk z [Fd.r a0 z 0 (some 3), Fd.r a1 z 0 (some 7), Fd.r a2 (one c) 0 (some 7), Fd.r a3 z 0 none, Fd.w a4 [repS (one c) 3, one c]] := by
          refine ⟨by simp, (by show 5 ≤ 6; decide), ?_, fun f hf => ?_⟩
          · show [a0, a1, a2, a3, a4].Nodup
            exact nd.sublist (by exact List.Sublist.cons_cons _ (.cons_cons _ (.cons_cons _ (.cons_cons _ (.cons_cons _ (List.nil_sublist _))))))
          · simp only [List.mem_cons, List.not_mem_nil, or_false] at hf
            rcases hf with rfl | rfl | rfl | rfl | rfl
            · exact ⟨nmok a0 (by simp), okz, asc_true za, Nat.zero_le _, fun h q => by obtain rfl := Option.some.inj q; omega⟩
            · exact ⟨nmok a1 (by simp), okz, asc_true za, Nat.zero_le _, fun h q => by obtain rfl := Option.some.inj q; omega⟩
            · exact ⟨nmok a2 (by simp), ok1, rfl, Nat.zero_le _, fun h q => by obtain rfl := Option.some.inj q; omega⟩
            · exact ⟨nmok a3 (by simp), okz, asc_true za, Nat.zero_le _, fun h q => (nomatch q)⟩
            · refine ⟨nmok a4 (by simp), by simp, (by show 2 ≤ 12; decide), ?_, fun x hx => ?_⟩
              · rw [List.nodup_cons]
                refine ⟨fun q => ?_, by simp⟩
                have e := List.mem_singleton.mp q
                rw [e] at l3
                exact absurd l3 (by show ¬ (1 : Nat) = 3; decide)
              · simp only [List.mem_cons, List.not_mem_nil, or_false] at hx
                rcases hx with rfl | rfl
                · exact text_mk (by omega) (by omega) fun d hd => onec d (rep_mem hd)
                · exact text_mk (Int.le_refl 1) (by show (1 : Int) ≤ 4; decide) onec
        walk_at "go"
        refine ⟨b, R, _, _, rfl, hb10, by simp only [List.length_append, List.length_cons, List.length_nil]; omega, e10, nRb, by show 5 ≤ 1000; decide, fun ys H11 Y pm hb11 k11 hY eY nYb => ?_⟩
        have dA11 := dpA_pure (bag_kt hb10 k11) _ _ (forms_pure _) dA10
        obtain ⟨gs, gp, dgs⟩ := dpA_perm pm dA11
        have gok := fok.perm gp
        walk_at "go"
        refine ⟨Y, ys, rfl, .inl ⟨SqL.of eY, fun TT hTT => ?_⟩⟩
        have sTT := same_new (o := HO.tup ys) hTT
        walk_at "go"
        refine ⟨one c, ((sz : Nat) : Int), rfl, rfl, by omega, by omega, Nat.le_refl 1, ?_, ?_⟩
        · rw [Int.toNat_natCast]
          exact small_line (by show 1 * sz ≤ 1000; omega)
        rw [Int.toNat_natCast]
        walk_at "go"
        refine ⟨(by show 2 ≤ sizeLine; decide), fun U hU => ?_⟩
        have sU := sTT.trans (same_new (o := HO.tup [V.ref TT, V.str (repS (one c) sz)]) hU)
        exact k _ U (.ref TT) gs _ upd_same (.tup (Same.sqT (same_new (o := HO.tup [V.ref TT, V.str (repS (one c) sz)]) hU) (SqT.of upd_same)) (dpA_same sU dgs)) gok (rep_paper hc (by omega)) ((hb11.same sU).mono (by simp only [List.length_append, List.length_cons, List.length_nil]; omega)) (k10.trans (k11.trans (Same.kp sU)))
end
end K4

/-! L19l -/


namespace K4
open PySem L2 K1
abbrev sLListed : Stmt := top 57
abbrev nLListed : List Str := ["_law_thing", "_law_part"]
theorem scLListed : FnScope nLListed ["_law_thing"] (defScope sLListed) := ⟨rfl, rfl, rfl, by decide +kernel, rfl, by decide +kernel, by decide +kernel⟩
def spListed (K : PySem.W.Frag) (n : Nat) : Sp := fun vs H Q _ => ∃ (v : V) (d : PyData), vs = [v] ∧ Dp K H v d ∧ pure d = true ∧ wide d = true ∧ d.depth < n ∧ ∀ H' v', Same H H' → Dp K (New H H') v' (lstd d) → Q v' H'
section
variable {P : Program} {w : World} {K : PySem.W.Frag} {mg : Str → Option Value} {base : Heap}
abbrev OLL (n : Nat) (P : Program) (w : World) (K : PySem.W.Frag) (mg : Str → Option Value) (base : Heap) : Prop := Own P w K mg base "_law_listed" n ["_law_thing"] (spListed K n)
theorem ok_listed {n : Nat} {f : Addr} {fd : FuncData} (F : Fun K "_law_listed" "_law_listed" sLListed f fd) (B : Bl mg) (Oll : OLL n P w K mg base) : FnOk P w K mg base CX0 (n + 1) f fd ["_law_thing"] (spListed K (n + 1)) := by
  refine F.ok scLListed (fun vs H Q E h => ?_) (fun cdv A outer s H vs Q E hr h => ?_)
  · obtain ⟨v, d, rfl, _⟩ := h
    rfl
  · obtain ⟨v, d, rfl, hv, hp, hw, hd, k⟩ := h
    refine ⟨_, (pss_cons (ps_if (PW.pt (pw_or (pt_val (pe_callB (id := "isinstance") (r := rIsi K) call_isi (by rfl) B.isin (by decide +kernel) (pa_cons (pv 0) (pa_cons (pe_bltn (v := .ty "tuple") (by rfl) B.tuple (by decide +kernel) rfl) pa_nil)))) (pw_or1 (pt_val (pe_callB (id := "isinstance") (r := rIsi K) call_isi (by rfl) B.isin (by decide +kernel) (pa_cons (pv 0) (pa_cons (pe_bltn (v := .ty "list") (by rfl) B.list (by decide +kernel) rfl) pa_nil))))))) (pss_one (ps_ret (pe_lc (own := [("_law_part", 1)]) (g := gName 1) (tt := tYes) rfl scLListed.nd (pi_tup (pv 0)) (blkOk_by (N := nLListed) (sc := defScope sLListed) (by decide +kernel)) (fun _ _ _ _ _ => (pg_name (i := 1) scLListed.nd rfl (Or.inl rfl))) (fun _ _ _ _ _ => pts_nil) (fun _ _ _ _ _ => (pe_own Oll hr (pa_cons (pv 1) pa_nil)))))) pss_nil) (pss_one (ps_ret (pv 0)))), ?_⟩
    try dsimp only [cxOf, Cx.nox, Cx.wish]
    walk_at "go"
    cases hv with
    | int i =>
      refine r_isi (b := false) (.ty "tuple") (.base (.int _)) (kit_ty (by decide +kernel)) ?_
      walk_at "go"
      refine r_isi (b := false) (.ty "list") (.base (.int _)) (kit_ty (by decide +kernel)) ?_
      walk_at "go"
      exact k H _ (Same.refl _) (.int i)
    | str x =>
      refine r_isi (b := false) (.ty "tuple") (.base (.str _)) (kit_ty (by decide +kernel)) ?_
      walk_at "go"
      refine r_isi (b := false) (.ty "list") (.base (.str _)) (kit_ty (by decide +kernel)) ?_
      walk_at "go"
      exact k H _ (Same.refl _) (.str x)
    | non =>
      refine r_isi (b := false) (.ty "tuple") (.base .non) (kit_ty (by decide +kernel)) ?_
      walk_at "go"
      refine r_isi (b := false) (.ty "list") (.base .non) (kit_ty (by decide +kernel)) ?_
      walk_at "go"
      exact k H _ (Same.refl _) .non
    | bl => simp [pure] at hp
    | lst => simp [pure] at hp
    | @tup a xs ds hS hA =>
      have hpA : pureA ds = true := by simpa [pure] using hp
      have hwA : ds.length ≤ 1000 ∧ wideA ds = true := by simpa [wide] using hw
      have hdA : PyData.depthAll ds < n := by rw [PyData.depth] at hd; omega
      refine r_isi (b := true) (.ty "tuple") (tyxT hS) (kit_ty (by decide +kernel)) ?_
      walk_at "go"
      refine ⟨⟨_, hS⟩, fun D hD => ?_⟩
      have s1 : Same H (upd H D (.lst [])) := same_new hD
      have e1 : (upd H D (.lst [])) D = some (.lst []) := upd_same
      refine lc_gen (walk_tup (K := K) (a := a) (xs := xs)) (fun _ => rfl) (fun acc H' => DpAll K (New (upd H D (.lst [])) H') acc ((ds.take acc.length).map lstd) ∧ Same H H') ⟨.nil, s1⟩ (fun acc H' _ q => Same.sqT q.2 hS) ?_ ?_
      · rintro i x acc H' hx hl hacc ⟨ha, sm⟩
        obtain ⟨di, hdi, hxd⟩ := dpA_get hA hx
        have hmem := List.mem_of_getElem? hdi
        have hil := (List.getElem?_eq_some_iff.mp hdi).1
        walk_at "go"
        refine ⟨x, di, rfl, dp_keep (Same.keeps sm) _ _ hxd, pureA_iff.mp hpA di hmem, wideA_iff.mp hwA.2 di hmem, Nat.lt_of_le_of_lt (depthA_mem (Nat.le_refl _) di hmem) hdA, fun H2 v2 s2 d2 => ?_⟩
        refine pp_next (s2 _ _ hacc) hl (line60 (by omega)) ⟨?_, same_upd (sm.trans s2) hD⟩
        have g0 : ∀ c, H' c = none → (upd H D (.lst [])) c = none := fun c hc => by
          by_cases q : c = D
          · rw [q, hacc] at hc; cases hc
          · rw [upd_ne q]; exact sm.free hc
        have g1 : Same (New H' H2) (New (upd H D (.lst [])) (upd H2 D (.lst (acc ++ [v2])))) := New.le g0 fun c u hc e => by
          have q : c ≠ D := fun q => by rw [q, hacc] at hc; cases hc
          rw [upd_ne q]; exact e
        have g2 : Same (New (upd H D (.lst [])) H') (New (upd H D (.lst [])) (upd H2 D (.lst (acc ++ [v2])))) := New.le (fun c h => h) fun c u hc e => by
          have q : c ≠ D := fun q => by rw [q, upd_same] at hc; cases hc
          rw [upd_ne q]; exact s2 _ _ e
        have r1 := dpA_app (dpA_keep (Same.keeps g2) _ _ ha) (.cons (dp_keep (Same.keeps g1) _ _ d2) .nil)
        rw [hl, take_next hdi] at r1
        rw [List.length_append, hl]
        exact r1
      · rintro acc H' hl hacc ⟨ha, sm⟩
        have hxl := dpA_len hA
        rw [hl, hxl, List.take_length] at ha
        walk_at "go"
        refine k _ _ sm ?_
        rw [lstd_tup]
        have g : Same (New (upd H D (.lst [])) H') (New H H') := New.le (fun c h => by
          by_cases q : c = D
          · rw [q]; exact hD
          · rw [upd_ne q] at h; exact h) fun c u _ e => e
        refine .lst (SqL.of ?_) (dpA_keep (Same.keeps g) _ _ ha)
        rw [New.at hD]
        exact hacc
theorem ll_all {f : Addr} {fd : FuncData} (F : Fun K "_law_listed" "_law_listed" sLListed f fd) (B : Bl mg) (m : mg "_law_listed" = some (.ref f)) (b : Binds K fd ["_law_thing"] []) : ∀ n : Nat, OLL n P w K mg base
  | 0 => ⟨f, fd, none_ok fun vs H Q E h => by obtain ⟨v, d, _, _, _, _, hd, _⟩ := h; omega, m, F.kp, b⟩
  | n + 1 => ⟨f, fd, ok_listed F B (ll_all F B m b n), m, F.kp, b⟩
end
end K4

/-! L19m -/


namespace K4
open PySem L2 K1
abbrev sLNoList : Stmt := top 58
abbrev nLNoList : List Str := ["_law_thing", "_law_part"]
theorem scLNoList : FnScope nLNoList ["_law_thing"] (defScope sLNoList) := ⟨rfl, rfl, rfl, by decide +kernel, rfl, by decide +kernel, by decide +kernel⟩
abbrev sLSame : Stmt := top 59
abbrev nLSame : List Str := ["_law_told", "_law_wanted"]
theorem scLSame : FnScope nLSame ["_law_told", "_law_wanted"] (defScope sLSame) := ⟨rfl, rfl, rfl, by decide +kernel, rfl, by decide +kernel, by decide +kernel⟩
abbrev sLSameG : Stmt := top 73
abbrev nLSameG : List Str := ["_law_told", "_law_wanted"]
theorem scLSameG : FnScope nLSameG ["_law_told", "_law_wanted"] (defScope sLSameG) := ⟨rfl, rfl, rfl, by decide +kernel, rfl, by decide +kernel, by decide +kernel⟩
def spNoList (K : PySem.W.Frag) (n : Nat) : Sp := fun vs H Q _ => ∃ (v : V) (d : PyData), vs = [v] ∧ Dp K H v d ∧ pure d = true ∧ wide d = true ∧ d.depth < n ∧ ∀ H', Same H H' → Q (.bl true) H'
/-- what is told or due: the word of the bound in a list, or a tuple of plain data -/
def TupD (d : PyData) : Prop := (∃ ds, d = .tuple ds) ∧ flatN d = true ∧ pure d = true ∧ wide d = true ∧ d.depth ≤ 3
def spSameT (K : PySem.W.Frag) : Sp := fun vs H Q _ => ∃ (a b : V) (d : PyData), vs = [a, b] ∧ Dp K H a d ∧ Dp K H b d ∧ TupD d ∧ ∀ H', Same H H' → Q (.bl true) H'
def spSameG (K : PySem.W.Frag) : Sp := fun vs H Q _ => ∃ (a b : V) (d : PyData), vs = [a, b] ∧ Dp K H a d ∧ Dp K H b d ∧ (d = .list [.str "reading"] ∨ TupD d) ∧ ∀ H', Same H H' → Q (.bl true) H'
theorem cuts_parts {p : Str} {P : List Nat} : ∀ {fs : List Fd} {h : List (List Str × Nat)}, (∀ y ∈ h, ∀ s ∈ y.1, ∃ a b, s = cutP p a b) → ∀ y ∈ cutsN (cutP p) P fs h, ∀ s ∈ y.1, ∃ a b, s = cutP p a b
  | [], h, k => k
  | f :: fs, h, k => cuts_parts (fs := fs) fun y hy s hs => by
    obtain ⟨x, hx, hy⟩ := List.mem_flatMap.mp hy
    obtain ⟨n, _, rfl⟩ := List.mem_map.mp hy
    rcases List.mem_append.mp hs with q | q
    · exact k x hx s q
    · exact ⟨_, _, List.mem_singleton.mp q⟩
theorem cuts_lens {sl : Nat → Nat → Str} {P : List Nat} {m : Nat} : ∀ {fs : List Fd} {h : List (List Str × Nat)}, (∀ y ∈ h, y.1.length ≤ m) → ∀ y ∈ cutsN sl P fs h, y.1.length ≤ m + fs.length
  | [], h, k => k
  | f :: fs, h, k => fun y hy => by
    have := cuts_lens (m := m + 1) (fs := fs) (fun y hy => by
      obtain ⟨x, hx, hy⟩ := List.mem_flatMap.mp hy
      obtain ⟨n, _, rfl⟩ := List.mem_map.mp hy
      rw [List.length_append]
      have := k x hx
      show x.1.length + 1 ≤ m + 1
      omega) y hy
    rw [List.length_cons]
    omega
theorem readD_ok {z p : Str} {fs : List Fd} (ho : FormOk z fs) (g : ∀ c ∈ tl z, c < 1114112) (hp : textB 0 60 z p = true) (hw : ways fs (tl p) 0 ≤ 500) : TupD (readD fs p) := by
  have tp := text_of hp
  have hl : (cutsN (cutP p) (tl p) fs [([], 0)]).length = ways fs (tl p) 0 := by rw [cuts_len ho.1, wtot_one]
  have hparts := cuts_parts (p := p) (P := tl p) (fs := fs) (h := [([], 0)]) fun y hy s hs => by rw [List.mem_singleton.mp hy] at hs; cases hs
  have hlens := cuts_lens (sl := cutP p) (P := tl p) (m := 0) (fs := fs) (h := [([], 0)]) fun y hy => by rw [List.mem_singleton.mp hy]; exact Nat.zero_le _
  have l6 := ho.2.1
  refine ⟨⟨_, rfl⟩, flat_sq (t := true) fun d hd => ?_, ?_, wide_tup (by rw [List.length_map]; omega) fun d hd => ?_, ?_⟩
  · obtain ⟨c, hc, rfl⟩ := List.mem_map.mp hd
    refine flat_sq (t := true) fun e he => ?_
    obtain ⟨s, hs, rfl⟩ := List.mem_map.mp he
    obtain ⟨a, b, rfl⟩ := hparts c hc s hs
    exact strOk_of fun x hx => g x (tp.2.2 x (cut_mem x hx))
  · unfold readD
    rw [K4.pure]
    exact tupS_pure _
  · obtain ⟨c, hc, rfl⟩ := List.mem_map.mp hd
    refine wide_tup (by rw [List.length_map]; have := hlens c hc; omega) fun e he => ?_
    obtain ⟨s, hs, rfl⟩ := List.mem_map.mp he
    rfl
  · refine Nat.le_trans (depth_sq (t := true) (n := 1) fun d hd => ?_) (by decide)
    obtain ⟨c, hc, rfl⟩ := List.mem_map.mp hd
    refine depth_sq (t := true) (n := 0) fun e he => ?_
    obtain ⟨s, hs, rfl⟩ := List.mem_map.mp he
    exact Nat.le_refl _
theorem wantD_ok {z p : Str} {fs : List Fd} (ho : FormOk z fs) (g : ∀ c ∈ tl z, c < 1114112) (hp : textB 0 60 z p = true) : wantD fs p = .list [.str "reading"] ∨ TupD (wantD fs p) := by
  unfold wantD
  by_cases h : 500 < ways fs (tl p) 0
  · rw [if_pos h]; exact .inl rfl
  · rw [if_neg h]; exact .inr (readD_ok ho g hp (by omega))
section
variable {P : Program} {w : World} {K : PySem.W.Frag} {mg : Str → Option Value} {base : Heap} {dO dI : Addr}
abbrev ONL (n : Nat) (P : Program) (w : World) (K : PySem.W.Frag) (mg : Str → Option Value) (base : Heap) : Prop := Own P w K mg base "_law_no_list" n ["_law_thing"] (spNoList K n)
theorem ok_noList {n : Nat} {f : Addr} {fd : FuncData} (F : Fun K "_law_no_list" "_law_no_list" sLNoList f fd) (B : Bl mg) (Onl : ONL n P w K mg base) : FnOk P w K mg base CX0 (n + 1) f fd ["_law_thing"] (spNoList K (n + 1)) := by
  refine F.ok scLNoList (fun vs H Q E h => ?_) (fun cdv A outer s H vs Q E hr h => ?_)
  · obtain ⟨v, d, rfl, _⟩ := h
    rfl
  · obtain ⟨v, d, rfl, hv, hp, hw, hd, k⟩ := h
    refine ⟨_, (pss_cons (ps_if (pt_val (pe_callB (id := "isinstance") (r := rIsi K) call_isi (by rfl) B.isin (by decide +kernel) (pa_cons (pv 0) (pa_cons (pe_bltn (v := .ty "tuple") (by rfl) B.tuple (by decide +kernel) rfl) pa_nil)))) (pss_one (ps_ret (pe_callB (cr_all rfl) (by rfl) B.all (by decide +kernel) (pa_cons (pe_lc (own := [("_law_part", 1)]) (g := gName 1) (tt := tYes) rfl scLNoList.nd (pi_tup (pv 0)) (blkOk_by (N := nLNoList) (sc := defScope sLNoList) (by decide +kernel)) (fun _ _ _ _ _ => (pg_name (i := 1) scLNoList.nd rfl (Or.inl rfl))) (fun _ _ _ _ _ => pts_nil) (fun _ _ _ _ _ => (pe_own Onl hr (pa_cons (pv 1) pa_nil)))) pa_nil)))) pss_nil) (pss_one (ps_ret (pe_and (pe_not (pe_callB (id := "isinstance") (r := rIsi K) call_isi (by rfl) B.isin (by decide +kernel) (pa_cons (pv 0) (pa_cons (pe_bltn (v := .ty "list") (by rfl) B.list (by decide +kernel) rfl) pa_nil)))) (pe_one (pe_not (pe_callB (id := "isinstance") (r := rIsi K) call_isi (by rfl) B.isin (by decide +kernel) (pa_cons (pv 0) (pa_cons (pe_bltn (v := .ty "bool") (by rfl) B.bool (by decide +kernel) rfl) pa_nil))))))))), ?_⟩
    try dsimp only [cxOf, Cx.nox, Cx.wish]
    walk_at "go"
    cases hv with
    | int i =>
      refine r_isi (b := false) (.ty "tuple") (.base (.int _)) (kit_ty (by decide +kernel)) ?_
      walk_at "go"
      refine r_isi (b := false) (.ty "list") (.base (.int _)) (kit_ty (by decide +kernel)) ?_
      walk_at "go"
      refine r_isi (b := false) (.ty "bool") (.base (.int _)) (kit_ty (by decide +kernel)) ?_
      walk_at "go"
      exact k H (Same.refl _)
    | str x =>
      refine r_isi (b := false) (.ty "tuple") (.base (.str _)) (kit_ty (by decide +kernel)) ?_
      walk_at "go"
      refine r_isi (b := false) (.ty "list") (.base (.str _)) (kit_ty (by decide +kernel)) ?_
      walk_at "go"
      refine r_isi (b := false) (.ty "bool") (.base (.str _)) (kit_ty (by decide +kernel)) ?_
      walk_at "go"
      exact k H (Same.refl _)
    | non =>
      refine r_isi (b := false) (.ty "tuple") (.base .non) (kit_ty (by decide +kernel)) ?_
      walk_at "go"
      refine r_isi (b := false) (.ty "list") (.base .non) (kit_ty (by decide +kernel)) ?_
      walk_at "go"
      refine r_isi (b := false) (.ty "bool") (.base .non) (kit_ty (by decide +kernel)) ?_
      walk_at "go"
      exact k H (Same.refl _)
    | bl => simp [pure] at hp
    | lst => simp [pure] at hp
    | @tup a xs ds hS hA =>
      have hpA : pureA ds = true := by simpa [pure] using hp
      have hwA : ds.length ≤ 1000 ∧ wideA ds = true := by simpa [wide] using hw
      have hdA : PyData.depthAll ds < n := by rw [PyData.depth] at hd; omega
      refine r_isi (b := true) (.ty "tuple") (tyxT hS) (kit_ty (by decide +kernel)) ?_
      walk_at "go"
      refine ⟨⟨_, hS⟩, fun D hD => ?_⟩
      refine lc_gen (walk_tup (K := K) (a := a) (xs := xs)) (fun _ => rfl) (fun acc H' => acc = (List.replicate acc.length true).map V.bl ∧ Same H H') ⟨rfl, same_new hD⟩ (fun acc H' _ q => Same.sqT q.2 hS) ?_ ?_
      · rintro i x acc H' hx hl hacc ⟨ha, sm⟩
        obtain ⟨di, hdi, hxd⟩ := dpA_get hA hx
        have hmem := List.mem_of_getElem? hdi
        have hil := (List.getElem?_eq_some_iff.mp hdi).1
        walk_at "go"
        refine ⟨x, di, rfl, dp_keep (Same.keeps sm) _ _ hxd, pureA_iff.mp hpA di hmem, wideA_iff.mp hwA.2 di hmem, Nat.lt_of_le_of_lt (depthA_mem (Nat.le_refl _) di hmem) hdA, fun H2 s2 => ?_⟩
        refine pp_next (s2 _ _ hacc) hl (line60 (by omega)) ⟨?_, same_upd (sm.trans s2) hD⟩
        rw [List.length_append]
        show acc ++ [V.bl true] = (List.replicate (acc.length + 1) true).map V.bl
        rw [List.replicate_succ', List.map_append, ← ha]
        rfl
      · rintro acc H' hl hacc ⟨ha, sm⟩
        walk_at "go"
        rw [ha] at hacc
        refine r_all (SqL.of hacc) ?_
        have e : (List.replicate acc.length true).all id = true := List.all_eq_true.mpr fun b hb => by rw [(List.mem_replicate.mp hb).2]; rfl
        rw [e]
        exact k _ sm
theorem nl_all {f : Addr} {fd : FuncData} (F : Fun K "_law_no_list" "_law_no_list" sLNoList f fd) (B : Bl mg) (m : mg "_law_no_list" = some (.ref f)) (b : Binds K fd ["_law_thing"] []) : ∀ n : Nat, ONL n P w K mg base
  | 0 => ⟨f, fd, none_ok fun vs H Q E h => by obtain ⟨v, d, _, _, _, _, hd, _⟩ := h; omega, m, F.kp, b⟩
  | n + 1 => ⟨f, fd, ok_noList F B (nl_all F B m b n), m, F.kp, b⟩
theorem ok_sameT {f : Addr} {fd : FuncData} (F : Fun K "_law_same_tuple" "_law_same_tuple" sLSame f fd) (B : Bl mg) (Onl : ONL 5 P w K mg base) : FnOk P w K mg base CX0 6 f fd ["_law_told", "_law_wanted"] (spSameT K) := by
  refine F.ok scLSame (fun vs H Q E h => ?_) (fun cdv A outer s H vs Q E hr h => ?_)
  · obtain ⟨a, b, d, rfl, _⟩ := h
    rfl
  · obtain ⟨a, b, d, rfl, ha, hb, ⟨⟨ds, rfl⟩, fl, pu, wi, dl⟩, k⟩ := h
    refine ⟨_, (pss_one (ps_ret (pe_and (pe_callB (id := "isinstance") (r := rIsi K) call_isi (by rfl) B.isin (by decide +kernel) (pa_cons (pv 0) (pa_cons (pe_bltn (v := .ty "tuple") (by rfl) B.tuple (by decide +kernel) rfl) pa_nil))) (pe_and (pe_cmpR (op_eqD hr.units) (pv 0) (pv 1) (nomark _)) (pe_one (pe_own Onl (hr.mono (by omega)) (pa_cons (pv 0) pa_nil))))))), ?_⟩
    try dsimp only [cxOf, Cx.nox, Cx.wish]
    walk_at "go"
    have hT : TyX K H a (.type "tuple") := by
      cases ha with
      | tup h _ => exact tyxT h
    refine r_isi (b := true) (.ty "tuple") hT (kit_ty (by decide +kernel)) ?_
    walk_at "go"
    have sh : SeqAt.shaped (PyData.tuple ds) = true := shaped_of fl (by omega)
    refine ⟨_, _, ha, hb, sh, sh, ?_⟩
    rw [SeqAt.eqv_refl _ (canLay_flat _ fl)]
    walk_at "go"
    exact ⟨a, _, rfl, ha, pu, wi, by omega, fun H1 s1 => k H1 s1⟩
abbrev OSameT (P : Program) (w : World) (K : PySem.W.Frag) (mg : Str → Option Value) (base : Heap) : Prop := Own P w K mg base "_law_same_tuple" 6 ["_law_told", "_law_wanted"] (spSameT K)
theorem ok_sameG {f : Addr} {fd : FuncData} (F : Fun K "_law_same" "_law_same" sLSameG f fd) (B : Bl mg) (Ost : OSameT P w K mg base) : FnOk P w K mg base CX0 7 f fd ["_law_told", "_law_wanted"] (spSameG K) := by
  refine F.ok scLSameG (fun vs H Q E h => ?_) (fun cdv A outer s H vs Q E hr h => ?_)
  · obtain ⟨a, b, d, rfl, _⟩ := h
    rfl
  · obtain ⟨a, b, d, rfl, ha, hb, hd, k⟩ := h
    refine ⟨_, (pss_cons (ps_if (pt_val (pe_callB (id := "isinstance") (r := rIsi K) call_isi (by rfl) B.isin (by decide +kernel) (pa_cons (pv 1) (pa_cons (pe_bltn (v := .ty "list") (by rfl) B.list (by decide +kernel) rfl) pa_nil)))) (pss_one (ps_ret (pe_and (pe_callB (id := "isinstance") (r := rIsi K) call_isi (by rfl) B.isin (by decide +kernel) (pa_cons (pv 0) (pa_cons (pe_bltn (v := .ty "list") (by rfl) B.list (by decide +kernel) rfl) pa_nil))) (pe_one (pe_cmpR (op_eqD hr.units) (pv 0) (pv 1) (nomark _)))))) pss_nil) (pss_one (ps_ret (pe_own Ost (hr.mono (by omega)) (pa_cons (pv 0) (pa_cons (pv 1) pa_nil)))))), ?_⟩
    try dsimp only [cxOf, Cx.nox, Cx.wish]
    walk_at "go"
    rcases hd with rfl | hd
    · have tyl : ∀ {v : V}, Dp K H v (PyData.list [.str "reading"]) → TyX K H v (.type "list") := fun h => by
        cases h with
        | lst h _ => exact tyxL h
      refine r_isi (b := true) (.ty "list") (tyl hb) (kit_ty (by decide +kernel)) ?_
      walk_at "go"
      refine r_isi (b := true) (.ty "list") (tyl ha) (kit_ty (by decide +kernel)) ?_
      walk_at "go"
      have fl : flatN (PyData.list [.str "reading"]) = true := by decide +kernel
      have sh : SeqAt.shaped (PyData.list [.str "reading"]) = true := shaped_of fl (by show 1 ≤ 64; decide)
      refine ⟨_, _, ha, hb, sh, sh, ?_⟩
      rw [SeqAt.eqv_refl _ (canLay_flat _ fl)]
      exact k H (Same.refl _)
    · obtain ⟨⟨ds, rfl⟩, hd'⟩ := id hd
      have hT : TyX K H b (.type "tuple") := by
        cases hb with
        | tup h _ => exact tyxT h
      refine r_isi (b := false) (.ty "list") hT (kit_ty (by decide +kernel)) ?_
      walk_at "go"
      exact ⟨a, b, _, rfl, ha, hb, hd, k⟩
end
end K4

/-! X3 -/
/-! A comprehension over a list where an exception is being handled. -/
namespace K1
open PySem L2 L2H PyProof.Rows PySem.W PySem.Calls
theorem list_end_hot {P : Program} {w : World} {A : Around} {E : Value → Shared → Prop} {s : Shared} {it l x1 : Addr} {i : Nat} {items : Array Value} {Q : Option Value → Shared → Prop}
    (hot : HotX.HotAt A x1 s.heap) (hit : s.heap.IsListIter it l i) (hl : s.heap.IsList l items) (hx : items[i]? = none)
    (hQ : ∀ h', Heap.ExtBut it s.heap h' → Q none ⟨h', s.gens, s.drawn, s.toks, s.os⟩) : wpAny (model P w) A (pyNext (.ref it)) Q E s := by
  obtain ⟨o, ho, hc, hd⟩ := id hit
  obtain ⟨ol, hol, _, nl, hdl⟩ := hl
  obtain ⟨hh, o1, vs1, h1, d1, c1⟩ := hot
  have ne : x1 ≠ it := by
    intro z
    rw [z, ho] at h1
    obtain rfl := Option.some.inj h1
    rw [hd] at d1
    obtain rfl := Data.fields.inj d1
    cases c1
  unfold pyNext
  refine wpAny_bind (wpAny_attempt (wpAny_callSpecial?_slot (Heap.IsListIter.typeIs hit) slot_listiter_next (wpAny_call_entry slot_listiter_next (Heap.IsListIter.typeIs hit) entry_listiter_next ?_ (args_listiter_next (.ref it)))))
  unfold Builtin.«list_iterator.__next__»
  dsimp only
  refine wpAny_bind ?_
  show wpAny _ _ (pure (Value.ref it, ([] : List Value))) _ _ _
  refine wpAny_pure ?_
  refine wpAny_bind (wpAny_field ho hd rfl ?_)
  refine wpAny_ite_false (by rfl) ?_
  refine wpAny_bind (wpAny_field ho hd rfl ?_)
  refine wpAny_bind (wpAny_seqItems hol hdl ?_)
  dsimp only
  rw [show (Int.toNat (i : Int)) = i from rfl, hx]
  dsimp only
  refine wpAny_bind (wpAny_rule ?_)
  refine wpAny_bind (wpAny_setField ho hd (by show 0 < 2; decide) ?_)
  unfold Builtin.SmallTypes.stopIteration
  have h1u : (s.heap.update it (Obj.mapFields fun x => x.setIfInBounds 0 Value.none)).get? x1 = some o1 := by
    rw [Heap.get?_update_ne _ _ _ _ ne]; exact h1
  have sbu := Heap.SameBut.extBut (Heap.SameBut.update s.heap it (Obj.mapFields fun x => x.setIfInBounds 0 Value.none))
  revert h1u sbu
  generalize s.heap.update it (Obj.mapFields fun x => x.setIfInBounds 0 Value.none) = hu
  intro h1u sbu
  refine wpAny_bind ?_
  unfold newExc
  refine wpAny_bind (wpAny_newTuple ?_ (Nat.zero_le _))
  refine wpAny_bind (wpAny_of_eq (by rfl) ?_)
  have h2 := Heap.get?_push_of_some ⟨.type "tuple", none, .seq #[] 0, #[]⟩ h1u
  have sb2 := Heap.ExtBut.push sbu ⟨.type "tuple", none, .seq #[] 0, #[]⟩
  show wpAny _ _ _ _ _ ⟨hu.push ⟨.type "tuple", none, .seq #[] 0, #[]⟩, s.gens, s.drawn, s.toks, s.os⟩
  generalize (Value.ref { heap := hu, gens := s.gens, drawn := s.drawn, toks := s.toks, os := s.os : Shared}.heap.objs.size) = tv
  revert h2 sb2
  generalize hu.push ⟨.type "tuple", none, .seq #[] 0, #[]⟩ = hv
  intro h2 sb2
  generalize (if ((Manifest.find? "StopIteration").elim false fun t => t.mro.contains "StopIteration" || t.mro.contains "SystemExit") = true then ([] : List Value).headD Value.none else Value.none) = sv
  refine wpAny_newObj_type ?_ ?_
  · have hx1 : x1 ≠ hv.objs.size := Nat.ne_of_lt (Heap.lt_size h2)
    refine HotX.raiseNew_hot ⟨hh, o1, vs1, Heap.get?_push_of_some _ h2, d1, c1⟩ hx1 (Heap.get?_push_size _ rfl) rfl (by simp [Array.size_append]; omega) ?_
    refine wpAny_bind (wpAny_isInstance ⟨_, Heap.get?_update_self _ (Heap.get?_push_size hv rfl) rfl, rfl⟩ isSubtype_stop (wpAny_pure (hQ _ ?_)))
    intro b o' nb e
    have e2 := sb2 b o' nb e
    rw [Heap.get?_update_ne _ _ _ _ (Nat.ne_of_lt (Heap.lt_size e2))]
    exact Heap.get?_push_of_some _ e2
  · exact sizeOk_excFields tv Value.none Value.none Value.none (Value.bool false) sv (Value.type "StopIteration") []
end K1

/-! X4 -/
namespace K1
open PySem L2 L2H PyProof.Rows PySem.W PySem.Calls
theorem item_list {X : Cx} {a it : Addr} {tg : Expr} {i : Nat} {pins : List (Addr × Obj)} {s : Shared} {σ : L2.St} {H : Hp} {E : Value → Shared → Prop} (I : L2.Inv X pins σ H s) (hf : FpOk X pins H it) (st : s.heap.IsListIter it a i) {xs : List V} {x : V} (hq : SqL X.K H a xs) (hx : xs[i]? = some x) :
    wpAny (model X.prog X.w) X.A (pyNext (.ref it)) (fun r s1 => ∃ u, r = some u ∧ wpAny (model X.prog X.w) X.A (letOwnedTupleGo tg (.ref it) u) (fun _ s2 => L2.Inv X pins σ H s2 ∧ L2.RelV x u ∧ s2.heap.IsListIter it a (i + 1)) E s1) E s := by
  obtain ⟨its, rv, p, hz⟩ := I.list hq
  obtain ⟨u, hu, ru⟩ := Vals.get rv hx
  obtain ⟨f0, f1, f2, f3, f4, f5⟩ := hf
  refine wpAny_pyNext_list_item st p.isList (by rw [List.getElem?_toArray]; exact hu) fun h' st' sb => ?_
  have I1 := Inv.turned (t' := s.toks) I (fun b o hb e => (sb.right b hb).trans e) f0 f1 f3 f4 f5
  obtain ⟨o, e, c, d⟩ := id st'
  exact ⟨u, rfl, go_of e c d (by decide) ⟨I1, ru, st'⟩⟩
theorem done_list {X : Cx} {a it x1 : Addr} {i : Nat} {pins : List (Addr × Obj)} {s : Shared} {σ : L2.St} {H : Hp} {E : Value → Shared → Prop} (hot : HotX.HotAt X.A x1 s.heap) (I : L2.Inv X pins σ H s) (hf : FpOk X pins H it) (st : s.heap.IsListIter it a i) {xs : List V} (hq : SqL X.K H a xs) (hx : xs.length ≤ i) :
    wpAny (model X.prog X.w) X.A (pyNext (.ref it)) (fun r s1 => r = none ∧ L2.Inv X pins σ H s1) E s := by
  obtain ⟨its, rv, p, hz⟩ := I.list hq
  obtain ⟨f0, f1, f2, f3, f4, f5⟩ := hf
  have hl := Vals.length rv
  refine list_end_hot hot st p.isList (by rw [List.getElem?_toArray]; exact List.getElem?_eq_none (by omega)) fun h' eb => ?_
  exact ⟨rfl, Inv.turned I (fun b o hb e => eb b o hb e) f0 f1 f3 f4 f5⟩
/-- the block of a comprehension, the pins kept -/
abbrev bk (X : Cx) (s : Shared) (H : Hp) (scope : Scope) (env : Env) (fp : List Addr) : Cx := { X.blk s H scope env fp with pn := X.pn }
theorem inv_bk {X : Cx} {s3 s : Shared} {H3 H : Hp} {scope : Scope} {ce : Env} {fp : List Addr} {σ : L2.St} (I : L2.Inv (X.blk s3 H3 scope ce fp) [] σ H s)
    (hp : ∀ p ∈ X.pn, s.heap.get? p.1 = some p.2 ∧ H p.1 = none ∧ p.1 ≠ ce.locals ∧ p.1 ∉ frs X.stack ∧ ∀ v : Option Value, p.2.data ≠ .cell v) : L2.Inv (bk X s3 H3 scope ce fp) [] σ H s := by
  have o := I.ok
  exact ⟨⟨o.mod, o.kind, o.glob, o.blt, o.above, o.inj, o.has, o.cab, o.hd, o.frames, o.stk, o.exf, o.bs, o.bsz, o.noex, o.exfs, o.funs, o.frf⟩, I.os, I.bare, I.base, I.loc, I.cell, I.free, I.freeC, fun p h => hp p (by simpa using h), I.hok, I.len⟩
theorem frs_mem {X : Cx} (o : X.Ok) {b : Addr} (h1 : b ∉ X.fs) (h2 : b ≠ X.env.locals) : b ∉ frs X.stack := by
  rcases o.stk with e | ⟨e, ef⟩
  · rw [e]; exact h1
  · rw [e]
    intro h
    unfold frs at h
    rw [List.filterMap_cons, ef] at h
    rcases List.mem_cons.mp h with h | h
    · exact h2 h
    · exact h1 h
theorem pe_lcH {X : Cx} {elt tg iter : Expr} {ifs : List Expr} {scope : Scope} {own : List (Str × Nat)} {pos : Pos} {tl : TE} {g : TG} {tt : TT} {te : TE} (hc : HotC X) (hN : X.N.Nodup) (hl : PE X iter tl) (ok : BlkOk X.N X.env.scope scope own)
    (hg : ∀ (s : Shared) (H : Hp) (C : Addr) (cl : List (Str × Addr)) (fp : List Addr), PG (bk X s H scope (compEnvC scope cl C X.env) fp) tg g)
    (ht : ∀ (s : Shared) (H : Hp) (C : Addr) (cl : List (Str × Addr)) (fp : List Addr), PTs (bk X s H scope (compEnvC scope cl C X.env) fp) ifs tt)
    (he : ∀ (s : Shared) (H : Hp) (C : Addr) (cl : List (Str × Addr)) (fp : List Addr), PE (bk X s H scope (compEnvC scope cl C X.env) fp) elt te)
    (hs : ∀ x, foldedSetIterable iter X.env x = pure x := by intro _; rfl) :
    PE X (.ListComp elt [⟨tg, iter, ifs, 0⟩] scope pos) (tLc (iList X.K tl) g tt te (own.map (·.2))) := by
  refine ⟨fun pins s σ H Q I h => ?_⟩
  rw [eval_ListComp]
  have hfree : ∀ y : Str × NameKind, y ∈ scope.names → y.2 = .free → ∃ c, List.lookup y.1 X.env.cells = some c := fun y hy e => (ok.free y hy e).elim (fun k => I.ok.has y.1 (.inl k)) fun k => I.ok.has y.1 (.inr k)
  refine wpAny_comprehension_free rfl hs (closure_ok hfree) ok.kind (fun y hy e => by rw [ok.uniq y hy, e]) ?_
  refine thn (hl.run pins s σ H _ I h) ?_
  rintro xv s1 ⟨x, H1, I1, r1, a, rfl, ⟨xs, hq⟩, q1⟩
  have e1 : xv = .ref a := r1
  subst e1
  obtain ⟨its, rv, p, hz⟩ := I1.list hq
  refine wpAny_pyIter_list p.isList ?_
  have k2 : ∀ b o, s1.heap.get? b = some o → (s1.heap.push ⟨.type "list_iterator", none, .fields #[.ref a, .int 0 0], #[]⟩).get? b = some o := fun b o e => Heap.get?_push_of_some _ e
  have st2 : (s1.heap.push ⟨.type "list_iterator", none, .fields #[.ref a, .int 0 0], #[]⟩).IsListIter s1.heap.objs.size a 0 := ⟨_, Heap.get?_push_size _ rfl, rfl, rfl⟩
  have I2 := Inv.kept (t' := s1.toks) I1 k2
  have fI : FpOk X pins H1 s1.heap.objs.size := Inv.fpOk I1 (Nat.le_refl _) (HOk.fresh I1.hok (Nat.le_refl _))
  have ltI : s1.heap.objs.size < (s1.heap.push ⟨.type "list_iterator", none, .fields #[.ref a, .int 0 0], #[]⟩).objs.size := Heap.lt_size (Heap.get?_push_size _ rfl)
  revert k2 st2 I2 fI ltI
  generalize s1.heap.push ⟨.type "list_iterator", none, .fields #[.ref a, .int 0 0], #[]⟩ = h2
  generalize s1.heap.objs.size = it
  intro k2 st2 I2 fI ltI
  refine wpAny_newObj_type (newEnv_comp ?_)
  have hDn : H1 h2.objs.size = none := HOk.fresh I2.hok (Nat.le_refl _)
  obtain ⟨W, ⟨m0, w0⟩, turn⟩ := q1 h2.objs.size hDn
  have kp3 : ∀ b o, h2.get? b = some o → (h2.push ⟨.type "list", none, .seq #[] 0, #[]⟩).get? b = some o := fun b o e => Heap.get?_push_of_some _ e
  have I3 := Inv.laid (t' := s1.toks) (o := .lst []) I2 kp3 (Nat.le_refl _) ⟨Nat.zero_le _, [], 0, .nil, Heap.get?_push_size _ rfl⟩
  have st3 : (h2.push ⟨.type "list", none, .seq #[] 0, #[]⟩).IsListIter it a 0 := st2.at fun o e => kp3 it o e
  have ltI3 : it < (h2.push ⟨.type "list", none, .seq #[] 0, #[]⟩).objs.size := by
    obtain ⟨o, e, _⟩ := st3
    exact Heap.lt_size e
  have fI3 : FpOk X pins (upd H1 h2.objs.size (.lst [])) it := ⟨by rw [upd_ne (Nat.ne_of_lt ltI)]; exact fI.1, fI.2⟩
  have ltD : h2.objs.size < (h2.push ⟨.type "list", none, .seq #[] 0, #[]⟩).objs.size := Heap.lt_size (Heap.get?_push_size _ rfl)
  clear kp3 st2
  revert I3 st3 ltI3 fI3 ltD w0
  generalize upd H1 h2.objs.size (.lst []) = H3
  generalize h2.push ⟨.type "list", none, .seq #[] 0, #[]⟩ = h3
  generalize h2.objs.size = D at *
  intro w0 I3' st3 ltI3 fI3 ltD
  have I3 : L2.Inv X pins σ H3 ⟨h3, s1.gens, s1.drawn, s1.toks, s1.os⟩ := I3'
  clear I3'
  obtain ⟨p0, hot, hp0⟩ := hc
  obtain ⟨pg0, ph0, pl0, pf0, pc0⟩ := I3.pin p0 (List.mem_append_left _ hp0)
  have pit : p0.1 ≠ it := fI3.2.2.2.2.2 p0 (List.mem_append_left _ hp0)
  have f3 : ∀ b ∈ [it], FpOk X pins H3 b ∧ b < h3.objs.size := fun b hb => by
    obtain rfl := List.mem_singleton.mp hb
    exact ⟨fI3, ltI3⟩
  have I4 := inv_bk (block_start I3 ok hN f3) (fun p hp => by
    obtain ⟨a1, a2, a3, a4, a5⟩ := I3.pin p (List.mem_append_left _ hp)
    exact ⟨pushCells_keeps _ _ _ _ (Heap.get?_push_of_some _ a1), a2, Nat.ne_of_lt (Heap.lt_size a1), frs_mem I3.ok a4 a3, a5⟩)
  have pg := hg ⟨h3, s1.gens, s1.drawn, s1.toks, s1.os⟩ H3 h3.objs.size (cellsFrom (h3.objs.size + 1) scope.names (cloFrom X.env.cells scope.names [])) [it]
  have pt := ht ⟨h3, s1.gens, s1.drawn, s1.toks, s1.os⟩ H3 h3.objs.size (cellsFrom (h3.objs.size + 1) scope.names (cloFrom X.env.cells scope.names [])) [it]
  have pe := he ⟨h3, s1.gens, s1.drawn, s1.toks, s1.os⟩ H3 h3.objs.size (cellsFrom (h3.objs.size + 1) scope.names (cloFrom X.env.cells scope.names [])) [it]
  have cL : (compEnvC scope (cellsFrom (h3.objs.size + 1) scope.names (cloFrom X.env.cells scope.names [])) h3.objs.size X.env).locals = h3.objs.size := rfl
  have st4 : (pushCells (h3.push ⟨.type "dict", none, .dict #[] 0, #[]⟩) scope.names).IsListIter it a 0 := st3.at fun o e => pushCells_keeps _ _ _ _ (Heap.get?_push_of_some _ e)
  show codeAny _ _ (Code.compStart _ 0 (.ref it) (.ref D) (compEnvC scope (cellsFrom (h3.objs.size + 1) scope.names (cloFrom X.env.cells scope.names [])) h3.objs.size X.env)) _ ⟨pushCells (h3.push ⟨.type "dict", none, .dict #[] 0, #[]⟩) scope.names, s1.gens, s1.drawn, s1.toks, s1.os⟩
  revert I4 pg pt pe cL st4
  generalize pushCells (h3.push ⟨.type "dict", none, .dict #[] 0, #[]⟩) scope.names = h4
  generalize compEnvC scope (cellsFrom (h3.objs.size + 1) scope.names (cloFrom X.env.cells scope.names [])) h3.objs.size X.env = ce
  intro I4 pg pt pe cL st4
  have nfs : p0.1 ∉ frs X.stack := frs_mem I3.ok pf0 pl0
  have hotAt : ∀ {σ' H' s'}, L2.Inv (bk X ⟨h3, s1.gens, s1.drawn, s1.toks, s1.os⟩ H3 scope ce [it]) [] σ' H' s' → HotX.HotAt X.A p0.1 s'.heap := fun {σ' H' s'} I' => by
    obtain ⟨hh, vs, hd, hv⟩ := hot
    refine ⟨hh, p0.2, vs, I'.base.keep p0.1 p0.2 pg0 ph0 nfs ?_, hd, hv⟩
    intro z
    exact pit (List.mem_singleton.mp z)
  have stat : ∀ {σ' H' s'}, L2.Inv (bk X ⟨h3, s1.gens, s1.drawn, s1.toks, s1.os⟩ H3 scope ce [it]) [] σ' H' s' → H' it = none → FpOk (bk X ⟨h3, s1.gens, s1.drawn, s1.toks, s1.os⟩ H3 scope ce [it]) [] H' it := fun {σ' H' s'} I' hn => by
    have hb : it ∈ [it] := List.mem_singleton.mpr rfl
    refine ⟨hn, (I'.ok.exf it hb).1, I'.ok.exfs it hb, .inl hb, (I'.ok.exf it hb).2, fun p hp => ?_⟩
    exact fI3.2.2.2.2.2 p (List.mem_append_left _ (by simpa using hp))
  have loop := compLoop_any (prog := X.prog) (w := X.w) (A := X.A) (elt := elt) (target := tg) (iter := iter) (ifs := ifs) (scope := scope) (pos := pos) (it := .ref it) (acc := .ref D) (env := ce)
    (R := compPost (model X.prog X.w) X.A X.xe none (EP X pins σ Q) (.ref D) h3.objs.size)
    (fun n s' => ∃ i H', L2.Inv (bk X ⟨h3, s1.gens, s1.drawn, s1.toks, s1.os⟩ H3 scope ce [it]) [] (wipe σ (own.map (·.2))) H' s' ∧ s'.heap.IsListIter it a i ∧ H' it = none ∧ W i n H') ?step m0
    (s := ⟨h4, s1.gens, s1.drawn, s1.toks, s1.os⟩) ⟨0, H3, I4, st4, fI3.1, w0⟩
  case step =>
    rintro n s5 ⟨i, H5, I5, st5, n5, w5⟩
    rcases turn i n H5 w5 with ⟨⟨ys, hy, hlen⟩, qq⟩ | ⟨⟨ys, x, hy, hx⟩, Nx, hNx, step⟩
    · refine thnF (done_list (X := bk X ⟨h3, s1.gens, s1.drawn, s1.toks, s1.os⟩ H3 scope ce [it]) (hotAt I5) I5 (stat I5 n5) st5 hy hlen) ?_
      rintro r s6 ⟨rfl, I6⟩
      have I7 : L2.Inv X pins σ H5 s6 := by
        refine Inv.call' I3 I6.os I6.base I6.hok I6.bare fun b hb => ?_
        obtain rfl := List.mem_singleton.mp hb
        exact ⟨fI3.2.2.2.1, fI3.2.1, fI3.2.2.2.2.1, fI3.2.2.2.2.2⟩
      have nC : H5 h3.objs.size = none := by
        have z := I6.free
        rw [show (bk X ⟨h3, s1.gens, s1.drawn, s1.toks, s1.os⟩ H3 scope ce [it]).env.locals = h3.objs.size from cL] at z
        exact z
      obtain ⟨m, hn, _⟩ := I6.loc
      rw [show (bk X ⟨h3, s1.gens, s1.drawn, s1.toks, s1.os⟩ H3 scope ce [it]).env.locals = h3.objs.size from cL] at hn
      obtain ⟨f0, f1, f2, f3', f4, f5⟩ := Inv.fpOk I3 (Nat.le_refl _) nC
      exact ⟨m, hn, fun h'' sb => ⟨.ref D, H5, Inv.turned I7 (fun b o hb e => (sb.right b hb).trans e) f0 f1 f3' f4 f5, rfl, qq⟩⟩
    · refine thnF (item_list (X := bk X ⟨h3, s1.gens, s1.drawn, s1.toks, s1.os⟩ H3 scope ce [it]) (tg := tg) I5 (stat I5 n5) st5 hy hx) ?_
      rintro r s6 ⟨u, rfl, h6⟩
      refine thnF h6 ?_
      rintro _ s7 ⟨I7, r7, st7⟩
      have ob7 : ∀ b ∈ [it], ∃ o, s7.heap.get? b = some o ∧ ∀ v : Option Value, o.data ≠ Data.cell v := fun b hb => by
        obtain rfl := List.mem_singleton.mp hb
        obtain ⟨o, e, _, d⟩ := st7
        exact ⟨o, e, fun v z => by rw [d] at z; cases z⟩
      have I7' := Inv.pinned (fp := [it]) I7 (fun b hb => by obtain rfl := List.mem_singleton.mp hb; exact stat I7 n5) ob7
      refine thnF (pg.run _ s7 _ H5 x u _ I7' r7 (step x H5 ⟨rfl, fun zs hz' => ?_⟩)) ?_
      · rw [I5.list_inj hz' hy]; exact hx
      rintro _ s8 ⟨σ8, H8, I8, hw8, q8⟩
      refine thnF (pt.run _ s8 σ8 H8 _ I8 q8) ?_
      rintro b s9 ⟨H9, I9, q9⟩
      have fin : ∀ {s' H'}, L2.Inv (bk X ⟨h3, s1.gens, s1.drawn, s1.toks, s1.os⟩ H3 scope ce [it]) ([] ++ pinsAt [it] s7.heap) σ8 H' s' → Nx H' → ∃ m, m < n ∧ ∃ i H', L2.Inv (bk X ⟨h3, s1.gens, s1.drawn, s1.toks, s1.os⟩ H3 scope ce [it]) [] (wipe σ (own.map (·.2))) H' s' ∧ s'.heap.IsListIter it a i ∧ H' it = none ∧ W i m H' := fun {s' H'} I' nx => by
        obtain ⟨m', hm, w'⟩ := hNx H' nx
        obtain ⟨o, e, c, d⟩ := id st7
        have z := I'.pin (it, o) (List.mem_append_right _ (List.mem_append_right [] (mem_pinsAt (List.mem_singleton.mpr rfl) e)))
        refine ⟨m', hm, i + 1, H', Inv.weak (Inv.unpinned I') ?_ ?_, ⟨o, z.1, c, d⟩, z.2.1, w'⟩
        · rw [← hw8, wipe_length]
        · intro j v e
          rw [← hw8] at e
          exact (wipe_some e).1
      cases b with
      | false => exact fin I9 q9
      | true =>
        refine thnF (pe.run _ s9 σ8 H9 _ I9 q9) ?_
        rintro z s10 ⟨yv, H10, I10, r10, acc, hD10, hz10, nx⟩
        exact app_ok (X := bk X ⟨h3, s1.gens, s1.drawn, s1.toks, s1.os⟩ H3 scope ce [it]) I10 hD10 hz10 r10 fun s11 I11 => fin I11 nx
  exact codeAny_compStart_list loop (wpAny_pyIter_listiter st4 loop)
end K1

/-! X5 -/
/-! a, b = a tuple, where an exception is being handled. -/
namespace K1
open PySem L2 L2H PyProof.Rows PySem.W PySem.Calls
theorem tuple_end_hot {P : Program} {w : World} {A : Around} {E : Value → Shared → Prop} {s : Shared} {it l x1 : Addr} {i : Nat} {items : Array Value} {Q : Option Value → Shared → Prop}
    (hot : HotX.HotAt A x1 s.heap) (hit : PyProof.Rows.IsTupIter s.heap it l i) (hl : PyProof.Rows.IsTup s.heap l items) (hx : items[i]? = none)
    (hQ : ∀ h', Heap.ExtBut it s.heap h' → Q none ⟨h', s.gens, s.drawn, s.toks, s.os⟩) : wpAny (model P w) A (pyNext (.ref it)) Q E s := by
  obtain ⟨o, ho, hc, hd⟩ := id hit
  obtain ⟨ol, hol, _, nl, hdl⟩ := hl
  obtain ⟨hh, o1, vs1, h1, d1, c1⟩ := hot
  have ne : x1 ≠ it := by
    intro z
    rw [z, ho] at h1
    obtain rfl := Option.some.inj h1
    rw [hd] at d1
    obtain rfl := Data.fields.inj d1
    cases c1
  unfold pyNext
  refine wpAny_bind (wpAny_attempt (wpAny_callSpecial?_slot (PyProof.Rows.IsTupIter.typeIs hit) PyProof.Rows.slot_tupleiter_next (wpAny_call_entry PyProof.Rows.slot_tupleiter_next (PyProof.Rows.IsTupIter.typeIs hit) PyProof.Rows.entry_tupleiter_next ?_ (PyProof.Rows.args_tupleiter_next (.ref it)))))
  unfold Builtin.«tuple_iterator.__next__»
  dsimp only
  refine wpAny_bind ?_
  show wpAny _ _ (pure (Value.ref it, ([] : List Value))) _ _ _
  refine wpAny_pure ?_
  refine wpAny_bind (wpAny_field ho hd rfl ?_)
  refine wpAny_ite_false (by rfl) ?_
  refine wpAny_bind (wpAny_field ho hd rfl ?_)
  refine wpAny_bind (wpAny_seqItems hol hdl ?_)
  dsimp only
  rw [show (Int.toNat (i : Int)) = i from rfl, hx]
  dsimp only
  refine wpAny_bind (wpAny_rule ?_)
  refine wpAny_bind (wpAny_setField ho hd (by show 0 < 2; decide) ?_)
  unfold Builtin.SmallTypes.stopIteration
  have h1u : (s.heap.update it (Obj.mapFields fun x => x.setIfInBounds 0 Value.none)).get? x1 = some o1 := by
    rw [Heap.get?_update_ne _ _ _ _ ne]; exact h1
  have sbu := Heap.SameBut.extBut (Heap.SameBut.update s.heap it (Obj.mapFields fun x => x.setIfInBounds 0 Value.none))
  revert h1u sbu
  generalize s.heap.update it (Obj.mapFields fun x => x.setIfInBounds 0 Value.none) = hu
  intro h1u sbu
  refine wpAny_bind ?_
  unfold newExc
  refine wpAny_bind (wpAny_newTuple ?_ (Nat.zero_le _))
  refine wpAny_bind (wpAny_of_eq (by rfl) ?_)
  have h2 := Heap.get?_push_of_some ⟨.type "tuple", none, .seq #[] 0, #[]⟩ h1u
  have sb2 := Heap.ExtBut.push sbu ⟨.type "tuple", none, .seq #[] 0, #[]⟩
  show wpAny _ _ _ _ _ ⟨hu.push ⟨.type "tuple", none, .seq #[] 0, #[]⟩, s.gens, s.drawn, s.toks, s.os⟩
  generalize (Value.ref { heap := hu, gens := s.gens, drawn := s.drawn, toks := s.toks, os := s.os : Shared}.heap.objs.size) = tv
  revert h2 sb2
  generalize hu.push ⟨.type "tuple", none, .seq #[] 0, #[]⟩ = hv
  intro h2 sb2
  generalize (if ((Manifest.find? "StopIteration").elim false fun t => t.mro.contains "StopIteration" || t.mro.contains "SystemExit") = true then ([] : List Value).headD Value.none else Value.none) = sv
  refine wpAny_newObj_type ?_ ?_
  · have hx1 : x1 ≠ hv.objs.size := Nat.ne_of_lt (Heap.lt_size h2)
    refine HotX.raiseNew_hot ⟨hh, o1, vs1, Heap.get?_push_of_some _ h2, d1, c1⟩ hx1 (Heap.get?_push_size _ rfl) rfl (by simp [Array.size_append]; omega) ?_
    refine wpAny_bind (wpAny_isInstance ⟨_, Heap.get?_update_self _ (Heap.get?_push_size hv rfl) rfl, rfl⟩ isSubtype_stop (wpAny_pure (hQ _ ?_)))
    intro b o' nb e
    have e2 := sb2 b o' nb e
    rw [Heap.get?_update_ne _ _ _ _ (Nat.ne_of_lt (Heap.lt_size e2))]
    exact Heap.get?_push_of_some _ e2
  · exact sizeOk_excFields tv Value.none Value.none Value.none (Value.bool false) sv (Value.type "StopIteration") []
theorem unpack_hot {P : Program} {w : World} {A : Around} {E : Value → Shared → Prop} {s : Shared} {t x1 : Addr} {items : Array Value} {Q : List Value → Shared → Prop} (hot : HotX.HotAt A x1 s.heap) (ht : PyProof.Rows.IsTup s.heap t items)
    (hQ : ∀ h', Heap.ExtBut s.heap.objs.size s.heap h' → Q items.toList ⟨h', s.gens, s.drawn, s.toks, s.os⟩) : wpAny (model P w) A (unpackItems (.ref t) items.size none) Q E s := by
  have hlt : t ≠ s.heap.objs.size := by
    obtain ⟨o, e, _⟩ := ht
    exact Nat.ne_of_lt (Heap.lt_size e)
  have hlx : x1 ≠ s.heap.objs.size := by
    obtain ⟨_, o, _, e, _⟩ := hot
    exact Nat.ne_of_lt (Heap.lt_size e)
  unfold unpackItems
  refine wpAny_bind (wpAny_bind (wpAny_specialOf (PyProof.Rows.IsTup.typeIs ht) PyProof.Rows.slot_tuple_iter.lookup (wpAny_pure ?_)))
  dsimp only
  refine wpAny_ite_false (by rfl) ?_
  refine wpAny_bind (wpAny_holding (PyProof.Rows.iter_tuple ht ?_))
  refine wpAny_bind (wpAny_holding (PyProof.Rows.draw_tuple hlt items.size 0 _ _ ⟨_, Heap.get?_push_size _ rfl, rfl, rfl⟩ (PyProof.Rows.IsTup.push ht _) (by omega) fun h1 hit1 hs1 => ?_))
  have hall : List.take items.size (List.drop 0 items.toList) = items.toList := by
    rw [List.drop_zero]
    exact List.take_of_length_le (by simp)
  rw [hall]
  refine wpAny_ite_false (by simp) ?_
  have ht1 := PyProof.Rows.IsTup.extBut (PyProof.Rows.IsTup.push ht ⟨.type "tuple_iterator", none, .fields #[.ref t, .int 0 0], #[]⟩) (Heap.SameBut.extBut hs1) hlt
  have hot1 : HotX.HotAt A x1 h1 := by
    obtain ⟨hh, o, vs, e, d, c⟩ := hot
    exact ⟨hh, o, vs, Heap.SameBut.extBut hs1 x1 o hlx (Heap.get?_push_of_some _ e), d, c⟩
  refine wpAny_bind (wpAny_holding (tuple_end_hot hot1 hit1 ht1 (by simp) fun h2 he2 => ?_))
  refine wpAny_ite_false (by rfl) ?_
  exact wpAny_pure (hQ h2 fun b o hb e => he2 b o hb (Heap.SameBut.extBut hs1 b o hb (Heap.get?_push_of_some _ e)))
theorem pg_tupH {X : Cx} {pos : Pos} {es : List Expr} {k : Nat} {t : TGs} {n : Nat} (hc : HotC X) (h : PGs X es t) (hn : (assignEach es X.env).length = n := by rfl) (hst : List.findIdx? (fun x => x.fst) (assignEach es X.env) = none := by rfl) : PG X (.Tuple es k pos) (gTup X.K n t) := by
  refine ⟨fun pins s σ H v u Q I r hw => ?_⟩
  obtain ⟨a, xs, rfl, hq, hl, hw⟩ := hw
  have e1 : u = .ref a := r
  subst e1
  obtain ⟨its, rv, ht, hz⟩ := I.tuple hq
  obtain ⟨x1, hot⟩ := HotC.at hc I
  rw [PyProof.Rows.assign_Tuple]
  refine wpAny_bind (wpAny_standAt ?_)
  unfold unpack
  have hsz : (assignEach es X.env).length = its.toArray.size := by
    rw [hn, ← hl, Vals.length rv, List.size_toArray]
  rw [hst, hsz]
  refine wpAny_bind (wpAny_holding (unpack_hot hot ht fun h' hx => ?_))
  have I1 := Inv.kept (t' := s.toks) I fun b o e => hx b o (Nat.ne_of_lt (Heap.lt_size e)) e
  exact h.run pins _ σ H xs its Q I1 rv hw
end K1

/-! X6 -/
/-! A def called in an except suite with what is being handled: its promise may speak of the error. -/
namespace K1
open PySem L2 L2H PyProof.Rows PySem.W PySem.Calls
structure FnE (P : Program) (w : World) (K : Frag) (mg : Str → Option Value) (base : Heap) (k : Nat) (f : Addr) (fd : FuncData) (ps : List Str) (sp : Addr × Obj → Sp) : Prop where
  len : ∀ p vs H Q E, sp p vs H Q E → vs.length = ps.length
  run : ∀ (A : Around) (outer : List Env) (s : Shared) (H : Hp) (args : Args) (us : List Value) (vs : List V) (Q : VK) (E : XK) (p : Addr × Obj), RoomH k A → Hot1 A p → PinOk outer H s p → Env0 P w K mg base A outer s H → BindsTo s fd args (ps.zip us) → Vals vs us → sp p vs H Q E →
    codeAny (model P w) A (.call (.ref f) args) (CR CX0 outer P w H s Q E) s
theorem fnE_of {P : Program} {w : World} {K : Frag} {mg : Str → Option Value} {base : Heap} {x qual : Str} {st : Stmt} {f : Addr} {fd : FuncData} {N ps : List Str} {k : Nat} {sp : Addr × Obj → Sp} (F : Fun K x qual st f fd) (S : FnScope N ps (defScope st)) (len : ∀ p vs H Q E, sp p vs H Q E → vs.length = ps.length)
    (hbody : ∀ (cdv : Value) (A : Around) (outer : List Env) (s : Shared) (H : Hp) (vs : List V) (Q : VK) (E : XK) (p : Addr × Obj), Hot1 A p → RoomH k (A.deeper (envOfC qual (defScope st) s.heap.objs.size f cdv)) → sp p vs H Q E →
      ∃ t, PSs (cxH CX0 P w K mg base N qual (defScope st) f cdv A outer s H E p) (defBody st) t ∧ t { nx := fun _ H' => Q .non H', rt := Q } (L2.start N vs) H) : FnE P w K mg base (k + 1) f fd ps sp := by
  obtain ⟨oc, od, kV, doc, pm, an, cdv, ct, osl, rfl, lk, hcd⟩ := F.ex
  refine ⟨len, fun A outer s H args us vs Q E p hr hot hpin e0 hb r hsp => ?_⟩
  have hl := len p vs H Q E hsp
  have kb : ∀ b o, base.get? b = some o → s.heap.get? b = some o := fun b o e => (e0.bs b o e).1
  have KX := e0.mod.kin.keeps kb
  refine Att.call_fn (binds := ps.zip us) KX (e0.mod.nolimit.keeps kb) lk hcd hr.depth hb ?_ (fun s1 IC => ?_) S.co S.gen S.kind
  · rw [List.all_eq_true]
    rintro ⟨n, v⟩ hy
    have := S.par n (List.of_mem_zip hy).1
    rcases this with q | q <;> simp [q]
  · obtain ⟨t, ht, hq⟩ := hbody cdv A outer s H vs Q E p hot (hr.deeper _) hsp
    have I := inv_startH (CX := CX0) (E := E) (N := N) S hpin e0 hl r IC
    refine wpAny_mono (ht.run [] s1 (L2.start N vs) H _ I hq) (fun fl s' hs => ?_) (fun e s' hs => hs)
    have fin : ∀ {σ' H' v u}, L2.Inv (cxH CX0 P w K mg base N qual (defScope st) f cdv A outer s H E p) [] σ' H' s' → L2.RelV v u → Q v H' → CR CX0 outer P w H s Q E (.ok (.ret u)) s' := fun {σ' H' v u} J rv q => ⟨v, H', J.os, J.bare, J.base, J.hok, rv, q⟩
    cases fl with
    | next =>
      obtain ⟨σ', H', J, q⟩ := hs
      exact fin (v := .non) (u := .none) J (show L2.RelV V.non Value.none from rfl) q
    | ret u =>
      obtain ⟨v, σ', H', J, rv, q⟩ := hs
      exact fin J rv q
    | _ =>
      obtain ⟨_, _, _, q⟩ := hs
      exact q.elim
def tCallE (sp : Addr × Obj → Sp) (p : Addr × Obj) (t : TA) : TE := fun σ H Q => t σ H fun vs H1 => sp p vs H1 Q E0
theorem pe_callE {X : Cx} {k : Nat} {f : Addr} {fd : FuncData} {ps : List Str} {sp : Addr × Obj → Sp} {p : Addr × Obj} {x : Str} {q pos : Pos} {e : Expr} {es : List Expr} {t : TA} (F : FnE X.prog X.w X.K X.mg X.base k f fd ps sp) (hr : RoomH k X.A) (hot : Hot1 X.A p) (hp : p ∈ X.pn) (hg : Gl X x) (hm : X.mg x = some (.ref f)) (hk : keepIn X.K (.ref f) = true) (hb : Binds X.K fd ps []) (ha : PA X (e :: es) t)
    (hdb : (x == ("__debug__" : Str)) = false := by decide) (he : starEach (e :: es) X.env = (false, eval e X.env) :: starEach es X.env := by rfl) (hpl : (backTo pos (starEach es X.env)).any (·.1) = false := by rfl) :
    PE X (.Call (.Name x q) (e :: es) [] pos) (tCallE sp p t) := by
  refine ⟨fun pins s σ H Q I h => ?_⟩
  refine wpAny_Call_Name_kw (ld_glob I hg hm (callWith_K I.ok.mod.kin hk (thn (ha.run pos pins s σ H _ I h) ?_) he hpl) hdb)
  rintro us s1 ⟨vs, H1, I1, r, h1⟩
  refine ⟨I1.kIn, ?_⟩
  have hl : us.length = ps.length := by rw [← Vals.length r]; exact F.len p vs H1 Q E0 h1
  have b := hb s1 us I1.kIn (by simpa using hl)
  have P1 := I1.pin p (List.mem_append_left pins hp)
  refine wpAny_call (codeAny_mono (F.run X.A X.stack s1 H1 ⟨us, []⟩ us vs Q E0 p hr hot ⟨P1.1, P1.2.1, fun hm' => ?_, P1.2.2.2.2⟩ I1.env0 (by simpa using b) r h1) ?_)
  · exact Or.elim (List.mem_cons.mp (I1.stkSub p.1 hm')) P1.2.2.1 P1.2.2.2.1
  · intro rr s' hq
    cases rr with
    | error e => exact hq.elim
    | ok fl =>
      cases fl with
      | ret u => exact Inv.after I1 hq
      | _ => exact hq.elim
/-- isinstance(e, T), e what is being handled -/
def rIsP (K : Frag) (C a d : Addr) : List V → Hp → VK → Prop := fun xs H Q => ∃ (c : V) (cv : Value) (b : Bool) (fs : List (Str × V)), xs = [.ref a, c] ∧ H d = some (.xd fs) ∧ (∀ u, L2.RelV c u → u = cv) ∧ kitOne K (.ref C) cv = some b ∧ Q (.bl b) H
theorem call_isP {X : Cx} {a C d : Addr} {oe : Obj} (hp : (a, oe) ∈ X.pn) (T : ExcC X.K C) (hcl : (clsIn X.K C).isSome = true) (hc : oe.cls = .ref C) (hd : oe.dict = some d) (hf : ∃ vs, oe.data = .fields vs) : CallR X (.builtin "isinstance") (rIsP X.K C a d) := by
  intro pins s σ H xs us Q I r h
  obtain ⟨c, cv, b, fs, rfl, hx, hcv, e, q⟩ := h
  cases r with
  | cons r1 r2 =>
  cases r2 with
  | cons r2 r3 =>
  cases r3 with
  | nil =>
  rename_i u1 u2
  have e1 : u1 = .ref a := r1
  subst e1
  have e2 := hcv u2 r2
  subst e2
  obtain ⟨g1, g2, _⟩ := I.pin (a, oe) (List.mem_append_left _ hp)
  obtain ⟨mA, hn, _⟩ := I.hok d _ hx
  obtain ⟨o, _, _, ho, _⟩ := hn
  obtain ⟨vs, hf⟩ := hf
  have IA : InstAt s.heap a oe C (some o) := by
    refine ⟨g1, hc, ?_, ?_⟩
    · unfold notCls; rw [hf]
    · rw [hd]; exact ho
  refine kia_one (kitx_exc (x := a) (od := some o) (ox := oe) hcl T.hg T.hk T.hs T.ha T.hn T.ht T.hm) I.kIn IA e (by intro z; cases z) fun tk => ?_
  exact ⟨.bl b, H, I.kept (fun _ _ e => e), rfl, q⟩
end K1

/-! L19n -/


namespace K4
open PySem L2 L2H K1
abbrev sLToldOf : Stmt := top 68
abbrev nLToldOf : List Str := ["_law_signs", "_law_form", "_law_paper_here", "e"]
theorem scLToldOf : FnScope nLToldOf ["_law_signs", "_law_form", "_law_paper_here"] (defScope sLToldOf) := ⟨rfl, rfl, rfl, by decide +kernel, rfl, by decide +kernel, by decide +kernel⟩
abbrev sLRefuses : Stmt := top 69
abbrev nLRefuses : List Str := ["_law_signs", "_law_form", "_law_paper_here", "e"]
theorem scLRefuses : FnScope nLRefuses ["_law_signs", "_law_form", "_law_paper_here"] (defScope sLRefuses) := ⟨rfl, rfl, rfl, by decide +kernel, rfl, by decide +kernel, by decide +kernel⟩
/-- isinstance(e, c), e what is being handled -/
def rIsQ (K : PySem.W.Frag) (a : Addr) (cls : Value) (d : Option Addr) : List V → Hp → VK → Prop := fun xs H Q => ∃ (C dd : Addr) (c : V) (cv : Value) (b : Bool) (fs : List (Str × V)), cls = .ref C ∧ d = some dd ∧ ExcC K C ∧ (PySem.W.clsIn K C).isSome = true ∧
  xs = [.ref a, c] ∧ H dd = some (.xd fs) ∧ (∀ u, L2.RelV c u → u = cv) ∧ PySem.W.kitOne K (.ref C) cv = some b ∧ Q (.bl b) H
theorem call_isQ {X : Cx} {a : Addr} {oe : Obj} {cls : Value} {d : Option Addr} (hp : (a, oe) ∈ X.pn) (hz : L2N.Zn cls d oe) (hf : ∃ vs, oe.data = .fields vs) : CallR X (.builtin "isinstance") (rIsQ X.K a cls d) := by
  intro pins s σ H xs us Q I r h
  obtain ⟨C, dd, c, cv, b, fs, rfl, rfl, T, hcl, rfl, hx, hcv, e, q⟩ := h
  exact call_isP hp T hcl hz.1 hz.2.1 hf pins s σ H _ us Q I r ⟨c, cv, b, fs, rfl, hx, hcv, e, q⟩
theorem r_isQ {K : PySem.W.Frag} {a dd C : Addr} {c : V} {cv : Value} {b : Bool} {fs : List (Str × V)} {H : Hp} {Q : VK} (T : ExcC K C) (cl : (PySem.W.clsIn K C).isSome = true) (hx : H dd = some (.xd fs)) (hcv : ∀ u, L2.RelV c u → u = cv) (e : PySem.W.kitOne K (.ref C) cv = some b) (q : Q (.bl b) H) :
    rIsQ K a (.ref C) (some dd) [.ref a, c] H Q := ⟨C, dd, c, cv, b, fs, rfl, rfl, T, cl, rfl, hx, hcv, e, q⟩
theorem op_eqDK {X : Cx} {K : PySem.W.Frag} (hK : X.K = K) (hu : X.A.units + 64 < cLine) : OpR X (compareOp .Eq) (rEqD K) := by
  subst hK
  exact op_eqD hu
/-- what is known of TooMany -/
structure KM (K : PySem.W.Frag) (mg : Str → Option Value) (CM : Addr) : Prop where
  m : mg "TooMany" = some (.ref CM)
  ex : PySem.W.exmOne K (.ref CM) (.ref CM) = some true
  X : XfC K CM
  fi : PySem.W.findIn K (.ref CM) "what" = some none
/-- what is known of BadPaper -/
structure KP (K : PySem.W.Frag) (mg : Str → Option Value) (CP CM cE cM : Addr) : Prop where
  mE : mg "CarryError" = some (.ref cE)
  mP : mg "BadPaper" = some (.ref CP)
  mM : mg "Malformed" = some (.ref cM)
  mT : mg "TooMany" = some (.ref CM)
  ex : PySem.W.exmOne K (.ref CP) (.ref cE) = some true
  T : ExcC K CP
  X : XfC K CP
  cls : (PySem.W.clsIn K CP).isSome = true
  kp : PySem.W.kitOne K (.ref CP) (.ref CP) = some true
  km : PySem.W.kitOne K (.ref CP) (.ref cM) = some true
  kt : PySem.W.kitOne K (.ref CP) (.ref CM) = some false
  fi : PySem.W.findIn K (.ref CP) "paper" = some none
def spToldOf (K : PySem.W.Frag) : Sp := fun vs H Q _ => ∃ (z p : Str) (v : V) (fs : List Fd) (t : Bool), vs = [.str z, v, .str p] ∧ z.length ≤ 12 ∧ signsB z = true ∧ Dp K H v (formD t fs) ∧ FormOk z fs ∧ textB 0 60 z p = true ∧
  ∀ H' v', Same H H' → Dp K H' v' (wantD fs p) → Q v' H'
def spRefuses (K : PySem.W.Frag) : Sp := fun vs H Q _ => ∃ (z : Str) (v x : V) (fs : List Fd) (t : Bool), vs = [.str z, v, x] ∧ z.length ≤ 12 ∧ signsB z = true ∧ Dp K H v (formD t fs) ∧ FormOk z fs ∧ BadP K H z x ∧ (∀ H', Same H H' → ∃ d, Dp K H' x d ∧ flatN d = true ∧ d.depth ≤ 1) ∧
  ∀ H', Same H H' → Q (.bl true) H'
section
variable {P : Program} {w : World} {K : PySem.W.Frag} {mg : Str → Option Value} {base : Heap}
theorem ok_toldOf {f fV CP CM : Addr} {fd fdV : FuncData} (F : Fun K "_law_told_of" "_law_told_of" sLToldOf f fd) (FV : FnOk P w K mg base (L2N.CX P w) 9 fV fdV ["signs", "form", "paper"] (spReadings K CP CM)) (mV : mg "readings" = some (.ref fV)) (kV : PySem.W.keepIn K (.ref fV) = true) (bV : Binds K fdV ["signs", "form", "paper"] [])
    (KM_ : KM K mg CM) : FnOk P w K mg base CX0 10 f fd ["_law_signs", "_law_form", "_law_paper_here"] (spToldOf K) := by
  refine F.ok scLToldOf (fun vs H Q E h => ?_) (fun cdv A outer s H vs Q E hr h => ?_)
  · obtain ⟨z, p, v, fs, t, rfl, _⟩ := h
    rfl
  · obtain ⟨z, p, v, fs, t, rfl, hz, hs, hd, ho, hp, k⟩ := h
    refine ⟨_, (pss_one (L2N.ps_try_as (i := 3) (tb := fun W => tRet (tCallS (spReadings K CP CM) (WE W) (tCons (tVar 0) (tCons (tVar 1) (tCons (tVar 2) tNil))))) (Wout := fun _ _ _ _ => False) rfl rfl scLToldOf.nd rfl rfl ⟨rfl, by decide, Or.inl KM_.m⟩ (fun _ _ h => by obtain ⟨_, _, _, _, _, _, _, _, _, _, _, _, _, _, _, _, h⟩ := h; exact h.elim) (fun W pn xe tk _ => pss_one (ps_ret (pe_callS FV hr rfl mV kV bV (fun σ => L2N.passAt tk σ) (pa_cons (pv 0) (pa_cons (pv 1) (pa_cons (pv 2) pa_nil)))))) (fun a oe cls d pn hz hf => (pss_one (ps_ret (pe_lst (pa_cons (pe_xf KM_.X KM_.fi hz.zc hf (pv 3)) pa_nil))))))), ?_⟩
    try dsimp only [cxOf, Cx.nox, Cx.wish]
    walk_at "go"
    refine ⟨z, v, .str p, fs, t, rfl, hz, hs, hd, ho, .inr ⟨p, rfl, hp, ?_⟩⟩
    by_cases big : 500 < ways fs (tl p) 0
    · refine .inr ⟨big, fun H1 d s1 hd1 _ => ?_⟩
      refine ⟨true, KM_.ex, fun _ a ha => ?_, fun q => nomatch q⟩
      dsimp only [List.set]
      walk_at "go"
      refine ⟨rfl, rfl, d, _, .str "reading", rfl, hd1, rfl, ?_⟩
      walk_at "go"
      refine ⟨(by show 1 ≤ sizeLine; decide), fun R hR => ?_⟩
      refine k _ _ (s1.trans (same_new hR)) ?_
      unfold wantD
      rw [if_pos big]
      exact .lst (SqL.of upd_same) (.cons (.str _) .nil)
    · refine .inl ⟨by omega, fun H1 v1 s1 d1 => ?_⟩
      walk_at "go"
      refine k _ _ s1 ?_
      unfold wantD
      rw [if_neg big]
      exact d1
theorem ok_refuses {f fV CP CM cE cM : Addr} {fd fdV : FuncData} (F : Fun K "_law_refuses" "_law_refuses" sLRefuses f fd) (B : Bl mg) (FV : FnOk P w K mg base (L2N.CX P w) 9 fV fdV ["signs", "form", "paper"] (spReadings K CP CM)) (mV : mg "readings" = some (.ref fV)) (kV : PySem.W.keepIn K (.ref fV) = true) (bV : Binds K fdV ["signs", "form", "paper"] [])
    (KP_ : KP K mg CP CM cE cM) : FnOk P w K mg base CX0 10 f fd ["_law_signs", "_law_form", "_law_paper_here"] (spRefuses K) := by
  refine F.ok scLRefuses (fun vs H Q E h => ?_) (fun cdv A outer s H vs Q E hr h => ?_)
  · obtain ⟨z, v, x, fs, t, rfl, _⟩ := h
    rfl
  · obtain ⟨z, v, x, fs, t, rfl, hz, hs, hd, ho, hb, hx, k⟩ := h
    refine ⟨_, (pss_cons (L2N.ps_try_as (i := 3) (tb := fun W => tDrop (tCallS (spReadings K CP CM) (WE W) (tCons (tVar 0) (tCons (tVar 1) (tCons (tVar 2) tNil))))) (Wout := fun _ _ _ _ => False) rfl rfl scLRefuses.nd rfl rfl ⟨rfl, by decide, Or.inl KP_.mE⟩ (fun _ _ h => by obtain ⟨_, _, _, _, _, _, _, _, _, _, _, _, _, _, _, _, h⟩ := h; exact h.elim) (fun W pn xe tk _ => pss_one (ps_expr (pe_callS FV hr rfl mV kV bV (fun σ => L2N.passAt tk σ) (pa_cons (pv 0) (pa_cons (pv 1) (pa_cons (pv 2) pa_nil)))))) (fun a oe cls d pn hz hf => (pss_cons (ps_if (PW.pt (pw_or (pt_not (pt_val (pe_callB (id := "isinstance") (r := rIsQ K a cls d) (call_isQ (List.mem_cons_self ..) hz hf) (by rfl) B.isin (by decide +kernel) (pa_cons (pv 3) (pa_cons (pe_glob (v := .ref CP) rfl KP_.mP rfl) pa_nil))))) (pw_or (pt_not (pt_val (pe_callB (id := "isinstance") (r := rIsQ K a cls d) (call_isQ (List.mem_cons_self ..) hz hf) (by rfl) B.isin (by decide +kernel) (pa_cons (pv 3) (pa_cons (pe_glob (v := .ref cM) rfl KP_.mM rfl) pa_nil))))) (pw_or1 (pt_val (pe_callB (id := "isinstance") (r := rIsQ K a cls d) (call_isQ (List.mem_cons_self ..) hz hf) (by rfl) B.isin (by decide +kernel) (pa_cons (pv 3) (pa_cons (pe_glob (v := .ref CM) rfl KP_.mT rfl) pa_nil)))))))) (pss_one (ps_ret pe_bl)) pss_nil) (pss_one (ps_ret (pe_cmpR (op_eqDK (K := K) rfl hr.units) (pe_xf KP_.X KP_.fi hz.zc hf (pv 3)) (pv 2) (nomark _))))))) (pss_one (ps_ret pe_bl))), ?_⟩
    try dsimp only [cxOf, Cx.nox, Cx.wish]
    walk_at "go"
    refine ⟨z, v, x, fs, t, rfl, hz, hs, hd, ho, .inl ⟨hb, fun H1 d s1 hd1 _ => ?_⟩⟩
    refine ⟨true, KP_.ex, fun _ a ha => ?_, fun q => nomatch q⟩
    dsimp only [List.set]
    walk_at "go"
    refine r_isQ KP_.T KP_.cls hd1 (fun u h => h) KP_.kp ?_
    walk_at "go"
    refine r_isQ KP_.T KP_.cls hd1 (fun u h => h) KP_.km ?_
    walk_at "go"
    refine r_isQ KP_.T KP_.cls hd1 (fun u h => h) KP_.kt ?_
    walk_at "go"
    refine ⟨rfl, rfl, d, _, x, rfl, hd1, rfl, ?_⟩
    walk_at "go"
    obtain ⟨dx, dd, fl, dl⟩ := hx H1 s1
    have sh : SeqAt.shaped dx = true := shaped_of fl (by omega)
    refine ⟨dx, dx, dd, dd, sh, sh, ?_⟩
    rw [SeqAt.eqv_refl _ (canLay_flat _ fl)]
    exact k _ s1
end
end K4

/-! L19o -/


namespace K4
open PySem L2 K1
abbrev sLaw : Stmt := top 74
abbrev nLaw : List Str := ["_law_script", "_law_first", "_law_signs", "_law_bag", "_law_form", "_law_paper_here", "_law_later", "_law_form_two", "_law_paper_two", "_law_handed", "_law_wanted", "_law_bad", "_law_sixty"]
theorem scLaw : FnScope nLaw ["_law_script"] (defScope sLaw) := ⟨rfl, rfl, rfl, by decide +kernel, rfl, by decide +kernel, by decide +kernel⟩
/-! The law. -/
def spLaw (K : PySem.W.Frag) : Sp := fun vs H Q _ => ∃ (a : Addr) (ns : List Int), vs = [.ref a] ∧ SqL K H a (ns.map V.int) ∧ ns.length ≤ 63 ∧ ∀ H', Q (.bl true) H'
theorem Fd.lst : ∀ f : Fd, lstd (f.data true) = f.data false
  | .w n ws => by
    show lstd (.tuple [.str "words", .str n, .tuple (ws.map .str)]) = .list [.str "words", .str n, .list (ws.map .str)]
    rw [lstd_tup]
    show PyData.list [lstd (.str "words"), lstd (.str n), lstd (.tuple (ws.map .str))] = _
    rw [lstd_tup, List.map_map]
    have e : ws.map (lstd ∘ PyData.str) = ws.map PyData.str := List.map_congr_left fun w _ => by simp [lstd]
    rw [e]
    simp [lstd]
  | .r n al lo none => by
    show lstd (.tuple [.str "run", .str n, .str al, pn lo, .none]) = .list [.str "run", .str n, .str al, pn lo, .none]
    rw [lstd_tup]
    simp [lstd, pn]
  | .r n al lo (some h) => by
    show lstd (.tuple [.str "run", .str n, .str al, pn lo, pn h]) = .list [.str "run", .str n, .str al, pn lo, pn h]
    rw [lstd_tup]
    simp [lstd, pn]
theorem formD_lst (fs : List Fd) : lstd (formD true fs) = formD false fs := by
  show lstd (.tuple (fs.map (Fd.data true))) = .list (fs.map (Fd.data false))
  rw [lstd_tup, List.map_map]
  congr 1
  exact List.map_congr_left fun f _ => Fd.lst f
theorem formD_pure (fs : List Fd) : K4.pure (formD true fs) = true := by
  show K4.pure (.tuple (fs.map (Fd.data true))) = true
  rw [K4.pure]
  exact forms_pure fs
theorem formD_wide {z : Str} {fs : List Fd} (h : FormOk z fs) : wide (formD true fs) = true := by
  refine wide_tup (by rw [List.length_map]; have := h.2.1; omega) fun d hd => ?_
  obtain ⟨f, hf, rfl⟩ := List.mem_map.mp hd
  have ok := h.2.2.2 f hf
  cases f with
  | w n ws =>
    refine wide_tup (by show 3 ≤ 1000; decide) fun d hd => ?_
    simp only [Fd.parts, List.mem_cons, List.not_mem_nil, or_false] at hd
    rcases hd with rfl | rfl | rfl
    · rfl
    · rfl
    · refine wide_tup (by rw [List.length_map]; have := ok.2.2.1; omega) fun d hd => ?_
      obtain ⟨x, _, rfl⟩ := List.mem_map.mp hd
      rfl
  | r n al lo hi =>
    refine wide_tup (by show 5 ≤ 1000; decide) fun d hd => ?_
    simp only [Fd.parts, List.mem_cons, List.not_mem_nil, or_false] at hd
    rcases hd with rfl | rfl | rfl | rfl | rfl
    · rfl
    · rfl
    · rfl
    · rfl
    · cases hi <;> rfl
theorem FormOk.take {z : Str} {fs : List Fd} (h : FormOk z fs) (n : Nat) (hn : 1 ≤ n) : FormOk z (fs.take n) := by
  refine ⟨fun e => ?_, by rw [List.length_take]; have := h.2.1; omega, ?_, fun f hf => h.2.2.2 f (List.mem_of_mem_take hf)⟩
  · have := congrArg List.length e
    have := List.length_pos_iff.mpr h.1
    rw [List.length_take, List.length_nil] at *
    omega
  · rw [List.map_take]
    exact h.2.2.1.sublist (List.take_sublist _ _)
theorem bag_kp {H H' : Hp} {b c : Addr} {n : Nat} (h : IsBag H b n) (k : Kp c H H') (ne : b ≠ c) : IsBag H' b n := by
  obtain ⟨d, s, x, e, r⟩ := h
  exact ⟨d, s, x, k _ _ ne e, r⟩
theorem same_kp {H H1 H2 : Hp} {b : Addr} (s : Same H H1) (hb : H b = none) (k : Kp b H1 H2) : Same H H2 := fun c o e => k c o (ne_of_none e hb) (s _ _ e)
theorem bag_ne {H : Hp} {b c : Addr} {n : Nat} (h : IsBag H b n) (e : H c = none) : b ≠ c := fun q => by
  obtain ⟨d, s, x, e2, _⟩ := h
  rw [q, e] at e2; cases e2
theorem asc_up {l : List Nat} (h : l.Pairwise (· < ·)) : ascL l = true := by
  unfold ascL
  rw [List.all_eq_true]
  intro k hk
  have hk : k < l.length - 1 := List.mem_range.mp hk
  have h1 : k < l.length := by omega
  have h2 : k + 1 < l.length := by omega
  rw [decide_eq_true_eq, ← List.getElem_eq_getD (h := h1), ← List.getElem_eq_getD (h := h2)]
  exact List.pairwise_iff_getElem.mp h k (k + 1) h1 h2 (by omega)
theorem good_signs {z : Str} (g : Good z) : signsB z = true := by
  have e := len_tl z
  have h1 : 2 ≤ (tl z).length := g.lo
  have h2 : (tl z).length ≤ 12 := g.hi
  have h3 : ((tl z).all fun c => decide (c ∈ tl ALL)) = true := by
    rw [List.all_eq_true]
    intro c hc
    exact decide_eq_true (g.all c hc)
  unfold signsB textB
  rw [h3, asc_up g.up, decide_eq_true (show (2 : Int) ≤ z.length by omega), decide_eq_true (show (z.length : Int) ≤ 12 by omega)]
  rfl
theorem dpA_take {K : PySem.W.Frag} {H : Hp} : ∀ (n : Nat) {vs : List V} {ds : List PyData}, DpAll K H vs ds → DpAll K H (vs.take n) (ds.take n)
  | 0, _, _, _ => .nil
  | _ + 1, _, _, .nil => .nil
  | n + 1, _, _, .cons a b => .cons a (dpA_take n b)
theorem form_slice {K : PySem.W.Frag} {H : Hp} {Q : VK} {z : Str} {v : V} {fs : List Fd} (hd : Dp K H v (formD true fs)) (ok : FormOk z fs) (q : ∀ v' H' fs', Same H H' → Dp K H' v' (formD true fs') → FormOk z fs' → Q v' H') : rSlL K v none (some 3) H Q ∨ rSlA K v none (some 3) H Q := by
  obtain ⟨a, xs, rfl, hT, hA⟩ := dp_tuple hd
  refine .inr ⟨a, xs, rfl, hT, fun _ => q _ _ fs (Same.refl _) hd ok, fun _ p np => ?_⟩
  refine q _ _ (fs.take 3) (same_new np) ?_ (ok.take 3 (by decide))
  have e : cutV xs none (some 3) = xs.take 3 := cutV_to 3
  rw [e]
  show Dp K _ _ (.tuple ((fs.take 3).map (Fd.data true)))
  refine .tup (SqT.of upd_same) ?_
  rw [List.map_take]
  exact dpA_same (same_new np) (dpA_take 3 hA)
theorem paper_le {z p : Str} (h : textB 0 60 z p = true) : (tl p).length ≤ 60 := by
  have := len_tl p
  unfold textB at h
  simp only [Bool.and_eq_true, decide_eq_true_eq] at h
  omega
theorem good_lt {z : Str} (g : Good z) : ∀ c ∈ tl z, c < 1114112 := fun c hc => by have := all_lt c (g.all c hc); omega
/-- a form is stood for -/
theorem form_kp {K : PySem.W.Frag} {H H' : Hp} {b : Addr} {n : Nat} {v : V} {fs : List Fd} (hb : IsBag H b n) (k : Kp b H H') (d : Dp K H v (formD true fs)) : Dp K H' v (formD true fs) := dp_pure (bag_kt hb k) _ _ (formD_pure fs) d
section
variable {P : Program} {w : World} {K : PySem.W.Frag} {mg : Str → Option Value} {base : Heap}
abbrev OBagOf (P : Program) (w : World) (K : PySem.W.Frag) (mg : Str → Option Value) (base : Heap) : Prop := Own P w K mg base "_law_bag_of" 1 ["_law_script", "_law_at"] (spBagOf K)
abbrev OWide (P : Program) (w : World) (K : PySem.W.Frag) (mg : Str → Option Value) (base : Heap) : Prop := Own P w K mg base "_law_wide_signs" 3 ["_law_bag"] spWideSigns
abbrev OAnyForm (P : Program) (w : World) (K : PySem.W.Frag) (mg : Str → Option Value) (base : Heap) : Prop := Own P w K mg base "_law_any_form" 5 ["_law_bag", "_law_signs", "_law_most"] (spAnyForm K)
abbrev OPaperF (P : Program) (w : World) (K : PySem.W.Frag) (mg : Str → Option Value) (base : Heap) : Prop := Own P w K mg base "_law_paper_of" 3 ["_law_bag", "_law_form"] (spPaperF K)
abbrev OSpoilt (P : Program) (w : World) (K : PySem.W.Frag) (mg : Str → Option Value) (base : Heap) : Prop := Own P w K mg base "_law_spoilt" 3 ["_law_bag", "_law_signs", "_law_paper_here"] spSpoilt
abbrev OManyWays (P : Program) (w : World) (K : PySem.W.Frag) (mg : Str → Option Value) (base : Heap) : Prop := Own P w K mg base "_law_many_ways" 5 ["_law_bag", "_law_sign", "_law_signs"] (spManyWays K)
abbrev OCuttings (P : Program) (w : World) (K : PySem.W.Frag) (mg : Str → Option Value) (base : Heap) : Prop := Own P w K mg base "_law_cuttings" 2 ["_law_form", "_law_paper_here"] (spCuttings K)
abbrev OWanted (P : Program) (w : World) (K : PySem.W.Frag) (mg : Str → Option Value) (base : Heap) : Prop := Own P w K mg base "_law_wanted_of" 3 ["_law_form", "_law_paper_here"] (spWanted K)
abbrev OSameG (P : Program) (w : World) (K : PySem.W.Frag) (mg : Str → Option Value) (base : Heap) : Prop := Own P w K mg base "_law_same" 7 ["_law_told", "_law_wanted"] (spSameG K)
abbrev OToldOf (P : Program) (w : World) (K : PySem.W.Frag) (mg : Str → Option Value) (base : Heap) : Prop := Own P w K mg base "_law_told_of" 10 ["_law_signs", "_law_form", "_law_paper_here"] (spToldOf K)
abbrev ORefuses (P : Program) (w : World) (K : PySem.W.Frag) (mg : Str → Option Value) (base : Heap) : Prop := Own P w K mg base "_law_refuses" 10 ["_law_signs", "_law_form", "_law_paper_here"] (spRefuses K)
abbrev OBadPaper (P : Program) (w : World) (K : PySem.W.Frag) (mg : Str → Option Value) (base : Heap) : Prop := Own P w K mg base "_law_bad_paper" 3 ["_law_bag", "_law_signs", "_law_paper_here"] (spBadPaper K)
theorem ok_law {f : Addr} {fd : FuncData} (F : Fun K "law" "law" sLaw f fd) (B : Bl mg) (Ob : OBagOf P w K mg base) (Ows : OWide P w K mg base) (Oaf : OAnyForm P w K mg base) (Opf : OPaperF P w K mg base) (Op : OPick P w K mg base) (Osp : OSpoilt P w K mg base) (Omw : OManyWays P w K mg base) (Oo : OOneOf P w K mg base)
    (Ocut : OCuttings P w K mg base) (Oll : OLL 4 P w K mg base) (Owa : OWanted P w K mg base) (Osg : OSameG P w K mg base) (Oto : OToldOf P w K mg base) (Obp : OBadPaper P w K mg base) (Ore : ORefuses P w K mg base) : FnOk P w K mg base CX0 12 f fd ["_law_script"] (spLaw K) := by
  refine F.ok scLaw (fun vs H Q E h => ?_) (fun cdv A outer s H vs Q E hr h => ?_)
  · obtain ⟨a, ns, rfl, _⟩ := h
    rfl
  · obtain ⟨a, ns, rfl, hS, hlen, k⟩ := h
    refine ⟨_, (pss_cons (ps_set (i := 1) scLaw.nd rfl (Or.inl rfl) (pe_own Ob (hr.mono (by omega)) (pa_cons (pv 0) (pa_cons pe_int pa_nil)))) (pss_cons (ps_set (i := 2) scLaw.nd rfl (Or.inl rfl) (pe_own Ows (hr.mono (by omega)) (pa_cons (pv 1) pa_nil))) (pss_cons (ps_set (i := 3) scLaw.nd rfl (Or.inl rfl) (pe_own Ob (hr.mono (by omega)) (pa_cons (pv 0) (pa_cons pe_int pa_nil)))) (pss_cons (ps_set (i := 4) scLaw.nd rfl (Or.inl rfl) (pe_own Oaf (hr.mono (by omega)) (pa_cons (pv 3) (pa_cons (pv 2) (pa_cons pe_int pa_nil))))) (pss_cons (ps_set (i := 5) scLaw.nd rfl (Or.inl rfl) (pe_own Opf (hr.mono (by omega)) (pa_cons (pv 3) (pa_cons (pv 4) pa_nil)))) (pss_cons (ps_if (pt_cmpR op_eq (pe_own Op (hr.mono (by omega)) (pa_cons (pv 3) (pa_cons pe_int pa_nil))) pe_int (nomark _)) (pss_one (ps_set (i := 5) scLaw.nd rfl (Or.inl rfl) (pe_own Osp (hr.mono (by omega)) (pa_cons (pv 3) (pa_cons (pv 2) (pa_cons (pv 5) pa_nil)))))) pss_nil) (pss_cons (ps_if (pt_cmpR op_eq (pe_own Op (hr.mono (by omega)) (pa_cons (pv 1) (pa_cons pe_int pa_nil))) pe_int (nomark _)) (pss_one (ps_asg (pe_own Omw (hr.mono (by omega)) (pa_cons (pv 1) (pa_cons (pe_own Oo (hr.mono (by omega)) (pa_cons (pv 1) (pa_cons (pv 2) pa_nil))) (pa_cons (pv 2) pa_nil)))) (pg_tup rfl (pgs_cons (pg_name (i := 4) scLaw.nd rfl (Or.inl rfl)) (pgs_cons (pg_name (i := 5) scLaw.nd rfl (Or.inl rfl)) pgs_nil))))) pss_nil) (pss_cons (ps_if (pt_cmpR op_gt (pe_own Ocut (hr.mono (by omega)) (pa_cons (pv 4) (pa_cons (pv 5) pa_nil))) pe_int (nomark _)) (pss_one (ps_set (i := 4) scLaw.nd rfl (Or.inl rfl) (pe_slice sl_sq (pv 4) po_none (po_some pe_int)))) pss_nil) (pss_cons (ps_set (i := 6) scLaw.nd rfl (Or.inl rfl) (pe_own Ob (hr.mono (by omega)) (pa_cons (pv 0) (pa_cons pe_int pa_nil)))) (pss_cons (ps_set (i := 7) scLaw.nd rfl (Or.inl rfl) (pe_own Oaf (hr.mono (by omega)) (pa_cons (pv 6) (pa_cons (pv 2) (pa_cons pe_int pa_nil))))) (pss_cons (ps_set (i := 8) scLaw.nd rfl (Or.inl rfl) (pe_own Opf (hr.mono (by omega)) (pa_cons (pv 6) (pa_cons (pv 7) pa_nil)))) (pss_cons (ps_set (i := 9) scLaw.nd rfl (Or.inl rfl) (pe_own Oll (hr.mono (by omega)) (pa_cons (pv 4) pa_nil))) (pss_cons (ps_set (i := 10) scLaw.nd rfl (Or.inl rfl) (pe_own Owa (hr.mono (by omega)) (pa_cons (pv 4) (pa_cons (pv 5) pa_nil)))) (pss_cons (ps_if (PW.pt (pw_or (pt_not (pt_val (pe_own Osg (hr.mono (by omega)) (pa_cons (pe_own Oto (hr.mono (by omega)) (pa_cons (pv 2) (pa_cons (pv 9) (pa_cons (pv 5) pa_nil)))) (pa_cons (pv 10) pa_nil))))) (pw_or1 (pt_cmpR (op_neD hr.units) (pv 9) (pe_own Oll (hr.mono (by omega)) (pa_cons (pv 4) pa_nil)) (nomark _))))) (pss_one (ps_ret pe_bl)) pss_nil) (pss_cons (ps_if (pt_not (pt_val (pe_own Osg (hr.mono (by omega)) (pa_cons (pe_own Oto (hr.mono (by omega)) (pa_cons (pv 2) (pa_cons (pv 7) (pa_cons (pv 8) pa_nil)))) (pa_cons (pe_own Owa (hr.mono (by omega)) (pa_cons (pv 7) (pa_cons (pv 8) pa_nil))) pa_nil))))) (pss_one (ps_ret pe_bl)) pss_nil) (pss_cons (ps_if (pt_not (pt_val (pe_own Osg (hr.mono (by omega)) (pa_cons (pe_own Oto (hr.mono (by omega)) (pa_cons (pv 2) (pa_cons (pv 4) (pa_cons (pv 5) pa_nil)))) (pa_cons (pv 10) pa_nil))))) (pss_one (ps_ret pe_bl)) pss_nil) (pss_cons (ps_set (i := 11) scLaw.nd rfl (Or.inl rfl) (pe_own Obp (hr.mono (by omega)) (pa_cons (pv 6) (pa_cons (pv 2) (pa_cons (pv 8) pa_nil))))) (pss_cons (ps_if (PW.pt (pw_or (pt_not (pt_val (pe_own Ore (hr.mono (by omega)) (pa_cons (pv 2) (pa_cons (pv 7) (pa_cons (pv 11) pa_nil)))))) (pw_or1 (pt_not (pt_val (pe_own Ore (hr.mono (by omega)) (pa_cons (pv 2) (pa_cons (pe_own Oll (hr.mono (by omega)) (pa_cons (pv 4) pa_nil)) (pa_cons (pv 11) pa_nil))))))))) (pss_one (ps_ret pe_bl)) pss_nil) (pss_cons (ps_set (i := 12) scLaw.nd rfl (Or.inl rfl) (pe_op op_mul_str (pe_own Oo (hr.mono (by omega)) (pa_cons (pv 6) (pa_cons (pv 2) pa_nil))) pe_int)) (pss_cons (ps_if (PW.pt (pw_and (pt_cmpR op_lt (pe_callB call_len (by rfl) B.len PySem.boot_len (pa_cons (pv 7) pa_nil)) pe_int (nomark _)) (pw_and1 (pt_cmpR op_eq (pe_own Op (hr.mono (by omega)) (pa_cons (pv 6) (pa_cons pe_int pa_nil))) pe_int (nomark _))))) (pss_one (ps_ret (pe_own Osg (hr.mono (by omega)) (pa_cons (pe_own Oto (hr.mono (by omega)) (pa_cons (pv 2) (pa_cons (pe_own Oll (hr.mono (by omega)) (pa_cons (pv 7) pa_nil)) (pa_cons (pv 12) pa_nil)))) (pa_cons (pe_own Owa (hr.mono (by omega)) (pa_cons (pv 7) (pa_cons (pv 12) pa_nil))) pa_nil))))) pss_nil) (pss_one (ps_ret pe_bl)))))))))))))))))))))), ?_⟩
    try dsimp only [cxOf, Cx.nox, Cx.wish]
    walk_at "go"
    refine ⟨a, ns, 0, rfl, hS, hlen, by decide, by decide, fun H1 b0 s1 hb0 ib0 => ?_⟩
    walk_at "go"
    refine ⟨b0, 0, rfl, ib0, by decide, fun H2 z gz hb2 k2 => ?_⟩
    have sm2 : Same H H2 := same_kp s1 hb0 k2
    clear k2 ib0 s1
    walk_at "go"
    refine ⟨a, ns, 1, rfl, sm2.seq hS, hlen, by decide, by decide, fun H3 b1 s3 hb1 bg3 => ?_⟩
    have sm3 := sm2.trans s3
    have hb1H : H b1 = none := sm2.free hb1
    have n01 : b0 ≠ b1 := bag_ne hb2 hb1
    have bz3 := hb2.same s3
    clear hb2 s3 sm2
    walk_at "go"
    refine ⟨b1, z, 6, 0, rfl, bg3, by decide, gz, by decide, by decide, fun H4 v fs dv ok bg4 k4 => ?_⟩
    have sm4 := same_kp sm3 hb1H k4
    have bz4 := bag_kp bz3 k4 n01
    clear bg3 bz3 k4
    walk_at "go"
    refine ⟨b1, z, v, fs, _, rfl, bg4, by decide, gz, dv, ok, fun H5 p hp bg5 of5 => ?_⟩
    have sm5 := same_kp sm4 hb1H of5.kp
    have bz5 := bag_kp bz4 of5.kp n01
    have dv5 := form_kp bg4 of5.kp dv
    clear dv bg4 bz4 of5
    refine K1.r_name ?_
    try dsimp only [List.set]
    refine r_seqIf (fun σ' H' => ∃ p' : Str, σ' = [some (.ref a), some (.ref b0), some (.str z), some (.ref b1), some v, some (.str p'), none, none, none, none, none, none, none] ∧ textB 0 60 z p' = true ∧ Same H H' ∧ IsBag H' b0 50 ∧ Dp K H' v (formD true fs)) (fun N hN => ?_) ?_
    · walk_at "go"
      refine ⟨b1, 2, _, rfl, bg5, by decide, by decide, fun r1 H6 _ _ bg6 of6 => ?_⟩
      have bz6 := bag_kp bz5 of6.kp n01
      have sm6 := same_kp sm5 hb1H of6.kp
      have dv6 := form_kp bg5 of6.kp dv5
      walk_at "go"
      refine r_iteN' (fun h0 => ?_) (fun h0 => ?_)
      · walk_at "go"
        refine ⟨b1, z, p, _, rfl, bg6, by decide, gz, hp, fun H7 p' hp' bg7 of7 => ?_⟩
        walk_at "go"
        exact hN _ _ ⟨p', rfl, hp', same_kp sm6 hb1H of7.kp, bag_kp bz6 of7.kp n01, form_kp bg6 of7.kp dv6⟩
      · walk_at "go"
        exact hN _ _ ⟨p, rfl, hp, sm6, bz6, dv6⟩
    clear dv5 bz5 sm5 bg5
    rintro σ' H6 ⟨p', rfl, hp', sm6, bz6, dv6⟩
    clear hp p sm4 sm3
    refine r_seqIf (fun σ' H' => ∃ v' p' fs', σ' = [some (.ref a), some (.ref b0), some (.str z), some (.ref b1), some v', some (.str p'), none, none, none, none, none, none, none] ∧ textB 0 60 z p' = true ∧ FormOk z fs' ∧ Same H H' ∧ Dp K H' v' (formD true fs')) (fun N hN => ?_) ?_
    · walk_at "go"
      refine ⟨b0, 5, _, rfl, bz6, by decide, by decide, fun r1 H7 _ _ bz7 of7 => ?_⟩
      have sm7 := same_kp sm6 hb0 of7.kp
      have dv7 := form_kp bz6 of7.kp dv6
      walk_at "go"
      refine r_iteN' (fun h0 => ?_) (fun h0 => ?_)
      · walk_at "go"
        refine one_sign gz bz7 (by decide) (fun c H8 hc bz8 of8 => ?_)
        walk_at "go"
        refine ⟨b0, z, c, _, rfl, bz8, by decide, gz, hc, fun H9 T v' fs' q9 eT dv9 ok9 hq9 bz9 k9 => ?_⟩
        have sm9 := same_kp (same_kp sm7 hb0 of8.kp) hb0 k9
        walk_at "go"
        refine ⟨_, _, rfl, SqT.of eT, rfl, ?_⟩
        walk_at "go"
        exact hN _ _ ⟨v', q9, fs', rfl, hq9, ok9, sm9, dv9⟩
      · walk_at "go"
        exact hN _ _ ⟨v, p', fs, rfl, hp', ok, sm7, dv7⟩
    clear dv6 bz6 sm6 ok hp'
    rintro σ' H7 ⟨v', p, fs', rfl, hp, ok, sm7, dv7⟩
    refine r_seqIf (fun σ' H' => ∃ v' fs', σ' = [some (.ref a), some (.ref b0), some (.str z), some (.ref b1), some v', some (.str p), none, none, none, none, none, none, none] ∧ FormOk z fs' ∧ Same H H' ∧ Dp K H' v' (formD true fs')) (fun N hN => ?_) ?_
    · walk_at "go"
      refine ⟨z, p, v', fs', rfl, dv7, ok, by have := paper_le hp; omega, fun H8 c s8 => ?_⟩
      have sm8 := sm7.trans s8
      have dv8 := dp_same s8 dv7
      walk_at "go"
      refine r_iteN' (fun h0 => ?_) (fun h0 => ?_)
      · walk_at "go"
        refine form_slice dv8 ok (fun v2 H9 fs2 s9 dv9 ok9 => ?_)
        walk_at "go"
        exact hN _ _ ⟨v2, fs2, rfl, ok9, sm8.trans s9, dv9⟩
      · walk_at "go"
        exact hN _ _ ⟨v', fs', rfl, ok, sm8, dv8⟩
    clear dv7 sm7 ok fs' v' fs v
    rintro σ' H8 ⟨v, fs, rfl, ok, sm8, dv8⟩
    walk_at "go"
    refine ⟨a, ns, 2, rfl, sm8.seq hS, hlen, by decide, by decide, fun H9 b2 s9 hb2 bg9 => ?_⟩
    have sm9 := sm8.trans s9
    have hb2H : H b2 = none := sm8.free hb2
    have dv9 := dp_same s9 dv8
    clear dv8 s9 sm8 hb2
    walk_at "go"
    refine ⟨b2, z, 3, 0, rfl, bg9, by decide, gz, by decide, by decide, fun HA v2 fs2 dw okw bgA kA => ?_⟩
    have smA := same_kp sm9 hb2H kA
    have dvA := form_kp bg9 kA dv9
    clear dv9 bg9 kA sm9
    walk_at "go"
    refine ⟨b2, z, v2, fs2, _, rfl, bgA, by decide, gz, dw, okw, fun HB p2 hp2 bgB ofB => ?_⟩
    have smB := same_kp smA hb2H ofB.kp
    have dvB := form_kp bgA ofB.kp dvA
    have dwB := form_kp bgA ofB.kp dw
    clear dvA dw bgA ofB smA
    have g := good_lt gz
    have gs := good_signs gz
    have lz : z.length ≤ 12 := by have := len_tl z; have h2 : (tl z).length ≤ 12 := gz.hi; omega
    have fl := formD_flat (t := false) g ok
    have dpt : (formD true fs).depth < 4 := by have := (formD_flat (t := true) g ok).2.2; omega
    have dpt2 : (formD true fs2).depth < 4 := by have := (formD_flat (t := true) g okw).2.2; omega
    walk_at "go"
    refine ⟨v, _, rfl, dvB, formD_pure _, formD_wide ok, dpt, fun HC hd sC hhd => ?_⟩
    rw [formD_lst] at hhd
    have hhd := dp_same New.same hhd
    have dvC := dp_same sC dvB
    have dwC := dp_same sC dwB
    have smC := smB.trans sC
    have bgC := bgB.same sC
    clear dvB dwB smB bgB sC
    walk_at "go"
    refine ⟨z, p, v, fs, rfl, dvC, ok, by have := paper_le hp; omega, fun HD wt sD hwt => ?_⟩
    walk_at "go"
    refine ⟨z, p, hd, fs, false, rfl, lz, gs, dp_same sD hhd, ok, hp, fun HE u sE hu => ?_⟩
    walk_at "go"
    refine ⟨u, wt, _, rfl, hu, dp_same sE hwt, wantD_ok ok g hp, fun HF sF => ?_⟩
    walk_at "go"
    have sG := (sD.trans sE).trans sF
    have dvF := dp_same sG dvC
    refine ⟨v, _, rfl, dvF, formD_pure _, formD_wide ok, dpt, fun HG h2 sH hh2 => ?_⟩
    rw [formD_lst] at hh2
    have hh2 := dp_same New.same hh2
    refine ⟨_, _, dp_same (sG.trans sH) hhd, hh2, shaped_of fl.1 (by have := fl.2.2; omega), shaped_of fl.1 (by have := fl.2.2; omega), ?_⟩
    rw [SeqAt.eqv_refl _ (canLay_flat _ fl.1)]
    have sI := sG.trans sH
    have dvG := dp_same sI dvC
    have dwG := dp_same sI dwC
    have smG := smC.trans sI
    have bgG := bgC.same sI
    have hwtG := dp_same ((sE.trans sF).trans sH) hwt
    clear hh2 dvF hu sG sF sE sD hhd dvC dwC smC bgC hwt sI sH
    walk_at "go"
    refine ⟨z, p2, v2, fs2, true, rfl, lz, gs, dwG, okw, hp2, fun HD u sD hu => ?_⟩
    walk_at "go"
    refine ⟨z, p2, v2, fs2, rfl, dp_same sD dwG, okw, by have := paper_le hp2; omega, fun HE wt2 sE hwt2 => ?_⟩
    walk_at "go"
    refine ⟨u, wt2, _, rfl, dp_same sE hu, hwt2, wantD_ok okw g hp2, fun HF sF => ?_⟩
    have sG := (sD.trans sE).trans sF
    clear hu hwt2
    walk_at "go"
    refine ⟨z, p, v, fs, true, rfl, lz, gs, dp_same sG dvG, ok, hp, fun HH u2 sH hu2 => ?_⟩
    walk_at "go"
    refine ⟨u2, wt, _, rfl, hu2, dp_same (sG.trans sH) hwtG, wantD_ok ok g hp, fun HI sI => ?_⟩
    have sJ := (sG.trans sH).trans sI
    have dvI := dp_same sJ dvG
    have dwI := dp_same sJ dwG
    have smI := smG.trans sJ
    have bgI := bgG.same sJ
    clear hu2 hwtG sJ sI sH sG sF sE sD dvG dwG smG bgG
    walk_at "go"
    refine ⟨b2, z, p2, _, rfl, bgI, by decide, gz, hp2, fun HJ y hy bgJ kJ => ?_⟩
    have smJ := same_kp smI hb2H kJ
    have dvJ := form_kp bgI kJ dvI
    have dwJ := form_kp bgI kJ dwI
    clear dvI dwI bgI smI kJ
    walk_at "go"
    refine ⟨z, v2, y, fs2, true, rfl, lz, gs, dwJ, okw, (hy _ (Kp.refl _ _)).1, fun H' s => (hy H' (Same.kp s)).2, fun HK sK => ?_⟩
    walk_at "go"
    refine ⟨v, _, rfl, dp_same sK dvJ, formD_pure _, formD_wide ok, dpt, fun HL h3 sL hh3 => ?_⟩
    rw [formD_lst] at hh3
    have hh3 := dp_same New.same hh3
    have sKL := sK.trans sL
    walk_at "go"
    refine ⟨z, h3, y, fs, false, rfl, lz, gs, hh3, ok, (hy _ (Same.kp sKL)).1, fun H' s => (hy H' (Same.kp (sKL.trans s))).2, fun HM sM => ?_⟩
    have dwM := dp_same (sKL.trans sM) dwJ
    have bgM := bgJ.same (sKL.trans sM)
    clear hh3 sKL dvJ dwJ bgJ smJ hy sK sL sM
    walk_at "go"
    refine one_sign gz bgM (by decide) (fun c HN hc bgN ofN => ?_)
    have dwN := form_kp bgM ofN.kp dwM
    clear dwM bgM ofN
    walk_at "go"
    refine ⟨one c, (60 : Int), rfl, rfl, by decide, by decide, Nat.le_refl 1, small_line (by show 1 * 60 ≤ 1000; decide), ?_⟩
    have h60 : textB 0 60 z (repS (one c) (60 : Int).toNat) = true := rep_paper (n := 60) hc (by decide)
    generalize repS (one c) (60 : Int).toNat = sx at h60
    walk_at "go"
    obtain ⟨T2, xs2, rfl, hT2, hA2⟩ := dp_tuple dwN
    refine ⟨_, xs2.length, rfl, .inr ⟨xs2, hT2, rfl⟩, ?_⟩
    walk_at "go"
    refine r_iteN' (fun h0 => ?_) (fun h0 => ?_)
    · walk_at "go"
      refine ⟨b2, 4, _, rfl, bgN, by decide, by decide, fun r1 HO _ _ bgO ofO => ?_⟩
      have dwO := form_kp bgN ofO.kp dwN
      walk_at "go"
      refine r_iteN' (fun h1 => ?_) (fun h1 => ?_)
      · walk_at "go"
        refine ⟨_, _, rfl, dwO, formD_pure _, formD_wide okw, dpt2, fun HP h4 sP hh4 => ?_⟩
        rw [formD_lst] at hh4
        have hh4 := dp_same New.same hh4
        walk_at "go"
        refine ⟨z, sx, h4, fs2, false, rfl, lz, gs, hh4, okw, h60, fun HQ u sQ hu => ?_⟩
        walk_at "go"
        refine ⟨z, sx, _, fs2, rfl, dp_same (sP.trans sQ) dwO, okw, by have := paper_le h60; omega, fun HR wt3 sR hwt3 => ?_⟩
        walk_at "go"
        exact ⟨u, wt3, _, rfl, dp_same sR hu, hwt3, wantD_ok okw g h60, fun HS sS => k HS⟩
      · walk_at "go"
        exact k _
    · walk_at "go"
      exact k _
end
end K4

/-! K19H -/
namespace K4
open PySem L2 L2H K1
def Fn (K : PySem.W.Frag) (x : Str) (st : Stmt) : Prop := ∃ (f : Addr) (fd : FuncData), PySem.W.nsIn K mainGlobals x = some (some (.ref f)) ∧ Fun K x x st f fd
theorem fn_mk {K : PySem.W.Frag} {x : Str} {st : Stmt} {f : Addr} {oc : Value} {od an : Option Addr} {osl : Array (Option Value)} {kV doc pm cdv ct : Value} (a : PySem.W.nsIn K mainGlobals x = some (some (.ref f)))
    (l : K.lookup f = some ⟨oc, od, .func (PySem.W.fnOf x x (defArgs st) (defBody st) (defScope st) .none kV doc pm an cdv ct), osl⟩) (c : PySem.W.codeIn K cdv x = true) (k : PySem.W.keepIn K (.ref f) = true) : Fn K x st := ⟨f, _, a, fun_mk l c k⟩
def FnQ (K : PySem.W.Frag) (x q : Str) (st : Stmt) (f : Addr) : Prop := ∃ fd : FuncData, Fun K x q st f fd
theorem fnq_mk {K : PySem.W.Frag} {x q : Str} {st : Stmt} {f : Addr} {oc : Value} {od an : Option Addr} {osl : Array (Option Value)} {kV doc pm cdv ct : Value}
    (l : K.lookup f = some ⟨oc, od, .func (PySem.W.fnOf x q (defArgs st) (defBody st) (defScope st) .none kV doc pm an cdv ct), osl⟩) (c : PySem.W.codeIn K cdv q = true) (k : PySem.W.keepIn K (.ref f) = true) : FnQ K x q st f := ⟨_, fun_mk l c k⟩
theorem own_of {P : Program} {w : World} {K : PySem.W.Frag} {mg : Str → Option Value} {h base : Heap} {x : Str} {st : Stmt} {n : Nat} {ps : List Str} {sp : Sp} (X : K.In h) (G : h.Ns mainGlobals mg) (N : Fn K x st) (ok : ∀ f fd, Fun K x x st f fd → FnOk P w K mg base CX0 n f fd ps sp)
    (bd : ∀ (kV doc pm : Value) (an : Option Addr) (cdv ct : Value) (us : List Value), us.length = ps.length → bindArgs (PySem.W.fnOf x x (defArgs st) (defBody st) (defScope st) .none kV doc pm an cdv ct) ⟨us, []⟩ = Pure.pure (ps.zip us)) : Own P w K mg base x n ps sp := by
  obtain ⟨f, fd, a, F⟩ := N
  exact ⟨f, fd, ok f fd F, PySem.W.mg_of X G a, F.kp, F.binds bd⟩
theorem ownX_of {P : Program} {w : World} {K : PySem.W.Frag} {mg : Str → Option Value} {h base : Heap} {x : Str} {st : Stmt} {n : Nat} {ps : List Str} {sp : Sp} (X : K.In h) (G : h.Ns mainGlobals mg) (N : Fn K x st) (ok : ∀ f fd, Fun K x x st f fd → FnOk P w K mg base (L2N.CX P w) n f fd ps sp)
    (bd : ∀ (kV doc pm : Value) (an : Option Addr) (cdv ct : Value) (us : List Value), us.length = ps.length → bindArgs (PySem.W.fnOf x x (defArgs st) (defBody st) (defScope st) .none kV doc pm an cdv ct) ⟨us, []⟩ = Pure.pure (ps.zip us)) : OwnX P w K mg base x n ps sp := by
  obtain ⟨f, fd, a, F⟩ := N
  exact ⟨f, fd, ok f fd F, PySem.W.mg_of X G a, F.kp, F.binds bd⟩

end K4
namespace HdK19
open PySem PySem.Spec PyProof.Rows L2 L2H K1 K4 He
abbrev Says (w : World) (K : PySem.W.Frag) : Prop := Hd.SaysY fa fn ts ex fc w K
theorem exAt {w : World} {K : PySem.W.Frag} (c : Says w K) (i : Nat) {e : PySem.W.Frag → Bool} (h : exs[i]? = some e := by rfl) : e K = true :=
  List.all_eq_true.mp (show (exs.all fun e => e K) = true from c.x) e (List.mem_of_getElem? h)
theorem all_mk {w : World} {K : PySem.W.Frag} {h : Heap} {mg : Str → Option Value} {fa_ : Addr} (X : K.In h) (G : h.Ns mainGlobals mg) (hfa : mg "law" = some (.ref fa_)) (c : Says w K) :
    ∃ fd : FuncData, (∀ (s : Shared) (u : Value), BindsTo s fd ⟨[u], []⟩ [("_law_script", u)]) ∧ ∀ base : Heap, K.In base → base.Ns mainGlobals mg → FnOk PROG w K mg base CX0 12 fa_ fd ["_law_script"] (spLaw K) := by
  have n_is_whole : Fn K "is_whole" sIsWhole := by
    obtain ⟨fd, F⟩ := c.t.d.def_ 0 (d := ⟨("is_whole", none), "is_whole", "is_whole", defArgs (top 9), defBody (top 9), defScope (top 9), [], []⟩) rfl
    exact ⟨_, fd, (eqO_ok (c.t.d.fact 0 (f := .glo "is_whole") rfl)), He5.fun_of F⟩
  have n_is_within : Fn K "is_within" sIsWithin := by
    obtain ⟨fd, F⟩ := c.t.d.def_ 1 (d := ⟨("is_within", none), "is_within", "is_within", defArgs (top 10), defBody (top 10), defScope (top 10), [], []⟩) rfl
    exact ⟨_, fd, (eqO_ok (c.t.d.fact 1 (f := .glo "is_within") rfl)), He5.fun_of F⟩
  have n_is_tuple : Fn K "is_tuple" sIsTuple := by
    obtain ⟨fd, F⟩ := c.t.d.def_ 2 (d := ⟨("is_tuple", none), "is_tuple", "is_tuple", defArgs (top 11), defBody (top 11), defScope (top 11), [], []⟩) rfl
    exact ⟨_, fd, (eqO_ok (c.t.d.fact 2 (f := .glo "is_tuple") rfl)), He5.fun_of F⟩
  have n_is_tuple_of : Fn K "is_tuple_of" sIsTupleOf := by
    obtain ⟨fd, F⟩ := c.t.d.def_ 3 (d := ⟨("is_tuple_of", none), "is_tuple_of", "is_tuple_of", defArgs (top 12), defBody (top 12), defScope (top 12), [], []⟩) rfl
    exact ⟨_, fd, (eqO_ok (c.t.d.fact 3 (f := .glo "is_tuple_of") rfl)), He5.fun_of F⟩
  have n_is_text : Fn K "is_text" sIsText := by
    obtain ⟨fd, F⟩ := c.t.d.def_ 4 (d := ⟨("is_text", none), "is_text", "is_text", defArgs (top 13), defBody (top 13), defScope (top 13), [], []⟩) rfl
    exact ⟨_, fd, (eqO_ok (c.t.d.fact 4 (f := .glo "is_text") rfl)), He5.fun_of F⟩
  have n_is_ascending : Fn K "is_ascending" K1.sIsAsc := by
    obtain ⟨fd, F⟩ := c.t.d.def_ 5 (d := ⟨("is_ascending", none), "is_ascending", "is_ascending", defArgs (top 14), defBody (top 14), defScope (top 14), [], []⟩) rfl
    exact ⟨_, fd, (eqO_ok (c.t.d.fact 5 (f := .glo "is_ascending") rfl)), He5.fun_of F⟩
  have n_as_tuples : Fn K "as_tuples" sAsTuples := by
    obtain ⟨fd, F⟩ := c.t.d.def_ 6 (d := ⟨("as_tuples", none), "as_tuples", "as_tuples", defArgs (top 15), defBody (top 15), defScope (top 15), [], []⟩) rfl
    exact ⟨_, fd, (eqO_ok (c.t.d.fact 6 (f := .glo "as_tuples") rfl)), He5.fun_of F⟩
  have n_first_double : Fn K "first_double" sFirstDouble := by
    obtain ⟨fd, F⟩ := c.t.d.def_ 7 (d := ⟨("first_double", none), "first_double", "first_double", defArgs (top 16), defBody (top 16), defScope (top 16), [], []⟩) rfl
    exact ⟨_, fd, (eqO_ok (c.t.d.fact 7 (f := .glo "first_double") rfl)), He5.fun_of F⟩
  have n_is_name : Fn K "is_name" sIsName := by
    obtain ⟨fd, F⟩ := c.t.d.def_ 8 (d := ⟨("is_name", none), "is_name", "is_name", defArgs (top 21), defBody (top 21), defScope (top 21), [], []⟩) rfl
    exact ⟨_, fd, (eqO_ok (c.t.d.fact 8 (f := .glo "is_name") rfl)), He5.fun_of F⟩
  have n_are_signs : Fn K "are_signs" sAreSigns := by
    obtain ⟨fd, F⟩ := c.t.d.def_ 9 (d := ⟨("are_signs", none), "are_signs", "are_signs", defArgs (top 27), defBody (top 27), defScope (top 27), [], []⟩) rfl
    exact ⟨_, fd, (eqO_ok (c.t.d.fact 9 (f := .glo "are_signs") rfl)), He5.fun_of F⟩
  have n_require_signs : Fn K "require_signs" sReqSigns := by
    obtain ⟨fd, F⟩ := c.t.d.def_ 10 (d := ⟨("require_signs", none), "require_signs", "require_signs", defArgs (top 28), defBody (top 28), defScope (top 28), [], []⟩) rfl
    exact ⟨_, fd, (eqO_ok (c.t.d.fact 10 (f := .glo "require_signs") rfl)), He5.fun_of F⟩
  have n_is_paper : Fn K "is_paper" sIsPaper := by
    obtain ⟨fd, F⟩ := c.t.d.def_ 11 (d := ⟨("is_paper", none), "is_paper", "is_paper", defArgs (top 29), defBody (top 29), defScope (top 29), [], []⟩) rfl
    exact ⟨_, fd, (eqO_ok (c.t.d.fact 11 (f := .glo "is_paper") rfl)), He5.fun_of F⟩
  have n_require_paper : Fn K "require_paper" sReqPaper := by
    obtain ⟨fd, F⟩ := c.t.d.def_ 12 (d := ⟨("require_paper", none), "require_paper", "require_paper", defArgs (top 30), defBody (top 30), defScope (top 30), [], []⟩) rfl
    exact ⟨_, fd, (eqO_ok (c.t.d.fact 12 (f := .glo "require_paper") rfl)), He5.fun_of F⟩
  have n_check_form : Fn K "check_form" sCheckForm := by
    obtain ⟨fd, F⟩ := c.t.d.def_ 13 (d := ⟨("check_form", none), "check_form", "check_form", defArgs (top 38), defBody (top 38), defScope (top 38), [], []⟩) rfl
    exact ⟨_, fd, (eqO_ok (c.t.d.fact 13 (f := .glo "check_form") rfl)), He5.fun_of F⟩
  have n_readings : Fn K "readings" sReadings := by
    obtain ⟨fd, F⟩ := c.t.d.def_ 14 (d := ⟨("readings", none), "readings", "readings", defArgs (top 39), defBody (top 39), defScope (top 39), [], []⟩) rfl
    exact ⟨_, fd, (eqO_ok (c.t.d.fact 14 (f := .glo "readings") rfl)), He5.fun_of F⟩
  have n_checked_form : Fn K "checked_form" sChkForm := by
    obtain ⟨fd, F⟩ := c.t.d.def_ 15 (d := ⟨("checked_form", none), "checked_form", "checked_form", defArgs (top 40), defBody (top 40), defScope (top 40), [], []⟩) rfl
    exact ⟨_, fd, (eqO_ok (c.t.d.fact 15 (f := .glo "checked_form") rfl)), He5.fun_of F⟩
  have n_is_field : Fn K "is_field" sIsField := by
    obtain ⟨fd, F⟩ := c.t.d.def_ 16 (d := ⟨("is_field", none), "is_field", "is_field", defArgs (top 41), defBody (top 41), defScope (top 41), [], []⟩) rfl
    exact ⟨_, fd, (eqO_ok (c.t.d.fact 16 (f := .glo "is_field") rfl)), He5.fun_of F⟩
  have n_is_run : Fn K "is_run" sIsRun := by
    obtain ⟨fd, F⟩ := c.t.d.def_ 17 (d := ⟨("is_run", none), "is_run", "is_run", defArgs (top 42), defBody (top 42), defScope (top 42), [], []⟩) rfl
    exact ⟨_, fd, (eqO_ok (c.t.d.fact 17 (f := .glo "is_run") rfl)), He5.fun_of F⟩
  have n_are_words : Fn K "are_words" sAreWords := by
    obtain ⟨fd, F⟩ := c.t.d.def_ 18 (d := ⟨("are_words", none), "are_words", "are_words", defArgs (top 43), defBody (top 43), defScope (top 43), [], []⟩) rfl
    exact ⟨_, fd, (eqO_ok (c.t.d.fact 18 (f := .glo "are_words") rfl)), He5.fun_of F⟩
  have n_part_lengths : Fn K "part_lengths" sPartLens := by
    obtain ⟨fd, F⟩ := c.t.d.def_ 19 (d := ⟨("part_lengths", none), "part_lengths", "part_lengths", defArgs (top 44), defBody (top 44), defScope (top 44), [], []⟩) rfl
    exact ⟨_, fd, (eqO_ok (c.t.d.fact 19 (f := .glo "part_lengths") rfl)), He5.fun_of F⟩
  have n_field_lengths : Fn K "field_lengths" sFieldLens := by
    obtain ⟨fd, F⟩ := c.t.d.def_ 20 (d := ⟨("field_lengths", none), "field_lengths", "field_lengths", defArgs (top 45), defBody (top 45), defScope (top 45), [], []⟩) rfl
    exact ⟨_, fd, (eqO_ok (c.t.d.fact 20 (f := .glo "field_lengths") rfl)), He5.fun_of F⟩
  have n__law_bag_of : Fn K "_law_bag_of" K1.sBagOf := by
    obtain ⟨fd, F⟩ := c.t.d.def_ 21 (d := ⟨("_law_bag_of", none), "_law_bag_of", "_law_bag_of", defArgs (top 47), defBody (top 47), defScope (top 47), [], []⟩) rfl
    exact ⟨_, fd, (eqO_ok (c.t.d.fact 21 (f := .glo "_law_bag_of") rfl)), He5.fun_of F⟩
  have n__law_pick : Fn K "_law_pick" K1.sPick := by
    obtain ⟨fd, F⟩ := c.t.d.def_ 22 (d := ⟨("_law_pick", none), "_law_pick", "_law_pick", defArgs (top 48), defBody (top 48), defScope (top 48), [], []⟩) rfl
    exact ⟨_, fd, (eqO_ok (c.t.d.fact 22 (f := .glo "_law_pick") rfl)), He5.fun_of F⟩
  have n__law_one_of : Fn K "_law_one_of" K1.sOneOf := by
    obtain ⟨fd, F⟩ := c.t.d.def_ 23 (d := ⟨("_law_one_of", none), "_law_one_of", "_law_one_of", defArgs (top 49), defBody (top 49), defScope (top 49), [], []⟩) rfl
    exact ⟨_, fd, (eqO_ok (c.t.d.fact 23 (f := .glo "_law_one_of") rfl)), He5.fun_of F⟩
  have n__law_mixed : Fn K "_law_mixed" K1.sMixed := by
    obtain ⟨fd, F⟩ := c.t.d.def_ 24 (d := ⟨("_law_mixed", none), "_law_mixed", "_law_mixed", defArgs (top 50), defBody (top 50), defScope (top 50), [], []⟩) rfl
    exact ⟨_, fd, (eqO_ok (c.t.d.fact 24 (f := .glo "_law_mixed") rfl)), He5.fun_of F⟩
  have n__law_name_of : Fn K "_law_name_of" sLNameOf := by
    obtain ⟨fd, F⟩ := c.t.d.def_ 25 (d := ⟨("_law_name_of", none), "_law_name_of", "_law_name_of", defArgs (top 51), defBody (top 51), defScope (top 51), [], []⟩) rfl
    exact ⟨_, fd, (eqO_ok (c.t.d.fact 25 (f := .glo "_law_name_of") rfl)), He5.fun_of F⟩
  have n__law_names_of : Fn K "_law_names_of" sLNamesOf := by
    obtain ⟨fd, F⟩ := c.t.d.def_ 26 (d := ⟨("_law_names_of", none), "_law_names_of", "_law_names_of", defArgs (top 52), defBody (top 52), defScope (top 52), [], []⟩) rfl
    exact ⟨_, fd, (eqO_ok (c.t.d.fact 26 (f := .glo "_law_names_of") rfl)), He5.fun_of F⟩
  have n__law_signs_of : Fn K "_law_signs_of" sLSignsOf := by
    obtain ⟨fd, F⟩ := c.t.d.def_ 27 (d := ⟨("_law_signs_of", none), "_law_signs_of", "_law_signs_of", defArgs (top 53), defBody (top 53), defScope (top 53), [], []⟩) rfl
    exact ⟨_, fd, (eqO_ok (c.t.d.fact 27 (f := .glo "_law_signs_of") rfl)), He5.fun_of F⟩
  have n__law_paper : Fn K "_law_paper" sLPaper := by
    obtain ⟨fd, F⟩ := c.t.d.def_ 28 (d := ⟨("_law_paper", none), "_law_paper", "_law_paper", defArgs (top 54), defBody (top 54), defScope (top 54), [], []⟩) rfl
    exact ⟨_, fd, (eqO_ok (c.t.d.fact 28 (f := .glo "_law_paper") rfl)), He5.fun_of F⟩
  have n__law_allowed : Fn K "_law_allowed" sLAllowed := by
    obtain ⟨fd, F⟩ := c.t.d.def_ 29 (d := ⟨("_law_allowed", none), "_law_allowed", "_law_allowed", defArgs (top 55), defBody (top 55), defScope (top 55), [], []⟩) rfl
    exact ⟨_, fd, (eqO_ok (c.t.d.fact 29 (f := .glo "_law_allowed") rfl)), He5.fun_of F⟩
  have n__law_field_ends : Fn K "_law_field_ends" sLFieldEnds := by
    obtain ⟨fd, F⟩ := c.t.d.def_ 30 (d := ⟨("_law_field_ends", none), "_law_field_ends", "_law_field_ends", defArgs (top 56), defBody (top 56), defScope (top 56), [], []⟩) rfl
    exact ⟨_, fd, (eqO_ok (c.t.d.fact 30 (f := .glo "_law_field_ends") rfl)), He5.fun_of F⟩
  have n__law_listed : Fn K "_law_listed" sLListed := by
    obtain ⟨fd, F⟩ := c.t.d.def_ 31 (d := ⟨("_law_listed", none), "_law_listed", "_law_listed", defArgs (top 57), defBody (top 57), defScope (top 57), [], []⟩) rfl
    exact ⟨_, fd, (eqO_ok (c.t.d.fact 31 (f := .glo "_law_listed") rfl)), He5.fun_of F⟩
  have n__law_no_list : Fn K "_law_no_list" sLNoList := by
    obtain ⟨fd, F⟩ := c.t.d.def_ 32 (d := ⟨("_law_no_list", none), "_law_no_list", "_law_no_list", defArgs (top 58), defBody (top 58), defScope (top 58), [], []⟩) rfl
    exact ⟨_, fd, (eqO_ok (c.t.d.fact 32 (f := .glo "_law_no_list") rfl)), He5.fun_of F⟩
  have n__law_same_tuple : Fn K "_law_same_tuple" sLSame := by
    obtain ⟨fd, F⟩ := c.t.d.def_ 33 (d := ⟨("_law_same_tuple", none), "_law_same_tuple", "_law_same_tuple", defArgs (top 59), defBody (top 59), defScope (top 59), [], []⟩) rfl
    exact ⟨_, fd, (eqO_ok (c.t.d.fact 33 (f := .glo "_law_same_tuple") rfl)), He5.fun_of F⟩
  have n__law_any_field : Fn K "_law_any_field" sLAnyField := by
    obtain ⟨fd, F⟩ := c.t.d.def_ 34 (d := ⟨("_law_any_field", none), "_law_any_field", "_law_any_field", defArgs (top 60), defBody (top 60), defScope (top 60), [], []⟩) rfl
    exact ⟨_, fd, (eqO_ok (c.t.d.fact 34 (f := .glo "_law_any_field") rfl)), He5.fun_of F⟩
  have n__law_any_form : Fn K "_law_any_form" sLAnyForm := by
    obtain ⟨fd, F⟩ := c.t.d.def_ 35 (d := ⟨("_law_any_form", none), "_law_any_form", "_law_any_form", defArgs (top 61), defBody (top 61), defScope (top 61), [], []⟩) rfl
    exact ⟨_, fd, (eqO_ok (c.t.d.fact 35 (f := .glo "_law_any_form") rfl)), He5.fun_of F⟩
  have n__law_paper_of : Fn K "_law_paper_of" sLPaperOf := by
    obtain ⟨fd, F⟩ := c.t.d.def_ 36 (d := ⟨("_law_paper_of", none), "_law_paper_of", "_law_paper_of", defArgs (top 62), defBody (top 62), defScope (top 62), [], []⟩) rfl
    exact ⟨_, fd, (eqO_ok (c.t.d.fact 36 (f := .glo "_law_paper_of") rfl)), He5.fun_of F⟩
  have n__law_spoilt : Fn K "_law_spoilt" sLSpoilt := by
    obtain ⟨fd, F⟩ := c.t.d.def_ 37 (d := ⟨("_law_spoilt", none), "_law_spoilt", "_law_spoilt", defArgs (top 63), defBody (top 63), defScope (top 63), [], []⟩) rfl
    exact ⟨_, fd, (eqO_ok (c.t.d.fact 37 (f := .glo "_law_spoilt") rfl)), He5.fun_of F⟩
  have n__law_wide_signs : Fn K "_law_wide_signs" sLWideSigns := by
    obtain ⟨fd, F⟩ := c.t.d.def_ 38 (d := ⟨("_law_wide_signs", none), "_law_wide_signs", "_law_wide_signs", defArgs (top 64), defBody (top 64), defScope (top 64), [], []⟩) rfl
    exact ⟨_, fd, (eqO_ok (c.t.d.fact 38 (f := .glo "_law_wide_signs") rfl)), He5.fun_of F⟩
  have n__law_rests_of : Fn K "_law_rests_of" sLRestsOf := by
    obtain ⟨fd, F⟩ := c.t.d.def_ 39 (d := ⟨("_law_rests_of", none), "_law_rests_of", "_law_rests_of", defArgs (top 65), defBody (top 65), defScope (top 65), [], []⟩) rfl
    exact ⟨_, fd, (eqO_ok (c.t.d.fact 39 (f := .glo "_law_rests_of") rfl)), He5.fun_of F⟩
  have n__law_cuts : Fn K "_law_cuts" sLCuts := by
    obtain ⟨fd, F⟩ := c.t.d.def_ 40 (d := ⟨("_law_cuts", none), "_law_cuts", "_law_cuts", defArgs (top 66), defBody (top 66), defScope (top 66), [], []⟩) rfl
    exact ⟨_, fd, (eqO_ok (c.t.d.fact 40 (f := .glo "_law_cuts") rfl)), He5.fun_of F⟩
  have n__law_wanted_of : Fn K "_law_wanted_of" sLWanted := by
    obtain ⟨fd, F⟩ := c.t.d.def_ 41 (d := ⟨("_law_wanted_of", none), "_law_wanted_of", "_law_wanted_of", defArgs (top 67), defBody (top 67), defScope (top 67), [], []⟩) rfl
    exact ⟨_, fd, (eqO_ok (c.t.d.fact 41 (f := .glo "_law_wanted_of") rfl)), He5.fun_of F⟩
  have n__law_told_of : Fn K "_law_told_of" sLToldOf := by
    obtain ⟨fd, F⟩ := c.t.d.def_ 42 (d := ⟨("_law_told_of", none), "_law_told_of", "_law_told_of", defArgs (top 68), defBody (top 68), defScope (top 68), [], []⟩) rfl
    exact ⟨_, fd, (eqO_ok (c.t.d.fact 42 (f := .glo "_law_told_of") rfl)), He5.fun_of F⟩
  have n__law_refuses : Fn K "_law_refuses" sLRefuses := by
    obtain ⟨fd, F⟩ := c.t.d.def_ 43 (d := ⟨("_law_refuses", none), "_law_refuses", "_law_refuses", defArgs (top 69), defBody (top 69), defScope (top 69), [], []⟩) rfl
    exact ⟨_, fd, (eqO_ok (c.t.d.fact 43 (f := .glo "_law_refuses") rfl)), He5.fun_of F⟩
  have n__law_many_ways : Fn K "_law_many_ways" sLManyWays := by
    obtain ⟨fd, F⟩ := c.t.d.def_ 44 (d := ⟨("_law_many_ways", none), "_law_many_ways", "_law_many_ways", defArgs (top 70), defBody (top 70), defScope (top 70), [], []⟩) rfl
    exact ⟨_, fd, (eqO_ok (c.t.d.fact 44 (f := .glo "_law_many_ways") rfl)), He5.fun_of F⟩
  have n__law_bad_paper : Fn K "_law_bad_paper" sLBadPaper := by
    obtain ⟨fd, F⟩ := c.t.d.def_ 45 (d := ⟨("_law_bad_paper", none), "_law_bad_paper", "_law_bad_paper", defArgs (top 71), defBody (top 71), defScope (top 71), [], []⟩) rfl
    exact ⟨_, fd, (eqO_ok (c.t.d.fact 45 (f := .glo "_law_bad_paper") rfl)), He5.fun_of F⟩
  have n__law_cuttings : Fn K "_law_cuttings" sLCuttings := by
    obtain ⟨fd, F⟩ := c.t.d.def_ 46 (d := ⟨("_law_cuttings", none), "_law_cuttings", "_law_cuttings", defArgs (top 72), defBody (top 72), defScope (top 72), [], []⟩) rfl
    exact ⟨_, fd, (eqO_ok (c.t.d.fact 46 (f := .glo "_law_cuttings") rfl)), He5.fun_of F⟩
  have n__law_same : Fn K "_law_same" sLSameG := by
    obtain ⟨fd, F⟩ := c.t.d.def_ 47 (d := ⟨("_law_same", none), "_law_same", "_law_same", defArgs (top 73), defBody (top 73), defScope (top 73), [], []⟩) rfl
    exact ⟨_, fd, (eqO_ok (c.t.d.fact 47 (f := .glo "_law_same") rfl)), He5.fun_of F⟩
  have n_law : Fn K "law" sLaw := by
    obtain ⟨fd, F⟩ := c.t.d.def_ 48 (d := ⟨("law", none), "law", "law", defArgs (top 74), defBody (top 74), defScope (top 74), [], []⟩) rfl
    exact ⟨_, fd, (eqO_ok (c.t.d.fact 48 (f := .glo "law") rfl)), He5.fun_of F⟩
  have B : Bl mg := ⟨free_ok X G (c.t.d.fact 54 (f := .free "len") rfl), free_ok X G (c.t.d.fact 55 (f := .free "sum") rfl), free_ok X G (c.t.d.fact 56 (f := .free "abs") rfl), free_ok X G (c.t.d.fact 57 (f := .free "int") rfl), free_ok X G (c.t.d.fact 58 (f := .free "range") rfl), free_ok X G (c.t.d.fact 59 (f := .free "list") rfl), free_ok X G (c.t.d.fact 60 (f := .free "tuple") rfl), free_ok X G (c.t.d.fact 61 (f := .free "str") rfl), free_ok X G (c.t.d.fact 62 (f := .free "bool") rfl), free_ok X G (c.t.d.fact 63 (f := .free "sorted") rfl), free_ok X G (c.t.d.fact 64 (f := .free "all") rfl), free_ok X G (c.t.d.fact 65 (f := .free "min") rfl), free_ok X G (c.t.d.fact 66 (f := .free "isinstance") rfl), free_ok X G (c.t.d.fact 67 (f := .free "max") rfl), free_ok X G (c.t.d.fact 68 (f := .free "any") rfl), free_ok X G (c.t.d.fact 69 (f := .free "repr") rfl), free_ok X G (c.t.d.fact 70 (f := .free "set") rfl), free_ok X G (c.t.d.fact 71 (f := .free "zip") rfl), free_ok X G (c.t.d.fact 72 (f := .free "enumerate") rfl)⟩
  have Gk : G11 K w mg (ga K "NO_NAMES") (ga K "NO_NAMES") := ⟨int_ok X G (c.t.d.fact 74 (f := .int "LEAST_KINDS" 2) rfl), int_ok X G (c.t.d.fact 75 (f := .int "MOST_KINDS" 12) rfl), int_ok X G (c.t.d.fact 76 (f := .int "MOST_SIGNS" 60) rfl), int_ok X G (c.t.d.fact 77 (f := .int "MOST_LETTERS" 8) rfl), int_ok X G (c.t.d.fact 78 (f := .int "MOST_FIELDS" 6) rfl), int_ok X G (c.t.d.fact 79 (f := .int "MOST_LEAST" 12) rfl), int_ok X G (c.t.d.fact 80 (f := .int "MOST_RUN" 12) rfl), int_ok X G (c.t.d.fact 81 (f := .int "MOST_WORDS" 12) rfl), int_ok X G (c.t.d.fact 82 (f := .int "MOST_WORD_SIGNS" 4) rfl), int_ok X G (c.t.d.fact 83 (f := .int "MOST_READINGS" 500) rfl), str_ok X G (c.t.d.fact 84 (f := .str "ALL_SIGNS" K4.ALL) rfl), str_ok X G (c.t.d.fact 85 (f := .str "LETTERS" "abcdefghijklmnopqrstuvwxyz") rfl), (glo_ok X G (c.t.d.fact 53 (f := .glo "NO_NAMES") rfl)), Hd.tupAtB_ok (exAt c 0 (e := fun K => Hd.tupAtB K (ga K "NO_NAMES") K4.nnQ) rfl)⟩
  obtain ⟨fdP, TP⟩ : ∃ fd, ErrP PROG K mg (ga K "BadPaper") (ma K (ga K "BadPaper") "__init__") fd := by
    obtain ⟨sin, subC, subV⟩ := Hd.supB_ok (exAt c 4 (e := fun K => Hd.supB K (ga K "BadPaper")) rfl)
    obtain ⟨oc, od, kV, doc, pm, an, ct, osl, cda, cc, ccl, cdd, vs, ccs, file, tf, cl0, cld, csl, lk, hcd, lcd, hvs, hfile, lcc⟩ := Hd.init_ok (P := PROG) (d := ⟨("BadPaper", some "__init__"), "BadPaper.__init__", defArgs (inClass (top 4) 0), defBody (inClass (top 4) 0), defScope (inClass (top 4) 0)⟩) (c.init 0 rfl) (exAt c 7 (e := fun K => Hd.initB PROG K ("BadPaper", some "__init__") "BadPaper.__init__" (ga K "BadPaper")) rfl)
    exact ⟨_, ⟨⟨⟨oc, od, kV, doc, pm, an, ct, osl, cda, cc, ccl, cdd, vs, ccs, file, tf, cl0, cld, csl, rfl, lk, hcd, lcd, hvs, hfile, lcc⟩, by kernel_rfl, eqO_ok (exAt c 1 (e := fun K => eqO (PySem.W.nsIn K cStatics "thirdparty.any") (some none)) rfl), free_ok X G (c.t.d.fact 73 (f := .free "super") rfl), Hd.oexB_ok (exAt c 2 (e := fun K => Hd.oexB K (ga K "BadPaper")) rfl), sin, subC, subV, eqO_ok (exAt c 8 (e := fun K => eqO (PySem.W.findIn K (.ref (ga K "BadPaper")) "paper") (some none)) rfl)⟩, (glo_ok X G (c.t.d.fact 52 (f := .glo "BadPaper") rfl)), eqO_ok (exAt c 9 (e := fun K => eqO (PySem.W.findIn K (.ref (ga K "BadPaper")) "__init__") (some (some (.ref (ma K (ga K "BadPaper") "__init__"))))) rfl), of_decide_eq_true (exAt c 10 (e := fun K => decide (PySem.W.typeIn K (.ref (ma K (ga K "BadPaper") "__init__")) = some (.type "function"))) rfl), fun s us _ hl => match us, hl with | [_, _], _ => .of_eq rfl⟩⟩
  obtain ⟨fdM, TM⟩ : ∃ fd, ErrM PROG K mg (ga K "TooMany") (ma K (ga K "TooMany") "__init__") fd := by
    obtain ⟨sin, subC, subV⟩ := Hd.supB_ok (exAt c 13 (e := fun K => Hd.supB K (ga K "TooMany")) rfl)
    obtain ⟨oc, od, kV, doc, pm, an, ct, osl, cda, cc, ccl, cdd, vs, ccs, file, tf, cl0, cld, csl, lk, hcd, lcd, hvs, hfile, lcc⟩ := Hd.init_ok (P := PROG) (d := ⟨("TooMany", some "__init__"), "TooMany.__init__", defArgs (inClass (top 6) 0), defBody (inClass (top 6) 0), defScope (inClass (top 6) 0)⟩) (c.init 1 rfl) (exAt c 16 (e := fun K => Hd.initB PROG K ("TooMany", some "__init__") "TooMany.__init__" (ga K "TooMany")) rfl)
    exact ⟨_, ⟨⟨⟨oc, od, kV, doc, pm, an, ct, osl, cda, cc, ccl, cdd, vs, ccs, file, tf, cl0, cld, csl, rfl, lk, hcd, lcd, hvs, hfile, lcc⟩, by kernel_rfl, eqO_ok (exAt c 1 (e := fun K => eqO (PySem.W.nsIn K cStatics "thirdparty.any") (some none)) rfl), free_ok X G (c.t.d.fact 73 (f := .free "super") rfl), Hd.oexB_ok (exAt c 11 (e := fun K => Hd.oexB K (ga K "TooMany")) rfl), sin, subC, subV, eqO_ok (exAt c 17 (e := fun K => eqO (PySem.W.findIn K (.ref (ga K "TooMany")) "what") (some none)) rfl)⟩, (glo_ok X G (c.t.d.fact 51 (f := .glo "TooMany") rfl)), eqO_ok (exAt c 18 (e := fun K => eqO (PySem.W.findIn K (.ref (ga K "TooMany")) "__init__") (some (some (.ref (ma K (ga K "TooMany") "__init__"))))) rfl), of_decide_eq_true (exAt c 19 (e := fun K => decide (PySem.W.typeIn K (.ref (ma K (ga K "TooMany") "__init__")) = some (.type "function"))) rfl), fun s us _ hl => match us, hl with | [_, _], _ => .of_eq rfl⟩⟩
  have KMf : KM K mg (ga K "TooMany") := ⟨(glo_ok X G (c.t.d.fact 51 (f := .glo "TooMany") rfl)), exm_ok (c.t.d.fact 86 (f := .exm "TooMany" "TooMany" true) rfl), xfB_ok (exAt c 14 (e := fun K => xfB K (ga K "TooMany")) rfl), eqO_ok (exAt c 17 (e := fun K => eqO (PySem.W.findIn K (.ref (ga K "TooMany")) "what") (some none)) rfl)⟩
  have KPf : KP K mg (ga K "BadPaper") (ga K "TooMany") (ga K "CarryError") (ga K "Malformed") := ⟨(glo_ok X G (c.t.d.fact 49 (f := .glo "CarryError") rfl)), (glo_ok X G (c.t.d.fact 52 (f := .glo "BadPaper") rfl)), (glo_ok X G (c.t.d.fact 50 (f := .glo "Malformed") rfl)), (glo_ok X G (c.t.d.fact 51 (f := .glo "TooMany") rfl)), exm_ok (c.t.d.fact 87 (f := .exm "BadPaper" "CarryError" true) rfl), Hd.excB_ok (exAt c 3 (e := fun K => Hd.excB K (ga K "BadPaper")) rfl), xfB_ok (exAt c 5 (e := fun K => xfB K (ga K "BadPaper")) rfl), (exAt c 6 (e := fun K => (PySem.W.clsIn K (ga K "BadPaper")).isSome) rfl), of_decide_eq_true (exAt c 20 (e := fun K => Hd.kitB1 K (ga K "BadPaper") (ga K "BadPaper") true) rfl), of_decide_eq_true (exAt c 21 (e := fun K => Hd.kitB1 K (ga K "BadPaper") (ga K "Malformed") true) rfl), of_decide_eq_true (exAt c 22 (e := fun K => Hd.kitB1 K (ga K "BadPaper") (ga K "TooMany") false) rfl), eqO_ok (exAt c 8 (e := fun K => eqO (PySem.W.findIn K (.ref (ga K "BadPaper")) "paper") (some none)) rfl)⟩
  obtain ⟨flw, fdlw, alw, Flw⟩ := n_law
  have e := hfa.symm.trans (PySem.W.mg_of X G alw)
  cases e
  refine ⟨fdlw, fun s u => ?_, fun base _ _ => ?_⟩
  · obtain ⟨oc, od, kV, doc, pm, an, cdv, ct, osl, rfl, _⟩ := Flw.ex
    exact .of_eq rfl
  · skip
    have Ot := own_of (P := PROG) (w := w) (base := base) X G n_is_text (fun f fd F => ok_isText F B) (fun _ _ _ _ _ _ us hl => match us, hl with | [_, _, _, _], _ => rfl)
    have Oa := own_of (P := PROG) (w := w) (base := base) X G n_is_ascending (fun f fd F => ok_isAsc F B) (fun _ _ _ _ _ _ us hl => match us, hl with | [_], _ => rfl)
    have Oars := own_of (P := PROG) (w := w) (base := base) X G n_are_signs (fun f fd F => ok_areSigns F Gk Ot Oa) (fun _ _ _ _ _ _ us hl => match us, hl with | [_], _ => rfl)
    have Owh := own_of (P := PROG) (w := w) (base := base) X G n_is_whole (fun f fd F => ok_isWhole F B) (fun _ _ _ _ _ _ us hl => match us, hl with | [_], _ => rfl)
    have Owi := own_of (P := PROG) (w := w) (base := base) X G n_is_within (fun f fd F => ok_isWithin F B Owh) (fun _ _ _ _ _ _ us hl => match us, hl with | [_, _, _], _ => rfl)
    have Oit := own_of (P := PROG) (w := w) (base := base) X G n_is_tuple (fun f fd F => ok_isTuple F B) (fun _ _ _ _ _ _ us hl => match us, hl with | [_], _ => rfl)
    have Ito := own_of (P := PROG) (w := w) (base := base) X G n_is_tuple_of (fun f fd F => ok_isTupleOf F B Oit) (fun _ _ _ _ _ _ us hl => match us, hl with | [_, _, _], _ => rfl)
    have Oip := own_of (P := PROG) (w := w) (base := base) X G n_is_paper (fun f fd F => ok_isPaper F Gk Ot) (fun _ _ _ _ _ _ us hl => match us, hl with | [_, _], _ => rfl)
    have Oas : OAsT 4 PROG w K mg base := by
      obtain ⟨f, fd, a, F⟩ := id n_as_tuples
      exact as_all F B Oit (PySem.W.mg_of X G a) (F.binds (fun _ _ _ _ _ _ us hl => match us, hl with | [_], _ => rfl)) 4
    have Ofd := own_of (P := PROG) (w := w) (base := base) X G n_first_double (fun f fd F => ok_firstD F B) (fun _ _ _ _ _ _ us hl => match us, hl with | [_], _ => rfl)
    have Onm := own_of (P := PROG) (w := w) (base := base) X G n_is_name (fun f fd F => ok_isName F B Gk Ot) (fun _ _ _ _ _ _ us hl => match us, hl with | [_], _ => rfl)
    have Ors := own_of (P := PROG) (w := w) (base := base) X G n_require_signs (fun f fd F => ok_reqS0 F B Oars) (fun _ _ _ _ _ _ us hl => match us, hl with | [_], _ => rfl)
    have Orp := ownX_of (P := PROG) (w := w) (base := base) X G n_require_paper (fun f fd F => ok_reqP F TP Oip) (fun _ _ _ _ _ _ us hl => match us, hl with | [_, _], _ => rfl)
    have Oru := own_of (P := PROG) (w := w) (base := base) X G n_is_run (fun f fd F => ok_isRun F B Gk Ot Oa Owi) (fun _ _ _ _ _ _ us hl => match us, hl with | [_, _, _, _], _ => rfl)
    have Oaw := own_of (P := PROG) (w := w) (base := base) X G n_are_words (fun f fd F => ok_areWords F B Gk Ito Ot Ofd) (fun _ _ _ _ _ _ us hl => match us, hl with | [_, _], _ => rfl)
    have Ofl := own_of (P := PROG) (w := w) (base := base) X G n_is_field (fun f fd F => ok_isField F B Ito Onm Oru Oaw) (fun _ _ _ _ _ _ us hl => match us, hl with | [_, _], _ => rfl)
    have Ocf := own_of (P := PROG) (w := w) (base := base) X G n_checked_form (fun f fd F => ok_chkForm F B Gk Ito Ofl Ofd Oas) (fun _ _ _ _ _ _ us hl => match us, hl with | [_, _], _ => rfl)
    have Ockf := own_of (P := PROG) (w := w) (base := base) X G n_check_form (fun f fd F => ok_checkForm F Ors Ocf) (fun _ _ _ _ _ _ us hl => match us, hl with | [_, _], _ => rfl)
    have Oflen := own_of (P := PROG) (w := w) (base := base) X G n_field_lengths (fun f fd F => ok_fieldLens F B) (fun _ _ _ _ _ _ us hl => match us, hl with | [_, _, _], _ => rfl)
    have Opl := own_of (P := PROG) (w := w) (base := base) X G n_part_lengths (fun f fd F => ok_partLens F B Oflen) (fun _ _ _ _ _ _ us hl => match us, hl with | [_, _], _ => rfl)
    obtain ⟨fV, fdV, aV, FVt⟩ := id n_readings
    have GV := ok_readings (P := PROG) (w := w) (base := base) FVt B Gk TM Ockf Orp Opl
    have bV := FVt.binds (ps := ["signs", "form", "paper"]) (fun _ _ _ _ _ _ us hl => match us, hl with | [_, _, _], _ => rfl)
    have Op := own_of (P := PROG) (w := w) (base := base) X G n__law_pick (fun f fd F => ok_pick F B) (fun _ _ _ _ _ _ us hl => match us, hl with | [_, _], _ => rfl)
    have Ob := own_of (P := PROG) (w := w) (base := base) X G n__law_bag_of (fun f fd F => ok_bagOf F B) (fun _ _ _ _ _ _ us hl => match us, hl with | [_, _], _ => rfl)
    have Oo := own_of (P := PROG) (w := w) (base := base) X G n__law_one_of (fun f fd F => ok_oneOf F B Op) (fun _ _ _ _ _ _ us hl => match us, hl with | [_, _], _ => rfl)
    have OoA := own_of (P := PROG) (w := w) (base := base) X G n__law_one_of (fun f fd F => ok_oneOfA F B Op) (fun _ _ _ _ _ _ us hl => match us, hl with | [_, _], _ => rfl)
    have Omx := own_of (P := PROG) (w := w) (base := base) X G n__law_mixed (fun f fd F => ok_mixedL F B Op) (fun _ _ _ _ _ _ us hl => match us, hl with | [_, _], _ => rfl)
    have Oso := own_of (P := PROG) (w := w) (base := base) X G n__law_signs_of (fun f fd F => ok_signsOf F B Op) (fun _ _ _ _ _ _ us hl => match us, hl with | [_, _], _ => rfl)
    have Ows := own_of (P := PROG) (w := w) (base := base) X G n__law_wide_signs (fun f fd F => ok_wideSigns F B Op Oso) (fun _ _ _ _ _ _ us hl => match us, hl with | [_], _ => rfl)
    have Opa := own_of (P := PROG) (w := w) (base := base) X G n__law_paper (fun f fd F => ok_paperOf F B Op Oo) (fun _ _ _ _ _ _ us hl => match us, hl with | [_, _, _], _ => rfl)
    have Ono := own_of (P := PROG) (w := w) (base := base) X G n__law_name_of (fun f fd F => ok_nameOf F B Op Oo) (fun _ _ _ _ _ _ us hl => match us, hl with | [_, _], _ => rfl)
    have Ons := own_of (P := PROG) (w := w) (base := base) X G n__law_names_of (fun f fd F => ok_namesOf F B Ono) (fun _ _ _ _ _ _ us hl => match us, hl with | [_, _, _], _ => rfl)
    have Oal := own_of (P := PROG) (w := w) (base := base) X G n__law_allowed (fun f fd F => ok_allowed F B Op Oo) (fun _ _ _ _ _ _ us hl => match us, hl with | [_, _], _ => rfl)
    have Oafd := own_of (P := PROG) (w := w) (base := base) X G n__law_any_field (fun f fd F => ok_anyField F B Op Oo Opa Oal) (fun _ _ _ _ _ _ us hl => match us, hl with | [_, _, _], _ => rfl)
    have Oaf := own_of (P := PROG) (w := w) (base := base) X G n__law_any_form (fun f fd F => ok_anyForm F B Op Ons Oafd) (fun _ _ _ _ _ _ us hl => match us, hl with | [_, _, _], _ => rfl)
    have Opf := own_of (P := PROG) (w := w) (base := base) X G n__law_paper_of (fun f fd F => ok_paperF F B Op OoA) (fun _ _ _ _ _ _ us hl => match us, hl with | [_, _], _ => rfl)
    have Osp := own_of (P := PROG) (w := w) (base := base) X G n__law_spoilt (fun f fd F => ok_spoilt F B Op Oo) (fun _ _ _ _ _ _ us hl => match us, hl with | [_, _, _], _ => rfl)
    have Obp := own_of (P := PROG) (w := w) (base := base) X G n__law_bad_paper (fun f fd F => ok_badPaper F B Op Oo) (fun _ _ _ _ _ _ us hl => match us, hl with | [_, _, _], _ => rfl)
    have Ofe := own_of (P := PROG) (w := w) (base := base) X G n__law_field_ends (fun f fd F => ok_fieldEnds F B) (fun _ _ _ _ _ _ us hl => match us, hl with | [_, _, _], _ => rfl)
    have Oro := own_of (P := PROG) (w := w) (base := base) X G n__law_rests_of (fun f fd F => ok_restsOf F B Ofe) (fun _ _ _ _ _ _ us hl => match us, hl with | [_, _], _ => rfl)
    have Ocu := own_of (P := PROG) (w := w) (base := base) X G n__law_cuts (fun f fd F => ok_cuts F B Ofe) (fun _ _ _ _ _ _ us hl => match us, hl with | [_, _, _], _ => rfl)
    have Owa := own_of (P := PROG) (w := w) (base := base) X G n__law_wanted_of (fun f fd F => ok_wanted F B Oro Ocu) (fun _ _ _ _ _ _ us hl => match us, hl with | [_, _], _ => rfl)
    have Ocut := own_of (P := PROG) (w := w) (base := base) X G n__law_cuttings (fun f fd F => ok_cuttings F B Ofe) (fun _ _ _ _ _ _ us hl => match us, hl with | [_, _], _ => rfl)
    have Omw := own_of (P := PROG) (w := w) (base := base) X G n__law_many_ways (fun f fd F => ok_manyWays F B Op Ons Omx) (fun _ _ _ _ _ _ us hl => match us, hl with | [_, _, _], _ => rfl)
    have Oll : OLL 4 PROG w K mg base := by
      obtain ⟨f, fd, a, F⟩ := id n__law_listed
      exact ll_all F B (PySem.W.mg_of X G a) (F.binds (fun _ _ _ _ _ _ us hl => match us, hl with | [_], _ => rfl)) 4
    have Onl : ONL 5 PROG w K mg base := by
      obtain ⟨f, fd, a, F⟩ := id n__law_no_list
      exact nl_all F B (PySem.W.mg_of X G a) (F.binds (fun _ _ _ _ _ _ us hl => match us, hl with | [_], _ => rfl)) 5
    have Ost := own_of (P := PROG) (w := w) (base := base) X G n__law_same_tuple (fun f fd F => ok_sameT F B Onl) (fun _ _ _ _ _ _ us hl => match us, hl with | [_, _], _ => rfl)
    have Osg := own_of (P := PROG) (w := w) (base := base) X G n__law_same (fun f fd F => ok_sameG F B Ost) (fun _ _ _ _ _ _ us hl => match us, hl with | [_, _], _ => rfl)
    have Oto := own_of (P := PROG) (w := w) (base := base) X G n__law_told_of (fun f fd F => ok_toldOf F GV (PySem.W.mg_of X G aV) FVt.kp bV KMf) (fun _ _ _ _ _ _ us hl => match us, hl with | [_, _, _], _ => rfl)
    have Ore := own_of (P := PROG) (w := w) (base := base) X G n__law_refuses (fun f fd F => ok_refuses F B GV (PySem.W.mg_of X G aV) FVt.kp bV KPf) (fun _ _ _ _ _ _ us hl => match us, hl with | [_, _, _], _ => rfl)
    exact ok_law Flw B Ob Ows Oaf Opf Op Osp Omw Oo Ocut Oll Owa Osg Oto Obp Ore

end HdK19

/-! K19E -/
open PySem PySem.W PySem.Calls PyProof.Rows
set_option maxRecDepth 100000 in
set_option maxHeartbeats 0 in
theorem PySem.Challenge.cw_handcarried_k19_readings_holds : PySem.Challenge.rw_handcarried_k19_readings.Holds := by
  w_on; o_law
  refine HandSHeadRun.head_any (r := OpenLaw.row PySem.Challenge.rw_handcarried_k19_readings) (q := HdK19.qv) (H := HdK19.hk) (ob := HdK19.ob) (M := 9000) (loose := HdK19.names) (d := HandSHeadRun.topDef (OpenLaw.row PySem.Challenge.rw_handcarried_k19_readings).prog 74) (kwd := []) HdK19.ob_eq
    (by kernel_rfl) (fun s => by kernel_rfl) HdK19.run (by kernel_rfl) (by kernel_rfl) (by kernel_rfl) (by rfl) (by first | assumption | decide +kernel) (by decide +kernel) ⟨rfl, rfl, rfl, rfl, rfl, by decide +kernel⟩ ?hw ?hc
  case hw => w_witness2
  case hc =>
    refine L2.walk_ofE (l := PySem.Challenge.rw_handcarried_k19_readings) (n := 63) (k := 12) (x := "_law_script") (CX := L2.CX0) rfl (by decide) (by kernel_rfl) ⟨rfl, by decide, by decide⟩ ?F (fun _ _ _ _ z => z)
    intro w mg fa h Y G hmg0
    obtain ⟨K, KX, c⟩ := Y
    have hmg : mg ("law" : PySem.Str) = some (.ref fa) := by
      have e : (HandSHeadRun.topDef (OpenLaw.row PySem.Challenge.rw_handcarried_k19_readings).prog 74).name = ("law" : PySem.Str) := by kernel_rfl
      rw [← e]
      exact hmg0
    obtain ⟨fd, hb, hF⟩ := HdK19.all_mk (w := w) KX G hmg c
    exact ⟨K, fd, K4.spLaw K, KX, hb, fun H a ns hl _ hS => ⟨a, ns, rfl, hS, hl, fun _ => rfl⟩, hF⟩
