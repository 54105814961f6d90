import PyProof.Rows.All
import Wide.All
import OpenK.AllK
import Wide.FinOn
import HandS.Base
import HandS.Call
import HandS.List
import HandS.Comp
import HandS.Ends
import HandS.Dict
import HandS.Iter
import HandS.Text
import HandS.Words
import HandS.WordsList
import HandS.WordsDict
import HandS.Wide
import HandS.IsInst
import HandS.Codes
import HandS.Property
import HandS.ClsMeth
import HandS.Defaults
import HandS.MakeKw
import HandS.CallLocal
import HandS.CallSlots
import HandS.Exc
import HandS.ExcInit
import HandS.ExcField
import HandS.ExcIs
import HandS.ExcOwn
import HandS.TryOnly
import HandS.WordsExc
import HandS.Gcd
import HandS.FStr
import HandS.StrMore
import HandS.WideBits
import HandS.Style
import HandS.OwnEq
import OpenK.KMeth
import KE.KOpsOwn
import HandS.TupAny
import PyProof.InstEq
import HandS.HotCalls
import PySem.Challenge.RW_extralink_k03_ratio_sums
set_option Elab.async false
set_option linter.all false
set_option maxRecDepth 100000
/-! My own rules beside the hand layer's: an item of a list read for a store in place, a text backwards, a call by keywords alone; what is said of lists of ints as data. -/
namespace My
open PySem PySem.Spec PyProof.Rows L2

/-! ### rules -/
section
variable {X : Cx}
def rGetL (K : PySem.W.Frag) : V → V → Hp → VK → Prop := fun x y H Q => ∃ p xs i v, x = .ref p ∧ y = .int i ∧ SqL K H p xs ∧ 0 ≤ i ∧ atI xs i = some v ∧ Q v H
theorem get_list : PGet X (rGetL X.K) := by
  intro pins s σ H o i ov iv Q I ro ri h
  obtain ⟨p, xs, k, z, rfl, rfl, hq, h0, he, q⟩ := h
  cases ro
  obtain ⟨t, rfl⟩ := ri
  obtain ⟨its, r, pl, hz⟩ := I.list hq
  obtain ⟨j, h1, h2, h3, h4, h5⟩ := atI_get he
  obtain ⟨w, ew, rw'⟩ := r.get h2
  have hl := r.length
  have hn := line63
  have hj : k.toNat = j := by
    rw [seqIndex_of h0 h5] at h1
    exact Option.some.inj h1
  exact wpAny_getItem_list pl.isList h0 (by omega) (by rw [hj]; simpa using ew) ⟨z, H, I, rw', q⟩

def revS (z : Str) : Str := ⟨z.cps.reverse⟩
def tRevS (te : TE) : TE := fun σ H Q => te σ H fun x H1 => ∃ z, x = .str z ∧ z.length ≤ sizeLine ∧ Q (.str (revS z)) H1
theorem range_back (n : Nat) : sliceRange ((n : Int) - 1) (-1) (-1) = (List.range n).map fun k => n - 1 - k := by
  unfold sliceRange
  have e : (if (-1 : Int) > 0 then (if ((n : Int) - 1) < -1 then (-1 - ((n : Int) - 1) + -1 - 1) / -1 else 0) else (if ((n : Int) - 1) > -1 then (((n : Int) - 1) - -1 - -1 - 1) / (- -1) else 0)).toNat = n := by
    rw [if_neg (by decide)]
    by_cases h : ((n : Int) - 1) > -1
    · rw [if_pos h, show (- -1 : Int) = 1 by decide, Int.ediv_one]
      omega
    · rw [if_neg h]
      omega
  show List.map (fun (k : Nat) => (((n : Int) - 1) + (-1) * (k : Int)).toNat) (List.range (Int.toNat (if (-1 : Int) > 0 then (if ((n : Int) - 1) < -1 then (-1 - ((n : Int) - 1) + -1 - 1) / -1 else 0) else (if ((n : Int) - 1) > -1 then (((n : Int) - 1) - -1 - -1 - 1) / (- -1) else 0)))) = _
  rw [e]
  refine List.map_congr_left fun k hk => ?_
  have := List.mem_range.mp hk
  omega
theorem filterMap_back (z : Array Nat) : (((List.range z.size).map fun k => z.size - 1 - k).filterMap (z[·]?)) = z.toList.reverse := by
  refine List.ext_getElem? fun i => ?_
  have e : (((List.range z.size).map fun k => z.size - 1 - k).filterMap (z[·]?)) = (List.range z.size).map fun k => z.getD (z.size - 1 - k) 0 := by
    rw [List.filterMap_map]
    have : ∀ l : List Nat, (∀ k ∈ l, k < z.size) → l.filterMap ((fun x => z[x]?) ∘ fun k => z.size - 1 - k) = l.map fun k => z.getD (z.size - 1 - k) 0 := by
      intro l
      induction l with
      | nil => intro _; rfl
      | cons a r ih =>
        intro h
        have ha := h a List.mem_cons_self
        have hb : z.size - 1 - a < z.size := by omega
        rw [List.filterMap_cons]
        have e1 : ((fun x => z[x]?) ∘ fun k => z.size - 1 - k) a = some (z.getD (z.size - 1 - a) 0) := by
          show z[z.size - 1 - a]? = _
          rw [Array.getElem?_eq_getElem hb]
          simp [Array.getD, hb]
        rw [e1, List.map_cons, ih fun k hk => h k (List.mem_cons_of_mem _ hk)]
    exact this _ fun k hk => List.mem_range.mp hk
  rw [e, List.getElem?_map]
  by_cases hi : i < z.size
  · rw [List.getElem?_range hi, List.getElem?_reverse (by simpa using hi)]
    have hb : z.size - 1 - i < z.size := by omega
    simp [Array.getD, hb]
  · rw [List.getElem?_eq_none (by simpa using hi), List.getElem?_eq_none (by simpa using hi)]
    rfl
theorem pe_revS {e : Expr} {te : TE} {k : Nat} {p1 p2 p3 pos : Pos} (he : PE X e te) : PE X (.Subscript e (.Slice none none (some (.UnaryOp .USub (.Constant (.int 1) k p1) p2)) p3) pos) (tRevS te) := by
  refine ⟨fun pins s σ H Q I h => ?_⟩
  refine Subscript_ (thn (he.run pins s σ H _ I h) fun v s1 ⟨x, H1, I1, r1, q1⟩ => ?_)
  obtain ⟨z, ex, hz, q⟩ := q1
  subst ex
  obtain ⟨tz, rfl⟩ := r1
  have hst : PO X (some (.UnaryOp .USub (.Constant (.int 1) k p1) p2)) (tPart (tUn (rU fun i => .int (-i)) (tC (.int 1)))) := po_some (pe_un un_neg pe_int)
  refine wpAny_Slice (thn (po_none.run pins s1 σ H1 (fun o H2 => o = none ∧ H2 = H1) I1 ⟨rfl, rfl⟩) fun vl s2 ⟨l, H2, I2, pl, el, e2⟩ => ?_)
  subst el e2
  refine thn (po_none.run pins s2 σ H2 (fun o H3 => o = none ∧ H3 = H2) I2 ⟨rfl, rfl⟩) fun vu s3 ⟨u, H3, I3, pu, eu, e3⟩ => ?_
  subst eu e3
  refine thn (hst.run pins s3 σ H3 (fun o H4 => o = some (-1) ∧ H4 = H3) I3 ⟨1, rfl, -1, rfl, rfl, rfl⟩) fun vs s4 ⟨o, H4, I4, ps, eo, e4⟩ => ?_
  subst eo e4
  have I5 : Inv X pins σ H4 { s4 with heap := s4.heap.push { cls := .type "slice", data := .fields #[vl, vu, vs] } } := I4.kept (t' := s4.toks) fun b ob q => Heap.get?_push_of_some _ q
  obtain ⟨l, rfl, el⟩ := IsPart.raw pl
  obtain ⟨u, rfl, eu⟩ := IsPart.raw pu
  obtain ⟨st, rfl, est⟩ := IsPart.raw ps
  cases l with
  | some _ => cases el
  | none =>
  cases u with
  | some _ => cases eu
  | none =>
  cases st with
  | none => cases est
  | some st =>
  obtain ⟨k1, tk⟩ := st
  have ek : k1 = -1 := Option.some.inj est
  subst ek
  show wpAny (model X.prog X.w) X.A (subscriptTail e (.Slice none none (some (.UnaryOp .USub (.Constant (.int 1) k p1) p2)) p3) (.str z tz) (.ref s4.heap.objs.size)) (EP X pins σ Q) X.xe { s4 with heap := s4.heap.push { cls := .type "slice", data := .fields #[.none, .none, .int (-1) tk] } }
  refine tail_any (ops := [.ref s4.heap.objs.size, .str z tz]) (typeIs_str _ _ _) F.slot_str_getitem.lookup ?_ (by with_unfolding_all rfl)
  refine wpAny_getItem_str_slice (l := none) (u := none) (st := some (-1, tk)) ⟨_, Heap.get?_push_size _ rfl, rfl, rfl⟩ rfl ?_
  have hp : slicePicked z none none (some (-1, tk)) = (List.range z.cps.size).map fun k => z.cps.size - 1 - k := by
    show Builtin.Str.strSliceIndices none none (-1) z.length = _
    unfold Builtin.Str.strSliceIndices
    exact range_back z.length
  have hr : (⟨((slicePicked z none none (some (-1, tk))).filterMap (z.cps[·]?)).toArray⟩ : Str) = revS z := by
    rw [hp, filterMap_back]
    unfold revS
    congr 1
    apply Array.ext'
    simp
  show Made.post (if ((-1 : Int) == 1 && (slicePicked z none none (some (-1, tk))).length == z.length) = true then Made.val (.str z tz) else Made.str ⟨((slicePicked z none none (some (-1, tk))).filterMap (z.cps[·]?)).toArray⟩) (EP X pins σ Q) _
  rw [if_neg (by rw [show ((-1 : Int) == 1) = false by decide, Bool.false_and]; exact Bool.false_ne_true), hr]
  refine ⟨?_, .str _, H4, I5.tok _, ⟨_, rfl⟩, q⟩
  show (revS z).cps.size ≤ sizeLine
  unfold revS
  rw [Array.size_reverse]
  exact hz

section
variable {CX : CXT} {k : Nat} {f : Addr} {fd : FuncData} {ps ks : List Str} {sp : Sp} {E : XK} {x : Str} {p pos : Pos} {kws : List Keyword} {tk : TA} {g : List Value → List Value → List Value} {gV : List V → List V → List V}
def tCallK0 (sp : Sp) (gV : List V → List V → List V) (E : XK) (tk : TA) : TE := fun σ H Q => tk σ H fun zs H2 => sp (gV [] zs) H2 Q E
/-- f(k = v, ..), nothing by place -/
theorem pe_callK0 (F : FnOk X.prog X.w X.K X.mg X.base CX k f fd ps sp) (hr : Room k X.A) (hg : Gl X x) (hm : X.mg x = some (.ref f)) (hk : PySem.W.keepIn X.K (.ref f) = true) (hb : KBinds X.K fd ps ks g gV) (hx : Passes CX X E)
    (hkw : PK X kws tk) (hall : (backToKw pos (keywordEach kws X.env)).all (·.1.isSome) = true := by rfl) (hks : (backToKw pos (keywordEach kws X.env)).filterMap (·.1) = ks := by rfl)
    (hdb : (x == ("__debug__" : Str)) = false := by decide)
    (hpl : ((backTo pos (starEach [] X.env)).any (·.1) || (backToKw pos (keywordEach kws X.env)).any (·.1.isNone)) = false := by rfl) :
    PE X (.Call (.Name x p) [] kws pos) (tCallK0 sp gV E tk) := by
  refine ⟨fun pins s σ H Q I h => ?_⟩
  refine wpAny_Call_Name_kw (ld_glob I hg hm ?_ hdb)
  refine PySem.W.callWith_KW0 (h₀ := X.base) I.ok.mod.kin hk hall (thn (hkw.run pos pins s σ H _ I h) fun ws s2 ⟨zs, H2, I2, rz, q2⟩ => ⟨I2.kIn, ?_⟩) hpl
  rw [hks]
  exact run_fnk (us := []) (vs := []) F hr hb hx I2 .nil rz q2
end
end

/-- all parameters by keyword, in their order -/
def kAll {α : Type} : List α → List α → List α
  | [], zs => zs
  | _ :: _, _ => []
theorem kbinds_all {K : PySem.W.Frag} {fd : FuncData} {ps ks : List Str} (h0 : 0 < ps.length) (h : ∀ (s : Shared) (ws : List Value), K.In s.heap → ws.length = ps.length → BindsTo s fd ⟨[], ks.zip ws⟩ (ps.zip ws)) : KBinds K fd ps ks kAll kAll where
  to := fun s us ws hK hl => by
    cases us with
    | nil => exact h s ws hK hl
    | cons u r =>
      have z : (0 : Nat) = ps.length := hl
      omega
  rel := fun {vs us zs ws} r rz => by
    cases r with
    | nil => exact rz
    | cons _ _ => exact .nil

/-! ### places -/
theorem at0 {α : Type} {x : α} {xs : List α} : atI (x :: xs) 0 = some x := atI_nat (j := 0) rfl
theorem ix_nat {n j : Nat} (h : j < n) : ixN n (j : Int) = some j := by
  unfold ixN
  rw [if_pos (by omega), if_pos (by omega), Int.toNat_natCast]
theorem ix0 {n : Nat} (h : 0 < n) : ixN n 0 = some 0 := ix_nat h

/-! ### walks over a text -/
theorem lc_str {x : Str} {g : TG} {tt : TT} {te : TE} {vs : List Nat} {σ : L2.St} {H1 : Hp} {D : Addr} {Qd : Hp → Prop} (Pv : Nat → Hp → Prop) (h0 : Pv 0 (upd H1 D (.lst [])))
    (hs : ∀ i c H, x.cps.toList[i]? = some c → Pv i H → g (.str ⟨#[c]⟩) (wipe σ vs) H fun σ2 H2 => wipe σ2 vs = wipe σ vs ∧ tt σ2 H2 fun b H3 =>
      if b = true then te σ2 H3 fun y H4 => ∃ acc, H4 D = some (.lst acc) ∧ acc.length < sizeLine ∧ Pv (i + 1) (upd H4 D (.lst (acc ++ [y]))) else Pv (i + 1) H3) (hd : ∀ H, Pv x.cps.size H → Qd H) :
    ∃ W : Nat → Nat → Hp → Prop, (∃ m, W 0 m (upd H1 D (.lst []))) ∧ ∀ i m H, W i m H →
      ((Its x).stop i H ∧ Qd H) ∨ ((Its x).go i H ∧ ∃ Nx : Hp → Prop, (∀ H', Nx H' → ∃ m', m' < m ∧ W (i + 1) m' H') ∧ ∀ y H', (Its x).yld i H y H' → g y (wipe σ vs) H' fun σ2 H2 => wipe σ2 vs = wipe σ vs ∧ tt σ2 H2 fun b H3 =>
        if b = true then te σ2 H3 fun y H4 => ∃ acc, H4 D = some (.lst acc) ∧ acc.length < sizeLine ∧ Nx (upd H4 D (.lst (acc ++ [y]))) else Nx H3) := by
  refine ⟨fun i m H => m = x.cps.size - i ∧ i ≤ x.cps.size ∧ Pv i H, ⟨_, rfl, Nat.zero_le _, h0⟩, ?_⟩
  rintro i m H ⟨rfl, hi, p⟩
  by_cases hlt : i < x.cps.size
  · refine .inr ⟨hlt, Pv (i + 1), fun H' p' => ⟨x.cps.size - (i + 1), by omega, rfl, hlt, p'⟩, fun y H' q => ?_⟩
    obtain ⟨e, c, hc, ey⟩ := q
    subst e
    subst ey
    exact hs i c _ (by rw [Array.getElem?_toList]; exact hc) p
  · have e : i = x.cps.size := by omega
    subst e
    exact .inl ⟨Nat.le_refl _, hd H p⟩

/-! ### lists of ints, of texts as data -/
theorem dp_ints {K : PySem.W.Frag} {H : Hp} : ∀ ns : List Int, DpAll K H (ns.map V.int) (ns.map PyData.int)
  | [] => .nil
  | n :: r => .cons (.int n) (dp_ints r)
theorem dp_strs {K : PySem.W.Frag} {H : Hp} : ∀ ns : List Str, DpAll K H (ns.map V.str) (ns.map PyData.str)
  | [] => .nil
  | n :: r => .cons (.str n) (dp_strs r)
theorem shaped_ints (ns : List Int) : SeqAt.shaped (.list (ns.map PyData.int)) = true := PySem.W.ke_shaped_ints ns
theorem eqv_nil : PyData.eqv (.list []) (.list []) = true := by simp [PyData.eqv, PyData.eqvAll]
theorem eqv_cons {a : PyData} {r : List PyData} : PyData.eqv (.list (a :: r)) (.list []) = false := by simp [PyData.eqv, PyData.eqvAll]
theorem same_upd {H : Hp} {p : Addr} {o : HO} (h : H p = none) : Same H (upd H p o) := fun b x e => by
  rw [upd_ne (ne_of_none e h)]
  exact e
/-- what G doesn't know may change -/
theorem same_mut {G H : Hp} {p : Addr} {o : HO} (e : Same G H) (h : G p = none) : Same G (upd H p o) := fun b x q => by
  rw [upd_ne (ne_of_none q h)]
  exact e b x q
end My

/-! My own rules about instances of own classes: texts of them, making them by names and in a try, operators; errors with a dict in an except suite. -/
namespace My
open PySem PySem.Spec PyProof.Rows L2

section
variable {X : Cx}
/-! ### floor division by any divisor that is not 0 -/
def CDivZ (_ j : Int) : Prop := j ≠ 0 ∧ j.natAbs.log2 < 9000
theorem op_fdivZ : OpR X (binaryOp .FloorDiv) (rI CDivZ fun i j => .int (i.fdiv j)) := opI fun _ _ _ _ _ _ _ hc q => floordiv_int hc.1 q (.inl (PyProof.noPylong_of_log2 hc.2))
theorem cdivZ {i j : Int} (h : j ≠ 0) (hb : j.natAbs < 2 ^ 8000) : CDivZ i j := ⟨h, Nat.lt_of_lt_of_le (PySem.Flt.log2_lt_of (by decide) hb) (by decide)⟩

/-! ### str(o), o of an own class with __str__ -/
def rStrO (C : Addr) (sp : Sp) : List V → Hp → VK → Prop := fun xs H Q => ∃ a dx fs, xs = [.ref a] ∧ H a = some (.ins C dx fs) ∧ sp [.ref a] H (fun v H' => ∃ z, v = .str z ∧ Q (.str z) H') E0
theorem call_strO {CX : CXT} {k : Nat} {C f : Addr} {fd : FuncData} {ps : List Str} {sp : Sp} (hs : PySem.W.findIn X.K (.ref C) "__str__" = some (some (.ref f))) (hf : PySem.W.isFn X.K (.ref f) = true)
    (F : FnOk X.prog X.w X.K X.mg X.base CX k f fd ps sp) (hr : Room (k + 2) X.A) (hb : Binds X.K fd ps []) (hx : Passes CX X.nox E0) : CallR X (.type "str") (rStrO C sp) := by
  intro pins s σ H xs us Q I r h
  obtain ⟨a, dx, fs, rfl, ea, q⟩ := h
  obtain ⟨u, rfl, ru⟩ := vals1 r
  obtain rfl : u = Value.ref a := ru
  obtain ⟨mA, O, _, _, _, _⟩ := ins_get I.hok ea
  obtain ⟨od, J, _⟩ := O.look
  have hl : ([Value.ref a] ++ []).length = ps.length := by rw [← F.len _ _ _ _ q]; rfl
  refine PySem.W.kso_call hr.in1.in1.units0 I.kIn J hs hf (wpAny_call ?_)
  refine codeAny_mono (F.run X.A.in1.in1 X.stack s H ⟨[.ref a], []⟩ [.ref a] [.ref a] _ E0 hr.in1.in1 I.env0.in1.in1 (hb _ [.ref a] I.kIn hl) (.cons rfl .nil) q) fun r s' hq => ?_
  cases r with
  | error er => exact False.elim (hx pins σ H s er s' (I.wish _) hq)
  | ok fl =>
    cases fl with
    | ret u =>
      obtain ⟨v, H', I3, rv, z, ez, q3⟩ := I.after hq
      subst ez
      obtain ⟨t, rfl⟩ := rv
      exact ⟨.str z, H', I3, ⟨t, rfl⟩, q3⟩
    | next => exact False.elim hq
    | brk => exact False.elim hq
    | cont => exact False.elim hq

/-! ### C(k = v, ..), nothing by place -/
section
variable {CX : CXT} {k : Nat} {f C : Addr} {fd : FuncData} {ps ks : List Str} {sp : Sp} {E : XK} {x : Str} {p pos : Pos} {e : Expr} {es : List Expr} {kws : List Keyword} {t tk : TA} {g : List Value → List Value → List Value} {gV : List V → List V → List V}
theorem pe_makeK0 (M : Mk X.K C f) (F : FnOk X.prog X.w X.K X.mg X.base CX k f fd ps sp) (hr : Room (k + 1) X.A) (hg : Gl X x) (hm : X.mg x = some (.ref C)) (hb : KBn X.K fd ps (0 + 1) ks g gV) (hx : Passes CX X E)
    (hkw : PK X kws tk) (hall : (backToKw pos (keywordEach kws X.env)).all (·.1.isSome) = true := by rfl) (hks : (backToKw pos (keywordEach kws X.env)).filterMap (·.1) = ks := by rfl)
    (hdb : (x == ("__debug__" : Str)) = false := by decide)
    (hpl : ((backTo pos (starEach [] X.env)).any (·.1) || (backToKw pos (keywordEach kws X.env)).any (·.1.isNone)) = false := by rfl) :
    PE X (.Call (.Name x p) [] kws pos) (tMakeN C 0 ks.length sp gV E tNil tk) := by
  refine ⟨fun pins s σ H Q I h => ?_⟩
  refine wpAny_Call_Name_kw (ld_glob I hg hm ?_ hdb)
  refine PySem.W.callWith_KW0 (h₀ := X.base) I.ok.mod.kin M.kp hall (thn (hkw.run pos pins s σ H _ I h) fun ws s2 ⟨zs, H2, I2, rz, l1, l2, q2⟩ => ⟨I2.kIn, ?_⟩) hpl
  rw [hks]
  exact run_makeN M F hr hb hx I2 .nil rz rfl l2 q2

/-! ### cls(e, ..), the class under a name of the frame -/
def tMakeL (C : Addr) (i : Nat) (sp : Sp) (dvs : List V) (E : XK) (t : TA) : TE := fun σ H Q => σ[i]? = some (some (.ref C)) ∧ tMake C sp dvs E t σ H Q
theorem pe_makeL {i : Nat} {dvs : List V} {ds : List Value} (M : Mk X.K C f) (F : FnOk X.prog X.w X.K X.mg X.base CX k f fd ps sp) (hr : Room (k + 1) X.A) (hN : X.N[i]? = some x) (hv : Vis X.env.scope x) (hb : Binds X.K fd ps ds) (hd : Vals dvs ds) (hx : Passes CX X E)
    (ha : PA X (e :: es) t) (hd1 : (x == ("__debug__" : Str)) = false := by decide) (hcd : (x == ("__classdict__" : Str)) = false := by decide)
    (he : starEach (e :: es) X.env = (false, eval e X.env) :: starEach es X.env := by rfl) (hpl : (backTo pos (starEach es X.env)).any (·.1) = false := by rfl) :
    PE X (.Call (.Name x p) (e :: es) [] pos) (tMakeL C i sp dvs E t) := by
  refine ⟨fun pins s σ H Q I h => ?_⟩
  obtain ⟨hs, h⟩ := h
  refine wpAny_Call_Name_kw (thn ((pe_var (pos := p) hN hv hd1 hcd).run pins s σ H (fun v H1 => v = .ref C ∧ H1 = H) I ⟨.ref C, hs, rfl, rfl⟩) fun u s1 ⟨v, H1, I1, r1, q1⟩ => ?_)
  obtain ⟨rfl, rfl⟩ := q1
  cases r1
  refine PySem.W.callWith_K (h₀ := X.base) I.ok.mod.kin M.kp (thn (ha.run pos pins s1 σ _ _ I1 h) fun us s2 ⟨vs, H2, I2, r, q⟩ => ⟨I2.kIn, ?_⟩) he hpl
  exact run_make M F hr hb hd hx I2 r q

/-! ### C(e, ..) where what is raised is wished for at the caller's slots -/
def tMakeS (C : Addr) (sp : Sp) (dvs : List V) (E : L2.St → XK) (t : TA) : TE := fun σ H Q => tMake C sp dvs (E σ) t σ H Q
theorem run_makeS {pins : List (Addr × Obj)} {σ : L2.St} {H : Hp} {s : Shared} {Q : VK} {us : List Value} {vs : List V} {dvs : List V} {ds : List Value} (M : Mk X.K C f) (F : FnOk X.prog X.w X.K X.mg X.base CX k f fd ps sp) (hr : Room (k + 1) X.A) (hb : Binds X.K fd ps ds) (hd : Vals dvs ds)
    (hx : PassesAt CX X σ E) (I : Inv X pins σ H s) (r : Vals vs us)
    (h : ∀ x dx, H x = none → H dx = none → dx ≠ x → sp (.ref x :: (vs ++ dvs)) (upd (upd H dx (.own x)) x (.ins C dx [])) (fun v H2 => v = .non ∧ Q (.ref x) H2) E) :
    wpAny (model X.prog X.w) X.A (call (.ref C) us) (EP X pins σ Q) X.xe s := by
  have hq := h (s.heap.objs.size + 1) s.heap.objs.size (I.hok.fresh (Nat.le_succ _)) (I.hok.fresh (Nat.le_refl _)) (Nat.ne_of_lt (Nat.lt_succ_self _))
  have I2 := Inv.made (C := C) I
  have r2 : Vals (V.ref (s.heap.objs.size + 1) :: (vs ++ dvs)) (Value.ref (s.heap.objs.size + 1) :: (us ++ ds)) := .cons rfl (r.append hd)
  have hl : (Value.ref (s.heap.objs.size + 1) :: us ++ ds).length = ps.length := by
    have e := r2.length
    rw [F.len _ _ _ _ hq] at e
    exact e.symm
  refine wpAny_call (make_map (f := f) I.kIn M.makes M.init (beq_iff_eq.mp M.fn) (codeAny_mono (F.run _ X.stack _ _ ⟨Value.ref (s.heap.objs.size + 1) :: us, []⟩ (Value.ref (s.heap.objs.size + 1) :: (us ++ ds)) _ _ E (hr.make C us [])
    (I2.env0.make C us []) (hb _ (Value.ref (s.heap.objs.size + 1) :: us) I2.kIn hl) r2 hq) fun r s' hq' => ?_))
  cases r with
  | error e => exact hx pins _ _ e s' I2 hq'
  | ok fl =>
    cases fl with
    | ret u =>
      obtain ⟨v, H', I3, rv, ev, q3⟩ := I2.after hq'
      subst ev
      exact ⟨rv, ⟨V.ref (s.heap.objs.size + 1), H', I3, rfl, q3⟩⟩
    | next => exact False.elim hq'
    | brk => exact False.elim hq'
    | cont => exact False.elim hq'
theorem pe_makeS {E : L2.St → XK} {dvs : List V} {ds : List Value} (M : Mk X.K C f) (F : FnOk X.prog X.w X.K X.mg X.base CX k f fd ps sp) (hr : Room (k + 1) X.A) (hg : Gl X x) (hm : X.mg x = some (.ref C)) (hb : Binds X.K fd ps ds) (hd : Vals dvs ds) (hx : ∀ σ, PassesAt CX X σ (E σ))
    (ha : PA X (e :: es) t) (hdb : (x == ("__debug__" : Str)) = false := by decide) (he : starEach (e :: es) X.env = (false, eval e X.env) :: starEach es X.env := by rfl) (hpl : (backTo pos (starEach es X.env)).any (·.1) = false := by rfl) :
    PE X (.Call (.Name x p) (e :: es) [] pos) (tMakeS C sp dvs E t) := by
  refine ⟨fun pins s σ H Q I h => ?_⟩
  refine wpAny_Call_Name_kw (ld_glob I hg hm ?_ hdb)
  refine PySem.W.callWith_K (h₀ := X.base) I.ok.mod.kin M.kp (thn (ha.run pos pins s σ H _ I h) fun us s1 ⟨vs, H1, I1, r, q⟩ => ⟨I1.kIn, ?_⟩) he hpl
  exact run_makeS M F hr hb hd (hx σ) I1 r q
end

/-! ### C.m(k = v, ..), m a classmethod -/
section
variable {CX : CXT} {k : Nat} {C q0 g : Addr} {mc : Value} {fd : FuncData} {ps ks : List Str} {sp : Sp} {E : XK} {o : Expr} {m : Str} {pos apos : Pos} {kws : List Keyword} {ta : TE} {tk : TA} {pl : Sem Bool}
def tCMethK (C : Addr) (n : Nat) (sp : Sp) (E : XK) (ta : TE) (tk : TA) : TE := fun σ H Q => ta σ H fun x H1 => x = .ref C ∧ tk σ H1 fun zs H2 => zs.length = n ∧ sp (.ref C :: zs) H2 Q E
theorem pe_cmethK0 (he : PE X o ta) (r : ClX.CRead X.K C mc) (c : ClX.CMet X.K C mc m q0 g) (F : FnOk X.prog X.w X.K X.mg X.base CX k g fd ps sp) (hr : Room k X.A) (hx : Passes CX X E) (hkw : PK X kws tk)
    (hb : ∀ (s : Shared) (ws : List Value), X.K.In s.heap → ws.length = ks.length → BindsTo s fd ⟨Value.ref C :: [], ks.zip ws⟩ (ps.zip (Value.ref C :: ws)))
    (hall : (backToKw pos (keywordEach kws X.env)).all (·.1.isSome) = true := by rfl) (hks : (backToKw pos (keywordEach kws X.env)).filterMap (·.1) = ks := by rfl)
    (hpl : ((backTo pos (starEach [] X.env)).any (·.1) || (backToKw pos (keywordEach kws X.env)).any (·.1.isNone)) = false := by rfl)
    (ht : eval (.Call (.Attribute o m apos) [] kws pos) X.env = (do
      let ov ← eval o X.env
      standAt apos.atName
      let (f, first) ← holding [ov] (getMethod ov m pl)
      callWith pos f first (backTo pos (starEach [] X.env)) (backToKw pos (keywordEach kws X.env))) := by rfl) :
    PE X (.Call (.Attribute o m apos) [] kws pos) (tCMethK C ks.length sp E ta tk) := by
  refine ⟨fun pins s σ H Q I h => ?_⟩
  refine PySem.W.methodCall_KW (pl := pl) (thn (he.run pins s σ H _ I h) fun u s1 ⟨x, H1, I1, rx, ex, h2⟩ => ?_) ht
  subst ex
  obtain rfl : u = Value.ref C := rx
  refine ClX.getmethcm_ok I1 r c fun s2 I2 => ?_
  refine PySem.W.callWith_of hpl (PySem.W.keeps_M (K := X.K) (self := Value.ref C) c.fi) (evalArgs_kw2_nil hall (thn (hkw.run pos _ s2 σ H1 _ I2 h2) fun ws s3 ⟨zs, H2, I3, rz, hl, h3⟩ => ⟨⟨ClX.pin_at I3, I3.kIn⟩, ?_⟩))
  rw [hks]
  suffices z : wpAny (model X.prog X.w) X.A (call (.ref s1.heap.objs.size) [] (ks.zip ws)) (EP X ((s1.heap.objs.size, PySem.W.methodObj (.ref g) (.ref C)) :: pins) σ Q) X.xe s3 from thn z fun _ _ y => ClX.unpinE y
  refine wpAny_call (PySem.W.method_call (ClX.pin_at I3) ?_)
  have r2 : Vals (V.ref C :: zs) (Value.ref C :: ws) := .cons rfl rz
  refine codeAny_mono (F.run X.A X.stack s3 H2 ⟨Value.ref C :: [], ks.zip ws⟩ (Value.ref C :: ws) (V.ref C :: zs) Q E hr I3.env0 (hb s3 ws I3.kIn (rz.length.symm.trans hl)) r2 h3) fun r s' hq => ?_
  cases r with
  | error er => exact hx _ σ H2 s3 er s' I3 hq
  | ok fl =>
    cases fl with
    | ret u => exact I3.after hq
    | next => exact False.elim hq
    | brk => exact False.elim hq
    | cont => exact False.elim hq
end

/-! ### an error with a dict of its own, asked for its class in an except suite -/
theorem class_of_err {prog : Program} {w : World} {A : Around} {E : Value → Shared → Prop} {s : Shared} {K : PySem.W.Frag} {x D : Addr} {ox od : Obj} {Q : Option Value → Shared → Prop} (C : ExcC K D) (hK : K.In s.heap) (J : PySem.W.InstAt s.heap x ox D (some od))
    (h : Q (some (.ref D)) { s with toks := s.toks + 1 }) : wpAny (model prog w) A (getAttr? (.ref x) "__class__") Q E s := by
  have hcd : (PySem.W.clsIn K D).isSome = true := by
    obtain ⟨cd, hc, _⟩ := PySem.W.any_some C.hd
    rw [hc]
    rfl
  have hf : PySem.W.findObj K D (some od) "__class__" = some (.bind (.builtin "getset_descriptor.__get__") (.builtin "object.__class__")) := PySem.W.findObj_data hcd C.ha C.hn C.ht
  obtain ⟨hp, gg, dr, tt, os⟩ := s
  have T0 := J.type (M := model prog w)
  have T1 := PySem.W.looks_findIn (M := model prog w) hK C.hg
  have T2 := PySem.W.looks_findIn (M := model prog w) hK C.hk
  have T3 := PySem.W.looks_find (M := model prog w) hK J hf
  have below : PySem.W.Looks (model prog w) hp (isInstance (.ref x) (.type "BaseException")) true := T0.andThen (PySem.W.looks_subIn hK C.hs)
  have b0 : (false && onTheHeap (Value.builtin "BaseException.__getattribute__")) = false := rfl
  have b2 : (Value.builtin "BaseException.__getattribute__" == Value.builtin "object.__getattribute__") = false := by decide +kernel
  have b1 : (onTheHeap (Value.ref D) && Value.builtin "BaseException.__getattribute__" == Value.builtin "object.__getattribute__") = false := by rw [b2]; rfl
  unfold getAttr? getAttrBy? getAttrBy
  refine wpAny_bind (wpAny_mkText (wpAny_bind (wpAny_attempt (wpAny_holding (wpAny_bind (T0.at (wpAny_bind (T1.at ?_))))))))
  show wpAny _ _ (if (onTheHeap (Value.ref D) && Value.builtin "BaseException.__getattribute__" == Value.builtin "object.__getattribute__") = true then _ else _) _ _ _
  rw [b1, if_neg Bool.false_ne_true]
  unfold getAttrByItsOwn hookBefore
  refine wpAny_bind ?_
  rw [if_pos (show onTheHeap (Value.ref D) = true from rfl)]
  refine T2.at ?_
  refine wpAny_bind (wpAny_attempt (wpAny_holding ?_))
  unfold callGetattribute
  rw [b0, if_neg Bool.false_ne_true]
  unfold boundAndCalled
  rw [PySem.F.excAttr_ValueError.ga.bind (.ref x)]
  refine wpAny_bind (wpAny_pure ?_)
  show wpAny _ _ (call (.builtin "BaseException.__getattribute__") [.ref x, .str "__class__" tt]) _ _ _
  refine wpAny_call (codeAny_call_builtin PySem.F.excAttr_ValueError.ga.plain PySem.F.entry_bexc_ga ?_)
  refine @PySem.W.check_slot (model prog w) _ _ ⟨hp, gg, dr, tt + 1, os⟩ "BaseException.__getattribute__" "BaseException" "__getattribute__" (.ref x) [.str "__class__" tt] [] _ (by decide +kernel) (by decide +kernel) below (PySem.F.args_bexc_ga (.ref x) (.str "__class__" tt)) ?_
  unfold Builtin.«object.__getattribute__»
  refine wpAny_bind (wpAny_of_eq (a := ((Value.ref x : Value), [Value.str "__class__" tt])) (by first | rfl | (simp only [slotArgs]; rfl)) ?_)
  refine wpAny_bind (wpAny_pure (wpAny_bind (T0.at (wpAny_bind (T3.at ?_)))))
  show wpAny _ _ (holding [Value.builtin "object.__class__"] (call (.builtin "getset_descriptor.__get__") [.builtin "object.__class__", .ref x, .ref D]) >>= ret) _ _ _
  refine wpAny_bind (wpAny_holding (wpAny_call (PySem.W.class_get (s := ⟨hp, gg, dr, tt + 1, os⟩) (ox := ox) (od := some od) hK J C.hm ?_)))
  refine wpAny_pure ?_
  show wpAny _ _ (handedOut (.ref D)) _ _ _
  rw [PySem.W.handedOut_of (v := .ref D) rfl]
  first
    | exact wpAny_pure (wpAny_pure h)
    | exact wpAny_pure h
    | exact wpAny_pure (wpAny_bind (wpAny_pure (wpAny_pure h)))
theorem kit_err {K : PySem.W.Frag} {x D : Addr} {ox od : Obj} (C : ExcC K D) : PySem.W.KitX K (.ref x) (.ref D) (fun h => PySem.W.InstAt h x ox D (some od)) where
  ty := fun _ _ _ J => J.type
  it := fun _ _ hK _ => by
    obtain ⟨cdD, hcD, _⟩ := PySem.W.any_some C.hd
    unfold PySem.W.clsIn at hcD
    split at hcD
    · rename_i c' d' cd' sl' ho
      intro A' Q' E' s' kk q
      unfold isType loadHead
      exact wpAny_bind (wpAny_loadPart (kk _ _ (hK _ _ ho)) (wpAny_pure q))
    · cases hcD
  ne := fun h tp dd its n sl hK htp => by
    obtain ⟨cdD, hcD, _⟩ := PySem.W.any_some C.hd
    refine Bool.eq_false_iff.mpr fun q => ?_
    have e : D = tp := Value.ref.inj (beq_iff_eq.mp q)
    subst e
    unfold PySem.W.clsIn at hcD
    split at hcD
    · rename_i c' d' cd' sl' ho
      have z := (hK _ _ ho).symm.trans htp
      cases z
    · cases hcD
  ca := fun hK J q => class_of_err C hK J q
def rIsEd (K : PySem.W.Frag) (a : Addr) (cls : Value) (d : Option Addr) (D : Addr) : List V → Hp → VK → Prop := fun xs H Q => ∃ (c : V) (cv : Value) (b : Bool) (dd : Addr) (fs : List (Str × V)), xs = [.ref a, c] ∧ cls = .ref D ∧ d = some dd ∧ ClsV c cv ∧ PySem.W.kitOne K (.ref D) cv = some b ∧ H dd = some (.xd fs) ∧ Q (.bl b) H
theorem call_isEd {a D : Addr} {cls : Value} {d : Option Addr} {oe : Obj} {pn : List (Addr × Obj)} (C : ExcC X.K D) (hz : Zc cls d oe) (hf : ∃ vs, oe.data = .fields vs) : CallR (X.suite a ((a, oe) :: pn)) (.builtin "isinstance") (rIsEd X.K a cls d D) := by
  intro pins s σ H xs us Q I r h
  obtain ⟨c, cv, b, dd, fs, rfl, e1, e2, hcv, e, hd, q⟩ := h
  subst e1
  subst e2
  obtain ⟨u, w', rfl, ru, rw'⟩ := vals2 r
  obtain rfl : u = Value.ref a := ru
  obtain rfl := hcv.eq rw'
  obtain ⟨hget, _⟩ := I.pin (a, oe) (List.mem_append.mpr (.inl List.mem_cons_self))
  obtain ⟨vs, hv⟩ := hf
  have hx : ObjOk X.prog X.w H s.heap dd (.xd fs) := I.hok dd _ hd
  obtain ⟨mA, hns, hrel⟩ := hx
  obtain ⟨od, ho, hl⟩ := lookIn_ns hns
  have J : PySem.W.InstAt s.heap a oe D (some od) := ⟨hget, hz.1, by unfold PySem.W.notCls; rw [hv] <;> rfl, by rw [hz.2]; exact ho⟩
  exact PySem.W.kia_one (kit_err C) I.kIn J e (fun z => nomatch z) fun tk => ⟨.bl b, H, I.kept (t' := tk) fun _ _ z => z, rfl, q⟩
end

/-! ### isinstance by the written part; keywords in another order -/
theorem kit_self {K : PySem.W.Frag} {C : Addr} : PySem.W.kitOne K (.ref C) (.ref C) = some true := by
  unfold PySem.W.kitOne
  rw [if_pos (by simp)]
theorem kit_sub {K : PySem.W.Frag} {t : Value} {C : Addr} {b : Bool} (ic : PySem.W.isClsIn K C = true) (ty : PySem.W.typeIn K (.ref C) = some (.type "type")) (su : PySem.W.subIn K t (.ref C) = some b) (ne : t ≠ .ref C) : PySem.W.kitOne K t (.ref C) = some b := by
  unfold PySem.W.kitOne
  rw [if_neg (by simpa using ne)]
  show (if ((PySem.W.clsIn K C).isSome && PySem.W.typeIn K (.ref C) == some (.type "type")) = true then PySem.W.subIn K t (.ref C) else none) = some b
  rw [ty, show (PySem.W.clsIn K C).isSome = true from ic, if_pos (by simp)]
  exact su
theorem kit_not {K : PySem.W.Frag} {t : Value} {C : Addr} (ic : PySem.W.isClsIn K C = true) (ty : PySem.W.typeIn K (.ref C) = some (.type "type")) (su : PySem.W.subIn K t (.ref C) = some false) (ne : t ≠ .ref C) : PySem.W.kitOne K t (.ref C) = some false := kit_sub ic ty su ne
def permL {α : Type} (is : List Nat) (ws : List α) : List α := is.filterMap fun i => ws[i]?
theorem permL_rel (is : List Nat) {zs : List V} {ws : List Value} (r : Vals zs ws) : Vals (permL is zs) (permL is ws) := by
  induction is with
  | nil => exact .nil
  | cons i is ih =>
    unfold permL at ih ⊢
    rw [List.filterMap_cons, List.filterMap_cons]
    cases e : zs[i]? with
    | none =>
      rw [r.none_of e]
      exact ih
    | some x =>
      obtain ⟨u, hu, ru⟩ := r.get e
      rw [hu]
      exact .cons ru ih
end My

/-! My own rules about operators of own classes: + - * with an instance or an int on either side, in place, unary minus, == with either answer, != of two lists with the same items. -/
namespace My
open PySem PySem.Spec PyProof.Rows L2

section
variable {X : Cx} {CX : CXT} {k : Nat} {C f : Addr} {fd : FuncData} {ps : List Str} {sp : Sp} {E : XK}
theorem run_own {pins : List (Addr × Obj)} {s : Shared} {σ : L2.St} {H : Hp} {Q : VK} {us : List Value} {vs : List V} (F : FnOk X.prog X.w X.K X.mg X.base CX k f fd ps sp) (hr : Room k X.A) (hb : Binds X.K fd ps []) (hx : Passes CX X E)
    (I : Inv X pins σ H s) (r : Vals vs us) (h : sp vs H Q E) : wpAny (model X.prog X.w) X.A (call (.ref f) us) (EP X pins σ Q) X.xe s := by
  have hl : (us ++ []).length = ps.length := by
    rw [List.append_nil, ← F.len _ _ _ _ h]
    exact r.length.symm
  refine wpAny_call (codeAny_mono (F.run X.A X.stack s H ⟨us, []⟩ us vs _ E hr I.env0 (by
    have := hb s us I.kIn hl
    rw [List.append_nil] at this
    exact this) r h) fun r s' hq => ?_)
  cases r with
  | error e => exact hx pins σ H s e s' I hq
  | ok fl =>
    cases fl with
    | ret w => exact I.after hq
    | next => exact False.elim hq
    | brk => exact False.elim hq
    | cont => exact False.elim hq
/-- what is handed back is no NotImplemented -/
theorem back_of {pins : List (Addr × Obj)} {σ : L2.St} {Q : VK} {v : Value} {s : Shared} (h : EP X pins σ Q v s) : PySem.W.CmpBack (EP X pins σ Q) v s := by
  obtain ⟨x, H, I, r, q⟩ := id h
  cases x with
  | non => obtain rfl : v = Value.none := r; exact h
  | bl b => obtain rfl : v = Value.bool b := r; exact h
  | int i => obtain ⟨t, rfl⟩ := r; exact h
  | str i => obtain ⟨t, rfl⟩ := r; exact h
  | byt i => obtain ⟨t, rfl⟩ := r; exact h
  | flt i => obtain ⟨t, rfl⟩ := r; exact h
  | ref a => obtain rfl : v = Value.ref a := r; exact h
  | ty n => obtain rfl : v = Value.type n := r; exact h

/-! ### the unary minus -/
def rNegO (C : Addr) (sp : Sp) (E : XK) : V → Hp → VK → Prop := fun x H Q => ∃ a dx fs, x = .ref a ∧ H a = some (.ins C dx fs) ∧ sp [.ref a] H Q E
theorem un_negO (hs : PySem.W.findIn X.K (.ref C) "__neg__" = some (some (.ref f))) (hf : PySem.W.isFn X.K (.ref f) = true) (F : FnOk X.prog X.w X.K X.mg X.base CX k f fd ps sp) (hr : Room k X.A) (hb : Binds X.K fd ps []) (hx : Passes CX X E) :
    UnR X (unaryOp .USub) (rNegO C sp E) := by
  intro pins s σ H x v Q I rx h
  obtain ⟨a, dx, fs, rfl, ea, q⟩ := h
  obtain rfl : v = Value.ref a := rx
  obtain ⟨mA, J, _⟩ := ins_get I.hok ea
  obtain ⟨od, J, _⟩ := J.look
  obtain ⟨m, hF⟩ := I.fr
  exact PySem.W.ksp_neg hF I.ok.mod.kin J hs hf (run_own (vs := [V.ref a]) F hr hb hx I (.cons rfl .nil) q)

/-! ### the operators with two sides -/
/-- what of the text an operator must have -/
structure OpO (K : PySem.W.Frag) (C : Addr) (nm : String) (f g : Addr) : Prop where
  sf : PySem.W.selfFirst K C = true
  ls : PySem.W.findIn K (.ref C) (PySem.dunder nm) = some (some (.ref f))
  lf : PySem.W.isFn K (.ref f) = true
  rs : PySem.W.findIn K (.ref C) (dunderR nm) = some (some (.ref g))
  rf : PySem.W.isFn K (.ref g) = true
  i1 : ∃ fo, PySem.W.findIn K (.type "int") (PySem.dunder nm) = some fo
  i2 : ∃ ro, PySem.W.findIn K (.type "int") (dunderR nm) = some ro
  su : PySem.W.subIn K (.type "int") (.ref C) = some false
  us : PySem.W.subIn K (.ref C) (.type "int") = some false
/-- int declines -/
structure Dec (nm : String) (id : String) (B : Builtin) : Prop where
  slot : Slot "int" (PySem.dunder nm) id
  entry : entryFor table id = some B
  args : ∀ a b, argsOk id ⟨[a, b], []⟩
  fills : fillsNumberSlot (.type "int") nm = pure true
  body : ∀ (a : Int) (t : Tok) (l C dx : Addr), Meets (B ⟨[.int a t, .ref l], []⟩) (fun _ R s => s.heap.get? l = some (PySem.W.instObj C dx) ∧ R (.ok (.ret Value.notImplemented)) s)
theorem dec_add : Dec "add" "int.__add__" Builtin.«int.__add__» := ⟨F.slot_int_add, F.entry_int_add, F.args_int_add_2, F.fills_int_add, fun a t l C dx => .of_wp fun prog w A R s h => by obtain ⟨hp, g, d, tk, os⟩ := s; obtain ⟨hl, h⟩ := h; wp_walk; exact ⟨_, rfl, h⟩⟩
theorem dec_sub : Dec "sub" "int.__sub__" Builtin.«int.__sub__» := ⟨F.slot_int_sub, F.entry_int_sub, F.args_int_sub_2, F.fills_int_sub, fun a t l C dx => .of_wp fun prog w A R s h => by obtain ⟨hp, g, d, tk, os⟩ := s; obtain ⟨hl, h⟩ := h; wp_walk; exact ⟨_, rfl, h⟩⟩
theorem dec_mul : Dec "mul" "int.__mul__" Builtin.«int.__mul__» := ⟨F.slot_int_mul, F.entry_int_mul, F.args_int_mul_2, F.fills_int_mul, fun a t l C dx => .of_wp fun prog w A R s h => by obtain ⟨hp, g, d, tk, os⟩ := s; obtain ⟨hl, h⟩ := h; wp_walk; exact ⟨_, rfl, h⟩⟩

section
variable {prog : Program} {w : World} {A : Around} {Ex : Value → Shared → Prop} {s : Shared} {K : PySem.W.Frag} {C f g : Addr} {nm : String}
open PySem.W
theorem b1_own {x y : Addr} {odx ody : Option Obj} {ox oy : Obj} {Q : Value → Shared → Prop} (X : K.In s.heap) (O : OpO K C nm f g) (I : InstAt s.heap x ox C odx) (J : InstAt s.heap y oy C ody)
    (h : wpAny (model prog w) A (call (.ref f) [.ref x, .ref y]) (PySem.W.CmpBack Q) Ex s) : wpAny (model prog w) A (binaryOp1 nm (.ref x) (.ref y)) (fun r s' => ∃ v, r = some v ∧ Q v s') Ex s := by
  obtain ⟨cd, rest, hcd, hm⟩ := ksp_first O.sf
  unfold binaryOp1
  refine wpAny_bind (I.type.here (wpAny_bind (J.type.here (wpAny_bind ((fills_K X hcd hm O.ls).here ?_)))))
  simp only [beq_self_eq_true, if_true]
  refine wpAny_bind (wpAny_pure ?_)
  simp only [Bool.and_false, Bool.false_eq_true, if_false, Bool.false_and]
  refine wpAny_bind (wpAny_pure ?_)
  simp only [Bool.false_eq_true, if_false]
  refine wpAny_bind (m := tryMethod (.ref x) _ (.ref y)) (wpAny_mono (ksp_try X I O.ls O.lf h) (fun r s' hr => ?_) fun _ _ e => e)
  obtain ⟨v, rfl, hq⟩ := hr
  exact wpAny_pure ⟨v, rfl, hq⟩
theorem b1_int {x : Addr} {i : Int} {t : Tok} {odx : Option Obj} {ox : Obj} {Q : Value → Shared → Prop} (X : K.In s.heap) (O : OpO K C nm f g) (I : InstAt s.heap x ox C odx)
    (h : wpAny (model prog w) A (call (.ref f) [.ref x, .int i t]) (PySem.W.CmpBack Q) Ex s) : wpAny (model prog w) A (binaryOp1 nm (.ref x) (.int i t)) (fun r s' => ∃ v, r = some v ∧ Q v s') Ex s := by
  obtain ⟨cd, rest, hcd, hm⟩ := ksp_first O.sf
  obtain ⟨fo, h1⟩ := O.i1
  obtain ⟨ro, h2⟩ := O.i2
  have one := ksp_try X I O.ls O.lf h
  obtain ⟨hh, gg, d, tt, os⟩ := s
  have L1 : Looks (model prog w) hh (typeOf (.ref x)) (.ref C) := I.type
  have L2 : Looks (model prog w) hh (typeOf (.int i t)) (.type "int") := Looks.of_pure rfl
  have L3 : Looks (model prog w) hh (fillsNumberSlot (.ref C) nm) true := fills_K X hcd hm O.ls
  have L4 : Looks (model prog w) hh (fillsNumberSlot (.type "int") nm) ((fo.isSome && !isSeqSlot fo) || (ro.isSome && !isSeqSlot ro)) := ksp_fillsT X h1 h2
  have L5 : Looks (model prog w) hh (isSubtype (.type "int") (.ref C)) false := looks_subIn X O.su
  have L6 : Looks (model prog w) hh (numberSlotInPython (.ref C) nm) true := ksp_inPy X O.ls O.rs (.inr ⟨_, rfl⟩)
  have L7 : Looks (model prog w) hh (numberSlotInPython (.type "int") nm) false := Looks.of_pure rfl
  have L8 : Looks (model prog w) hh (typeLookup (.type "int") (dunderR nm)) ro := looks_findIn X h2
  generalize ((fo.isSome && !isSeqSlot fo) || (ro.isSome && !isSeqSlot ro)) = right at L4
  have hne : (Value.ref C == Value.type "int") = false := Bool.eq_false_iff.mpr fun q => by cases beq_iff_eq.mp q
  unfold binaryOp1
  refine wpAny_bind (L1.at (wpAny_bind (L2.at (wpAny_bind (L3.at ?_)))))
  simp only [hne, Bool.false_eq_true, if_false]
  cases right with
  | false =>
    ksp_lk
    refine wpAny_mono one (fun r s' hr' => ?_) fun _ _ e => e
    obtain ⟨v, rfl, hq⟩ := hr'
    ksp_lk
    exact ⟨v, rfl, hq⟩
  | true =>
    ksp_lk
    refine wpAny_mono one (fun r s' hr' => ?_) fun _ _ e => e
    obtain ⟨v, rfl, hq⟩ := hr'
    ksp_lk
    exact ⟨v, rfl, hq⟩
theorem b1_rint {x dx : Addr} {i : Int} {t : Tok} {odx : Option Obj} {id : String} {B : Builtin} {Q : Value → Shared → Prop} (D : Dec nm id B) (X : K.In s.heap) (O : OpO K C nm f g) (I : InstAt s.heap x (instObj C dx) C odx)
    (h : wpAny (model prog w) A (call (.ref g) [.ref x, .int i t]) (PySem.W.CmpBack Q) Ex s) : wpAny (model prog w) A (binaryOp1 nm (.int i t) (.ref x)) (fun r s' => ∃ v, r = some v ∧ Q v s') Ex s := by
  obtain ⟨cd, rest, hcd, hm⟩ := ksp_first O.sf
  have one := ksp_try X I O.rs O.rf h
  have two : wpAny (model prog w) A (tryMethod (.int i t) (PySem.dunder nm) (.ref x)) (fun r s' => r = none ∧ s' = s) Ex s :=
    wpAny_tryMethod_declines (typeIs_int s i t) D.slot (call_meets D.slot (typeIs_int s i t) D.entry (D.args _ _) (D.body i t x C dx) ⟨I.at_, rfl, rfl, rfl⟩)
  have L1 : Looks (model prog w) s.heap (typeOf (.ref x)) (.ref C) := I.type
  have L3 : Looks (model prog w) s.heap (fillsNumberSlot (.ref C) nm) true := fills_K X hcd hm O.ls
  have L5 : Looks (model prog w) s.heap (isSubtype (.ref C) (.type "int")) false := looks_subIn X O.us
  have hne : (Value.type "int" == Value.ref C) = false := Bool.eq_false_iff.mpr fun q => by cases beq_iff_eq.mp q
  have hpy : numberSlotInPython (.type "int") nm = pure false := rfl
  unfold binaryOp1
  refine wpAny_bind (wpAny_typeOf (typeIs_int s i t) (wpAny_bind (L1.here (wpAny_bind (wpAny_of_eq D.fills ?_)))))
  simp only [hne, Bool.false_eq_true, if_false]
  refine wpAny_bind (L3.here ?_)
  simp only [Bool.and_self, if_true]
  refine wpAny_bind (L5.here ?_)
  simp only [Bool.false_eq_true, if_false, pure_bind, Bool.not_false, Bool.and_self, if_true, hpy]
  refine wpAny_bind (wpAny_mono two (fun r s' hr => ?_) fun _ _ e => e)
  obtain ⟨rfl, rfl⟩ := hr
  refine wpAny_bind (wpAny_mono one (fun r s' hr => ?_) fun _ _ e => e)
  obtain ⟨v, rfl, hq⟩ := hr
  ksp_lk
  exact ⟨v, rfl, hq⟩
end

/-! ### the operators as rules -/
section
variable {X : Cx} {CX CX' : CXT} {k k' : Nat} {C f g : Addr} {fd fd' : FuncData} {ps ps' : List Str} {sp sp' : Sp} {E : XK} {op : Operator}
theorem op_or {F : Value → Value → Sem Value} {r1 r2 : R2} (a : OpR X F r1) (b : OpR X F r2) : OpR X F (fun x y H Q => r1 x y H Q ∨ r2 x y H Q) := by
  intro pins s σ H x y v u Q I rx ry h
  rcases h with h | h
  · exact a pins s σ H x y v u Q I rx ry h
  · exact b pins s σ H x y v u Q I rx ry h
theorem un_or {F : Value → Sem Value} {r1 r2 : V → Hp → VK → Prop} (a : UnR X F r1) (b : UnR X F r2) : UnR X F (fun x H Q => r1 x H Q ∨ r2 x H Q) := by
  intro pins s σ H x v Q I rx h
  rcases h with h | h
  · exact a pins s σ H x v Q I rx h
  · exact b pins s σ H x v Q I rx h
def rOO (C : Addr) (sp : Sp) (E : XK) : R2 := fun x y H Q => ∃ a dx fs b dy gs, x = .ref a ∧ y = .ref b ∧ H a = some (.ins C dx fs) ∧ H b = some (.ins C dy gs) ∧ sp [.ref a, .ref b] H Q E
def rOI (C : Addr) (sp : Sp) (E : XK) : R2 := fun x y H Q => ∃ a dx fs i, x = .ref a ∧ y = .int i ∧ H a = some (.ins C dx fs) ∧ sp [.ref a, .int i] H Q E
def rIO (C : Addr) (sp : Sp) (E : XK) : R2 := fun x y H Q => ∃ b dy gs i, x = .int i ∧ y = .ref b ∧ H b = some (.ins C dy gs) ∧ sp [.ref b, .int i] H Q E
theorem b1_oo {nm : String} (O : OpO X.K C nm f g) (F : FnOk X.prog X.w X.K X.mg X.base CX k f fd ps sp) (hr : Room k X.A) (hb : Binds X.K fd ps []) (hx : Passes CX X E)
    {pins : List (Addr × Obj)} {s : Shared} {σ : L2.St} {H : Hp} {x y : V} {v u : Value} {Q : VK} (I : Inv X pins σ H s) (rx : RelV x v) (ry : RelV y u) (h : rOO C sp E x y H Q) :
    wpAny (model X.prog X.w) X.A (binaryOp1 nm v u) (fun r s' => ∃ z, r = some z ∧ EP X pins σ Q z s') X.xe s := by
  obtain ⟨a, dx, fs, b, dy, gs, rfl, rfl, ea, eb, q⟩ := h
  obtain rfl : v = Value.ref a := rx
  obtain rfl : u = Value.ref b := ry
  obtain ⟨mA, J, _⟩ := ins_get I.hok ea
  obtain ⟨od, J, _⟩ := J.look
  obtain ⟨mB, J', _⟩ := ins_get I.hok eb
  obtain ⟨od', J', _⟩ := J'.look
  exact b1_own I.kIn O J J' (wpAny_mono (run_own (vs := [V.ref a, V.ref b]) F hr hb hx I (.cons rfl (.cons rfl .nil)) q) (fun _ _ z => back_of z) fun _ _ e => e)
theorem b1_oi {nm : String} (O : OpO X.K C nm f g) (F : FnOk X.prog X.w X.K X.mg X.base CX k f fd ps sp) (hr : Room k X.A) (hb : Binds X.K fd ps []) (hx : Passes CX X E)
    {pins : List (Addr × Obj)} {s : Shared} {σ : L2.St} {H : Hp} {x y : V} {v u : Value} {Q : VK} (I : Inv X pins σ H s) (rx : RelV x v) (ry : RelV y u) (h : rOI C sp E x y H Q) :
    wpAny (model X.prog X.w) X.A (binaryOp1 nm v u) (fun r s' => ∃ z, r = some z ∧ EP X pins σ Q z s') X.xe s := by
  obtain ⟨a, dx, fs, i, rfl, rfl, ea, q⟩ := h
  obtain rfl : v = Value.ref a := rx
  obtain ⟨t, rfl⟩ := ry
  obtain ⟨mA, J, _⟩ := ins_get I.hok ea
  obtain ⟨od, J, _⟩ := J.look
  exact b1_int I.kIn O J (wpAny_mono (run_own (vs := [V.ref a, V.int i]) F hr hb hx I (.cons rfl (.cons ⟨t, rfl⟩ .nil)) q) (fun _ _ z => back_of z) fun _ _ e => e)
theorem b1_io {nm : String} {id : String} {B : Builtin} (D : Dec nm id B) (O : OpO X.K C nm f g) (F : FnOk X.prog X.w X.K X.mg X.base CX k g fd ps sp) (hr : Room k X.A) (hb : Binds X.K fd ps []) (hx : Passes CX X E)
    {pins : List (Addr × Obj)} {s : Shared} {σ : L2.St} {H : Hp} {x y : V} {v u : Value} {Q : VK} (I : Inv X pins σ H s) (rx : RelV x v) (ry : RelV y u) (h : rIO C sp E x y H Q) :
    wpAny (model X.prog X.w) X.A (binaryOp1 nm v u) (fun r s' => ∃ z, r = some z ∧ EP X pins σ Q z s') X.xe s := by
  obtain ⟨b, dx, fs, i, rfl, rfl, ea, q⟩ := h
  obtain rfl : u = Value.ref b := ry
  obtain ⟨t, rfl⟩ := rx
  obtain ⟨mA, J, _⟩ := ins_get I.hok ea
  obtain ⟨od, J, _⟩ := J.look
  exact b1_rint D I.kIn O J (wpAny_mono (run_own (vs := [V.ref b, V.int i]) F hr hb hx I (.cons rfl (.cons ⟨t, rfl⟩ .nil)) q) (fun _ _ z => back_of z) fun _ _ e => e)
theorem bin_of {M : Model} {A : Around} {Ex : Value → Shared → Prop} {s : Shared} {nm : String} (hn : op.info.2 = nm) {v u : Value} {R : Value → Shared → Prop} (h : wpAny M A (binaryOp1 nm v u) (fun r s' => ∃ z, r = some z ∧ R z s') Ex s) : wpAny M A (binaryOp op v u) R Ex s := by
  unfold binaryOp
  refine wpAny_holding (wpAny_bind ?_)
  subst hn
  refine wpAny_mono (show wpAny M A (binaryOp1 op.info.2 v u) _ _ _ from h) (fun r s' hr => ?_) fun _ _ e => e
  obtain ⟨z, rfl, q⟩ := hr
  exact wpAny_pure q
theorem op_oo {nm : String} (hn : op.info.2 = nm) (O : OpO X.K C nm f g) (F : FnOk X.prog X.w X.K X.mg X.base CX k f fd ps sp) (hr : Room k X.A) (hb : Binds X.K fd ps []) (hx : Passes CX X E) : OpR X (binaryOp op) (rOO C sp E) :=
  fun _ _ _ _ _ _ _ _ _ I rx ry h => bin_of hn (b1_oo O F hr hb hx I rx ry h)
theorem op_oi {nm : String} (hn : op.info.2 = nm) (O : OpO X.K C nm f g) (F : FnOk X.prog X.w X.K X.mg X.base CX k f fd ps sp) (hr : Room k X.A) (hb : Binds X.K fd ps []) (hx : Passes CX X E) : OpR X (binaryOp op) (rOI C sp E) :=
  fun _ _ _ _ _ _ _ _ _ I rx ry h => bin_of hn (b1_oi O F hr hb hx I rx ry h)
theorem op_io {nm : String} {id : String} {B : Builtin} (hn : op.info.2 = nm) (D : Dec nm id B) (O : OpO X.K C nm f g) (F : FnOk X.prog X.w X.K X.mg X.base CX k g fd ps sp) (hr : Room k X.A) (hb : Binds X.K fd ps []) (hx : Passes CX X E) : OpR X (binaryOp op) (rIO C sp E) :=
  fun _ _ _ _ _ _ _ _ _ I rx ry h => bin_of hn (b1_io D O F hr hb hx I rx ry h)
/-! ### in place, without a method of its own for it -/
structure NoI (K : PySem.W.Frag) (C : Addr) (nm : String) : Prop where
  mro : ∃ cd, PySem.W.clsIn K C = some cd ∧ cd.mro = [.ref C, .type "object"]
  own : PySem.W.findIn K (.ref C) (dunderI nm) = some none
  obj : PySem.W.findIn K (.type "object") (dunderI nm) = some none
open PySem.W in
theorem looks_noI {M : Model} {h : Heap} {nm : String} {add : Bool} {K : Frag} (X : K.In h) (N : NoI K C nm) : Looks M h (fillsInplaceSlot (.ref C) nm add) false := by
  intro A Q E s k q
  obtain ⟨cd, hc, hm⟩ := N.mro
  have Lm : Looks M h (mroOf (.ref C)) cd.mro := (looks_clsIn X hc).andThen (f := fun cd => pure cd.mro) .now
  have Lm' := Lm.keeps k
  obtain ⟨hh, g, d, tt, os⟩ := s
  have X' : K.In hh := X.keeps k
  have L1 : Looks M hh (typeLookup (.ref C) (dunderI nm)) none := looks_findIn X' N.own
  have L2 : Looks M hh (typeLookup (.type "object") (dunderI nm)) none := looks_findIn X' N.obj
  unfold fillsInplaceSlot
  refine wpAny_bind (Lm'.at ?_)
  rw [hm, List.anyM_cons]
  refine wpAny_bind (wpAny_bind (L1.at ?_))
  refine wpAny_pure ?_
  rw [if_neg Bool.false_ne_true, List.anyM_cons]
  refine wpAny_bind (wpAny_bind (L2.at ?_))
  refine wpAny_pure ?_
  rw [if_neg Bool.false_ne_true]
  exact wpAny_pure q
theorem inp_of {M : Model} {A : Around} {Ex : Value → Shared → Prop} {s : Shared} {nm : String} {K : PySem.W.Frag} {a dx : Addr} {ox : Obj} {od : Option Obj} (hn : op.info.2 = nm) (X : K.In s.heap) (I : PySem.W.InstAt s.heap a ox C od) (N : NoI K C nm) {u : Value} {R : Value → Shared → Prop}
    (h : wpAny M A (binaryOp1 nm (.ref a) u) (fun r s' => ∃ z, r = some z ∧ R z s') Ex s) : wpAny M A (inplaceOp op (.ref a) u) R Ex s := by
  subst hn
  unfold inplaceOp
  refine wpAny_holding ?_
  refine wpAny_bind (I.type.here ?_)
  refine wpAny_bind ((looks_noI X N).here ?_)
  rw [if_neg Bool.false_ne_true]
  refine wpAny_bind (wpAny_mono h (fun r s' hr => ?_) fun _ _ e => e)
  obtain ⟨z, rfl, q⟩ := hr
  exact wpAny_pure q
theorem iop_oo {nm : String} (hn : op.info.2 = nm) (N : NoI X.K C nm) (O : OpO X.K C nm f g) (F : FnOk X.prog X.w X.K X.mg X.base CX k f fd ps sp) (hr : Room k X.A) (hb : Binds X.K fd ps []) (hx : Passes CX X E) : OpR X (inplaceOp op) (rOO C sp E) := by
  intro pins s σ H x y v u Q I rx ry h
  have h' := b1_oo O F hr hb hx I rx ry h
  obtain ⟨a, dx, fs, b, dy, gs, rfl, rfl, ea, eb, q⟩ := h
  obtain rfl : v = Value.ref a := rx
  obtain ⟨mA, J, _⟩ := ins_get I.hok ea
  obtain ⟨od, J, _⟩ := J.look
  exact inp_of (dx := dx) hn I.kIn J N h'
theorem iop_oi {nm : String} (hn : op.info.2 = nm) (N : NoI X.K C nm) (O : OpO X.K C nm f g) (F : FnOk X.prog X.w X.K X.mg X.base CX k f fd ps sp) (hr : Room k X.A) (hb : Binds X.K fd ps []) (hx : Passes CX X E) : OpR X (inplaceOp op) (rOI C sp E) := by
  intro pins s σ H x y v u Q I rx ry h
  have h' := b1_oi O F hr hb hx I rx ry h
  obtain ⟨a, dx, fs, i, rfl, rfl, ea, q⟩ := h
  obtain rfl : v = Value.ref a := rx
  obtain ⟨mA, J, _⟩ := ins_get I.hok ea
  obtain ⟨od, J, _⟩ := J.look
  exact inp_of (dx := dx) hn I.kIn J N h'
/-! ### == by the class's own method, with either answer -/
theorem cmp_own (hs : PySem.W.findIn X.K (.ref C) "__eq__" = some (some (.ref f))) (hf : PySem.W.isFn X.K (.ref f) = true) (F : FnOk X.prog X.w X.K X.mg X.base CX k f fd ps sp) (hr : Room k X.A) (hb : Binds X.K fd ps []) (hx : Passes CX X E) : OpR X (compareOp .Eq) (rOO C sp E) := by
  intro pins s σ H x y v u Q I rx ry h
  obtain ⟨a, dx, fs, b, dy, gs, rfl, rfl, ea, eb, q⟩ := h
  obtain rfl : v = Value.ref a := rx
  obtain rfl : u = Value.ref b := ry
  obtain ⟨mA, J, _⟩ := ins_get I.hok ea
  obtain ⟨od, J, _⟩ := J.look
  obtain ⟨mB, J', _⟩ := ins_get I.hok eb
  obtain ⟨od', J', _⟩ := J'.look
  obtain ⟨m, hF⟩ := I.fr
  show wpAny (model X.prog X.w) X.A (richCompare .Eq (.ref a) (.ref b)) (EP X pins σ Q) X.xe s
  refine PySem.W.cmp_K (op := .Eq) (tb := .ref C) hr.units0 hF I.ok.mod.kin J J'.type (by simp [PySem.W.notFirst]) hs hf ?_
  exact wpAny_mono (run_own (vs := [V.ref a, V.ref b]) F hr hb hx I (.cons rfl (.cons rfl .nil)) q) (fun _ _ z => back_of z) fun _ _ e => e
/-! ### != of two lists with the same items -/
def plainV : V → Bool
  | .int _ => true
  | .ref _ => true
  | _ => false
def rNeSame (K : PySem.W.Frag) : R2 := fun x y H Q => ∃ a b xs, x = .ref a ∧ y = .ref b ∧ SqL K H a xs ∧ SqL K H b xs ∧ (∀ z ∈ xs, plainV z = true) ∧ Q (.bl false) H
theorem eqAt_same {A : Around} {s : Shared} {z : V} {u v : Value} (h : plainV z = true) (r : RelV z u) (r' : RelV z v) : SeqAt.EqAt A s u v true := by
  cases z with
  | int i =>
    have := eqAt_V (A := A) (s := s) r r' rfl rfl
    have e : eqV (.int i) (.int i) = true := by simp [eqV]
    rw [e] at this
    exact this
  | ref a =>
    obtain rfl : u = Value.ref a := r
    obtain rfl : v = Value.ref a := r'
    exact SeqAt.EqAt.same _
  | _ => cases h
theorem op_neSame (hu : X.A.units < cLine) : OpR X (compareOp .NotEq) (rNeSame X.K) := by
  intro pins s σ H x y v u Q I rx ry h
  obtain ⟨a, b, xs, rfl, rfl, ha, hb, hp, q⟩ := h
  obtain rfl : v = Value.ref a := rx
  obtain rfl : u = Value.ref b := ry
  obtain ⟨its, r, ⟨o, n, e, c, d, dt⟩, _⟩ := I.list ha
  obtain ⟨its2, r2, ⟨o2, n2, e2, c2, d2, dt2⟩, _⟩ := I.list hb
  have hsz : its.toArray.size = its2.toArray.size := by rw [List.size_toArray, List.size_toArray, ← r.length, ← r2.length]
  show wpAny (model X.prog X.w) X.A (richCompare .NotEq (.ref a) (.ref b)) (EP X pins σ Q) X.xe s
  refine SeqAt.RcNeAt.lists (e := fun _ => true) ⟨o, e, c, n, dt⟩ ⟨o2, e2, c2, n2, dt2⟩ hsz hu (fun j h1 h2 => ?_) _ _ _ _ ?_
  · have k1 : j < xs.length := by rw [r.length]; simpa using h1
    obtain ⟨w1, hw1, rw1⟩ := r.get (List.getElem?_eq_getElem k1)
    obtain ⟨w2, hw2, rw2⟩ := r2.get (List.getElem?_eq_getElem k1)
    have g1 : its[j]? = some its.toArray[j] := by
      have h1' : j < its.length := by simpa using h1
      rw [List.getElem?_eq_getElem h1'] <;> simp
    have g2 : its2[j]? = some its2.toArray[j] := by
      have h2' : j < its2.length := by simpa using h2
      rw [List.getElem?_eq_getElem h2'] <;> simp
    rw [g1] at hw1
    rw [g2] at hw2
    rw [Option.some.inj hw1, Option.some.inj hw2]
    exact eqAt_same (hp _ (List.getElem_mem k1)) rw1 rw2
  · have e : (!(List.range its.toArray.size).all fun _ => true) = false := by simp
    rw [e]
    exact ⟨.bl false, H, I, rfl, q⟩
end
/-! ### list or tuple -/
section
variable {X : Cx}
theorem ix_or {r1 r2 : R2} (a : IxR X r1) (b : IxR X r2) : IxR X (fun x y H Q => r1 x y H Q ∨ r2 x y H Q) := by
  intro value slice pins s σ H x y v u Q I rx ry h
  rcases h with h | h
  · exact a value slice pins s σ H x y v u Q I rx ry h
  · exact b value slice pins s σ H x y v u Q I rx ry h
def iSeq (K : PySem.W.Frag) (tl : TE) : TI := fun σ H R => tl σ H fun x H1 => ∃ a, x = .ref a ∧ (((∃ xs, SqL K H1 a xs) ∧ R (Itl K a) H1) ∨ ((∃ xs, SqT K H1 a xs) ∧ R (Itt K a) H1))
theorem pi_seq {tg l : Expr} {tl : TE} (hl : PE X l tl) : PI X tg l (iSeq X.K tl) := by
  refine ⟨fun pins s σ H R I h => ?_⟩
  refine thn (hl.run pins s σ H _ I h) fun v s1 ⟨x, H1, I1, r1, q1⟩ => ?_
  obtain ⟨a, e, ⟨⟨xs, hq⟩, q⟩ | ⟨⟨xs, hq⟩, q⟩⟩ := q1
  · subst e
    cases r1
    obtain ⟨its, rv, p, hz⟩ := I1.list hq
    refine wpAny_pyIter_list p.isList ?_
    refine ⟨s1.heap.objs.size, [s1.heap.objs.size], _, _, H1, rfl, I1.kept (t' := s1.toks) fun b o e => Heap.get?_push_of_some _ e, turn_list a _, ⟨_, Heap.get?_push_size _ rfl, rfl, rfl⟩, fun b hb => ?_, q⟩
    have e : b = s1.heap.objs.size := by simpa using hb
    subst e
    exact I1.fpOk (Nat.le_refl _) (I1.hok.fresh (Nat.le_refl _))
  · subst e
    cases r1
    obtain ⟨its, rv, p, hz⟩ := I1.tuple hq
    refine wpAny_pyIter_tuple (show s1.heap.IsTuple a its.toArray from p) ?_
    refine ⟨s1.heap.objs.size, [s1.heap.objs.size], _, _, H1, rfl, I1.kept (t' := s1.toks) fun b o e => Heap.get?_push_of_some _ e, turn_tuple a _, ⟨_, Heap.get?_push_size _ rfl, rfl, rfl⟩, fun b hb => ?_, q⟩
    have e : b = s1.heap.objs.size := by simpa using hb
    subst e
    exact I1.fpOk (Nat.le_refl _) (I1.hok.fresh (Nat.le_refl _))
end
end
end My

/-! My own rules about calls that raise: by keywords alone, at the caller's slots; through a def's body. -/
namespace My
open PySem PySem.Spec PyProof.Rows L2
section
variable {X : Cx} {CX : CXT} {k : Nat} {f : Addr} {fd : FuncData} {ps ks : List Str} {sp : Sp} {E : L2.St → XK} {x : Str} {p pos : Pos} {kws : List Keyword} {tk : TA} {g : List Value → List Value → List Value} {gV : List V → List V → List V}
theorem run_fnkS {pins : List (Addr × Obj)} {σ : L2.St} {H : Hp} {s : Shared} {Q : VK} {us ws : List Value} {vs zs : List V} (F : FnOk X.prog X.w X.K X.mg X.base CX k f fd ps sp) (hr : Room k X.A) (hb : KBinds X.K fd ps ks g gV) (hx : PassesAt CX X σ (E σ))
    (I : Inv X pins σ H s) (r : Vals vs us) (rz : Vals zs ws) (h : sp (gV vs zs) H Q (E σ)) : wpAny (model X.prog X.w) X.A (call (.ref f) us (ks.zip ws)) (EP X pins σ Q) X.xe s := by
  have r2 := hb.rel r rz
  have hl : (g us ws).length = ps.length := by rw [← r2.length]; exact F.len _ _ _ _ h
  refine wpAny_call (codeAny_mono (F.run X.A X.stack s H ⟨us, ks.zip ws⟩ (g us ws) (gV vs zs) Q (E σ) hr I.env0 (hb.to s us ws I.kIn hl) r2 h) fun r s' hq => ?_)
  cases r with
  | error e => exact hx pins H s e s' I hq
  | ok fl =>
    cases fl with
    | ret u => exact I.after hq
    | next => exact False.elim hq
    | brk => exact False.elim hq
    | cont => exact False.elim hq
def tCallK0S (sp : Sp) (gV : List V → List V → List V) (E : L2.St → XK) (tk : TA) : TE := fun σ H Q => tk σ H fun zs H2 => sp (gV [] zs) H2 Q (E σ)
theorem pe_callK0S (F : FnOk X.prog X.w X.K X.mg X.base CX k f fd ps sp) (hr : Room k X.A) (hg : Gl X x) (hm : X.mg x = some (.ref f)) (hk : PySem.W.keepIn X.K (.ref f) = true) (hb : KBinds X.K fd ps ks g gV) (hx : ∀ σ, PassesAt CX X σ (E σ))
    (hkw : PK X kws tk) (hall : (backToKw pos (keywordEach kws X.env)).all (·.1.isSome) = true := by rfl) (hks : (backToKw pos (keywordEach kws X.env)).filterMap (·.1) = ks := by rfl)
    (hdb : (x == ("__debug__" : Str)) = false := by decide)
    (hpl : ((backTo pos (starEach [] X.env)).any (·.1) || (backToKw pos (keywordEach kws X.env)).any (·.1.isNone)) = false := by rfl) :
    PE X (.Call (.Name x p) [] kws pos) (tCallK0S sp gV E tk) := by
  refine ⟨fun pins s σ H Q I h => ?_⟩
  refine wpAny_Call_Name_kw (ld_glob I hg hm ?_ hdb)
  refine PySem.W.callWith_KW0 (h₀ := X.base) I.ok.mod.kin hk hall (thn (hkw.run pos pins s σ H _ I h) fun ws s2 ⟨zs, H2, I2, rz, q2⟩ => ⟨I2.kIn, ?_⟩) hpl
  rw [hks]
  exact run_fnkS (us := []) (vs := []) F hr hb (hx σ) I2 .nil rz q2
end
section
variable {X : Cx} {E E' : XK}
/-- what a callee lets out leaves this def too -/
theorem passX (tk : Takes X (fun cls d _ H => E cls d H)) : Passes (L2.CX X.prog X.w) X E := fun pins σ H s e s' I c => L2.passes_call tk (fun _ _ _ _ h => h) pins σ H s e s' I c
end
end My

/-! My own rules: != by object.__ne__ over an own ==, x is a bool, o.m(k = v). -/
namespace My
open PySem PySem.Spec PyProof.Rows L2

section
variable {X : Cx} {CX : CXT} {k : Nat} {C f : Addr} {fd : FuncData} {ps : List Str} {sp : Sp} {E : XK}
/-- a method run below a built-in -/
theorem run_own1 {pins : List (Addr × Obj)} {s : Shared} {σ : L2.St} {H : Hp} {Q : VK} {us : List Value} {vs : List V} (F : FnOk X.prog X.w X.K X.mg X.base CX k f fd ps sp) (hr : Room (k + 1) X.A) (hb : Binds X.K fd ps []) (hx : Passes CX X E)
    (I : Inv X pins σ H s) (r : Vals vs us) (h : sp vs H Q E) : wpAny (model X.prog X.w) X.A.in1 (call (.ref f) us) (EP X pins σ Q) X.xe s := by
  have hl : (us ++ []).length = ps.length := by
    rw [List.append_nil, ← F.len _ _ _ _ h]
    exact r.length.symm
  refine wpAny_call (codeAny_mono (F.run X.A.in1 X.stack s H ⟨us, []⟩ us vs _ E hr.in1 I.env0.in1 (by
    have := hb s us I.kIn hl
    rw [List.append_nil] at this
    exact this) r h) fun r s' hq => ?_)
  cases r with
  | error e => exact hx pins σ H s e s' I hq
  | ok fl =>
    cases fl with
    | ret w => exact I.after hq
    | next => exact False.elim hq
    | brk => exact False.elim hq
    | cont => exact False.elim hq
/-- C has no != of its own -/
structure NoNe (K : PySem.W.Frag) (C f : Addr) : Prop where
  ne : PySem.W.findIn K (.ref C) "__ne__" = some (some (.builtin "object.__ne__"))
  ob : PySem.W.subIn K (.ref C) (.type "object") = some true
  eq : PySem.W.findIn K (.ref C) "__eq__" = some (some (.ref f))
  fn : PySem.W.isFn K (.ref f) = true
theorem ne_K {prog : Program} {w : World} {A : Around} {Ex : Value → Shared → Prop} {s : Shared} {K : PySem.W.Frag} {a b : Addr} {oa ob : Obj} {oda odb : Option Obj} {Q : Value → Shared → Prop} (hu : A.units + 1 < cLine) (X : K.In s.heap) (N : NoNe K C f)
    (I : PySem.W.InstAt s.heap a oa C oda) (J : PySem.W.InstAt s.heap b ob C odb) (h : wpAny (model prog w) A.in1 (call (.ref f) [.ref a, .ref b]) (fun v s' => ∃ r, v = .bool r ∧ Q (.bool (!r)) s') Ex s) :
    wpAny (model prog w) A (richCompare .NotEq (.ref a) (.ref b)) Q Ex s := by
  have body : wpAny (model prog w) A.in1 (Builtin.«object.__ne__» ⟨[.ref a, .ref b], []⟩) (fun fin s' => ∃ r, fin = .done (.ret (.bool (!r))) ∧ Q (.bool (!r)) s') Ex s := by
    unfold Builtin.«object.__ne__»
    refine wpAny_bind (wpAny_of_eq (a := ((Value.ref a : Value), [Value.ref b])) (by first | rfl | (simp only [slotArgs]; rfl)) ?_)
    refine wpAny_bind (wpAny_cRoomFor hu ?_)
    refine wpAny_bind (PySem.W.ifBound_K X I N.eq N.fn (wpAny_mono h (fun v s' hv => ?_) fun _ _ e => e))
    obtain ⟨r, rfl, q⟩ := hv
    refine wpAny_bind (wpAny_truthy_bool ?_)
    exact wpAny_pure ⟨r, rfl, q⟩
  have below : PySem.W.Looks (model prog w) s.heap (isInstance (.ref a) (.type "object")) true := I.type.andThen (PySem.W.looks_subIn X N.ob)
  have one : wpAny (model prog w) A (tryCompare (.ref a) "__ne__" (.ref b)) (fun r s' => ∃ t, r = some (.bool (!t)) ∧ Q (.bool (!t)) s') Ex s := by
    unfold tryCompare
    simp only [callSpecialIfBound?, bindSpecialIfBound?]
    refine wpAny_bind (wpAny_holding (wpAny_bind (wpAny_bind (wpAny_bind (I.type.here ((PySem.W.looks_findIn X N.ne).here ?_))))))
    simp only [F.cmp_object.ne.bind]
    refine wpAny_bind (wpAny_askSetting (wpAny_ite ?_))
    have fin : wpAny (model prog w) A (call (.builtin "object.__ne__") ([.ref a] ++ [.ref b]) >>= fun v => pure (some v)) (fun r s' => ∃ t, r = some (.bool (!t)) ∧ Q (.bool (!t)) s') Ex s := by
      refine wpAny_bind (wpAny_call (codeAny_call_builtin F.cmp_object.ne.plain F.cmpEntry_ne (PySem.W.check_slot F.cmpKind_ne F.cmpSplit_ne below (F.cmpArgs_ne _ _) (wpAny_mono body (fun fin s' hf => ?_) fun _ _ e => e))))
      obtain ⟨r, rfl, q⟩ := hf
      exact wpAny_pure ⟨r, rfl, q⟩
    have fin2 := wpAny_mono fin (Q' := fun a s' => wpAny (model prog w) A (match a with
        | some Value.notImplemented => pure none
        | none => pure none
        | some v => pure (some v)) (fun r s' => ∃ t, r = some (Value.bool !t) ∧ Q (Value.bool !t) s') Ex s') (fun r s' hr => by
      obtain ⟨t, rfl, q⟩ := hr
      exact wpAny_pure ⟨t, rfl, q⟩) fun _ _ e => e
    split
    · exact wpAny_pure (by exact fin2)
    · exact wpAny_tryCatch (wpAny_pure (by exact fin2))
  unfold richCompare
  simp only [oneThing_ref]
  refine wpAny_holding (wpAny_bind (wpAny_cRoomFor (by omega) ?_))
  refine wpAny_bind (I.type.here (wpAny_bind (J.type.here ?_)))
  split
  · rename_i q
    simp at q
  · refine wpAny_bind (wpAny_pure ?_)
    simp only [Bool.false_eq_true, if_false]
    refine wpAny_bind (wpAny_mono one (fun r s' z => ?_) fun _ _ e => e)
    obtain ⟨t, rfl, hq⟩ := z
    exact wpAny_pure hq
/-- x is y, two bools -/
theorem op_isB : OpR X (compareOp .Is) (fun x y H Q => ∃ a b, x = .bl a ∧ y = .bl b ∧ Q (.bl (decide (a = b))) H) := by
  intro pins s σ H x y v u Q I rx ry h
  obtain ⟨a, b, rfl, rfl, q⟩ := h
  cases rx
  cases ry
  show wpAny (model X.prog X.w) X.A (do return .bool (← isSame (.bool a) (.bool b))) (EP X pins σ Q) X.xe s
  refine wpAny_bind ?_
  unfold isSame
  cases a <;> cases b <;> exact wpAny_pure (wpAny_pure ⟨.bl (decide _), H, I, by rfl, q⟩)
section
variable {ks : List Str} {g : List Value → List Value → List Value} {gV : List V → List V → List V} {o : Expr} {m : Str} {pos apos : Pos} {kws : List Keyword} {ta : TE} {tk : TA}
/-- o.m(k = v, ..), nothing by place -/
def tMethK0 (C : Addr) (m : Str) (sp : Sp) (gV : List V → List V → List V) (E : XK) (ta : TE) (tk : TA) : TE := fun σ H Q => ta σ H fun x H1 => ∃ a dx fs, x = .ref a ∧ H1 a = some (.ins C dx fs) ∧ fs.lookup m = none ∧ tk σ H1 fun zs H2 => sp (gV [x] zs) H2 Q E
theorem pe_methK0 {pl : Sem Bool} (he : PE X o ta) (c : Cls X.K C) (hm : Meth X.K C m f) (F : FnOk X.prog X.w X.K X.mg X.base CX k f fd ps sp) (hr : Room k X.A) (hb : KBinds X.K fd ps ks g gV) (hx : Passes CX X E) (hkw : PK X kws tk)
    (hall : (backToKw pos (keywordEach kws X.env)).all (·.1.isSome) = true := by rfl) (hks : (backToKw pos (keywordEach kws X.env)).filterMap (·.1) = ks := by rfl)
    (hpl : ((backTo pos (starEach [] X.env)).any (·.1) || (backToKw pos (keywordEach kws X.env)).any (·.1.isNone)) = false := by rfl)
    (ht : eval (.Call (.Attribute o m apos) [] kws pos) X.env = (do
      let ov ← eval o X.env
      standAt apos.atName
      let (f, first) ← holding [ov] (getMethod ov m pl)
      callWith pos f first (backTo pos (starEach [] X.env)) (backToKw pos (keywordEach kws X.env))) := by rfl) :
    PE X (.Call (.Attribute o m apos) [] kws pos) (tMethK0 C m sp gV E ta tk) := by
  refine ⟨fun pins s σ H Q I h => ?_⟩
  refine PySem.W.methodCall_KW (pl := pl) (thn (he.run pins s σ H _ I h) fun u s1 ⟨x, H1, I1, rx, a, dx, fs, ex, ea, l, q⟩ => ?_) ht
  subst ex
  obtain rfl : u = Value.ref a := rx
  refine getmeth_ok I1 ea c hm l ?_
  refine PySem.W.callWith_KW0 (first := [.ref a]) (h₀ := X.base) I.ok.mod.kin hm.kp hall (thn (hkw.run pos pins s1 σ H1 _ I1 q) fun ws s2 ⟨zs, H2, I2, rz, q2⟩ => ⟨I2.kIn, ?_⟩) hpl
  rw [hks]
  exact run_fnk (us := [.ref a]) (vs := [.ref a]) F hr hb hx I2 (.cons rfl .nil) rz q2
end
/-! ### a built-in value == an instance: the instance's own == answers -/
theorem eq_right {prog : Program} {w : World} {A : Around} {Ex : Value → Shared → Prop} {s : Shared} {K : PySem.W.Frag} {a : Value} {b : Addr} {ob : Obj} {odb : Option Obj} {Ta ida : String} {Q : Value → Shared → Prop} (hu : A.units < cLine) (X : K.In s.heap)
    (he : PySem.W.findIn K (.ref C) "__eq__" = some (some (.ref f))) (hf : PySem.W.isFn K (.ref f) = true) (ha : s.TypeIs a Ta) (J : PySem.W.InstAt s.heap b ob C odb) (hsub : PySem.W.subIn K (.ref C) (.type Ta) = some false)
    (h1 : Slot Ta (cmpInfo .Eq).2.1 ida) (hc1 : ∀ Q' : Value → Shared → Prop, Q' .notImplemented s → wpAny (model prog w) A (call (.builtin ida) [a, .ref b]) Q' Ex s)
    (h : wpAny (model prog w) A (call (.ref f) [.ref b, a]) (fun v s' => ∃ r, v = .bool r ∧ Q (.bool r) s') Ex s) : wpAny (model prog w) A (richCompare .Eq a (.ref b)) Q Ex s := by
  have hne : (Value.type Ta != Value.ref C) = true := by
    rw [bne_iff_ne]
    exact fun z => nomatch z
  rcases hi : cmpInfo CmpOp.Eq with ⟨sym, n1, n2⟩
  have e1 : n1 = "__eq__" := by cases hi; rfl
  have e2 : n2 = "__eq__" := by cases hi; rfl
  rw [hi] at h1
  have one : wpAny (model prog w) A (tryCompare (.ref b) n2 a) (fun r s' => ∃ t, r = some (.bool t) ∧ Q (.bool t) s') Ex s := by
    rw [e2]
    unfold tryCompare
    refine wpAny_bind (PySem.W.ifBound_K X J he hf (wpAny_mono h (fun v s' hv => ?_) fun _ _ e => e))
    obtain ⟨r, rfl, q⟩ := hv
    exact wpAny_pure ⟨r, rfl, q⟩
  simp only [richCompare, hi, ha.oneThing_none]
  try with_reducible refine wpAny_holding ?_
  refine wpAny_bind (wpAny_cRoomFor hu ?_)
  refine wpAny_bind (wpAny_typeOf ha (wpAny_bind (J.type.here ?_)))
  simp only [hne, if_true]
  refine wpAny_bind ((PySem.W.looks_subIn X hsub).here ?_)
  simp only [Bool.false_eq_true, if_false, Bool.not_false, if_true]
  refine wpAny_bind (m := tryCompare a _ (.ref b)) (wpAny_tryCompare_declines ha h1 (hc1 _ ⟨rfl, ?_⟩))
  refine wpAny_bind (m := tryCompare (.ref b) _ a) (wpAny_mono one (fun r s' hr => ?_) fun _ _ e => e)
  obtain ⟨t, rfl, q⟩ := hr
  exact wpAny_pure q
theorem dec_int_eq (a : Int) (t : Tok) (l C dx : Addr) : Meets (Builtin.«int.__eq__» ⟨[.int a t, .ref l], []⟩) (fun _ R s => s.heap.get? l = some (PySem.W.instObj C dx) ∧ R (.ok (.ret Value.notImplemented)) s) := .of_wp fun prog w A R s h => by obtain ⟨hp, g, d, tk, os⟩ := s; obtain ⟨hl, h⟩ := h; wp_walk; exact ⟨_, rfl, h⟩
theorem dec_str_eq (a : Str) (t : Tok) (l C dx : Addr) : Meets (Builtin.«str.__eq__» ⟨[.str a t, .ref l], []⟩) (fun _ R s => s.heap.get? l = some (PySem.W.instObj C dx) ∧ R (.ok (.ret Value.notImplemented)) s) := .of_wp fun prog w A R s h => by obtain ⟨hp, g, d, tk, os⟩ := s; obtain ⟨hl, h⟩ := h; wp_walk; exact ⟨_, rfl, h⟩
theorem dec_none_eq (l : Addr) : Gives (Builtin.«NoneType.__eq__» ⟨[.none, .ref l], []⟩) (.val (Value.notImplemented)) := .of_wp fun M A E s Q h => by obtain ⟨hp, g, d, tk, os⟩ := s; wp_walk; exact ⟨_, rfl, h⟩
section
variable {prog : Program} {w : World} {A : Around} {Ex : Value → Shared → Prop} {s : Shared}
theorem dec_list_eq {l b : Addr} {Q : Value → Shared → Prop} (hl : s.TypeIs (.ref l) "list") (hb : PySem.W.Looks (model prog w) s.heap (isInstance (.ref b) (.type "list")) false) (q : Q .notImplemented s) : wpAny (model prog w) A (call (.builtin "list.__eq__") [.ref l, .ref b]) Q Ex s := by
  refine GQ.call_here F.slot_list_eq hl F.entry_list_eq (F.args_list_eq_2 _ _) ?_
  obtain ⟨hp, g, d, tk, os⟩ := s
  wp_walk using hb.at
  exact q
theorem dec_tuple_eq {l b : Addr} {Q : Value → Shared → Prop} (hl : s.TypeIs (.ref l) "tuple") (hb : PySem.W.Looks (model prog w) s.heap (isInstance (.ref b) (.type "tuple")) false) (q : Q .notImplemented s) : wpAny (model prog w) A (call (.builtin "tuple.__eq__") [.ref l, .ref b]) Q Ex s := by
  refine GQ.call_here F.slot_tuple_eq hl F.entry_tuple_eq (F.args_tuple_eq_2 _ _) ?_
  obtain ⟨hp, g, d, tk, os⟩ := s
  wp_walk using hb.at
  exact q
end
/-! ### an instance in a list of other things, by its own == -/
section
open PySem.SeqAt MeetsSeq MeetsSeq2 MeetsSeq3 SeqRoads2
variable {prog : Program} {w : World} {A : Around} {R : Result → Shared → Prop}
theorem contains_loopG (l : Addr) (x : Value) (N : Nat) (I : Shared → Prop)
    (hl : ∀ s, I s → ∃ (items : Array Value) (n : Nat), s.heap.get? l = some { cls := .type "list", data := .seq items n } ∧ items.size = N ∧ ∀ i (h : i < items.size), wpAny (model prog w) A.in1 (eqBool items[i] x) (fun r s' => r = false ∧ I s') (fun e s' => R (.error e) s') s)
    (fin : ∀ s, I s → R (.ok (.ret (.bool false))) s) (k : Nat) :
    ∀ i : Nat, N - i = k → i ≤ N → ∀ s, I s → wpAny (model prog w) A.in1 (Builtin.«list.__contains__.loop» ⟨[.ref l, x, rawInt i], []⟩) (GQ.FinOf prog w A R) (fun e s' => R (.error e) s') s := by
  induction k with
  | zero =>
    intro i hk hi s h
    obtain ⟨items, n, hl1, hs1, _⟩ := hl _ h
    have hR : R (.ok (.ret (.bool false))) s := fin s h
    obtain ⟨hp, g, d, tk, os⟩ := s
    wp_walk using AutoSeq1.wpAny_loadPart' hl1
    have hi1 : items[((i : Nat) : Int).toNat]? = none := by simp; omega
    rw [hi1]
    wp_walk
    exact hR
  | succ k ih =>
    intro i hk hi s h
    obtain ⟨items, n, hl1, hs1, turn⟩ := hl _ h
    have hlt : i < items.size := by omega
    have ht := turn i hlt
    obtain ⟨hp, g, d, tk, os⟩ := s
    wp_walk using AutoSeq1.wpAny_loadPart' hl1
    have hi1 : items[((i : Nat) : Int).toNat]? = some items[i] := by simp [hlt]
    have hc : ((i : Int) + 1) = ((i + 1 : Nat) : Int) := by omega
    rw [hi1]
    refine wpAny_bind (wpAny_mono ht (fun r s2 h2 => ?_) fun _ _ x => x)
    obtain ⟨hr, h2⟩ := h2
    subst hr
    have hrec := ih (i + 1) (by omega) (by omega) s2 h2
    obtain ⟨hp2, g2, d2, tk2, os2⟩ := s2
    wp_walk
    rw [hc]
    exact ⟨plainId_quiet plain_contains_loop _, codeAny_builtin entry_contains_loop (by
      rw [Around.under_plainId plain_contains_loop _]
      exact hrec)⟩
theorem list_containsG (l : Addr) (x : Value) (N : Nat) (I : Shared → Prop)
    (hl : ∀ s, I s → ∃ (items : Array Value) (n : Nat), s.heap.get? l = some { cls := .type "list", data := .seq items n } ∧ items.size = N ∧ ∀ i (h : i < items.size), wpAny (model prog w) A.in1 (eqBool items[i] x) (fun r s' => r = false ∧ I s') (fun e s' => R (.error e) s') s)
    (fin : ∀ s, I s → R (.ok (.ret (.bool false))) s) {s : Shared} (h : I s) : wpAny (model prog w) A.in1 (Builtin.«list.__contains__» ⟨[.ref l, x], []⟩) (GQ.FinOf prog w A R) (fun e s' => R (.error e) s') s := by
  have hrec := contains_loopG (A := A) (R := R) l x N I hl fin _ 0 rfl (Nat.zero_le _) s h
  obtain ⟨items, n, hl1, _, _⟩ := hl _ h
  obtain ⟨hp, g, d, tk, os⟩ := s
  wp_walk using AutoSeq1.wpAny_loadPart' hl1
  exact ⟨plainId_quiet plain_contains_loop _, codeAny_builtin entry_contains_loop (by
    rw [Around.under_plainId plain_contains_loop _]
    exact hrec)⟩
end
theorem eqBool_any {prog : Program} {w : World} {A : Around} {Ex : Value → Shared → Prop} {s : Shared} {a : Value} {b : Addr} {Q : Bool → Shared → Prop} (hne : a ≠ .ref b) (h : wpAny (model prog w) A (richCompare .Eq a (.ref b)) (fun v s' => ∃ r, v = .bool r ∧ Q r s') Ex s) : wpAny (model prog w) A (eqBool a (.ref b)) Q Ex s := by
  unfold eqBool
  refine wpAny_holding ?_
  refine wpAny_ite_split (fun hab => absurd (eq_of_beq hab) hne) (fun _ => ?_)
  cases a <;> exact wpAny_bind (wpAny_mono h (fun v s' hv => by
    obtain ⟨r, rfl, q⟩ := hv
    exact wpAny_truthy_bool q) fun _ _ x => x)
/-- another thing than an instance -/
def Oth (K : PySem.W.Frag) (H : Hp) (y : V) : Prop := (∃ i, y = .int i) ∨ (∃ z, y = .str z) ∨ y = .non ∨ (∃ p xs, y = .ref p ∧ H p = some (.tup xs)) ∨ (∃ p xs, y = .ref p ∧ H p = some (.lst xs))
structure OthC (K : PySem.W.Frag) (C f : Addr) : Prop where
  eq : PySem.W.findIn K (.ref C) "__eq__" = some (some (.ref f))
  fn : PySem.W.isFn K (.ref f) = true
  i : PySem.W.subIn K (.ref C) (.type "int") = some false
  s : PySem.W.subIn K (.ref C) (.type "str") = some false
  n : PySem.W.subIn K (.ref C) (.type "NoneType") = some false
  t : PySem.W.subIn K (.ref C) (.type "tuple") = some false
  l : PySem.W.subIn K (.ref C) (.type "list") = some false
def rInO (K : PySem.W.Frag) (C : Addr) (sp : Sp) (E : XK) : R2 := fun x y H Q => ∃ a dx fs l ys, x = .ref a ∧ y = .ref l ∧ H a = some (.ins C dx fs) ∧ H l = some (.lst ys) ∧ (∀ z ∈ ys, Oth K H z ∧ sp [.ref a, z] H (fun v H' => v = .bl false ∧ H' = H) E) ∧ Q (.bl false) H
theorem in_own (O : OthC X.K C f) (Fk : FnOk X.prog X.w X.K X.mg X.base CX k f fd ps sp) (hr : Room (k + 1) X.A) (hb : Binds X.K fd ps []) (hx : Passes CX X E) : OpR X (compareOp .In) (rInO X.K C sp E) := by
  intro pins s σ H x y v u Q I rx ry h
  obtain ⟨a, dx, fs, l, ys, rfl, rfl, ea, el, hz, q⟩ := h
  obtain rfl : v = Value.ref a := rx
  obtain rfl : u = Value.ref l := ry
  obtain ⟨z0, its0, n0, r0, e0⟩ := I.hok l _ el
  show wpAny (model X.prog X.w) X.A (do return .bool (← contains (.ref l) (.ref a))) (EP X pins σ Q) X.xe s
  have hT : s.TypeIs (.ref l) "list" := ⟨_, e0, rfl⟩
  refine wpAny_bind (wpAny_contains_slot hT F.slot_list_contains (wpAny_mono (GQ.call_here (Q := fun v s' => v = .bool false ∧ Inv X pins σ H s') F.slot_list_contains hT F.entry_list_contains (F.args_list_contains_2 _ _)
    (list_containsG l (.ref a) ys.length (fun s' => Inv X pins σ H s') (fun s' I' => ?_) (fun s' I' => ⟨rfl, I'⟩) I)) (fun v s' hv => ?_) fun _ _ e => e))
  · obtain ⟨z1, its, n, r, e⟩ := I'.hok l _ el
    refine ⟨its.toArray, n, e, by rw [List.size_toArray]; exact r.length.symm, fun i hi => ?_⟩
    have k1 : i < ys.length := by rw [r.length]; simpa using hi
    obtain ⟨u, hu, ru⟩ := r.get (List.getElem?_eq_getElem k1)
    have g1 : its[i]? = some its.toArray[i] := by
      have h1' : i < its.length := by simpa using hi
      rw [List.getElem?_eq_getElem h1'] <;> simp
    rw [g1] at hu
    rw [Option.some.inj hu]
    obtain ⟨ho, hsp⟩ := hz _ (List.getElem_mem k1)
    obtain ⟨mA, J, _⟩ := ins_get I'.hok ea
    obtain ⟨od, J, _⟩ := J.look
    have own : wpAny (model X.prog X.w) X.A.in1 (call (.ref f) [.ref a, u]) (fun v s' => ∃ r, v = .bool r ∧ ∃ t, Value.bool r = .bool t ∧ (t = false ∧ Inv X pins σ H s')) X.xe s' := by
      refine wpAny_mono (run_own1 (vs := [V.ref a, ys[i]]) Fk hr hb hx I' (.cons rfl (.cons ru .nil)) hsp) (fun v s2 hv => ?_) fun _ _ e => e
      obtain ⟨x, H2, I2, rv, ex, eH⟩ := hv
      subst ex
      subst eH
      obtain rfl : v = Value.bool false := rv
      exact ⟨false, rfl, false, rfl, rfl, I2⟩
    have hu1 : X.A.in1.units < cLine := hr.in1.units0
    rcases ho with ⟨i', ei⟩ | ⟨z', ez⟩ | en | ⟨p, xs, ep, hp⟩ | ⟨p, xs, ep, hp⟩
    · rw [ei] at ru
      obtain ⟨t, rfl⟩ := ru
      exact eqBool_any (fun z => nomatch z) (eq_right hu1 I'.kIn O.eq O.fn (typeIs_int s' i' t) J O.i F.slot_int_eq (fun Q' q' => call_meets F.slot_int_eq (typeIs_int s' i' t) F.entry_int_eq (F.args_int_eq_2 _ _) (dec_int_eq i' t a C dx) ⟨J.at_, q'⟩) own)
    · rw [ez] at ru
      obtain ⟨t, rfl⟩ := ru
      exact eqBool_any (fun z => nomatch z) (eq_right hu1 I'.kIn O.eq O.fn (typeIs_str s' z' t) J O.s F.slot_str_eq (fun Q' q' => call_meets F.slot_str_eq (typeIs_str s' z' t) F.entry_str_eq (F.args_str_eq_2 _ _) (dec_str_eq z' t a C dx) ⟨J.at_, q'⟩) own)
    · rw [en] at ru
      obtain rfl : u = Value.none := ru
      exact eqBool_any (fun z => nomatch z) (eq_right hu1 I'.kIn O.eq O.fn (typeIs_none s') J O.n F.slot_NoneType_eq (fun Q' q' => call_gives F.slot_NoneType_eq (typeIs_none s') F.entry_NoneType_eq (F.args_NoneType_eq_2 _ _) (dec_none_eq a) q') own)
    · rw [ep] at ru
      obtain rfl : u = Value.ref p := ru
      obtain ⟨its2, r2, pt, _⟩ := I'.tuple (SqT.of hp)
      obtain ⟨ot, et, ct, _⟩ := id pt
      have hTp : s'.TypeIs (.ref p) "tuple" := ⟨ot, et, ct⟩
      have below : PySem.W.Looks (model X.prog X.w) s'.heap (isInstance (.ref a) (.type "tuple")) false := J.type.andThen (PySem.W.looks_subIn I'.kIn O.t)
      refine eqBool_any (fun z => ?_) (eq_right hu1 I'.kIn O.eq O.fn hTp J O.t F.slot_tuple_eq (fun Q' q' => dec_tuple_eq hTp below q') own)
      injection z with z
      rw [z, ea] at hp
      cases hp
    · rw [ep] at ru
      obtain rfl : u = Value.ref p := ru
      obtain ⟨z2, its2, n2, r2, e2⟩ := I'.hok p _ hp
      have hTp : s'.TypeIs (.ref p) "list" := ⟨_, e2, rfl⟩
      have below : PySem.W.Looks (model X.prog X.w) s'.heap (isInstance (.ref a) (.type "list")) false := J.type.andThen (PySem.W.looks_subIn I'.kIn O.l)
      refine eqBool_any (fun z => ?_) (eq_right hu1 I'.kIn O.eq O.fn hTp J O.l F.slot_list_eq (fun Q' q' => dec_list_eq hTp below q') own)
      injection z with z
      rw [z, ea] at hp
      cases hp
  · obtain ⟨rfl, I'⟩ := hv
    exact wpAny_truthy_bool (wpAny_pure ⟨.bl false, H, I', rfl, q⟩)
/-- != of two instances -/
theorem ne_own (N : NoNe X.K C f) (F : FnOk X.prog X.w X.K X.mg X.base CX k f fd ps sp) (hr : Room (k + 1) X.A) (hb : Binds X.K fd ps []) (hx : Passes CX X E) :
    OpR X (compareOp .NotEq) (fun x y H Q => rOO C sp E x y H (fun v H' => ∃ b, v = .bl b ∧ Q (.bl (!b)) H')) := by
  intro pins s σ H x y v u Q I rx ry h
  obtain ⟨a, dx, fs, b, dy, gs, rfl, rfl, ea, eb, q⟩ := h
  obtain rfl : v = Value.ref a := rx
  obtain rfl : u = Value.ref b := ry
  obtain ⟨mA, J, _⟩ := ins_get I.hok ea
  obtain ⟨od, J, _⟩ := J.look
  obtain ⟨mB, J', _⟩ := ins_get I.hok eb
  obtain ⟨od', J', _⟩ := J'.look
  show wpAny (model X.prog X.w) X.A (richCompare .NotEq (.ref a) (.ref b)) (EP X pins σ Q) X.xe s
  refine ne_K (by have := hr.un; omega) I.kIn N J J' (wpAny_mono (run_own1 (vs := [V.ref a, V.ref b]) F hr hb hx I (.cons rfl (.cons rfl .nil)) q) (fun v s2 hv => ?_) fun _ _ e => e)
  obtain ⟨x, H2, I2, rv, t, ex, q2⟩ := hv
  subst ex
  obtain rfl : v = Value.bool t := rv
  exact ⟨t, rfl, .bl (!t), H2, I2, rfl, q2⟩
section
variable {E : L2.St → XK} {o e : Expr} {es : List Expr} {m : Str} {pos apos : Pos} {ta : TE} {t : TA}
/-- o.m(e, ..), what is let out wished for at the caller's slots -/
def tMethE (C : Addr) (m : Str) (sp : Sp) (E : L2.St → XK) (ta : TE) (t : TA) : TE := fun σ H Q => ta σ H fun x H1 => ∃ a dx fs, x = .ref a ∧ H1 a = some (.ins C dx fs) ∧ fs.lookup m = none ∧ t σ H1 fun vs H2 => sp (x :: vs) H2 Q (E σ)
theorem pe_methE {pl : Sem Bool} (he : PE X o ta) (c : Cls X.K C) (hm : Meth X.K C m f) (F : FnOk X.prog X.w X.K X.mg X.base CX k f fd ps sp) (hr : Room k X.A) (hb : Binds X.K fd ps []) (hx : ∀ σ, PassesAt CX X σ (E σ)) (ha : PA X (e :: es) t)
    (hst : starEach (e :: es) X.env = (false, eval e X.env) :: starEach es X.env := by rfl) (hpl : (backTo pos (starEach es X.env)).any (·.1) = false := by rfl)
    (ht : eval (.Call (.Attribute o m apos) (e :: es) [] pos) X.env = (do
      let ov ← eval o X.env
      standAt apos.atName
      let (f, first) ← holding [ov] (getMethod ov m pl)
      callWith pos f first (backTo pos (starEach (e :: es) X.env)) (backToKw pos (keywordEach [] X.env))) := by rfl) :
    PE X (.Call (.Attribute o m apos) (e :: es) [] pos) (tMethE C m sp E ta t) := by
  refine ⟨fun pins s σ H Q I h => ?_⟩
  refine PySem.W.methodCall_KW (pl := pl) (thn (he.run pins s σ H _ I h) fun u s1 ⟨x, H1, I1, rx, a, dx, fs, ex, ea, l, q⟩ => ?_) ht
  subst ex
  obtain rfl : u = Value.ref a := rx
  refine getmeth_ok I1 ea c hm l ?_
  refine PySem.W.callWith_K (first := [.ref a]) (h₀ := X.base) I.ok.mod.kin hm.kp (thn (ha.run pos pins s1 σ H1 _ I1 q) fun us s2 ⟨vs, H2, I2, r, q2⟩ => ⟨I2.kIn, ?_⟩) hst hpl
  exact run_fnS (us := .ref a :: us) (vs := .ref a :: vs) F hr hb (hx σ) I2 (.cons rfl r) q2
end
/-- the receiver by place, the other by its name -/
def kSelf {α : Type} : List α → List α → List α
  | [u], ws => u :: ws
  | _, _ => []
theorem kbinds_self {K : PySem.W.Frag} {fd : FuncData} {p1 p2 k : Str} (h : ∀ (s : Shared) (u w : Value), BindsTo s fd ⟨[u], [(k, w)]⟩ [(p1, u), (p2, w)]) : KBinds K fd [p1, p2] [k] kSelf kSelf where
  to := fun s us ws _ hl => match us, ws, hl with
    | [u], [w], _ => h s u w
    | [], _, hl => nomatch hl
    | [_], [], hl => nomatch hl
    | [_], _ :: _ :: _, hl => by simp [kSelf] at hl
    | _ :: _ :: _, _, hl => nomatch hl
  rel := fun r rz => by
    cases r with
    | nil => exact .nil
    | cons a r =>
      cases r with
      | nil => exact .cons a rz
      | cons => exact .nil
end
end My

/-! My own rule: the own == of two instances within an except suite. -/
namespace My
open PySem PySem.Spec PyProof.Rows L2
/-- a def that may be called while an error is handled: the error stands at p, out of reach -/
structure FnP (P : Program) (w : World) (K : PySem.W.Frag) (mg : Str → Option Value) (base : Heap) (k : Nat) (f : Addr) (fd : FuncData) (ps : List Str) (sp : Sp) : Prop where
  len : ∀ vs H Q E, sp vs H Q E → vs.length = ps.length
  run : ∀ (A : Around) (outer : List Env) (s : Shared) (H : Hp) (args : Args) (us : List Value) (vs : List V) (Q : VK) (E : XK) (p : Addr × Obj), L2H.RoomH k A → L2H.PinOk outer H s p → Env0 P w K mg base A outer s H → BindsTo s fd args (ps.zip us) → Vals vs us → sp vs H Q E →
    codeAny (model P w) A (.call (.ref f) args) (CR CX0 outer P w H s Q E) s
theorem fnP_of {P : Program} {w : World} {K : PySem.W.Frag} {mg : Str → Option Value} {base : Heap} {x qual : Str} {st : Stmt} {f : Addr} {fd : FuncData} {N ps : List Str} {k : Nat} {sp : Sp} (F : Fun K x qual st f fd) (S : FnScope N ps (defScope st)) (len : ∀ vs H Q E, sp vs H Q E → vs.length = ps.length)
    (hbody : ∀ (cdv : Value) (A : Around) (outer : List Env) (s : Shared) (H : Hp) (vs : List V) (Q : VK) (E : XK) (p : Addr × Obj), sp vs H Q E →
      ∃ t, PSs (L2H.cxH CX0 P w K mg base N qual (defScope st) f cdv A outer s H E p) (defBody st) t ∧ t { nx := fun _ H' => Q .non H', rt := Q } (L2.start N vs) H) : FnP P w K mg base (k + 1) f fd ps sp := by
  obtain ⟨oc, od, kV, doc, pm, an, cdv, ct, osl, rfl, lk, hcd⟩ := F.ex
  refine ⟨len, fun A outer s H args us vs Q E p hr hpin e0 hb r hsp => ?_⟩
  have up : ∀ b o, base.get? b = some o → s.heap.get? b = some o := fun b o e => (e0.bs b o e).1
  refine codeAny_call_function hr.depth (e0.mod.kin.keeps up _ _ lk) rfl S.co S.gen rfl (PySem.W.codeRec_of (e0.mod.kin.keeps up) hcd) (hb _ _ _ _ ?_)
  refine wpAny_newFunctionEnv_cells S.kind (fun q hq => (S.par q.1 (List.of_mem_zip hq).1).elim .inl fun c => .inr ⟨c, PySem.W.cellsFrom_some _ _ _ (.inl c)⟩) fun env he s1 y => ?_
  subst he
  refine ⟨(e0.mod.nolimit.keeps up).keeps y.toInCall.keep, codeAny_func ?_⟩
  obtain ⟨t, ht, hq⟩ := hbody cdv A outer s H vs Q E p hsp
  refine wpAny_mono (ht.run [] s1 (L2.start N vs) H _ (L2H.inv_startH S hpin e0 (len _ _ _ _ hsp) r y) hq) (fun fl s' hs => ?_) fun e s' hs => hs
  cases fl with
  | ret u =>
    obtain ⟨v, σ', H', J, rv, q⟩ := hs
    exact ⟨v, H', J.os, J.bare, J.base, J.hok, rv, q⟩
  | next =>
    obtain ⟨σ', H', J, q⟩ := hs
    exact ⟨.non, H', J.os, J.bare, J.base, J.hok, rfl, q⟩
  | brk => exact hs.elim fun _ h => h.elim fun _ h => False.elim h.2
  | cont => exact hs.elim fun _ h => h.elim fun _ h => False.elim h.2
section
variable {X : Cx} {k : Nat} {C f : Addr} {fd : FuncData} {ps : List Str} {sp : Sp} {E : XK} {p : Addr × Obj}
theorem cmp_ownP (hs : PySem.W.findIn X.K (.ref C) "__eq__" = some (some (.ref f))) (hf : PySem.W.isFn X.K (.ref f) = true) (F : FnP X.prog X.w X.K X.mg X.base k f fd ps sp) (hr : L2H.RoomH k X.A) (hp : p ∈ X.pn) (hb : Binds X.K fd ps []) : OpR X (compareOp .Eq) (rOO C sp E) := by
  intro pins s σ H x y v u Q I rx ry h
  obtain ⟨a, dx, fs, b, dy, gs, rfl, rfl, ea, eb, q⟩ := h
  obtain rfl : v = Value.ref a := rx
  obtain rfl : u = Value.ref b := ry
  obtain ⟨mA, J, _⟩ := ins_get I.hok ea
  obtain ⟨od, J, _⟩ := J.look
  obtain ⟨mB, J', _⟩ := ins_get I.hok eb
  obtain ⟨od', J', _⟩ := J'.look
  obtain ⟨m, hF⟩ := I.fr
  have hl : ([Value.ref a, Value.ref b] ++ []).length = ps.length := by rw [← F.len _ _ _ _ q]; rfl
  have b2 := hb s [.ref a, .ref b] I.kIn hl
  have P1 := I.pin p (List.mem_append_left _ hp)
  have hpin : L2H.PinOk X.stack H s p := ⟨P1.1, P1.2.1, fun hm => (List.mem_cons.mp (I.stkSub p.1 hm)).elim P1.2.2.1 P1.2.2.2.1, P1.2.2.2.2⟩
  show wpAny (model X.prog X.w) X.A (richCompare .Eq (.ref a) (.ref b)) (EP X pins σ Q) X.xe s
  refine PySem.W.cmp_K (op := .Eq) (tb := .ref C) (by have := hr.un; omega) hF I.ok.mod.kin J J'.type (by simp [PySem.W.notFirst]) hs hf ?_
  refine wpAny_call (codeAny_mono (F.run X.A X.stack s H ⟨[.ref a, .ref b], []⟩ [.ref a, .ref b] [.ref a, .ref b] Q E p hr hpin I.env0 b2 (.cons rfl (.cons rfl .nil)) q) fun r s' hq => ?_)
  cases r with
  | error e => exact hq.elim
  | ok fl =>
    cases fl with
    | ret w => exact back_of (I.after hq)
    | next => exact False.elim hq
    | brk => exact False.elim hq
    | cont => exact False.elim hq
end
end My

namespace My
open PySem PySem.Spec PyProof.Rows L2
def topS (i : Nat) : Stmt := PySem.Challenge.pw_extralink_k03_ratio_sums.main.body.getD i (.Pass ⟨0, 0, 0, 0⟩)
abbrev s_as_ratio : Stmt := topS 12
theorem sc_as_ratio : FnScope ["value"] ["value"] (defScope s_as_ratio) := ⟨rfl, rfl, rfl, by decide +kernel, rfl, by decide +kernel, by decide +kernel⟩
abbrev s_numeral : Stmt := topS 14
theorem sc_numeral : FnScope ["number", "rest", "pieces", "piece"] ["number"] (defScope s_numeral) := ⟨rfl, rfl, rfl, by decide +kernel, rfl, by decide +kernel, by decide +kernel⟩
abbrev s_start : Stmt := topS 16
theorem sc_start : FnScope ["_law_script", "_law_cell"] ["_law_script"] (defScope s_start) := ⟨rfl, rfl, rfl, by decide +kernel, rfl, by decide +kernel, by decide +kernel⟩
abbrev s_draw : Stmt := topS 17
theorem sc_draw : FnScope ["_law_state", "_law_size", "_law_digit", "_law_cell", "_law_one"] ["_law_state", "_law_size"] (defScope s_draw) := ⟨rfl, rfl, rfl, by decide +kernel, rfl, by decide +kernel, by decide +kernel⟩
abbrev s_low : Stmt := topS 18
theorem sc_low : FnScope ["_law_up", "_law_down", "_law_a", "_law_b"] ["_law_up", "_law_down"] (defScope s_low) := ⟨rfl, rfl, rfl, by decide +kernel, rfl, by decide +kernel, by decide +kernel⟩
abbrev s_plus : Stmt := topS 19
theorem sc_plus : FnScope ["_law_one", "_law_two"] ["_law_one", "_law_two"] (defScope s_plus) := ⟨rfl, rfl, rfl, by decide +kernel, rfl, by decide +kernel, by decide +kernel⟩
abbrev s_times : Stmt := topS 20
theorem sc_times : FnScope ["_law_one", "_law_two"] ["_law_one", "_law_two"] (defScope s_times) := ⟨rfl, rfl, rfl, by decide +kernel, rfl, by decide +kernel, by decide +kernel⟩
abbrev s_less : Stmt := topS 21
theorem sc_less : FnScope ["_law_one", "_law_two"] ["_law_one", "_law_two"] (defScope s_less) := ⟨rfl, rfl, rfl, by decide +kernel, rfl, by decide +kernel, by decide +kernel⟩
abbrev s_is : Stmt := topS 22
theorem sc_is : FnScope ["_law_actual", "_law_pair"] ["_law_actual", "_law_pair"] (defScope s_is) := ⟨rfl, rfl, rfl, by decide +kernel, rfl, by decide +kernel, by decide +kernel⟩
abbrev s_value : Stmt := topS 23
theorem sc_value : FnScope ["_law_state", "_law_pair", "_law_factor"] ["_law_state", "_law_pair"] (defScope s_value) := ⟨rfl, rfl, rfl, by decide +kernel, rfl, by decide +kernel, by decide +kernel⟩
abbrev s_fraction : Stmt := topS 24
theorem sc_fraction : FnScope ["_law_state", "_law_scale", "_law_bottom"] ["_law_state"] (defScope s_fraction) := ⟨rfl, rfl, rfl, by decide +kernel, rfl, by decide +kernel, by decide +kernel⟩
abbrev s_minus : Stmt := topS 25
theorem sc_minus : FnScope ["_law_one", "_law_two"] ["_law_one", "_law_two"] (defScope s_minus) := ⟨rfl, rfl, rfl, by decide +kernel, rfl, by decide +kernel, by decide +kernel⟩
abbrev s_over : Stmt := topS 26
theorem sc_over : FnScope ["_law_a", "_law_divisor", "_law_one", "_law_two", "_law_actual", "e"] ["_law_a", "_law_divisor", "_law_one", "_law_two"] (defScope s_over) := ⟨rfl, rfl, rfl, by decide +kernel, rfl, by decide +kernel, by decide +kernel⟩
abbrev s_quotients : Stmt := topS 27
theorem sc_quotients : FnScope ["_law_a", "_law_b", "_law_one", "_law_two", "_law_below"] ["_law_a", "_law_b", "_law_one", "_law_two"] (defScope s_quotients) := ⟨rfl, rfl, rfl, by decide +kernel, rfl, by decide +kernel, by decide +kernel⟩
abbrev s_in_place : Stmt := topS 28
theorem sc_in_place : FnScope ["_law_a", "_law_b", "_law_one", "_law_two", "_law_total", "_law_rest", "_law_product"] ["_law_a", "_law_b", "_law_one", "_law_two"] (defScope s_in_place) := ⟨rfl, rfl, rfl, by decide +kernel, rfl, by decide +kernel, by decide +kernel⟩
abbrev s_law : Stmt := topS 29
theorem sc_law : FnScope ["_law_script", "_law_state", "_law_one", "_law_two", "_law_near", "_law_a", "_law_b", "_law_other"] ["_law_script"] (defScope s_law) := ⟨rfl, rfl, rfl, by decide +kernel, rfl, by decide +kernel, by decide +kernel⟩
abbrev s_OutOfRange_init : Stmt := inClass (topS 4) 0
theorem sc_OutOfRange_init : FnScope ["self", "value"] ["self", "value"] (defScope s_OutOfRange_init) := ⟨rfl, rfl, rfl, by decide +kernel, rfl, by decide +kernel, by decide +kernel⟩
abbrev s_Ratio_init : Stmt := inClass (topS 11) 0
theorem sc_Ratio_init : FnScope ["self", "top", "bottom", "common"] ["self", "top", "bottom"] (defScope s_Ratio_init) := ⟨rfl, rfl, rfl, by decide +kernel, rfl, by decide +kernel, by decide +kernel⟩
abbrev s_Ratio_top : Stmt := inClass (topS 11) 2
theorem sc_Ratio_top : FnScope ["self"] ["self"] (defScope s_Ratio_top) := ⟨rfl, rfl, rfl, by decide +kernel, rfl, by decide +kernel, by decide +kernel⟩
abbrev s_Ratio_bottom : Stmt := inClass (topS 11) 3
theorem sc_Ratio_bottom : FnScope ["self"] ["self"] (defScope s_Ratio_bottom) := ⟨rfl, rfl, rfl, by decide +kernel, rfl, by decide +kernel, by decide +kernel⟩
abbrev s_Ratio_over : Stmt := inClass (topS 11) 5
theorem sc_Ratio_over : FnScope ["self", "value", "divisor"] ["self", "value"] (defScope s_Ratio_over) := ⟨rfl, rfl, rfl, by decide +kernel, rfl, by decide +kernel, by decide +kernel⟩
abbrev s_Ratio_below : Stmt := inClass (topS 11) 6
theorem sc_Ratio_below : FnScope ["self", "value", "other"] ["self", "value"] (defScope s_Ratio_below) := ⟨rfl, rfl, rfl, by decide +kernel, rfl, by decide +kernel, by decide +kernel⟩
abbrev s_Ratio_neg : Stmt := inClass (topS 11) 7
theorem sc_Ratio_neg : FnScope ["self"] ["self"] (defScope s_Ratio_neg) := ⟨rfl, rfl, rfl, by decide +kernel, rfl, by decide +kernel, by decide +kernel⟩
abbrev s_Ratio_add : Stmt := inClass (topS 11) 8
theorem sc_Ratio_add : FnScope ["self", "other", "addend", "top"] ["self", "other"] (defScope s_Ratio_add) := ⟨rfl, rfl, rfl, by decide +kernel, rfl, by decide +kernel, by decide +kernel⟩
abbrev s_Ratio_radd : Stmt := inClass (topS 11) 9
theorem sc_Ratio_radd : FnScope ["self", "other"] ["self", "other"] (defScope s_Ratio_radd) := ⟨rfl, rfl, rfl, by decide +kernel, rfl, by decide +kernel, by decide +kernel⟩
abbrev s_Ratio_sub : Stmt := inClass (topS 11) 10
theorem sc_Ratio_sub : FnScope ["self", "other"] ["self", "other"] (defScope s_Ratio_sub) := ⟨rfl, rfl, rfl, by decide +kernel, rfl, by decide +kernel, by decide +kernel⟩
abbrev s_Ratio_rsub : Stmt := inClass (topS 11) 11
theorem sc_Ratio_rsub : FnScope ["self", "other"] ["self", "other"] (defScope s_Ratio_rsub) := ⟨rfl, rfl, rfl, by decide +kernel, rfl, by decide +kernel, by decide +kernel⟩
abbrev s_Ratio_mul : Stmt := inClass (topS 11) 12
theorem sc_Ratio_mul : FnScope ["self", "other", "factor"] ["self", "other"] (defScope s_Ratio_mul) := ⟨rfl, rfl, rfl, by decide +kernel, rfl, by decide +kernel, by decide +kernel⟩
abbrev s_Ratio_rmul : Stmt := inClass (topS 11) 13
theorem sc_Ratio_rmul : FnScope ["self", "other"] ["self", "other"] (defScope s_Ratio_rmul) := ⟨rfl, rfl, rfl, by decide +kernel, rfl, by decide +kernel, by decide +kernel⟩
abbrev s_Ratio_eq : Stmt := inClass (topS 11) 14
theorem sc_Ratio_eq : FnScope ["self", "other"] ["self", "other"] (defScope s_Ratio_eq) := ⟨rfl, rfl, rfl, by decide +kernel, rfl, by decide +kernel, by decide +kernel⟩
abbrev s_Ratio_str : Stmt := inClass (topS 11) 15
theorem sc_Ratio_str : FnScope ["self"] ["self"] (defScope s_Ratio_str) := ⟨rfl, rfl, rfl, by decide +kernel, rfl, by decide +kernel, by decide +kernel⟩
/-- what the top has written -/
structure Txt (K : PySem.W.Frag) (mg : Str → Option Value) where
  f_OutOfRange : Addr
  m_OutOfRange : mg "OutOfRange" = some (.ref f_OutOfRange)
  f_Ratio : Addr
  m_Ratio : mg "Ratio" = some (.ref f_Ratio)
  cl_Ratio : Cls K f_Ratio
  ic_Ratio : C8.InsC K f_Ratio
  na_Ratio_top : NoAttr K f_Ratio "_top"
  na_Ratio_bottom : NoAttr K f_Ratio "_bottom"
  ki_Ratio_int : PySem.W.kitOne K (.type "int") (.ref f_Ratio) = some false
  ki_Ratio_str : PySem.W.kitOne K (.type "str") (.ref f_Ratio) = some false
  ki_Ratio_NoneType : PySem.W.kitOne K (.type "NoneType") (.ref f_Ratio) = some false
  ki_Ratio_tuple : PySem.W.kitOne K (.type "tuple") (.ref f_Ratio) = some false
  ki_Ratio_list : PySem.W.kitOne K (.type "list") (.ref f_Ratio) = some false
  f_as_ratio : Addr
  d_as_ratio : FuncData
  F_as_ratio : Fun K "as_ratio" "as_ratio" s_as_ratio f_as_ratio d_as_ratio
  b_as_ratio : Binds K d_as_ratio ["value"] []
  m_as_ratio : mg "as_ratio" = some (.ref f_as_ratio)
  f_numeral : Addr
  d_numeral : FuncData
  F_numeral : Fun K "numeral" "numeral" s_numeral f_numeral d_numeral
  b_numeral : Binds K d_numeral ["number"] []
  m_numeral : mg "numeral" = some (.ref f_numeral)
  f_start : Addr
  d_start : FuncData
  F_start : Fun K "_law_start" "_law_start" s_start f_start d_start
  b_start : Binds K d_start ["_law_script"] []
  m_start : mg "_law_start" = some (.ref f_start)
  f_draw : Addr
  d_draw : FuncData
  F_draw : Fun K "_law_draw" "_law_draw" s_draw f_draw d_draw
  b_draw : Binds K d_draw ["_law_state", "_law_size"] []
  m_draw : mg "_law_draw" = some (.ref f_draw)
  f_low : Addr
  d_low : FuncData
  F_low : Fun K "_law_low" "_law_low" s_low f_low d_low
  b_low : Binds K d_low ["_law_up", "_law_down"] []
  m_low : mg "_law_low" = some (.ref f_low)
  f_plus : Addr
  d_plus : FuncData
  F_plus : Fun K "_law_plus" "_law_plus" s_plus f_plus d_plus
  b_plus : Binds K d_plus ["_law_one", "_law_two"] []
  m_plus : mg "_law_plus" = some (.ref f_plus)
  f_times : Addr
  d_times : FuncData
  F_times : Fun K "_law_times" "_law_times" s_times f_times d_times
  b_times : Binds K d_times ["_law_one", "_law_two"] []
  m_times : mg "_law_times" = some (.ref f_times)
  f_less : Addr
  d_less : FuncData
  F_less : Fun K "_law_less" "_law_less" s_less f_less d_less
  b_less : Binds K d_less ["_law_one", "_law_two"] []
  m_less : mg "_law_less" = some (.ref f_less)
  f_is : Addr
  d_is : FuncData
  F_is : Fun K "_law_is" "_law_is" s_is f_is d_is
  b_is : Binds K d_is ["_law_actual", "_law_pair"] []
  m_is : mg "_law_is" = some (.ref f_is)
  f_value : Addr
  d_value : FuncData
  F_value : Fun K "_law_value" "_law_value" s_value f_value d_value
  b_value : Binds K d_value ["_law_state", "_law_pair"] []
  m_value : mg "_law_value" = some (.ref f_value)
  f_fraction : Addr
  d_fraction : FuncData
  F_fraction : Fun K "_law_fraction" "_law_fraction" s_fraction f_fraction d_fraction
  b_fraction : Binds K d_fraction ["_law_state"] []
  m_fraction : mg "_law_fraction" = some (.ref f_fraction)
  f_minus : Addr
  d_minus : FuncData
  F_minus : Fun K "_law_minus" "_law_minus" s_minus f_minus d_minus
  b_minus : Binds K d_minus ["_law_one", "_law_two"] []
  m_minus : mg "_law_minus" = some (.ref f_minus)
  f_over : Addr
  d_over : FuncData
  F_over : Fun K "_law_over" "_law_over" s_over f_over d_over
  b_over : Binds K d_over ["_law_a", "_law_divisor", "_law_one", "_law_two"] []
  m_over : mg "_law_over" = some (.ref f_over)
  f_quotients : Addr
  d_quotients : FuncData
  F_quotients : Fun K "_law_quotients" "_law_quotients" s_quotients f_quotients d_quotients
  b_quotients : Binds K d_quotients ["_law_a", "_law_b", "_law_one", "_law_two"] []
  m_quotients : mg "_law_quotients" = some (.ref f_quotients)
  f_in_place : Addr
  d_in_place : FuncData
  F_in_place : Fun K "_law_in_place" "_law_in_place" s_in_place f_in_place d_in_place
  b_in_place : Binds K d_in_place ["_law_a", "_law_b", "_law_one", "_law_two"] []
  m_in_place : mg "_law_in_place" = some (.ref f_in_place)
  f_OutOfRange_init : Addr
  d_OutOfRange_init : FuncData
  F_OutOfRange_init : Fun K "__init__" "OutOfRange.__init__" s_OutOfRange_init f_OutOfRange_init d_OutOfRange_init
  b_OutOfRange_init : Binds K d_OutOfRange_init ["self", "value"] []
  a_OutOfRange_init : PySem.W.findIn K (.ref f_OutOfRange) "__init__" = some (some (.ref f_OutOfRange_init))
  i_OutOfRange_init : PySem.W.isFn K (.ref f_OutOfRange_init) = true
  f_Ratio_init : Addr
  d_Ratio_init : FuncData
  F_Ratio_init : FunD K "__init__" "Ratio.__init__" (defArgs s_Ratio_init) (defBody s_Ratio_init) (defScope s_Ratio_init) [V.int 1] [] f_Ratio_init d_Ratio_init
  a_Ratio_init : PySem.W.findIn K (.ref f_Ratio) "__init__" = some (some (.ref f_Ratio_init))
  i_Ratio_init : PySem.W.isFn K (.ref f_Ratio_init) = true
  mk_Ratio : Mk K f_Ratio f_Ratio_init
  f_Ratio_top : Addr
  d_Ratio_top : FuncData
  F_Ratio_top : Fun K "top" "Ratio.top" s_Ratio_top f_Ratio_top d_Ratio_top
  b_Ratio_top : Binds K d_Ratio_top ["self"] []
  p0_Ratio_top : Addr
  p_Ratio_top : PropOf K f_Ratio "top" p0_Ratio_top f_Ratio_top
  f_Ratio_bottom : Addr
  d_Ratio_bottom : FuncData
  F_Ratio_bottom : Fun K "bottom" "Ratio.bottom" s_Ratio_bottom f_Ratio_bottom d_Ratio_bottom
  b_Ratio_bottom : Binds K d_Ratio_bottom ["self"] []
  p0_Ratio_bottom : Addr
  p_Ratio_bottom : PropOf K f_Ratio "bottom" p0_Ratio_bottom f_Ratio_bottom
  f_Ratio_over : Addr
  d_Ratio_over : FuncData
  F_Ratio_over : Fun K "over" "Ratio.over" s_Ratio_over f_Ratio_over d_Ratio_over
  b_Ratio_over : Binds K d_Ratio_over ["self", "value"] []
  a_Ratio_over : PySem.W.findIn K (.ref f_Ratio) "over" = some (some (.ref f_Ratio_over))
  i_Ratio_over : PySem.W.isFn K (.ref f_Ratio_over) = true
  f_Ratio_below : Addr
  d_Ratio_below : FuncData
  F_Ratio_below : Fun K "below" "Ratio.below" s_Ratio_below f_Ratio_below d_Ratio_below
  b_Ratio_below : Binds K d_Ratio_below ["self", "value"] []
  a_Ratio_below : PySem.W.findIn K (.ref f_Ratio) "below" = some (some (.ref f_Ratio_below))
  i_Ratio_below : PySem.W.isFn K (.ref f_Ratio_below) = true
  f_Ratio_neg : Addr
  d_Ratio_neg : FuncData
  F_Ratio_neg : Fun K "__neg__" "Ratio.__neg__" s_Ratio_neg f_Ratio_neg d_Ratio_neg
  b_Ratio_neg : Binds K d_Ratio_neg ["self"] []
  a_Ratio_neg : PySem.W.findIn K (.ref f_Ratio) "__neg__" = some (some (.ref f_Ratio_neg))
  i_Ratio_neg : PySem.W.isFn K (.ref f_Ratio_neg) = true
  f_Ratio_add : Addr
  d_Ratio_add : FuncData
  F_Ratio_add : Fun K "__add__" "Ratio.__add__" s_Ratio_add f_Ratio_add d_Ratio_add
  b_Ratio_add : Binds K d_Ratio_add ["self", "other"] []
  a_Ratio_add : PySem.W.findIn K (.ref f_Ratio) "__add__" = some (some (.ref f_Ratio_add))
  i_Ratio_add : PySem.W.isFn K (.ref f_Ratio_add) = true
  f_Ratio_radd : Addr
  d_Ratio_radd : FuncData
  F_Ratio_radd : Fun K "__radd__" "Ratio.__radd__" s_Ratio_radd f_Ratio_radd d_Ratio_radd
  b_Ratio_radd : Binds K d_Ratio_radd ["self", "other"] []
  a_Ratio_radd : PySem.W.findIn K (.ref f_Ratio) "__radd__" = some (some (.ref f_Ratio_radd))
  i_Ratio_radd : PySem.W.isFn K (.ref f_Ratio_radd) = true
  f_Ratio_sub : Addr
  d_Ratio_sub : FuncData
  F_Ratio_sub : Fun K "__sub__" "Ratio.__sub__" s_Ratio_sub f_Ratio_sub d_Ratio_sub
  b_Ratio_sub : Binds K d_Ratio_sub ["self", "other"] []
  a_Ratio_sub : PySem.W.findIn K (.ref f_Ratio) "__sub__" = some (some (.ref f_Ratio_sub))
  i_Ratio_sub : PySem.W.isFn K (.ref f_Ratio_sub) = true
  f_Ratio_rsub : Addr
  d_Ratio_rsub : FuncData
  F_Ratio_rsub : Fun K "__rsub__" "Ratio.__rsub__" s_Ratio_rsub f_Ratio_rsub d_Ratio_rsub
  b_Ratio_rsub : Binds K d_Ratio_rsub ["self", "other"] []
  a_Ratio_rsub : PySem.W.findIn K (.ref f_Ratio) "__rsub__" = some (some (.ref f_Ratio_rsub))
  i_Ratio_rsub : PySem.W.isFn K (.ref f_Ratio_rsub) = true
  f_Ratio_mul : Addr
  d_Ratio_mul : FuncData
  F_Ratio_mul : Fun K "__mul__" "Ratio.__mul__" s_Ratio_mul f_Ratio_mul d_Ratio_mul
  b_Ratio_mul : Binds K d_Ratio_mul ["self", "other"] []
  a_Ratio_mul : PySem.W.findIn K (.ref f_Ratio) "__mul__" = some (some (.ref f_Ratio_mul))
  i_Ratio_mul : PySem.W.isFn K (.ref f_Ratio_mul) = true
  f_Ratio_rmul : Addr
  d_Ratio_rmul : FuncData
  F_Ratio_rmul : Fun K "__rmul__" "Ratio.__rmul__" s_Ratio_rmul f_Ratio_rmul d_Ratio_rmul
  b_Ratio_rmul : Binds K d_Ratio_rmul ["self", "other"] []
  a_Ratio_rmul : PySem.W.findIn K (.ref f_Ratio) "__rmul__" = some (some (.ref f_Ratio_rmul))
  i_Ratio_rmul : PySem.W.isFn K (.ref f_Ratio_rmul) = true
  f_Ratio_eq : Addr
  d_Ratio_eq : FuncData
  F_Ratio_eq : Fun K "__eq__" "Ratio.__eq__" s_Ratio_eq f_Ratio_eq d_Ratio_eq
  b_Ratio_eq : Binds K d_Ratio_eq ["self", "other"] []
  a_Ratio_eq : PySem.W.findIn K (.ref f_Ratio) "__eq__" = some (some (.ref f_Ratio_eq))
  i_Ratio_eq : PySem.W.isFn K (.ref f_Ratio_eq) = true
  f_Ratio_str : Addr
  d_Ratio_str : FuncData
  F_Ratio_str : Fun K "__str__" "Ratio.__str__" s_Ratio_str f_Ratio_str d_Ratio_str
  b_Ratio_str : Binds K d_Ratio_str ["self"] []
  a_Ratio_str : PySem.W.findIn K (.ref f_Ratio) "__str__" = some (some (.ref f_Ratio_str))
  i_Ratio_str : PySem.W.isFn K (.ref f_Ratio_str) = true
  me_Ratio_over : Meth K f_Ratio "over" f_Ratio_over
  me_Ratio_below : Meth K f_Ratio "below" f_Ratio_below
  op_Ratio_add : OpO K f_Ratio "add" f_Ratio_add f_Ratio_radd
  op_Ratio_sub : OpO K f_Ratio "sub" f_Ratio_sub f_Ratio_rsub
  op_Ratio_mul : OpO K f_Ratio "mul" f_Ratio_mul f_Ratio_rmul
  oth_Ratio : OthC K f_Ratio f_Ratio_eq
  none_Ratio : NoNe K f_Ratio f_Ratio_eq
  kbm_Ratio_over : KBinds K d_Ratio_over ["self", "value"] ["value"] kSelf kSelf
  kbm_Ratio_below : KBinds K d_Ratio_below ["self", "value"] ["value"] kSelf kSelf
  noi_Ratio_add : NoI K f_Ratio "add"
  noi_Ratio_sub : NoI K f_Ratio "sub"
  noi_Ratio_mul : NoI K f_Ratio "mul"
  e1_Ratio_init : List Value
  v1_Ratio_init : Vals [V.int 1] e1_Ratio_init
  b1_Ratio_init : Binds K d_Ratio_init ["self", "top", "bottom"] e1_Ratio_init
  e2_Ratio_init : List Value
  v2_Ratio_init : Vals [] e2_Ratio_init
  b2_Ratio_init : Binds K d_Ratio_init ["self", "top", "bottom"] e2_Ratio_init
  ox_OutOfRange : OexC K f_OutOfRange
  ix_OutOfRange : PySem.W.findIn K (.ref f_OutOfRange) "__init__" = some (some (.ref f_OutOfRange_init))
  tx_OutOfRange : PySem.W.typeIn K (.ref f_OutOfRange_init) = some (.type "function")
  xf_OutOfRange : XfC K f_OutOfRange
  ec_OutOfRange : ExcC K f_OutOfRange
  no_OutOfRange_value : PySem.W.findIn K (.ref f_OutOfRange) "value" = some none
  es_OutOfRange_OutOfRange : PySem.W.subIn K (.ref f_OutOfRange) (.ref f_OutOfRange) = some true
  xi_OutOfRange_OutOfRange : PySem.W.isClsIn K f_OutOfRange = true
  xt_OutOfRange_OutOfRange : PySem.W.typeIn K (.ref f_OutOfRange) = some (.type "type")
  t_PIECE : Tok
  c_PIECE : mg "PIECE" = some (.int 10000000000000000000000000000000000000000000000000000000000000000 t_PIECE)
  t_PIECE_DIGITS : Tok
  c_PIECE_DIGITS : mg "PIECE_DIGITS" = some (.int 64 t_PIECE_DIGITS)
  g_gcd : mg "gcd" = some (.builtin "math.gcd")
  n_abs : mg "abs" = none
  n_bool : mg "bool" = none
  n_divmod : mg "divmod" = none
  n_int : mg "int" = none
  n_isinstance : mg "isinstance" = none
  n_len : mg "len" = none
  n_list : mg "list" = none
  n_str : mg "str" = none
/-! ### the law's own draws: a list of great numbers, a list of cells, a count -/
section
variable {P : Program} {w : World} {K : PySem.W.Frag} {mg : Str → Option Value} {base : Heap}
/-- the state's objects as they stand; G is what else is known, the state is none of it -/
structure DS (G H : Hp) (s b c : Addr) (gs cs : List Int) (n : Nat) : Prop where
  same : Same G H
  fs : G s = none
  fb : G b = none
  fc : G c = none
  hs : H s = some (.lst [.ref b, .ref c, .int (n : Int)])
  hb : H b = some (.lst (gs.map V.int))
  hc : H c = some (.lst (cs.map V.int))
  ne : b ≠ c
  pos : 0 < cs.length
theorem DS.sb {G H : Hp} {s b c : Addr} {gs cs : List Int} {n : Nat} (d : DS G H s b c gs cs n) : s ≠ b := ne_of d.hs d.hb (by cases gs <;> simp)
theorem DS.sc {G H : Hp} {s b c : Addr} {gs cs : List Int} {n : Nat} (d : DS G H s b c gs cs n) : s ≠ c := ne_of d.hs d.hc (by cases cs <;> simp)
/-- at most m draws were made -/
def DSt (G H : Hp) (s : Addr) (m : Nat) : Prop := ∃ (b c : Addr) (gs cs : List Int) (n : Nat), DS G H s b c gs cs n ∧ n ≤ m
theorem DSt.same {G H : Hp} {s : Addr} {m : Nat} (d : DSt G H s m) : Same G H := let ⟨_, _, _, _, _, d, _⟩ := d; d.same
theorem DSt.mono {G H : Hp} {s : Addr} {m m' : Nat} (d : DSt G H s m) (h : m ≤ m') : DSt G H s m' := let ⟨b, c, gs, cs, n, d, hn⟩ := d; ⟨b, c, gs, cs, n, d, Nat.le_trans hn h⟩
/-- a new object comes beside, known from then on -/
theorem DSt.new {G H : Hp} {s : Addr} {m : Nat} {p : Addr} {o : HO} (d : DSt G H s m) (hp : H p = none) : DSt (upd G p o) (upd H p o) s m := by
  obtain ⟨b, c, gs, cs, n, d, hn⟩ := d
  have n1 : s ≠ p := ne_of_none d.hs hp
  have n2 : b ≠ p := ne_of_none d.hb hp
  have n3 : c ≠ p := ne_of_none d.hc hp
  refine ⟨b, c, gs, cs, n, ⟨fun a u e => ?_, ?_, ?_, ?_, ?_, ?_, ?_, d.ne, d.pos⟩, hn⟩
  · by_cases ha : a = p
    · subst ha; rw [upd_same] at e ⊢; exact e
    · rw [upd_ne ha] at e ⊢; exact d.same a u e
  · rw [upd_ne n1]; exact d.fs
  · rw [upd_ne n2]; exact d.fb
  · rw [upd_ne n3]; exact d.fc
  · rw [upd_ne n1]; exact d.hs
  · rw [upd_ne n2]; exact d.hb
  · rw [upd_ne n3]; exact d.hc
/-- a known object changes -/
theorem DSt.put {G H : Hp} {s : Addr} {m : Nat} {p : Addr} {o u : HO} (d : DSt G H s m) (hp : G p = some u) : DSt (upd G p o) (upd H p o) s m := by
  obtain ⟨b, c, gs, cs, n, d, hn⟩ := d
  have n1 : s ≠ p := fun e => by rw [← e, d.fs] at hp; cases hp
  have n2 : b ≠ p := fun e => by rw [← e, d.fb] at hp; cases hp
  have n3 : c ≠ p := fun e => by rw [← e, d.fc] at hp; cases hp
  refine ⟨b, c, gs, cs, n, ⟨fun a v e => ?_, ?_, ?_, ?_, ?_, ?_, ?_, d.ne, d.pos⟩, hn⟩
  · by_cases ha : a = p
    · subst ha; rw [upd_same] at e ⊢; exact e
    · rw [upd_ne ha] at e ⊢; exact d.same a v e
  · rw [upd_ne n1]; exact d.fs
  · rw [upd_ne n2]; exact d.fb
  · rw [upd_ne n3]; exact d.fc
  · rw [upd_ne n1]; exact d.hs
  · rw [upd_ne n2]; exact d.hb
  · rw [upd_ne n3]; exact d.hc
/-- what else is known of the heap may be less, the rest may be more -/
theorem DSt.less {G G' H : Hp} {s : Addr} {m : Nat} (d : DSt G H s m) (h : Same G' G) : DSt G' H s m := by
  obtain ⟨b, c, gs, cs, n, d, hn⟩ := d
  have fr : ∀ a, G a = none → G' a = none := fun a e => h.free e
  exact ⟨b, c, gs, cs, n, ⟨h.trans d.same, fr _ d.fs, fr _ d.fb, fr _ d.fc, d.hs, d.hb, d.hc, d.ne, d.pos⟩, hn⟩
/-- all that stands behind stays; known is what was known -/
theorem DSt.on {G H H' : Hp} {s : Addr} {m : Nat} (d : DSt G H s m) (h : Same H H') : DSt G H' s m := by
  obtain ⟨b, c, gs, cs, n, d, hn⟩ := d
  exact ⟨b, c, gs, cs, n, ⟨d.same.trans h, d.fs, d.fb, d.fc, h _ _ d.hs, h _ _ d.hb, h _ _ d.hc, d.ne, d.pos⟩, hn⟩
theorem DSt.free {G H : Hp} {s : Addr} {m : Nat} {p : Addr} (d : DSt G H s m) (hp : H p = none) : G p = none := d.same.free hp

def spStart (K : PySem.W.Frag) : Sp := fun vs H Q _ => ∃ (a : Addr) (ns : List Int), vs = [.ref a] ∧ SqL K H a (ns.map V.int) ∧ ns.length ≤ 63 ∧ ∀ (s : Addr) (H' : Hp), DSt H H' s 0 → Q (.ref s) H'
def spDraw : Sp := fun vs H Q _ => ∃ (G : Hp) (s : Addr) (m : Nat) (sz : Int), vs = [.ref s, .int sz] ∧ DSt G H s m ∧ m < 1000000 ∧ 0 < sz ∧ sz < 2 ^ 200 ∧
  ∀ (r : Int) (H' : Hp), 0 ≤ r → r < sz → DSt G H' s (m + 1) → Q (.int r) H'

theorem take_more {α : Type} : ∀ {l : List α} {i : Nat} {x : α}, l[i]? = some x → l.take (i + 1) = l.take i ++ [x]
  | [], i, x, h => by simp at h
  | a :: l, 0, x, h => by
    have e : a = x := Option.some.inj h
    subst e
    rfl
  | a :: l, i + 1, x, h => by
    have ih := take_more (l := l) (i := i) (x := x) h
    show a :: l.take (i + 1) = a :: l.take i ++ [x]
    rw [ih]
    rfl
theorem pow_lt (c n : Int) (hc : 0 ≤ c) (hc2 : c < 2147483647) (hn : 0 ≤ n) (hn2 : n ≤ 1000001) : (c * 48271 + n * 69621 + 7).natAbs < 2 ^ 64 := by omega
theorem pow_lt2 (c n : Int) (hc : 0 ≤ c) (hc2 : c < 2147483647) (hn : 0 ≤ n) (hn2 : n ≤ 1000001) : (c * 16807 + n * 40692 + 13).natAbs < 2 ^ 64 := by omega

theorem cut1 (xs : List V) : cutV xs (some 1) none = xs.drop 1 := by
  unfold cutV
  rw [show HT.sIx xs.length 0 (some 1) = min 1 xs.length from HT.sIx_nat xs.length 0 1, HT.sIx_none]
  cases xs with
  | nil => rfl
  | cons x r =>
    rw [show min 1 (x :: r).length = 1 by
      rw [List.length_cons]
      omega]
    show (List.take ((x :: r).length - 1) r) = r
    rw [List.length_cons, Nat.add_sub_cancel]
    exact List.take_length
theorem big1 : (0 : Int) < 2147483647 := by decide
theorem big2 : (0 : Int) < 2147483629 := by decide
theorem ok_start (T : Txt K mg) : FnOk P w K mg base CX0 1 T.f_start T.d_start ["_law_script"] (spStart K) := by
  refine T.F_start.ok sc_start (fun vs H Q E h => ?_) (fun cdv A outer s H vs Q E hr h => ?_)
  · obtain ⟨a, ns, rfl, _⟩ := h
    rfl
  · obtain ⟨a, ns, rfl, hS, hlen, k⟩ := h
    refine ⟨_, (pss_one (ps_ret (pe_lst (pa_cons (pe_lc (own := [("_law_cell", 1)]) (g := gName 1) rfl sc_start.nd (pi_list (pv 0)) (blkOk_by (N := ["_law_script", "_law_cell"]) (sc := defScope s_start) (by decide +kernel)) (fun _ _ _ _ _ => pg_name (i := 1) sc_start.nd rfl (Or.inl rfl)) (fun _ _ _ _ _ => pts_one (pt_cmpR op_ge (pe_callB call_abs (by rfl) T.n_abs (by decide +kernel) (pa_cons (pv 1) pa_nil)) (pe_op op_pow pe_int pe_int) (nomark _))) (fun _ _ _ _ _ => (pe_callB call_abs (by rfl) T.n_abs (by decide +kernel) (pa_cons (pv 1) pa_nil)))) (pa_cons (pe_op op_cat (pe_callTy call_list_of (by rfl) T.n_list (by decide +kernel) (pa_cons (pv 0) pa_nil)) (pe_lst (pa_cons pe_int pa_nil))) (pa_cons pe_int pa_nil)))))), ?_⟩
    refine ⟨_, rfl, a, rfl, ⟨_, hS⟩, fun D hD => ?_⟩
    refine lc_list (K := K) (a := a) (xs := ns.map V.int) (fun i H1 => ∃ gs : List Int, gs.length ≤ i ∧ H1 D = some (.lst (gs.map V.int)) ∧ Same H H1) ⟨[], Nat.le_refl _, upd_same, same_upd hD⟩ (fun i H1 _ ⟨_, _, _, sm⟩ => sm.seq hS) ?_ ?_
    · intro i x H1 hi ⟨gs, hg, eD, sm⟩
      obtain ⟨z, rfl⟩ : ∃ z, x = V.int z := by
        rw [List.getElem?_map] at hi
        cases e : ns[i]? with
        | none =>
          rw [e] at hi
          cases hi
        | some z =>
          rw [e] at hi
          exact ⟨z, (Option.some.inj hi).symm⟩
      have hi63 : i < 63 := by
        have := (List.getElem?_eq_some_iff.mp hi).1
        rw [List.length_map] at this
        omega
      refine ⟨rfl, _, rfl, z, rfl, 10, 18, rfl, rfl, ⟨by decide, by decide, by decide⟩, _, _, rfl, rfl, _, rfl, ?_⟩
      refine ite2 (fun _ => ?_) fun _ => ?_
      · refine ⟨_, rfl, z, rfl, gs.map V.int, eD, small1000 (by rw [List.length_map]; omega), gs ++ [if z < 0 then -z else z], by rw [List.length_append]; exact Nat.add_le_add_right hg 1, ?_, same_mut sm hD⟩
        rw [upd_same, List.map_append]
        rfl
      · exact ⟨gs, Nat.le_succ_of_le hg, eD, sm⟩
    · intro H1 ⟨gs, hg, eD, sm⟩
      refine ⟨_, rfl, a, _, rfl, .inl (sm.seq hS), fun l hl => ?_⟩
      refine ⟨by show 1 ≤ sizeLine; decide, fun o ho => ?_⟩
      have nlo : l ≠ o := fun e => by
        rw [← e, upd_same] at ho
        cases ho
      refine ⟨l, o, _, _, rfl, rfl, by rw [upd_ne nlo]; exact upd_same, upd_same, Nat.le_of_lt (small1000 ?_), fun c hc => ?_⟩
      · rw [List.length_map]
        show ns.length + 1 ≤ 1000
        omega
      refine ⟨by show 3 ≤ sizeLine; decide, fun st hst => ?_⟩
      have eDo : (upd (upd H1 l (.lst (ns.map V.int))) o (.lst [V.int 5])) D = some (.lst (gs.map V.int)) := same_upd ho _ _ (same_upd hl _ _ eD)
      have nDc : D ≠ c := ne_of_none eDo hc
      have hcs := hst
      have ncst : c ≠ st := fun e => by
        rw [← e, upd_same] at hst
        cases hst
      have nDst : D ≠ st := ne_of_none (same_upd hc _ _ eDo) hst
      have sm4 : Same H (upd (upd (upd H1 l (.lst (ns.map V.int))) o (.lst [V.int 5])) c (.lst (ns.map V.int ++ [V.int 5]))) := ((sm.trans (same_upd hl)).trans (same_upd ho)).trans (same_upd hc)
      refine k st _ ⟨D, c, gs, ns ++ [5], 0, ⟨sm4.trans (same_upd hst), sm4.free hst, hD, ((sm.trans (same_upd hl)).trans (same_upd ho)).free hc, upd_same, ?_, ?_, nDc, by rw [List.length_append]; exact Nat.succ_pos _⟩, Nat.le_refl _⟩
      · rw [upd_ne nDst]
        exact same_upd hc _ _ eDo
      · rw [upd_ne ncst, upd_same, List.map_append]
        rfl

theorem ok_draw (T : Txt K mg) : FnOk P w K mg base CX0 1 T.f_draw T.d_draw ["_law_state", "_law_size"] spDraw := by
  refine T.F_draw.ok sc_draw (fun vs H Q E h => ?_) (fun cdv A outer s H vs Q E hr h => ?_)
  · obtain ⟨G, a, m, sz, rfl, _⟩ := h
    rfl
  · obtain ⟨G, a, m, sz, rfl, ⟨b0, c, gs0, cs, n, d0, hn⟩, hm, hs0, hs2, k⟩ := h
    refine ⟨_, (pss_cons (ps_augS (pv 0) pe_int get_list pe_int ip_add set_list)
    (C8.pss_cut (ps_while PassesOwn.never (PW.pt (pw_and (pt_cmpR (op_neD hr.units) (pe_ix ix_list (pv 0) pe_int (fun _ _ => rfl)) (pe_lst pa_nil) (nomark _)) (pw_and1 (pt_cmpR op_eq (pe_ix ix_list (pe_ix ix_list (pv 0) pe_int (fun _ _ => rfl)) pe_int (fun _ _ => rfl)) pe_int (nomark _)))))
      (pss_one (ps_asg (pe_slice sl_list (pe_ix ix_list (pv 0) pe_int (fun _ _ => rfl)) (po_some pe_int) po_none) (pg_sub (pv 0) pe_int set_list))))
    (pss_cons (ps_if (pt_cmpR (op_neD hr.units) (pe_ix ix_list (pv 0) pe_int (fun _ _ => rfl)) (pe_lst pa_nil) (nomark _))
      (pss_cons (ps_set (i := 2) sc_draw.nd rfl (Or.inl rfl) (pe_op op_mod (pe_callTy call_int1 (by rfl) T.n_int (by decide +kernel) (pa_cons (pe_ix ix_list (pe_ix ix_list (pv 0) pe_int (fun _ _ => rfl)) pe_int (fun _ _ => rfl)) pa_nil)) (pv 1)))
    (pss_cons (ps_asg (pe_op op_fdivW (pe_ix ix_list (pe_ix ix_list (pv 0) pe_int (fun _ _ => rfl)) pe_int (fun _ _ => rfl)) (pv 1)) (pg_sub (pe_ix ix_list (pv 0) pe_int (fun _ _ => rfl)) pe_int set_list))
    (pss_one (ps_ret (pv 2)))))
      pss_nil)
    (pss_cons (ps_set (i := 3) sc_draw.nd rfl (Or.inl rfl) (pe_op op_mod (pe_callTy call_int1 (by rfl) T.n_int (by decide +kernel) (pa_cons (pe_ix ix_list (pe_ix ix_list (pv 0) pe_int (fun _ _ => rfl)) (pe_op op_mod (pe_callTy call_int1 (by rfl) T.n_int (by decide +kernel) (pa_cons (pe_ix ix_list (pv 0) pe_int (fun _ _ => rfl)) pa_nil)) (pe_callB call_len_seq (by rfl) T.n_len (by decide +kernel) (pa_cons (pe_ix ix_list (pv 0) pe_int (fun _ _ => rfl)) pa_nil))) (fun _ _ => rfl)) pa_nil)) pe_int))
    (pss_cons (ps_set (i := 4) sc_draw.nd rfl (Or.inl rfl) (pe_op op_mod (pe_callTy call_int1 (by rfl) T.n_int (by decide +kernel) (pa_cons (pe_op op_pow (pe_op op_add (pe_op op_add (pe_op op_mul (pv 3) pe_int) (pe_op op_mul (pe_ix ix_list (pv 0) pe_int (fun _ _ => rfl)) pe_int)) pe_int) pe_int) pa_nil)) pe_int))
    (pss_one (ps_ret (pe_op op_mod (pe_op op_mod (pe_callTy call_int1 (by rfl) T.n_int (by decide +kernel) (pa_cons (pe_op op_pow (pe_op op_add (pe_op op_add (pe_op op_mul (pv 4) pe_int) (pe_op op_mul (pe_ix ix_list (pv 0) pe_int (fun _ _ => rfl)) pe_int)) pe_int) pe_int) pa_nil)) pe_int) (pv 1))))))))), ?_⟩
    -- the count
    refine ⟨_, rfl, a, _, 2, _, rfl, rfl, SqL.of d0.hs, by decide, rfl, (n : Int), 1, rfl, rfl, a, _, 2, 2, rfl, rfl, d0.hs, rfl, ?_⟩
    have d1 : DS G (upd H a (.lst [V.ref b0, V.ref c, V.int ((n + 1 : Nat) : Int)])) a b0 c gs0 cs (n + 1) :=
      ⟨same_mut d0.same d0.fs, d0.fs, d0.fb, d0.fc, upd_same, by rw [upd_ne d0.sb.symm]; exact d0.hb, by rw [upd_ne d0.sc.symm]; exact d0.hc, d0.ne, d0.pos⟩
    -- the noughts ahead go
    refine ⟨fun σ H2 => σ = [some (.ref a), some (.int sz), none, none, none] ∧ ∃ (b : Addr) (gs : List Int), DS G H2 a b c gs cs (n + 1), ?_, ?_⟩
    · refine ⟨fun j σ H2 => σ = [some (.ref a), some (.int sz), none, none, none] ∧ ∃ (b : Addr) (gs : List Int), gs.length = j ∧ DS G H2 a b c gs cs (n + 1), ⟨_, rfl, b0, gs0, rfl, d1⟩, ?_⟩
      rintro j σ H2 ⟨rfl, b, gs, rfl, d⟩
      refine ⟨_, rfl, a, _, 0, _, rfl, rfl, SqL.of d.hs, rfl, Nat.zero_le _, fun p hp => ?_⟩
      have sp : Same H2 (upd H2 p (.lst [])) := same_upd hp
      have d2 : DS G (upd H2 p (.lst [])) a b c gs cs (n + 1) := ⟨d.same.trans sp, d.fs, d.fb, d.fc, sp _ _ d.hs, sp _ _ d.hb, sp _ _ d.hc, d.ne, d.pos⟩
      cases gs with
      | nil =>
        refine ⟨.list [], .list [], .lst (SqL.of d2.hb) .nil, .lst (SqL.of upd_same) .nil, shaped_ints [], shaped_ints [], false, by simp [PyData.eqv, PyData.eqvAll], iteF (iteF (⟨rfl, b, [], d2⟩))⟩
      | cons g r =>
        refine ⟨.list ((g :: r).map PyData.int), .list [], .lst (SqL.of d2.hb) (dp_ints _), .lst (SqL.of upd_same) .nil, shaped_ints _, shaped_ints [], true, by simp [PyData.eqv, PyData.eqvAll], iteT ?_⟩
        refine ⟨_, rfl, a, _, 0, _, rfl, rfl, SqL.of d2.hs, rfl, b, _, 0, .int g, rfl, rfl, SqL.of d2.hb, at0, rfl, _, rfl, ite2 (fun _ => ?_) fun _ => ⟨rfl, b, _, d2⟩⟩
        -- state[0] = state[0][1:]
        refine ⟨fun σ H3 => σ = [some (.ref a), some (.int sz), none, none, none] ∧ ∃ (b : Addr) (gs : List Int), gs.length = r.length ∧ DS G H3 a b c gs cs (n + 1), fun σ' H' h' => ⟨r.length, Nat.lt_succ_self _, h'⟩, ?_⟩
        refine ⟨_, rfl, a, _, 0, _, rfl, rfl, SqL.of d2.hs, rfl, 1, rfl, b, _, rfl, SqL.of d2.hb, fun q hq => ?_⟩
        have n1 : a ≠ q := ne_of_none d2.hs hq
        have n3 : c ≠ q := ne_of_none d2.hc hq
        refine ⟨_, rfl, a, _, 0, 0, rfl, rfl, by rw [upd_ne n1]; exact d2.hs, rfl, rfl, q, r, rfl, ?_⟩
        exact ⟨same_mut (d2.same.trans (same_upd hq)) d2.fs, d2.fs, d2.same.free hq, d2.fc, upd_same, by rw [upd_ne n1.symm, upd_same, cut1]; rfl, by rw [upd_ne d2.sc.symm, upd_ne n3]; exact d2.hc, n3.symm, d2.pos⟩
    · rintro σ H2 ⟨rfl, b, gs, d⟩
      refine ⟨_, rfl, a, _, 0, _, rfl, rfl, SqL.of d.hs, rfl, Nat.zero_le _, fun p hp => ?_⟩
      have sp : Same H2 (upd H2 p (.lst [])) := same_upd hp
      have d2 : DS G (upd H2 p (.lst [])) a b c gs cs (n + 1) := ⟨d.same.trans sp, d.fs, d.fb, d.fc, sp _ _ d.hs, sp _ _ d.hb, sp _ _ d.hc, d.ne, d.pos⟩
      cases gs with
      | cons g r =>
        refine ⟨.list ((g :: r).map PyData.int), .list [], .lst (SqL.of d2.hb) (dp_ints _), .lst (SqL.of upd_same) .nil, shaped_ints _, shaped_ints [], true, by simp [PyData.eqv, PyData.eqvAll], iteT ?_⟩
        refine ⟨_, rfl, a, _, 0, _, rfl, rfl, SqL.of d2.hs, rfl, b, _, 0, .int g, rfl, rfl, SqL.of d2.hb, at0, .inl ⟨g, rfl, ?_⟩⟩
        refine ⟨_, rfl, g, sz, rfl, rfl, hs0, ?_⟩
        refine ⟨_, rfl, a, _, 0, _, rfl, rfl, SqL.of d2.hs, rfl, b, _, 0, .int g, rfl, rfl, SqL.of d2.hb, at0, _, rfl, g, sz, rfl, rfl, wide_div (b := 200) hs0 (by omega) (by decide) (by decide), ?_⟩
        refine ⟨_, rfl, a, _, 0, _, rfl, rfl, SqL.of d2.hs, rfl, b, _, 0, 0, rfl, rfl, d2.hb, ix0 (Nat.succ_pos _), ?_⟩
        refine ⟨_, rfl, k _ _ (Int.emod_nonneg _ (by omega)) (Int.emod_lt_of_pos _ hs0) ⟨b, c, g / sz :: r, cs, n + 1, ?_, Nat.succ_le_succ hn⟩⟩
        exact ⟨same_mut d2.same d2.fb, d2.fs, d2.fb, d2.fc, by rw [upd_ne d2.sb]; exact d2.hs, upd_same, by rw [upd_ne d2.ne.symm]; exact d2.hc, d2.ne, d2.pos⟩
      | nil =>
        refine ⟨.list [], .list [], .lst (SqL.of d2.hb) .nil, .lst (SqL.of upd_same) .nil, shaped_ints [], shaped_ints [], false, by simp [PyData.eqv, PyData.eqvAll], iteF ?_⟩
        have hl : (0 : Int) < (cs.length : Int) := by have := d.pos; omega
        have i0 : 0 ≤ ((n + 1 : Nat) : Int) % (cs.length : Int) := Int.emod_nonneg _ (by omega)
        have i1 : ((n + 1 : Nat) : Int) % (cs.length : Int) < (cs.length : Int) := Int.emod_lt_of_pos _ hl
        obtain ⟨j, ej⟩ : ∃ j : Nat, ((n + 1 : Nat) : Int) % (cs.length : Int) = (j : Int) := ⟨(((n + 1 : Nat) : Int) % (cs.length : Int)).toNat, by omega⟩
        have hj : j < cs.length := by omega
        refine ⟨_, rfl, a, _, 1, _, rfl, rfl, SqL.of d2.hs, rfl, _, rfl, a, _, 2, _, rfl, rfl, SqL.of d2.hs, rfl, .inl ⟨_, rfl, ?_⟩⟩
        refine ⟨_, rfl, a, _, 1, _, rfl, rfl, SqL.of d2.hs, rfl, c, _, rfl, .inl (SqL.of d2.hc), _, _, rfl, rfl, by rw [List.length_map]; exact hl, ?_⟩
        refine ⟨c, _, _, .int cs[j], rfl, rfl, SqL.of d2.hc, by rw [List.length_map]; exact at_of ej (by rw [List.getElem?_map, List.getElem?_eq_getElem hj]; rfl), .inl ⟨_, rfl, _, _, rfl, rfl, big1, ?_⟩⟩
        have c0 : 0 ≤ cs[j] % 2147483647 := Int.emod_nonneg _ (by decide)
        have c1 : cs[j] % 2147483647 < 2147483647 := Int.emod_lt_of_pos _ (by decide)
        refine ⟨_, rfl, _, _, rfl, rfl, .inr ⟨by decide, by decide⟩, _, rfl, a, _, 2, _, rfl, rfl, SqL.of d2.hs, rfl, _, _, rfl, rfl, .inr ⟨by decide, by decide⟩, _, _, rfl, rfl, _, _, rfl, rfl, _, _, rfl, rfl, ⟨by decide, by decide, pow_lt _ _ c0 c1 (by omega) (by omega)⟩, .inl ⟨_, rfl, _, _, rfl, rfl, big1, ?_⟩⟩
        have e0 : ∀ z : Int, 0 ≤ z % 2147483647 := fun z => Int.emod_nonneg _ (by decide)
        have e1 : ∀ z : Int, z % 2147483647 < 2147483647 := fun z => Int.emod_lt_of_pos _ (by decide)
        refine ⟨_, rfl, _, _, rfl, rfl, .inr ⟨by decide, by decide⟩, _, rfl, a, _, 2, _, rfl, rfl, SqL.of d2.hs, rfl, _, _, rfl, rfl, .inr ⟨by decide, by decide⟩, _, _, rfl, rfl, _, _, rfl, rfl, _, _, rfl, rfl, ⟨by decide, by decide, pow_lt2 _ _ (e0 _) (e1 _) (by omega) (by omega)⟩, .inl ⟨_, rfl, _, _, rfl, rfl, big2, ?_⟩⟩
        refine ⟨_, rfl, _, sz, rfl, rfl, hs0, ?_⟩
        exact k _ _ (Int.emod_nonneg _ (by omega)) (Int.emod_lt_of_pos _ hs0) ⟨b, c, [], cs, n + 1, d2, Nat.succ_le_succ hn⟩
end

/-! ### ratios -/
section
variable {P : Program} {w : World} {K : PySem.W.Frag} {mg : Str → Option Value} {base : Heap}
/-- a ratio's attributes -/
def rf (t b : Int) : List (Str × V) := [("_top", .int t), ("_bottom", .int b)]
theorem rf_top (t b : Int) : (rf t b).lookup ("_top" : Str) = some (.int t) := by simp [rf, List.lookup]
theorem nTB : (("_bottom" : Str) == ("_top" : Str)) = false := by decide +kernel
theorem nBT : (("_top" : Str) == ("_bottom" : Str)) = false := by decide +kernel
theorem rf_bottom (t b : Int) : (rf t b).lookup ("_bottom" : Str) = some (.int b) := by simp [rf, List.lookup, nTB]
def RatAt (C : Addr) (H : Hp) (p : Addr) (t b : Int) : Prop := ∃ dx, H p = some (.ins C dx (rf t b))
/-- the divisor -/
def dvs (t b : Int) : Int := if b < 0 then -((Nat.gcd t.natAbs b.natAbs : Nat) : Int) else ((Nat.gcd t.natAbs b.natAbs : Nat) : Int)
def lowT (t b : Int) : Int := t.fdiv (dvs t b)
def lowB (t b : Int) : Int := b.fdiv (dvs t b)
def BIG (z : Int) : Prop := z.natAbs < 2 ^ 8000
theorem dvs_ne {t b : Int} (h : b ≠ 0) : dvs t b ≠ 0 := by
  have hg : 0 < Nat.gcd t.natAbs b.natAbs := Nat.gcd_pos_of_pos_right _ (by omega)
  unfold dvs
  split <;> omega
theorem dvs_le {t b : Int} (h : b ≠ 0) : (dvs t b).natAbs ≤ b.natAbs := by
  have hg : Nat.gcd t.natAbs b.natAbs ≤ b.natAbs := Nat.le_of_dvd (by omega) (Nat.gcd_dvd_right _ _)
  unfold dvs
  split <;> omega
/-- Ratio(t, b), b not 0 -/
def spInit (C : Addr) : Sp := fun vs H Q _ => ∃ (p dx : Addr) (t b : Int), vs = [.ref p, .int t, .int b] ∧ H p = some (.ins C dx []) ∧ b ≠ 0 ∧ BIG b ∧ ∀ H', RatAt C H' p (lowT t b) (lowB t b) → (∀ a o, H a = some o → a ≠ p → H' a = some o) → Q .non H'
theorem ok_init (T : Txt K mg) : FnOk P w K mg base CX0 1 T.f_Ratio_init T.d_Ratio_init ["self", "top", "bottom"] (spInit T.f_Ratio) := by
  refine T.F_Ratio_init.ok sc_Ratio_init (fun vs H Q E h => ?_) (fun cdv A outer s H vs Q E hr h => ?_)
  · obtain ⟨p, dx, t, b, rfl, _⟩ := h
    rfl
  · obtain ⟨p, dx, t, b, rfl, hp, hb, hB, k⟩ := h
    refine ⟨_, PSs.nox (pss_cons (ps_if (pt_cmpR op_eq (pv 2) pe_int (nomark _))
      (pss_one ps_never)
      pss_nil)
    (pss_cons (ps_set (i := 3) sc_Ratio_init.nd rfl (Or.inl rfl) (pe_callBfun cr_gcd rfl T.g_gcd (pa_cons (pv 1) (pa_cons (pv 2) pa_nil))))
    (C8.pss_cut (ps_if (pt_cmpR op_lt (pv 2) pe_int (nomark _))
      (pss_one (ps_set (i := 3) sc_Ratio_init.nd rfl (Or.inl rfl) (pe_un un_neg (pv 3))))
      pss_nil)
    (pss_cons (ps_fld (pv 0) (pe_op op_fdivZ (pv 1) (pv 3)) rfl)
    (pss_one (ps_fld (pv 0) (pe_op op_fdivZ (pv 2) (pv 3)) rfl)))))), ?_⟩
    refine ⟨_, rfl, rfl, _, rfl, ite2 (fun h0 => ?_) fun _ => ?_⟩
    · have e : V.int b = V.int 0 := of_decide_eq_true h0
      injection e with e
      exact absurd e hb
    refine ⟨_, rfl, _, rfl, t, b, rfl, ?_⟩
    refine ⟨fun σ H' => σ = [some (.ref p), some (.int t), some (.int b), some (.int (dvs t b))] ∧ H' = H, ?_, ?_⟩
    · refine ⟨_, rfl, b, 0, rfl, rfl, _, rfl, ite2 (fun h0 => ?_) fun h0 => ?_⟩
      · have h0' : b < 0 := of_decide_eq_true h0
        refine ⟨_, rfl, _, rfl, ?_, rfl⟩
        unfold dvs
        rw [if_pos h0']
        rfl
      · have h0' : ¬ b < 0 := fun q => h0 (decide_eq_true q)
        refine ⟨?_, rfl⟩
        unfold dvs
        rw [if_neg h0']
        rfl
    · rintro σ H' ⟨rfl, rfl⟩
      have hz : CDivZ t (dvs t b) := cdivZ (dvs_ne hb) (Nat.lt_of_le_of_lt (dvs_le hb) hB)
      have hz2 : CDivZ b (dvs t b) := cdivZ (dvs_ne hb) (Nat.lt_of_le_of_lt (dvs_le hb) hB)
      refine ⟨_, rfl, _, rfl, t, _, rfl, rfl, hz, _, rfl, p, T.f_Ratio, dx, [], rfl, hp, T.cl_Ratio, T.na_Ratio_top, (by show 0 < 1000; decide), ?_⟩
      refine ⟨_, rfl, _, rfl, b, _, rfl, rfl, hz2, _, rfl, p, T.f_Ratio, dx, _, rfl, upd_same, T.cl_Ratio, T.na_Ratio_bottom, (by show 1 < 1000; decide), ?_⟩
      refine k _ ⟨dx, Eq.trans upd_same ?_⟩ fun a o e ha => by rw [upd_ne ha, upd_ne ha]; exact e
      show some (HO.ins T.f_Ratio dx (if ("_top" : Str) = "_bottom" then _ else _)) = _
      rw [if_neg (by decide +kernel)]
      rfl
/-- the properties -/
def spTop (C : Addr) : Sp := fun vs H Q _ => ∃ (p : Addr) (t b : Int), vs = [.ref p] ∧ RatAt C H p t b ∧ Q (.int t) H
def spBottom (C : Addr) : Sp := fun vs H Q _ => ∃ (p : Addr) (t b : Int), vs = [.ref p] ∧ RatAt C H p t b ∧ Q (.int b) H
def sgnI (t : Int) : Int := if t < 0 then -1 else if 0 < t then 1 else 0
def spSign (C : Addr) : Sp := fun vs H Q _ => ∃ (p : Addr) (t b : Int), vs = [.ref p] ∧ RatAt C H p t b ∧ Q (.int (sgnI t)) H
theorem ok_top (T : Txt K mg) : FnOk P w K mg base CX0 1 T.f_Ratio_top T.d_Ratio_top ["self"] (spTop T.f_Ratio) := by
  refine T.F_Ratio_top.ok sc_Ratio_top (fun vs H Q E h => ?_) (fun cdv A outer s H vs Q E hr h => ?_)
  · obtain ⟨p, t, b, rfl, _⟩ := h
    rfl
  · obtain ⟨p, t, b, rfl, ⟨dx, hp⟩, k⟩ := h
    refine ⟨_, (pss_one (ps_ret (pe_fld (pv 0) rfl))), ?_⟩
    exact ⟨_, rfl, p, T.f_Ratio, dx, _, _, rfl, hp, T.cl_Ratio, T.na_Ratio_top, rf_top _ _, k⟩
theorem ok_bottom (T : Txt K mg) : FnOk P w K mg base CX0 1 T.f_Ratio_bottom T.d_Ratio_bottom ["self"] (spBottom T.f_Ratio) := by
  refine T.F_Ratio_bottom.ok sc_Ratio_bottom (fun vs H Q E h => ?_) (fun cdv A outer s H vs Q E hr h => ?_)
  · obtain ⟨p, t, b, rfl, _⟩ := h
    rfl
  · obtain ⟨p, t, b, rfl, ⟨dx, hp⟩, k⟩ := h
    refine ⟨_, (pss_one (ps_ret (pe_fld (pv 0) rfl))), ?_⟩
    exact ⟨_, rfl, p, T.f_Ratio, dx, _, _, rfl, hp, T.cl_Ratio, T.na_Ratio_bottom, rf_bottom _ _, k⟩
end

/-! ### texts of numbers and of ratios -/
def dec (n : Int) : Str := Str.ofString (toString n)
theorem tl_dec (n : Int) : TL.tl (dec n) = if n < 0 then 45 :: TL.numL n.natAbs else TL.numL n.natAbs := by
  cases n with
  | ofNat m => exact TL.tl_num m
  | negSucc m =>
    rw [if_pos (Int.negSucc_lt_zero m)]
    show TL.tl (Str.ofString ("-" ++ Nat.repr (m + 1))) = 45 :: TL.numL (m + 1)
    have h := TL.tl_num (m + 1)
    rw [TL.tl_ofString] at h ⊢
    rw [String.toList_append, List.map_append]
    have h' : (Nat.repr (m + 1)).toList.map Char.toNat = TL.numL (m + 1) := h
    rw [h']
    rfl
theorem dec_nn {n : Int} (h : ¬ n < 0) : TL.tl (dec n) = TL.numL n.natAbs := (tl_dec n).trans (if_neg h)
theorem dec_neg {n : Int} (h : n < 0) : TL.tl (dec n) = 45 :: TL.numL n.natAbs := (tl_dec n).trans (if_pos h)
theorem dec_len {n : Int} {k : Nat} (hk : 0 < k) (h : n.natAbs < 10 ^ k) : (dec n).length ≤ k + 1 := by
  rw [TL.len_tl, tl_dec]
  have := TL.numL_len hk h
  split
  · rw [List.length_cons]; omega
  · omega
/-- a number as it may stand before or behind a stroke -/
def numOk (l : List Nat) : Bool := decide (1 ≤ l.length ∧ l.length ≤ 9) && (!(decide (l.head? = some 48) && !decide (l = [48])) && l.all fun c => decide (48 ≤ c ∧ c ≤ 57))
def stripL : List Nat → List Nat
  | [] => []
  | c :: r => if c = 45 then r else c :: r
def negL (l : List Nat) : Bool := decide (l.head? = some 45)
def frontL (l : List Nat) : List Nat := (stripL l).takeWhile fun c => c != 47
def backL (l : List Nat) : List Nat := match (stripL l).dropWhile fun c => c != 47 with
  | [] => [49]
  | _ :: b => b
def goodL (l : List Nat) : Bool := numOk (frontL l) && (numOk (backL l) && !decide (backL l = [48]))
def topL (l : List Nat) : Int := if negL l then -((NumText.digitsVal (frontL l) : Nat) : Int) else ((NumText.digitsVal (frontL l) : Nat) : Int)
def botL (l : List Nat) : Int := ((NumText.digitsVal (backL l) : Nat) : Int)
theorem numOk_len {l : List Nat} (h : numOk l = true) : 1 ≤ l.length ∧ l.length ≤ 9 := of_decide_eq_true (Bool.and_eq_true_iff.mp h).1
theorem numOk_all {l : List Nat} (h : numOk l = true) : NumText.AllDigits l := fun c hc => of_decide_eq_true (List.all_eq_true.mp (Bool.and_eq_true_iff.mp (Bool.and_eq_true_iff.mp h).2).2 c hc)
theorem fold_ge (l : List Nat) : ∀ a : Nat, a ≤ l.foldl (fun acc c => acc * 10 + (c - 48)) a := by
  induction l with
  | nil => intro a; exact Nat.le_refl _
  | cons c r ih =>
    intro a
    have := ih (a * 10 + (c - 48))
    show a ≤ r.foldl _ (a * 10 + (c - 48))
    omega
theorem fold_lt (l : List Nat) (h : NumText.AllDigits l) : ∀ a : Nat, l.foldl (fun acc c => acc * 10 + (c - 48)) a < (a + 1) * 10 ^ l.length := by
  induction l with
  | nil => intro a; simp
  | cons c r ih =>
    intro a
    have hc := h.head
    have h1 := ih h.tail (a * 10 + (c - 48))
    show r.foldl _ (a * 10 + (c - 48)) < (a + 1) * 10 ^ (r.length + 1)
    have h2 : (a * 10 + (c - 48) + 1) * 10 ^ r.length ≤ ((a + 1) * 10) * 10 ^ r.length := Nat.mul_le_mul_right _ (by omega)
    have h3 : ((a + 1) * 10) * 10 ^ r.length = (a + 1) * 10 ^ (r.length + 1) := by rw [Nat.pow_succ, Nat.mul_assoc, Nat.mul_comm 10]
    omega
theorem val_lt {l : List Nat} (h : numOk l = true) : NumText.digitsVal l < 10 ^ 9 := by
  have h1 := fold_lt l (numOk_all h) 0
  have h2 : (0 + 1) * 10 ^ l.length ≤ 10 ^ 9 := by
    rw [Nat.zero_add, Nat.one_mul]
    exact Nat.pow_le_pow_right (by decide) (numOk_len h).2
  exact Nat.lt_of_lt_of_le h1 h2
theorem val_ne {l : List Nat} (h : numOk l = true) (h0 : l ≠ [48]) : NumText.digitsVal l ≠ 0 := by
  cases l with
  | nil => exact absurd (numOk_len h).1 (by decide)
  | cons c r =>
    have hc := (numOk_all h).head
    have h1 : c ≠ 48 := fun e => by
      have h2 := (Bool.and_eq_true_iff.mp (Bool.and_eq_true_iff.mp h).2).1
      rw [e, decide_eq_true (show (48 :: r).head? = some 48 from rfl), Bool.true_and, Bool.not_not] at h2
      exact h0 (by rw [e]; exact of_decide_eq_true h2)
    have h3 := fold_ge r (0 * 10 + (c - 48))
    show r.foldl _ (0 * 10 + (c - 48)) ≠ 0
    omega
theorem bot_ne {l : List Nat} (h : goodL l = true) : botL l ≠ 0 := by
  have h1 := (Bool.and_eq_true_iff.mp (Bool.and_eq_true_iff.mp h).2)
  have h2 : backL l ≠ [48] := by simpa using h1.2
  have := val_ne h1.1 h2
  unfold botL
  omega
theorem bot_big {l : List Nat} (h : goodL l = true) : BIG (botL l) := by
  have h1 := (Bool.and_eq_true_iff.mp (Bool.and_eq_true_iff.mp h).2)
  have := val_lt h1.1
  show (botL l).natAbs < 2 ^ 8000
  unfold botL
  rw [Int.natAbs_natCast]
  exact Nat.lt_of_lt_of_le this (by decide +kernel)
theorem reads {l : List Nat} (h : numOk l = true) : PySem.intText? ⟨l.toArray⟩ = some ((NumText.digitsVal l : Nat) : Int) := by
  have hl := numOk_len h
  have := PySem.intText_digits (x := ⟨l.toArray⟩) (by show NumText.AllDigits l; exact numOk_all h) (by show l ≠ []; intro e; rw [e] at hl; exact absurd hl.1 (by decide)) (by show l.toArray.size ≤ 4300; rw [List.size_toArray]; omega)
  exact this
/-! the text's methods -/
def dash : Str := "-"
def stroke : Str := "/"
theorem tl_dash : TL.tl dash = [45] := by decide +kernel
theorem tl_stroke : TL.tl stroke = [47] := by decide +kernel
theorem dash_eq : dash = ⟨#[45]⟩ := TL.ext_tl tl_dash
theorem strip_eq (z : Str) : Txt.removeprefix z dash = ⟨(stripL (TL.tl z)).toArray⟩ := by
  rw [← TL.mk_tl z, dash_eq]
  generalize TL.tl z = l
  cases l with
  | nil => rfl
  | cons c r =>
    unfold Txt.removeprefix stripL
    by_cases h : c = 45
    · subst h
      have e : Builtin.Str.subAt ⟨(45 :: r).toArray⟩ ⟨#[45]⟩ 0 = true := by
        show ((45 :: r).toArray.extract 0 (0 + 1) == #[45]) = true
        simp
      rw [e, if_pos rfl]
      show (if ((⟨(45 :: r).toArray⟩ : Str).length - 1 == (⟨(45 :: r).toArray⟩ : Str).length) = true then _ else _) = _
      rw [if_neg (by
        show ¬ (((45 :: r).toArray.size - 1 == (45 :: r).toArray.size) = true)
        rw [List.size_toArray, List.length_cons]
        simp)]
      refine TL.ext_tl ?_
      show TL.tl (Builtin.Str.strSub ⟨(45 :: r).toArray⟩ 1 (⟨(45 :: r).toArray⟩ : Str).length) = _
      rw [TL.tl_strSub_end]
      rfl
    · have e : Builtin.Str.subAt ⟨(c :: r).toArray⟩ ⟨#[45]⟩ 0 = false := by
        show ((c :: r).toArray.extract 0 (0 + 1) == #[45]) = false
        simp [h]
      rw [e, if_neg Bool.false_ne_true]
      show (⟨(c :: r).toArray⟩ : Str) = _
      simp [h]
theorem starts_eq (z : Str) : Txt.startswith z dash = negL (TL.tl z) := by
  rw [← TL.mk_tl z, dash_eq]
  generalize TL.tl z = l
  unfold Txt.startswith negL
  cases l with
  | nil => rfl
  | cons c r =>
    have e1 : decide (0 + (⟨#[45]⟩ : Str).length ≤ (⟨(c :: r).toArray⟩ : Str).length) = true := by
      refine decide_eq_true ?_
      show 0 + 1 ≤ (c :: r).toArray.size
      rw [List.size_toArray, List.length_cons]
      omega
    rw [e1, Bool.true_and]
    show ((c :: r).toArray.extract 0 (0 + 1) == #[45]) = decide (some c = some 45)
    by_cases h : c = 45
    · subst h; simp
    · simp [h]
theorem span_none {l : List Nat} (h : 47 ∉ l) : l.takeWhile (fun c => c != 47) = l ∧ l.dropWhile (fun c => c != 47) = [] := by
  induction l with
  | nil => exact ⟨rfl, rfl⟩
  | cons c r ih =>
    have h1 : c ≠ 47 := fun e => h (by rw [e]; exact List.mem_cons_self)
    have := ih fun q => h (List.mem_cons_of_mem _ q)
    rw [List.takeWhile_cons, List.dropWhile_cons]
    simp [h1, this]
theorem span_at {f b : List Nat} (h : 47 ∉ f) : (f ++ 47 :: b).takeWhile (fun c => c != 47) = f ∧ (f ++ 47 :: b).dropWhile (fun c => c != 47) = 47 :: b := by
  induction f with
  | nil => exact ⟨by simp, by simp⟩
  | cons c r ih =>
    have h1 : c ≠ 47 := fun e => h (by rw [e]; exact List.mem_cons_self)
    have := ih fun q => h (List.mem_cons_of_mem _ q)
    rw [List.cons_append, List.takeWhile_cons, List.dropWhile_cons]
    simp [h1, this]
/-- the text cut at its first stroke -/
theorem cut_eq (l : List Nat) : (∃ b, l.dropWhile (fun c => c != 47) = 47 :: b ∧ Txt.partition ⟨l.toArray⟩ stroke = (⟨(l.takeWhile fun c => c != 47).toArray⟩, stroke, ⟨b.toArray⟩)) ∨
    (l.dropWhile (fun c => c != 47) = [] ∧ l.takeWhile (fun c => c != 47) = l ∧ Txt.partition ⟨l.toArray⟩ stroke = (⟨l.toArray⟩, Str.empty, Str.empty)) := by
  by_cases h : 47 ∈ l
  · obtain ⟨f, b, e, hf⟩ : ∃ f b, l = f ++ 47 :: b ∧ 47 ∉ f := by
      induction l with
      | nil => cases h
      | cons c r ih =>
        by_cases hc : c = 47
        · exact ⟨[], r, by rw [hc]; rfl, by simp⟩
        · rcases List.mem_cons.mp h with h | h
          · exact absurd h.symm hc
          · obtain ⟨f, b, e, hf⟩ := ih h
            refine ⟨c :: f, b, by rw [e]; rfl, fun q => ?_⟩
            rcases List.mem_cons.mp q with q | q
            · exact hc q.symm
            · exact hf q
    obtain ⟨e1, e2⟩ := span_at (b := b) hf
    left
    refine ⟨b, by rw [e, e2], ?_⟩
    rw [e, e1]
    have e3 : (⟨(f ++ 47 :: b).toArray⟩ : Str) = ⟨f.toArray⟩ ++ stroke ++ ⟨b.toArray⟩ := TL.ext_tl (by rw [TL.tl_append, TL.tl_append, tl_stroke, List.append_assoc]; rfl)
    rw [e3]
    exact TL.partition_app tl_stroke hf
  · obtain ⟨e1, e2⟩ := span_none h
    exact .inr ⟨e2, e1, TL.partition_none tl_stroke h⟩
/-! a ratio's text -/
def ratText (t b : Int) : Str := if b = 1 then dec t else dec t ++ stroke ++ dec b
theorem numL_head {n : Nat} (h : (TL.numL n).head? = some 48) : TL.numL n = [48] := by
  induction n using Nat.strongRecOn with
  | _ n ih =>
    by_cases hn : n < 10
    · rw [TL.numL_lt hn] at h ⊢
      have : 48 + n = 48 := Option.some.inj h
      rw [this]
    · rw [TL.numL_step (by omega)] at h
      have h1 : (TL.numL (n / 10)).head? = some 48 := by
        cases e : TL.numL (n / 10) with
        | nil => exact absurd e (TL.numL_ne _)
        | cons c r =>
          rw [e] at h
          exact h
      have h2 := ih (n / 10) (by omega) h1
      have h3 := congrArg NumText.digitsVal h2
      rw [TL.numL_val] at h3
      have h4 : NumText.digitsVal [48] = 0 := rfl
      omega
theorem numOk_num {n : Nat} (h : n < 10 ^ 9) : numOk (TL.numL n) = true := by
  unfold numOk
  have h1 : 1 ≤ (TL.numL n).length ∧ (TL.numL n).length ≤ 9 := by
    refine ⟨?_, TL.numL_len (by decide) h⟩
    cases e : TL.numL n with
    | nil => exact absurd e (TL.numL_ne n)
    | cons c r => exact Nat.succ_pos _
  have h2 : (TL.numL n).all (fun c => decide (48 ≤ c ∧ c ≤ 57)) = true := List.all_eq_true.mpr fun c hc => decide_eq_true (TL.numL_digits n c hc)
  rw [decide_eq_true h1, h2, Bool.true_and, Bool.and_true]
  by_cases h3 : (TL.numL n).head? = some 48
  · rw [decide_eq_true (numL_head h3), Bool.not_true, Bool.and_false, Bool.not_false]
  · rw [decide_eq_false h3, Bool.false_and, Bool.not_false]
theorem num_no47 (n : Nat) : 47 ∉ TL.numL n := TL.numL_free (.inl (by decide))
theorem strip_num {n : Nat} {r : List Nat} : stripL (TL.numL n ++ r) = TL.numL n ++ r ∧ negL (TL.numL n ++ r) = false := by
  cases e : TL.numL n with
  | nil => exact absurd e (TL.numL_ne n)
  | cons c q =>
    have hc : c ≠ 45 := fun z => TL.numL_free (n := n) (s := 45) (.inl (by decide)) (by rw [e, z]; exact List.mem_cons_self)
    refine ⟨if_neg hc, decide_eq_false fun z => hc (Option.some.inj z)⟩
/-- the text of a ratio with small numbers is read back -/
theorem text_back {t b : Int} (ht : t.natAbs < 10 ^ 9) (hb0 : 0 < b) (hb : b.natAbs < 10 ^ 9) : goodL (TL.tl (ratText t b)) = true ∧ topL (TL.tl (ratText t b)) = t ∧ botL (TL.tl (ratText t b)) = b := by
  have key : ∀ r : List Nat, TL.tl (ratText t b) = TL.tl (dec t) ++ r → stripL (TL.tl (ratText t b)) = TL.numL t.natAbs ++ r ∧ negL (TL.tl (ratText t b)) = decide (t < 0) := by
    intro r e
    rw [e]
    by_cases h : t < 0
    · rw [dec_neg h, decide_eq_true h]
      exact ⟨rfl, rfl⟩
    · rw [dec_nn h, decide_eq_false h]
      exact strip_num
  have fin : frontL (TL.tl (ratText t b)) = TL.numL t.natAbs → backL (TL.tl (ratText t b)) = TL.numL b.natAbs → negL (TL.tl (ratText t b)) = decide (t < 0) → goodL (TL.tl (ratText t b)) = true ∧ topL (TL.tl (ratText t b)) = t ∧ botL (TL.tl (ratText t b)) = b := by
    intro e1 e2 e3
    refine ⟨?_, ?_, ?_⟩
    · unfold goodL
      rw [e1, e2, numOk_num ht, numOk_num hb, Bool.true_and, Bool.true_and]
      have : TL.numL b.natAbs ≠ [48] := fun q => by
        have := congrArg NumText.digitsVal q
        rw [TL.numL_val] at this
        have h4 : NumText.digitsVal [48] = 0 := rfl
        omega
      rw [decide_eq_false this, Bool.not_false]
    · unfold topL
      rw [e1, e3, TL.numL_val]
      by_cases h : t < 0
      · rw [decide_eq_true h, if_pos rfl]; omega
      · rw [decide_eq_false h, if_neg Bool.false_ne_true]; omega
    · unfold botL
      rw [e2, TL.numL_val]
      omega
  by_cases h1 : b = 1
  · have e : TL.tl (ratText t b) = TL.tl (dec t) ++ [] := by
      unfold ratText
      rw [if_pos h1, List.append_nil]
    obtain ⟨k1, k2⟩ := key [] e
    rw [List.append_nil] at k1
    obtain ⟨s1, s2⟩ := span_none (num_no47 t.natAbs)
    refine fin ?_ ?_ k2
    · unfold frontL
      rw [k1, s1]
    · unfold backL
      rw [k1, s2, h1]
      rfl
  · have e : TL.tl (ratText t b) = TL.tl (dec t) ++ (47 :: TL.numL b.natAbs) := by
      unfold ratText
      rw [if_neg h1, TL.tl_append, TL.tl_append, tl_stroke, dec_nn (n := b) (by omega), List.append_assoc]
      rfl
    obtain ⟨k1, k2⟩ := key _ e
    obtain ⟨s1, s2⟩ := span_at (b := TL.numL b.natAbs) (num_no47 t.natAbs)
    refine fin ?_ ?_ k2
    · unfold frontL
      rw [k1, s1]
    · unfold backL
      rw [k1, s2]
theorem ratText_len {t b : Int} (ht : t.natAbs < 10 ^ 64) (hb : b.natAbs < 10 ^ 64) : (ratText t b).length ≤ 200 := by
  have h1 := dec_len (by decide) ht
  have h2 := dec_len (by decide) hb
  unfold ratText
  split
  · omega
  · rw [TL.len_tl, TL.tl_append, TL.tl_append, tl_stroke, List.length_append, List.length_append, ← TL.len_tl, ← TL.len_tl]
    simp only [List.length_cons, List.length_nil]
    omega

/-! ### the functions on ratios -/
section
variable {P : Program} {w : World} {K : PySem.W.Frag} {mg : Str → Option Value} {base : Heap}
theorem made_rat {C : Addr} {H : Hp} {t b : Int} {Q : VK} {E : XK} (hb : b ≠ 0) (hB : BIG b) (k : ∀ x H', H x = none → Same H H' → RatAt C H' x (lowT t b) (lowB t b) → Q (.ref x) H') :
    ∀ x dx, H x = none → H dx = none → dx ≠ x → spInit C [.ref x, .int t, .int b] (upd (upd H dx (.own x)) x (.ins C dx [])) (fun v H2 => v = .non ∧ Q (.ref x) H2) E :=
  fun x dx nx nd _ => ⟨x, dx, t, b, rfl, upd_same, hb, hB, fun H' r st => ⟨rfl, k x H' nx (Same.made nx nd st) r⟩⟩
theorem low_one (t : Int) : lowT t 1 = t ∧ lowB t 1 = 1 := by
  have e : dvs t 1 = 1 := by
    unfold dvs
    rw [if_neg (by decide)]
    simp
  unfold lowT lowB
  rw [e]
  exact ⟨by rw [Int.fdiv_one], by decide⟩
theorem big_one : BIG 1 := by show (1 : Nat) < 2 ^ 8000; decide +kernel
theorem tyR {C : Addr} {H : Hp} {p : Addr} {t b : Int} (ic : C8.InsC K C) (r : RatAt C H p t b) : TyX K H (.ref p) (.ref C) := by
  obtain ⟨dx, hp⟩ := r
  exact .base (.ins hp ic.cl ic.ha ic.hn ic.htk ic.hm)
/-- as_ratio -/
def spAs (C : Addr) : Sp := fun vs H Q _ => (∃ t : Int, vs = [.int t] ∧ ∀ p H', H p = none → Same H H' → RatAt C H' p t 1 → Q (.ref p) H') ∨ (∃ (p : Addr) (t b : Int), vs = [.ref p] ∧ RatAt C H p t b ∧ Q (.ref p) H)
theorem ok_as (T : Txt K mg) : FnOk P w K mg base CX0 3 T.f_as_ratio T.d_as_ratio ["value"] (spAs T.f_Ratio) := by
  have G_Ratio_init : FnOk P w K mg base CX0 1 T.f_Ratio_init T.d_Ratio_init ["self", "top", "bottom"] (spInit T.f_Ratio) := ok_init T
  refine T.F_as_ratio.ok sc_as_ratio (fun vs H Q E h => ?_) (fun cdv A outer s H vs Q E hr h => ?_)
  · rcases h with ⟨t, rfl, _⟩ | ⟨p, t, b, rfl, _⟩ <;> rfl
  · refine ⟨_, (pss_cons (ps_if (pt_val (pe_callB call_isi (by rfl) T.n_isinstance (by decide +kernel) (pa_cons (pv 0) (pa_cons (pe_glob (v := .ref T.f_Ratio) rfl T.m_Ratio rfl) pa_nil))))
      (pss_one (ps_ret (pv 0)))
      pss_nil)
    (pss_one (ps_ret (pe_make T.mk_Ratio G_Ratio_init (hr.mono (by decide)) rfl T.m_Ratio T.b1_Ratio_init T.v1_Ratio_init pass0 (pa_cons (pv 0) pa_nil))))), ?_⟩
    rcases h with ⟨t, rfl, k⟩ | ⟨p, t, b, rfl, r, k⟩
    · refine ⟨_, rfl, .int t, .ref T.f_Ratio, .type "int", .ref T.f_Ratio, false, rfl, .own _, .base (.int _), T.ki_Ratio_int, false, rfl, iteF ?_⟩
      refine ⟨_, rfl, made_rat (by decide) big_one fun x H' nx sm r => ?_⟩
      rw [(low_one t).1, (low_one t).2] at r
      exact k x H' nx sm r
    · exact ⟨_, rfl, .ref p, .ref T.f_Ratio, .ref T.f_Ratio, .ref T.f_Ratio, true, rfl, .own _, tyR T.ic_Ratio r, kit_self, true, rfl, iteT ⟨_, rfl, k⟩⟩
theorem abs_of (n : Int) : (if n < 0 then -n else n) = ((n.natAbs : Nat) : Int) := by split <;> omega
end

section
variable {P : Program} {w : World} {K : PySem.W.Frag} {mg : Str → Option Value} {base : Heap}
/-- numeral of a number of at most 64 digits -/
def spNumeral : Sp := fun vs H Q _ => ∃ n : Int, vs = [.int n] ∧ n.natAbs < 10 ^ 64 ∧ ∀ H', Same H H' → Q (.str (dec n)) H'
theorem log_small {n : Int} (h : n.natAbs < 10 ^ 64) : n.natAbs.log2 < 1920 := Nat.lt_of_lt_of_le (PySem.Flt.log2_lt_of (k := 300) (by decide) (Nat.lt_of_lt_of_le h (by decide +kernel))) (by decide)
theorem join_two {a b : Str} : TL.tl (Txt.join ⟨#[]⟩ [a, b]) = TL.tl a ++ TL.tl b := by
  rw [TL.join_eq]
  show TL.tl (a ++ ⟨#[]⟩ ++ b) = _
  rw [TL.tl_append, TL.tl_append]
  simp [TL.tl]
theorem ok_numeral (T : Txt K mg) : FnOk P w K mg base CX0 1 T.f_numeral T.d_numeral ["number"] spNumeral := by
  refine T.F_numeral.ok sc_numeral (fun vs H Q E h => ?_) (fun cdv A outer s H vs Q E hr h => ?_)
  · obtain ⟨n, rfl, _⟩ := h
    rfl
  · obtain ⟨n, rfl, hn, k⟩ := h
    refine ⟨_, (pss_cons (ps_set (i := 1) sc_numeral.nd rfl (Or.inl rfl) (pe_callB call_abs (by rfl) T.n_abs (by decide +kernel) (pa_cons (pv 0) pa_nil)))
    (pss_cons (ps_set (i := 2) sc_numeral.nd rfl (Or.inl rfl) (pe_lst pa_nil))
    (C8.pss_cut (ps_while PassesOwn.never (pt_cmpR op_ge (pv 1) (pe_glob (v := V.int 10000000000000000000000000000000000000000000000000000000000000000) rfl T.c_PIECE ⟨_, rfl⟩) (nomark _))
      (pss_cons (ps_asg (pe_callB call_divmodW (by rfl) T.n_divmod (by decide +kernel) (pa_cons (pv 1) (pa_cons (pe_glob (v := V.int 10000000000000000000000000000000000000000000000000000000000000000) rfl T.c_PIECE ⟨_, rfl⟩) pa_nil))) (pg_tup rfl (pgs_cons (pg_name (i := 1) sc_numeral.nd rfl (Or.inl rfl)) (pgs_cons (pg_name (i := 3) sc_numeral.nd rfl (Or.inl rfl)) pgs_nil))))
    (pss_one (ps_expr (pe_bm PySem.F.plainAttrs_list PySem.F.slot_list_append PySem.F.type_list_append mt_append (pv 2) (pa_cons (pe_bm PySem.F.plainAttrs_str PySem.F.slot_str_zfill PySem.F.type_str_zfill mt_zfill (pe_callTy call_str_int (by rfl) T.n_str (by decide +kernel) (pa_cons (pv 3) pa_nil)) (pa_cons (pe_glob (v := V.int 64) rfl T.c_PIECE_DIGITS ⟨_, rfl⟩) pa_nil)) pa_nil))))))
    (pss_cons (ps_expr (pe_bm PySem.F.plainAttrs_list PySem.F.slot_list_append PySem.F.type_list_append mt_append (pv 2) (pa_cons (pe_callTy call_str_int (by rfl) T.n_str (by decide +kernel) (pa_cons (pv 1) pa_nil)) pa_nil)))
    (C8.pss_cut (ps_if (pt_cmpR op_lt (pv 0) pe_int (nomark _))
      (pss_one (ps_expr (pe_bm PySem.F.plainAttrs_list PySem.F.slot_list_append PySem.F.type_list_append mt_append (pv 2) (pa_cons pe_str pa_nil))))
      pss_nil)
    (pss_one (ps_ret (pe_join pe_str (pe_revL (pv 2)))))))))), ?_⟩
    refine ⟨_, rfl, n, rfl, ?_⟩
    rw [abs_of n]
    refine ⟨Nat.zero_le _, fun l hl => ?_⟩
    have sl : Same H (upd H l (.lst [])) := same_upd hl
    have hlt : ¬ decide ((10000000000000000000000000000000000000000000000000000000000000000 : Int) ≤ ((n.natAbs : Nat) : Int)) = true := fun q => by
      have q' : (10000000000000000000000000000000000000000000000000000000000000000 : Int) ≤ ((n.natAbs : Nat) : Int) := of_decide_eq_true q
      have : (n.natAbs : Int) < 10 ^ 64 := by exact_mod_cast hn
      have e : (10 : Int) ^ 64 = 10000000000000000000000000000000000000000000000000000000000000000 := by decide +kernel
      omega
    refine ⟨fun σ H' => σ = [some (.int n), some (.int ((n.natAbs : Nat) : Int)), some (.ref l), none] ∧ H' = upd H l (.lst []), ?_, ?_⟩
    · refine ⟨fun m σ H' => σ = [some (.int n), some (.int ((n.natAbs : Nat) : Int)), some (.ref l), none] ∧ H' = upd H l (.lst []), ⟨0, rfl, rfl⟩, ?_⟩
      rintro m σ H' ⟨rfl, rfl⟩
      refine ⟨_, rfl, _, _, rfl, rfl, _, rfl, ?_⟩
      rw [Bool.eq_false_iff.mpr hlt]
      exact iteF ⟨rfl, rfl⟩
    rintro σ H' ⟨rfl, rfl⟩
    have hl2 : (((n.natAbs : Nat) : Int)).natAbs.log2 < 1920 := by rw [Int.natAbs_natCast]; exact log_small hn
    refine ⟨_, rfl, .inl ⟨rfl, _, SqL.of upd_same⟩, _, rfl, _, rfl, hl2, l, [], _, rfl, rfl, upd_same, by decide, ?_⟩
    rw [upd_upd]
    refine ⟨fun σ H' => σ = [some (.int n), some (.int ((n.natAbs : Nat) : Int)), some (.ref l), none] ∧ H' = upd H l (.lst (if n < 0 then [.str (dec ((n.natAbs : Nat) : Int)), .str dash] else [.str (dec ((n.natAbs : Nat) : Int))])), ?_, ?_⟩
    · refine ⟨_, rfl, n, 0, rfl, rfl, _, rfl, ite2 (fun h0 => ?_) fun h0 => ?_⟩
      · have h0' : n < 0 := of_decide_eq_true h0
        refine ⟨_, rfl, .inl ⟨rfl, _, SqL.of upd_same⟩, l, _, _, rfl, rfl, upd_same, (by show 1 < sizeLine; decide), rfl, ?_⟩
        rw [upd_upd, if_pos h0']
        rfl
      · have h0' : ¬ n < 0 := fun q => h0 (decide_eq_true q)
        refine ⟨rfl, ?_⟩
        rw [if_neg h0']
        rfl
    rintro σ H' ⟨rfl, rfl⟩
    have hd : (dec ((n.natAbs : Nat) : Int)).length ≤ 65 := dec_len (by decide) (by rw [Int.natAbs_natCast]; exact hn)
    have en : ¬ ((n.natAbs : Nat) : Int) < 0 := by omega
    by_cases h0 : n < 0
    · rw [if_pos h0]
      refine ⟨⟨_, rfl⟩, _, rfl, l, _, rfl, SqL.of upd_same, fun p hp => ?_⟩
      refine ⟨⟨#[]⟩, p, [dash, dec ((n.natAbs : Nat) : Int)], rfl, rfl, .inl (SqL.of upd_same), ?_, ?_⟩
      · have e1 : dash.length = 1 := by decide +kernel
        show (dash.length + ((dec ((n.natAbs : Nat) : Int)).length + 0)) + 2 * 0 ≤ 16777216
        omega
      · have e : Txt.join ⟨#[]⟩ [dash, dec ((n.natAbs : Nat) : Int)] = dec n := TL.ext_tl (by rw [join_two, tl_dash, dec_nn en, dec_neg h0, Int.natAbs_natCast]; rfl)
        rw [e]
        exact k _ (fun a o q => by rw [upd_ne (ne_of_none (show (upd H l _) a = some o by rw [upd_ne (ne_of_none q hl)]; exact q) hp), upd_ne (ne_of_none q hl)]; exact q)
    · rw [if_neg h0]
      refine ⟨⟨_, rfl⟩, _, rfl, l, _, rfl, SqL.of upd_same, fun p hp => ?_⟩
      refine ⟨⟨#[]⟩, p, [dec ((n.natAbs : Nat) : Int)], rfl, rfl, .inl (SqL.of upd_same), ?_, ?_⟩
      · show ((dec ((n.natAbs : Nat) : Int)).length + 0) + 1 * 0 ≤ 16777216
        omega
      · have e : Txt.join ⟨#[]⟩ [dec ((n.natAbs : Nat) : Int)] = dec n := TL.ext_tl (by
          rw [TL.join_eq]
          show TL.tl (dec ((n.natAbs : Nat) : Int)) = _
          rw [dec_nn en, dec_nn h0, Int.natAbs_natCast])
        rw [e]
        exact k _ (fun a o q => by rw [upd_ne (ne_of_none (show (upd H l _) a = some o by rw [upd_ne (ne_of_none q hl)]; exact q) hp), upd_ne (ne_of_none q hl)]; exact q)
/-- str of a ratio -/
def spStr (C : Addr) : Sp := fun vs H Q _ => ∃ (p : Addr) (t b : Int), vs = [.ref p] ∧ RatAt C H p t b ∧ t.natAbs < 10 ^ 64 ∧ b.natAbs < 10 ^ 64 ∧ ∀ H', Same H H' → Q (.str (ratText t b)) H'
theorem ok_str (T : Txt K mg) : FnOk P w K mg base CX0 2 T.f_Ratio_str T.d_Ratio_str ["self"] (spStr T.f_Ratio) := by
  have G_numeral : FnOk P w K mg base CX0 1 T.f_numeral T.d_numeral ["number"] spNumeral := ok_numeral T
  refine T.F_Ratio_str.ok sc_Ratio_str (fun vs H Q E h => ?_) (fun cdv A outer s H vs Q E hr h => ?_)
  · obtain ⟨p, t, b, rfl, _⟩ := h
    rfl
  · obtain ⟨p, t, b, rfl, ⟨dx, hp⟩, ht, hb, k⟩ := h
    refine ⟨_, (pss_cons (ps_if (pt_cmpR op_eq (pe_fld (pv 0) rfl) pe_int (nomark _))
      (pss_one (ps_ret (pe_joined1 (pe_fmt (pe_call G_numeral (hr.mono (by decide)) rfl T.m_numeral T.F_numeral.kp T.b_numeral .nil pass0 (pa_cons (pe_fld (pv 0) rfl) pa_nil))))))
      pss_nil)
    (pss_one (ps_ret (pe_joined (PJ.cons (pe_fmt (pe_call G_numeral (hr.mono (by decide)) rfl T.m_numeral T.F_numeral.kp T.b_numeral .nil pass0 (pa_cons (pe_fld (pv 0) rfl) pa_nil))) (PJ.cons pe_str (PJ.cons (pe_fmt (pe_call G_numeral (hr.mono (by decide)) rfl T.m_numeral T.F_numeral.kp T.b_numeral .nil pass0 (pa_cons (pe_fld (pv 0) rfl) pa_nil))) PJ.nil))))))), ?_⟩
    have l1 := dec_len (by decide) ht
    have l2 := dec_len (by decide) hb
    refine ⟨_, rfl, p, T.f_Ratio, dx, _, _, rfl, hp, T.cl_Ratio, T.na_Ratio_bottom, rf_bottom _ _, rfl, _, rfl, ite2 (fun h1 => ?_) fun h1 => ?_⟩
    · have h1' : b = 1 := by
        have := of_decide_eq_true h1
        injection this
      refine ⟨_, rfl, p, T.f_Ratio, dx, _, _, rfl, hp, T.cl_Ratio, T.na_Ratio_top, rf_top _ _, t, rfl, ht, fun H1 s1 => .inl ⟨_, rfl, Nat.le_trans l1 (by decide), ?_⟩⟩
      have e : ratText t b = dec t := if_pos h1'
      rw [← e]
      exact k _ s1
    · have h1' : b ≠ 1 := fun q => h1 (decide_eq_true (by rw [q]))
      refine ⟨_, rfl, p, T.f_Ratio, dx, _, _, rfl, hp, T.cl_Ratio, T.na_Ratio_top, rf_top _ _, t, rfl, ht, fun H1 s1 => .inl ⟨_, rfl, Nat.le_trans l1 (by decide), _, rfl, ?_, ?_⟩⟩
      · rw [Str.empty_append]
        exact Nat.le_trans l1 (by decide)
      refine ⟨_, rfl, ?_, ?_⟩
      · rw [Str.empty_append, Str.length_append]
        have e1 : stroke.length = 1 := by decide +kernel
        show (dec t).length + stroke.length ≤ _
        exact Nat.le_trans (show _ ≤ 100 by omega) (by decide)
      refine ⟨_, rfl, p, T.f_Ratio, dx, _, _, rfl, s1 _ _ hp, T.cl_Ratio, T.na_Ratio_bottom, rf_bottom _ _, b, rfl, hb, fun H2 s2 => .inl ⟨_, rfl, Nat.le_trans l2 (by decide), _, rfl, ?_, ?_⟩⟩
      · rw [Str.empty_append, Str.length_append, Str.length_append]
        have e1 : stroke.length = 1 := by decide +kernel
        show (dec t).length + stroke.length + (dec b).length ≤ _
        exact Nat.le_trans (show _ ≤ 200 by omega) (by decide)
      · have e : ratText t b = Str.empty ++ dec t ++ stroke ++ dec b := by
          unfold ratText
          rw [if_neg h1', Str.empty_append]
        have := k _ (s1.trans s2)
        rw [e] at this
        exact this
end

section
variable {P : Program} {w : World} {K : PySem.W.Frag} {mg : Str → Option Value} {base : Heap}
/-- _law_low -/
def spLow : Sp := fun vs H Q _ => ∃ t b : Int, vs = [.int t, .int b] ∧ b ≠ 0 ∧ BIG b ∧ ∀ p H', H p = none → Same H H' → H' p = some (.tup [.int (lowT t b), .int (lowB t b)]) → Q (.ref p) H'
theorem ok_low (T : Txt K mg) : FnOk P w K mg base CX0 1 T.f_low T.d_low ["_law_up", "_law_down"] spLow := by
  refine T.F_low.ok sc_low (fun vs H Q E h => ?_) (fun cdv A outer s H vs Q E hr h => ?_)
  · obtain ⟨t, b, rfl, _⟩ := h
    rfl
  · obtain ⟨t, b, rfl, hb, hB, k⟩ := h
    refine ⟨_, (pss_cons (ps_set (i := 2) sc_low.nd rfl (Or.inl rfl) (pe_callB call_abs (by rfl) T.n_abs (by decide +kernel) (pa_cons (pv 0) pa_nil)))
    (pss_cons (ps_set (i := 3) sc_low.nd rfl (Or.inl rfl) (pe_callB call_abs (by rfl) T.n_abs (by decide +kernel) (pa_cons (pv 1) pa_nil)))
    (C8.pss_cut (ps_while PassesOwn.never (pt_cmpR op_ne (pv 3) pe_int (nomark _))
      (pss_one (ps_par (i := 2) (j := 3) (by rfl) sc_low.nd rfl rfl (by decide) rfl rfl (pa_cons (pv 3) (pa_cons (pe_op op_mod (pe_callTy call_int1 (by rfl) T.n_int (by decide +kernel) (pa_cons (pv 2) pa_nil)) (pv 3)) pa_nil)) (by rfl))))
    (C8.pss_cut (ps_if (pt_cmpR op_lt (pv 1) pe_int (nomark _))
      (pss_one (ps_set (i := 2) sc_low.nd rfl (Or.inl rfl) (pe_un un_neg (pv 2))))
      pss_nil)
    (pss_one (ps_ret (pe_tup (pa_cons (pe_op op_fdivZ (pv 0) (pv 2)) (pa_cons (pe_op op_fdivZ (pv 1) (pv 2)) pa_nil))))))))), ?_⟩
    refine ⟨_, rfl, t, rfl, ?_⟩
    rw [abs_of]
    refine ⟨_, rfl, b, rfl, ?_⟩
    rw [abs_of]
    refine ⟨fun σ H' => σ = [some (.int t), some (.int b), some (.int ((Nat.gcd t.natAbs b.natAbs : Nat) : Int)), some (.int 0)] ∧ H' = H, ?_, ?_⟩
    · refine ⟨fun m σ H' => ∃ x y : Nat, σ = [some (.int t), some (.int b), some (.int (x : Int)), some (.int (y : Int))] ∧ H' = H ∧ Nat.gcd x y = Nat.gcd t.natAbs b.natAbs ∧ y = m, ⟨_, _, _, rfl, rfl, rfl, rfl⟩, ?_⟩
      rintro m σ H' ⟨x, y, rfl, rfl, hg, rfl⟩
      refine ⟨_, rfl, rfl, _, rfl, ?_⟩
      by_cases hy : y = 0
      · subst hy
        refine iteF ⟨?_, rfl⟩
        rw [Nat.gcd_zero_right] at hg
        rw [hg]
        rfl
      · have ey : (!decide (V.int (y : Int) = V.int 0)) = true := by
          rw [Bool.not_eq_true', decide_eq_false_iff_not]
          intro q
          injection q with q
          omega
        rw [ey]
        refine iteT ⟨fun σ' H2 => ∃ x' y' : Nat, σ' = [some (.int t), some (.int b), some (.int (x' : Int)), some (.int (y' : Int))] ∧ H2 = H' ∧ Nat.gcd x' y' = Nat.gcd t.natAbs b.natAbs ∧ y' < y, fun σ' H2 ⟨x', y', e1, e2, e3, e4⟩ => ⟨y', e4, x', y', e1, e2, e3, rfl⟩, ?_⟩
        refine ⟨_, rfl, _, rfl, .inl ⟨_, rfl, _, rfl, (x : Int), (y : Int), rfl, rfl, (by show (0 : Int) < (y : Int); omega), _, _, rfl, y, x % y, ?_, rfl, ?_, Nat.mod_lt _ (by omega)⟩⟩
        · rfl
        · rw [← hg, Nat.gcd_comm x y, Nat.gcd_rec y x, Nat.gcd_comm]
    rintro σ H' ⟨rfl, rfl⟩
    refine ⟨fun σ H2 => σ = [some (.int t), some (.int b), some (.int (dvs t b)), some (.int 0)] ∧ H2 = H', ?_, ?_⟩
    · refine ⟨_, rfl, b, 0, rfl, rfl, _, rfl, ite2 (fun h0 => ?_) fun h0 => ?_⟩
      · refine ⟨_, rfl, _, rfl, ?_, rfl⟩
        unfold dvs
        rw [if_pos (of_decide_eq_true h0)]
        rfl
      · refine ⟨?_, rfl⟩
        unfold dvs
        rw [if_neg fun q => h0 (decide_eq_true q)]
    rintro σ H2 ⟨rfl, rfl⟩
    have hz : ∀ i : Int, CDivZ i (dvs t b) := fun i => cdivZ (dvs_ne hb) (Nat.lt_of_le_of_lt (dvs_le hb) hB)
    exact ⟨_, rfl, _, rfl, t, _, rfl, rfl, hz _, _, rfl, _, rfl, b, _, rfl, rfl, hz _, (by show 2 ≤ sizeLine; decide), fun p hp => k p _ hp (same_upd hp) upd_same⟩
end

section
variable {P : Program} {w : World} {K : PySem.W.Frag} {mg : Str → Option Value} {base : Heap}
def dat2 (t b : Int) : PyData := .tuple [.int t, .int b]
theorem dp2 {H : Hp} {q : Addr} {t b : Int} (h : H q = some (.tup [.int t, .int b])) : Dp K H (.ref q) (dat2 t b) := .tup (SqT.of h) (.cons (.int _) (.cons (.int _) .nil))
theorem sh2 (t b : Int) : SeqAt.shaped (dat2 t b) = true := by simp [dat2, SeqAt.shaped, PyData.canLay0, PyData.canLayAll0, PyData.depth, PyData.depthAll]
theorem eq2 (t b : Int) : PyData.eqv (dat2 t b) (dat2 t b) = true := by simp [dat2, PyData.eqv, PyData.eqvAll]
/-- _law_is, where it holds -/
def spIs (C : Addr) : Sp := fun vs H Q _ => ∃ (p q : Addr) (t b : Int), vs = [.ref p, .ref q] ∧ RatAt C H p t b ∧ H q = some (.tup [.int t, .int b]) ∧ ∀ H', Same H H' → Q (.bl true) H'
theorem ok_is (T : Txt K mg) : FnOk P w K mg base CX0 3 T.f_is T.d_is ["_law_actual", "_law_pair"] (spIs T.f_Ratio) := by
  have G_Ratio_top : FnOk P w K mg base CX0 1 T.f_Ratio_top T.d_Ratio_top ["self"] (spTop T.f_Ratio) := ok_top T
  have G_Ratio_bottom : FnOk P w K mg base CX0 1 T.f_Ratio_bottom T.d_Ratio_bottom ["self"] (spBottom T.f_Ratio) := ok_bottom T
  refine T.F_is.ok sc_is (fun vs H Q E h => ?_) (fun cdv A outer s H vs Q E hr h => ?_)
  · obtain ⟨p, q, t, b, rfl, _⟩ := h
    rfl
  · obtain ⟨p, q, t, b, rfl, r, hq, k⟩ := h
    obtain ⟨dx, hp⟩ := id r
    refine ⟨_, (pss_cons (ps_if (PW.pt (pw_or (pt_not (pt_val (pe_callB call_isi (by rfl) T.n_isinstance (by decide +kernel) (pa_cons (pv 0) (pa_cons (pe_glob (v := .ref T.f_Ratio) rfl T.m_Ratio rfl) pa_nil))))) (pw_or (pt_not (pt_val (pe_callB call_isi (by rfl) T.n_isinstance (by decide +kernel) (pa_cons (pe_prop (pv 0) T.cl_Ratio T.p_Ratio_top G_Ratio_top (hr.mono (by decide)) T.b_Ratio_top .nil pass0 rfl) (pa_cons (pe_bltn (v := .ty "int") (u := .type "int") (by rfl) T.n_int (by decide +kernel) rfl) pa_nil))))) (pw_or1 (pt_not (pt_val (pe_callB call_isi (by rfl) T.n_isinstance (by decide +kernel) (pa_cons (pe_prop (pv 0) T.cl_Ratio T.p_Ratio_bottom G_Ratio_bottom (hr.mono (by decide)) T.b_Ratio_bottom .nil pass0 rfl) (pa_cons (pe_bltn (v := .ty "int") (u := .type "int") (by rfl) T.n_int (by decide +kernel) rfl) pa_nil)))))))))
      (pss_one (ps_ret pe_bl))
      pss_nil)
    (pss_one (ps_ret (pe_cmpR (op_eqD hr.units) (pe_tup (pa_cons (pe_prop (pv 0) T.cl_Ratio T.p_Ratio_top G_Ratio_top (hr.mono (by decide)) T.b_Ratio_top .nil pass0 rfl) (pa_cons (pe_prop (pv 0) T.cl_Ratio T.p_Ratio_bottom G_Ratio_bottom (hr.mono (by decide)) T.b_Ratio_bottom .nil pass0 rfl) pa_nil))) (pv 1) (nomark _))))), ?_⟩
    refine ⟨_, rfl, .ref p, .ref T.f_Ratio, .ref T.f_Ratio, .ref T.f_Ratio, true, rfl, .own _, tyR T.ic_Ratio r, kit_self, true, rfl, iteF ?_⟩
    refine ⟨_, rfl, p, dx, _, rfl, hp, p, t, b, rfl, r, .int t, .ty "int", .type "int", .type "int", true, rfl, .ty _, .base (.int _), kit_ty (by decide +kernel), true, rfl, iteF ?_⟩
    refine ⟨_, rfl, p, dx, _, rfl, hp, p, t, b, rfl, r, .int b, .ty "int", .type "int", .type "int", true, rfl, .ty _, .base (.int _), kit_ty (by decide +kernel), true, rfl, iteF ?_⟩
    refine ⟨_, rfl, p, dx, _, rfl, hp, p, t, b, rfl, r, _, rfl, p, dx, _, rfl, hp, p, t, b, rfl, r, (by show 2 ≤ sizeLine; decide), fun o ho => ?_⟩
    refine ⟨_, rfl, dat2 t b, dat2 t b, dp2 upd_same, dp2 (same_upd ho _ _ hq), sh2 t b, sh2 t b, ?_⟩
    rw [eq2]
    exact k _ (same_upd ho)
end

section
variable {P : Program} {w : World} {K : PySem.W.Frag} {mg : Str → Option Value} {base : Heap}
/-- OutOfRange's own __init__ -/
def spOor (C : Addr) : Sp := fun vs H Q _ => ∃ (a : Addr) (v : V), vs = [.ref a, v] ∧ H a = some (exo a C none) ∧ ∀ dx H', H dx = none → dx ≠ a → H' = upd (upd H dx (exd dx [("value", v)])) a (exo a C (some dx)) → Q .non H'
theorem ok_oor (T : Txt K mg) : FnOk P w K mg base CX0 1 T.f_OutOfRange_init T.d_OutOfRange_init ["self", "value"] (spOor T.f_OutOfRange) := by
  refine T.F_OutOfRange_init.ok sc_OutOfRange_init (fun vs H Q E h => ?_) (fun cdv A outer s H vs Q E hr h => ?_)
  · obtain ⟨a, v, rfl, _⟩ := h
    rfl
  · obtain ⟨a, v, rfl, ha, k⟩ := h
    refine ⟨_, (pss_one (ps_ost (pv 0) (pv 1))), ?_⟩
    exact ⟨_, rfl, _, rfl, a, T.f_OutOfRange, rfl, T.ox_OutOfRange, T.no_OutOfRange_value, .inl ⟨ha, fun dx nd ne => k dx _ nd ne rfl⟩⟩
end

/-! ### lowest terms -/
theorem dvs_abs (t b : Int) : (dvs t b).natAbs = Nat.gcd t.natAbs b.natAbs := by
  unfold dvs
  split <;> omega
theorem dvs_dvd_t (t b : Int) : dvs t b ∣ t := Int.natAbs_dvd_natAbs.mp (by rw [dvs_abs]; exact Nat.gcd_dvd_left _ _)
theorem dvs_dvd_b (t b : Int) : dvs t b ∣ b := Int.natAbs_dvd_natAbs.mp (by rw [dvs_abs]; exact Nat.gcd_dvd_right _ _)
theorem fdiv_mul {a d : Int} (h : d ∣ a) : a.fdiv d * d = a := by
  obtain ⟨c, rfl⟩ := h
  by_cases hd : d = 0
  · subst hd; simp
  · rw [Int.mul_comm d c, Int.mul_fdiv_cancel _ hd]
theorem lowT_mul (t b : Int) : lowT t b * dvs t b = t := fdiv_mul (dvs_dvd_t t b)
theorem lowB_mul (t b : Int) : lowB t b * dvs t b = b := fdiv_mul (dvs_dvd_b t b)
theorem lowT_le {t b : Int} (h : b ≠ 0) : (lowT t b).natAbs ≤ t.natAbs := by
  have e := congrArg Int.natAbs (lowT_mul t b)
  rw [Int.natAbs_mul] at e
  have hd : 0 < (dvs t b).natAbs := by have := dvs_ne (t := t) h; omega
  rw [← e]
  exact Nat.le_mul_of_pos_right _ hd
theorem lowB_le {t b : Int} (h : b ≠ 0) : (lowB t b).natAbs ≤ b.natAbs := by
  have e := congrArg Int.natAbs (lowB_mul t b)
  rw [Int.natAbs_mul] at e
  have hd : 0 < (dvs t b).natAbs := by have := dvs_ne (t := t) h; omega
  rw [← e]
  exact Nat.le_mul_of_pos_right _ hd
theorem lowB_pos {t b : Int} (h : b ≠ 0) : 0 < lowB t b := by
  have e := lowB_mul t b
  have hg : 0 < Nat.gcd t.natAbs b.natAbs := Nat.gcd_pos_of_pos_right _ (by omega)
  by_cases hb : b < 0
  · have hd : dvs t b < 0 := by unfold dvs; rw [if_pos hb]; omega
    rcases Int.lt_trichotomy (lowB t b) 0 with q | q | q
    · have : 0 < lowB t b * dvs t b := Int.mul_pos_of_neg_of_neg q hd
      omega
    · rw [q, Int.zero_mul] at e; omega
    · exact q
  · have hd : 0 < dvs t b := by unfold dvs; rw [if_neg hb]; omega
    rcases Int.lt_trichotomy (lowB t b) 0 with q | q | q
    · have : lowB t b * dvs t b < 0 := Int.mul_neg_of_neg_of_pos q hd
      omega
    · rw [q, Int.zero_mul] at e; omega
    · exact q
theorem low_gcd {t b : Int} (h : b ≠ 0) : Nat.gcd (lowT t b).natAbs (lowB t b).natAbs = 1 := by
  have e1 := congrArg Int.natAbs (lowT_mul t b)
  have e2 := congrArg Int.natAbs (lowB_mul t b)
  rw [Int.natAbs_mul, dvs_abs] at e1 e2
  have hg : 0 < Nat.gcd t.natAbs b.natAbs := Nat.gcd_pos_of_pos_right _ (by omega)
  have e3 : Nat.gcd (lowT t b).natAbs (lowB t b).natAbs * Nat.gcd t.natAbs b.natAbs = 1 * Nat.gcd t.natAbs b.natAbs := by
    rw [← Nat.gcd_mul_right, e1, e2, Nat.one_mul]
  exact Nat.eq_of_mul_eq_mul_right hg e3
theorem low_same {t b : Int} (hb : 0 < b) (hg : Nat.gcd t.natAbs b.natAbs = 1) : lowT t b = t ∧ lowB t b = b := by
  have e : dvs t b = 1 := by
    unfold dvs
    rw [if_neg (by omega), hg]
    rfl
  unfold lowT lowB
  rw [e, Int.fdiv_one, Int.fdiv_one]
  exact ⟨rfl, rfl⟩
theorem low_low {t b : Int} (h : b ≠ 0) : lowT (lowT t b) (lowB t b) = lowT t b ∧ lowB (lowT t b) (lowB t b) = lowB t b := low_same (lowB_pos h) (low_gcd h)

/-! ### sums, products, differences -/
section
variable {P : Program} {w : World} {K : PySem.W.Frag} {mg : Str → Option Value} {base : Heap}
def Low (t b : Int) : Prop := 0 < b ∧ Nat.gcd t.natAbs b.natAbs = 1
theorem Low.of {t b : Int} (h : b ≠ 0) : Low (lowT t b) (lowB t b) := ⟨lowB_pos h, low_gcd h⟩
theorem Low.neg {t b : Int} (h : Low t b) : Low (-t) b := ⟨h.1, by rw [Int.natAbs_neg]; exact h.2⟩
theorem Low.one (t : Int) : Low t 1 := ⟨by decide, by simp⟩
theorem Low.ne {t b : Int} (h : Low t b) : b ≠ 0 := by have := h.1; omega
theorem Low.tt {t b : Int} (h : Low t b) : lowT t b = t := (low_same h.1 h.2).1
theorem Low.bb {t b : Int} (h : Low t b) : lowB t b = b := (low_same h.1 h.2).2
theorem dvs_scale {k t b : Int} (hk : k ≠ 0) (hb : b ≠ 0) : dvs (k * t) (k * b) = k * dvs t b := by
  have eg : Nat.gcd (k * t).natAbs (k * b).natAbs = k.natAbs * Nat.gcd t.natAbs b.natAbs := by rw [Int.natAbs_mul, Int.natAbs_mul, Nat.gcd_mul_left]
  unfold dvs
  rw [eg, Int.natCast_mul]
  generalize ((Nat.gcd t.natAbs b.natAbs : Nat) : Int) = g
  rcases Int.lt_or_gt_of_ne hk with q | q <;> rcases Int.lt_or_gt_of_ne hb with r | r
  · have : 0 < k * b := Int.mul_pos_of_neg_of_neg q r
    rw [if_neg (by omega), if_pos r, show ((k.natAbs : Nat) : Int) = -k by omega, Int.neg_mul, Int.mul_neg]
  · have : k * b < 0 := Int.mul_neg_of_neg_of_pos q r
    rw [if_pos this, if_neg (by omega), show ((k.natAbs : Nat) : Int) = -k by omega, Int.neg_mul, Int.neg_neg]
  · have : k * b < 0 := Int.mul_neg_of_pos_of_neg q r
    rw [if_pos this, if_pos r, show ((k.natAbs : Nat) : Int) = k by omega, Int.mul_neg]
  · have : 0 < k * b := Int.mul_pos q r
    rw [if_neg (by omega), if_neg (by omega), show ((k.natAbs : Nat) : Int) = k by omega]
theorem fdiv_scale {k a d : Int} (hk : k ≠ 0) (hd : d ≠ 0) (h : d ∣ a) : (k * a).fdiv (k * d) = a.fdiv d := by
  obtain ⟨c, rfl⟩ := h
  have e : k * (d * c) = c * (k * d) := by rw [Int.mul_comm c, Int.mul_assoc]
  rw [e, Int.mul_fdiv_cancel _ (Int.mul_ne_zero hk hd), Int.mul_comm d c, Int.mul_fdiv_cancel _ hd]
theorem low_scale {k t b : Int} (hk : k ≠ 0) (hb : b ≠ 0) : lowT (k * t) (k * b) = lowT t b ∧ lowB (k * t) (k * b) = lowB t b := by
  unfold lowT lowB
  rw [dvs_scale hk hb]
  exact ⟨fdiv_scale hk (dvs_ne hb) (dvs_dvd_t t b), fdiv_scale hk (dvs_ne hb) (dvs_dvd_b t b)⟩
/-- divided by x / y, that is, times the lowest terms of y / x -/
theorem low_over {t b x y : Int} (hy : y ≠ 0) (hb : b ≠ 0) : lowT (t * x) (b * y) = lowT (t * lowT x y) (b * lowB x y) ∧ lowB (t * x) (b * y) = lowB (t * lowT x y) (b * lowB x y) := by
  have h := low_scale (k := dvs x y) (t := t * lowT x y) (b := b * lowB x y) (dvs_ne hy) (Int.mul_ne_zero hb (by have := lowB_pos (t := x) hy; omega))
  have e1 : dvs x y * (t * lowT x y) = t * x := by rw [Int.mul_comm, Int.mul_assoc, lowT_mul]
  have e2 : dvs x y * (b * lowB x y) = b * y := by rw [Int.mul_comm, Int.mul_assoc, lowB_mul]
  rw [e1, e2] at h
  exact h
def SM (z : Int) : Prop := z.natAbs < 2 ^ 200
theorem sm_mul {a b : Int} (ha : SM a) (hb : SM b) : CMulW a b := wide_mul (a := 200) (b := 200) ha hb (by decide) (by decide) (by decide)
theorem big_mul {a b : Int} (ha : SM a) (hb : SM b) : BIG (a * b) := by
  show (a * b).natAbs < 2 ^ 8000
  rw [Int.natAbs_mul]
  exact Nat.lt_of_le_of_lt (Nat.mul_le_mul (Nat.le_of_lt ha) (Nat.le_of_lt hb)) (by decide +kernel)
theorem SM.big {a : Int} (h : SM a) : BIG a := Nat.lt_of_lt_of_le h (by decide +kernel)
theorem SM.neg {a : Int} (h : SM a) : SM (-a) := by unfold SM; rw [Int.natAbs_neg]; exact h
theorem sm_one : SM 1 := by show (1 : Nat) < 2 ^ 200; decide +kernel
/-- a ratio, or an int as one -/
def Num (C : Addr) (H : Hp) (v : V) (t b : Int) : Prop := (v = .int t ∧ b = 1) ∨ ∃ p, v = .ref p ∧ RatAt C H p t b
theorem RatAt.on {C : Addr} {H H' : Hp} {p : Addr} {t b : Int} (r : RatAt C H p t b) (s : Same H H') : RatAt C H' p t b := let ⟨dx, h⟩ := r; ⟨dx, s _ _ h⟩
theorem Num.on {C : Addr} {H H' : Hp} {v : V} {t b : Int} (n : Num C H v t b) (s : Same H H') : Num C H' v t b := n.elim .inl fun ⟨p, e, r⟩ => .inr ⟨p, e, r.on s⟩
def spNum (C : Addr) : Sp := fun vs H Q _ => ∃ (v : V) (t b : Int), vs = [v] ∧ Num C H v t b ∧ ∀ p H', Same H H' → RatAt C H' p t b → Q (.ref p) H'
theorem ok_asN (T : Txt K mg) : FnOk P w K mg base CX0 3 T.f_as_ratio T.d_as_ratio ["value"] (spNum T.f_Ratio) := by
  have G_Ratio_init : FnOk P w K mg base CX0 1 T.f_Ratio_init T.d_Ratio_init ["self", "top", "bottom"] (spInit T.f_Ratio) := ok_init T
  refine T.F_as_ratio.ok sc_as_ratio (fun vs H Q E h => ?_) (fun cdv A outer s H vs Q E hr h => ?_)
  · obtain ⟨v, t, b, rfl, _⟩ := h
    rfl
  · obtain ⟨v, t, b, rfl, n, k⟩ := h
    refine ⟨_, (pss_cons (ps_if (pt_val (pe_callB call_isi (by rfl) T.n_isinstance (by decide +kernel) (pa_cons (pv 0) (pa_cons (pe_glob (v := .ref T.f_Ratio) rfl T.m_Ratio rfl) pa_nil))))
      (pss_one (ps_ret (pv 0)))
      pss_nil)
    (pss_one (ps_ret (pe_make T.mk_Ratio G_Ratio_init (hr.mono (by decide)) rfl T.m_Ratio T.b1_Ratio_init T.v1_Ratio_init pass0 (pa_cons (pv 0) pa_nil))))), ?_⟩
    rcases n with ⟨rfl, rfl⟩ | ⟨p, rfl, r⟩
    · refine ⟨_, rfl, .int t, .ref T.f_Ratio, .type "int", .ref T.f_Ratio, false, rfl, .own _, .base (.int _), T.ki_Ratio_int, false, rfl, iteF ?_⟩
      refine ⟨_, rfl, made_rat (by decide) big_one fun x H' nx sm r => ?_⟩
      rw [(low_one t).1, (low_one t).2] at r
      exact k x H' sm r
    · exact ⟨_, rfl, .ref p, .ref T.f_Ratio, .ref T.f_Ratio, .ref T.f_Ratio, true, rfl, .own _, tyR T.ic_Ratio r, kit_self, true, rfl, iteT ⟨_, rfl, k p H (Same.refl H) r⟩⟩
/-- a new ratio, in lowest terms -/
def Res (C : Addr) (H : Hp) (x y : Int) (Q : VK) : Prop := ∀ q H', H q = none → Same H H' → RatAt C H' q (lowT x y) (lowB x y) → Q (.ref q) H'
def spAdd (C : Addr) : Sp := fun vs H Q _ => ∃ (p : Addr) (y : V) (t b t' b' : Int), vs = [.ref p, y] ∧ RatAt C H p t b ∧ Num C H y t' b' ∧ SM t ∧ SM b ∧ SM t' ∧ SM b' ∧ b ≠ 0 ∧ b' ≠ 0 ∧ Res C H (t * b' + t' * b) (b * b') Q
def spMul (C : Addr) : Sp := fun vs H Q _ => ∃ (p : Addr) (y : V) (t b t' b' : Int), vs = [.ref p, y] ∧ RatAt C H p t b ∧ Num C H y t' b' ∧ SM t ∧ SM b ∧ SM t' ∧ SM b' ∧ b ≠ 0 ∧ b' ≠ 0 ∧ Res C H (t * t') (b * b') Q
def spOver (C : Addr) : Sp := fun vs H Q _ => ∃ (p : Addr) (y : V) (t b t' b' : Int), vs = [.ref p, y] ∧ RatAt C H p t b ∧ Num C H y t' b' ∧ SM t ∧ SM b ∧ SM t' ∧ SM b' ∧ b ≠ 0 ∧ t' ≠ 0 ∧ Res C H (t * b') (b * t') Q
def spBelow (C : Addr) : Sp := fun vs H Q _ => ∃ (p : Addr) (y : V) (t b t' b' : Int), vs = [.ref p, y] ∧ RatAt C H p t b ∧ Num C H y t' b' ∧ SM t ∧ SM b ∧ SM t' ∧ SM b' ∧ ∀ H', Same H H' → Q (.bl (decide (t * b' < t' * b))) H'
def spNeg (C : Addr) : Sp := fun vs H Q _ => ∃ (p : Addr) (t b : Int), vs = [.ref p] ∧ RatAt C H p t b ∧ Low t b ∧ SM b ∧ ∀ q H', H q = none → Same H H' → RatAt C H' q (-t) b → Q (.ref q) H'
def spEqB (C : Addr) : Sp := fun vs H Q _ => ∃ (p q : Addr) (t b t' b' : Int), vs = [.ref p, .ref q] ∧ RatAt C H p t b ∧ RatAt C H q t' b' ∧ Q (.bl (decide (t = t' ∧ b = b'))) H
end

section
variable {P : Program} {w : World} {K : PySem.W.Frag} {mg : Str → Option Value} {base : Heap}
theorem ok_add (T : Txt K mg) : FnOk P w K mg base CX0 4 T.f_Ratio_add T.d_Ratio_add ["self", "other"] (spAdd T.f_Ratio) := by
  have G_Ratio_init : FnOk P w K mg base CX0 1 T.f_Ratio_init T.d_Ratio_init ["self", "top", "bottom"] (spInit T.f_Ratio) := ok_init T
  have G_Ratio_top : FnOk P w K mg base CX0 1 T.f_Ratio_top T.d_Ratio_top ["self"] (spTop T.f_Ratio) := ok_top T
  have G_Ratio_bottom : FnOk P w K mg base CX0 1 T.f_Ratio_bottom T.d_Ratio_bottom ["self"] (spBottom T.f_Ratio) := ok_bottom T
  have G_as_ratio : FnOk P w K mg base CX0 3 T.f_as_ratio T.d_as_ratio ["value"] (spNum T.f_Ratio) := ok_asN T
  refine T.F_Ratio_add.ok sc_Ratio_add (fun vs H Q E h => ?_) (fun cdv A outer s H vs Q E hr h => ?_)
  · obtain ⟨p, y, t, b, t', b', rfl, _⟩ := h
    rfl
  · obtain ⟨p, y, t, b, t', b', rfl, r, n, ht, hb, ht', hb', h0, h0', k⟩ := h
    refine ⟨_, (pss_cons (ps_set (i := 2) sc_Ratio_add.nd rfl (Or.inl rfl) (pe_call G_as_ratio (hr.mono (by decide)) rfl T.m_as_ratio T.F_as_ratio.kp T.b_as_ratio .nil pass0 (pa_cons (pv 1) pa_nil)))
    (pss_cons (ps_set (i := 3) sc_Ratio_add.nd rfl (Or.inl rfl) (pe_op op_add (pe_op op_mulW (pe_fld (pv 0) rfl) (pe_prop (pv 2) T.cl_Ratio T.p_Ratio_bottom G_Ratio_bottom (hr.mono (by decide)) T.b_Ratio_bottom .nil pass0 rfl)) (pe_op op_mulW (pe_prop (pv 2) T.cl_Ratio T.p_Ratio_top G_Ratio_top (hr.mono (by decide)) T.b_Ratio_top .nil pass0 rfl) (pe_fld (pv 0) rfl))))
    (pss_one (ps_ret (pe_make T.mk_Ratio G_Ratio_init (hr.mono (by decide)) rfl T.m_Ratio T.b2_Ratio_init T.v2_Ratio_init pass0 (pa_cons (pv 3) (pa_cons (pe_op op_mulW (pe_fld (pv 0) rfl) (pe_prop (pv 2) T.cl_Ratio T.p_Ratio_bottom G_Ratio_bottom (hr.mono (by decide)) T.b_Ratio_bottom .nil pass0 rfl)) pa_nil))))))), ?_⟩
    refine ⟨_, rfl, y, t', b', rfl, n, fun p' H1 s1 r1 => ?_⟩
    obtain ⟨dx, hp⟩ := r.on s1
    obtain ⟨dx', hp'⟩ := id r1
    refine ⟨_, rfl, p, T.f_Ratio, dx, _, _, rfl, hp, T.cl_Ratio, T.na_Ratio_top, rf_top _ _, _, rfl, p', dx', _, rfl, hp', p', t', b', rfl, r1, _, _, rfl, rfl, sm_mul ht hb', ?_⟩
    refine ⟨_, rfl, p', dx', _, rfl, hp', p', t', b', rfl, r1, _, rfl, p, T.f_Ratio, dx, _, _, rfl, hp, T.cl_Ratio, T.na_Ratio_bottom, rf_bottom _ _, _, _, rfl, rfl, sm_mul ht' hb, _, _, rfl, rfl, ?_⟩
    refine ⟨_, rfl, _, rfl, p, T.f_Ratio, dx, _, _, rfl, hp, T.cl_Ratio, T.na_Ratio_bottom, rf_bottom _ _, _, rfl, p', dx', _, rfl, hp', p', t', b', rfl, r1, _, _, rfl, rfl, sm_mul hb hb', ?_⟩
    exact made_rat (Int.mul_ne_zero h0 h0') (big_mul hb hb') fun q H' nq sq rq => k q H' (s1.free nq) (s1.trans sq) rq
end

section
variable {P : Program} {w : World} {K : PySem.W.Frag} {mg : Str → Option Value} {base : Heap}
theorem ok_mul (T : Txt K mg) : FnOk P w K mg base CX0 4 T.f_Ratio_mul T.d_Ratio_mul ["self", "other"] (spMul T.f_Ratio) := by
  have G_Ratio_init : FnOk P w K mg base CX0 1 T.f_Ratio_init T.d_Ratio_init ["self", "top", "bottom"] (spInit T.f_Ratio) := ok_init T
  have G_Ratio_top : FnOk P w K mg base CX0 1 T.f_Ratio_top T.d_Ratio_top ["self"] (spTop T.f_Ratio) := ok_top T
  have G_Ratio_bottom : FnOk P w K mg base CX0 1 T.f_Ratio_bottom T.d_Ratio_bottom ["self"] (spBottom T.f_Ratio) := ok_bottom T
  have G_as_ratio : FnOk P w K mg base CX0 3 T.f_as_ratio T.d_as_ratio ["value"] (spNum T.f_Ratio) := ok_asN T
  refine T.F_Ratio_mul.ok sc_Ratio_mul (fun vs H Q E h => ?_) (fun cdv A outer s H vs Q E hr h => ?_)
  · obtain ⟨p, y, t, b, t', b', rfl, _⟩ := h
    rfl
  · obtain ⟨p, y, t, b, t', b', rfl, r, n, ht, hb, ht', hb', h0, h0', k⟩ := h
    refine ⟨_, (pss_cons (ps_set (i := 2) sc_Ratio_mul.nd rfl (Or.inl rfl) (pe_call G_as_ratio (hr.mono (by decide)) rfl T.m_as_ratio T.F_as_ratio.kp T.b_as_ratio .nil pass0 (pa_cons (pv 1) pa_nil)))
    (pss_one (ps_ret (pe_make T.mk_Ratio G_Ratio_init (hr.mono (by decide)) rfl T.m_Ratio T.b2_Ratio_init T.v2_Ratio_init pass0 (pa_cons (pe_op op_mulW (pe_fld (pv 0) rfl) (pe_prop (pv 2) T.cl_Ratio T.p_Ratio_top G_Ratio_top (hr.mono (by decide)) T.b_Ratio_top .nil pass0 rfl)) (pa_cons (pe_op op_mulW (pe_fld (pv 0) rfl) (pe_prop (pv 2) T.cl_Ratio T.p_Ratio_bottom G_Ratio_bottom (hr.mono (by decide)) T.b_Ratio_bottom .nil pass0 rfl)) pa_nil)))))), ?_⟩
    refine ⟨_, rfl, y, t', b', rfl, n, fun p' H1 s1 r1 => ?_⟩
    obtain ⟨dx, hp⟩ := r.on s1
    obtain ⟨dx', hp'⟩ := id r1
    refine ⟨_, rfl, p, T.f_Ratio, dx, _, _, rfl, hp, T.cl_Ratio, T.na_Ratio_top, rf_top _ _, _, rfl, p', dx', _, rfl, hp', p', t', b', rfl, r1, _, _, rfl, rfl, sm_mul ht ht', ?_⟩
    refine ⟨_, rfl, p, T.f_Ratio, dx, _, _, rfl, hp, T.cl_Ratio, T.na_Ratio_bottom, rf_bottom _ _, _, rfl, p', dx', _, rfl, hp', p', t', b', rfl, r1, _, _, rfl, rfl, sm_mul hb hb', ?_⟩
    exact made_rat (Int.mul_ne_zero h0 h0') (big_mul hb hb') fun q H' nq sq rq => k q H' (s1.free nq) (s1.trans sq) rq
end

section
variable {P : Program} {w : World} {K : PySem.W.Frag} {mg : Str → Option Value} {base : Heap}
theorem ok_over (T : Txt K mg) : FnOk P w K mg base CX0 4 T.f_Ratio_over T.d_Ratio_over ["self", "value"] (spOver T.f_Ratio) := by
  have G_Ratio_init : FnOk P w K mg base CX0 1 T.f_Ratio_init T.d_Ratio_init ["self", "top", "bottom"] (spInit T.f_Ratio) := ok_init T
  have G_Ratio_top : FnOk P w K mg base CX0 1 T.f_Ratio_top T.d_Ratio_top ["self"] (spTop T.f_Ratio) := ok_top T
  have G_Ratio_bottom : FnOk P w K mg base CX0 1 T.f_Ratio_bottom T.d_Ratio_bottom ["self"] (spBottom T.f_Ratio) := ok_bottom T
  have G_as_ratio : FnOk P w K mg base CX0 3 T.f_as_ratio T.d_as_ratio ["value"] (spNum T.f_Ratio) := ok_asN T
  refine T.F_Ratio_over.ok sc_Ratio_over (fun vs H Q E h => ?_) (fun cdv A outer s H vs Q E hr h => ?_)
  · obtain ⟨p, y, t, b, t', b', rfl, _⟩ := h
    rfl
  · obtain ⟨p, y, t, b, t', b', rfl, r, n, ht, hb, ht', hb', h0, h0', k⟩ := h
    refine ⟨_, PSs.nox (pss_cons (ps_set (i := 2) sc_Ratio_over.nd rfl (Or.inl rfl) (pe_call G_as_ratio (hr.mono (by decide)) rfl T.m_as_ratio T.F_as_ratio.kp T.b_as_ratio .nil pass0 (pa_cons (pv 1) pa_nil)))
    (pss_cons (ps_if (pt_cmpR op_eq (pe_prop (pv 2) T.cl_Ratio T.p_Ratio_top G_Ratio_top (hr.mono (by decide)) T.b_Ratio_top .nil pass0 rfl) pe_int (nomark _))
      (pss_one ps_never)
      pss_nil)
    (pss_one (ps_ret (pe_make T.mk_Ratio G_Ratio_init (hr.mono (by decide)) rfl T.m_Ratio T.b2_Ratio_init T.v2_Ratio_init pass0 (pa_cons (pe_op op_mulW (pe_fld (pv 0) rfl) (pe_prop (pv 2) T.cl_Ratio T.p_Ratio_bottom G_Ratio_bottom (hr.mono (by decide)) T.b_Ratio_bottom .nil pass0 rfl)) (pa_cons (pe_op op_mulW (pe_fld (pv 0) rfl) (pe_prop (pv 2) T.cl_Ratio T.p_Ratio_top G_Ratio_top (hr.mono (by decide)) T.b_Ratio_top .nil pass0 rfl)) pa_nil))))))), ?_⟩
    refine ⟨_, rfl, y, t', b', rfl, n, fun p' H1 s1 r1 => ?_⟩
    obtain ⟨dx, hp⟩ := r.on s1
    obtain ⟨dx', hp'⟩ := id r1
    refine ⟨_, rfl, p', dx', _, rfl, hp', p', t', b', rfl, r1, rfl, _, rfl, ite2 (fun hz => ?_) fun _ => ?_⟩
    · have e : V.int t' = V.int 0 := of_decide_eq_true hz
      injection e with e
      exact absurd e h0'
    refine ⟨_, rfl, p, T.f_Ratio, dx, _, _, rfl, hp, T.cl_Ratio, T.na_Ratio_top, rf_top _ _, _, rfl, p', dx', _, rfl, hp', p', t', b', rfl, r1, _, _, rfl, rfl, sm_mul ht hb', ?_⟩
    refine ⟨_, rfl, p, T.f_Ratio, dx, _, _, rfl, hp, T.cl_Ratio, T.na_Ratio_bottom, rf_bottom _ _, _, rfl, p', dx', _, rfl, hp', p', t', b', rfl, r1, _, _, rfl, rfl, sm_mul hb ht', ?_⟩
    exact made_rat (Int.mul_ne_zero h0 h0') (big_mul hb ht') fun q H' nq sq rq => k q H' (s1.free nq) (s1.trans sq) rq
end

section
variable {P : Program} {w : World} {K : PySem.W.Frag} {mg : Str → Option Value} {base : Heap}
theorem ok_below (T : Txt K mg) : FnOk P w K mg base CX0 4 T.f_Ratio_below T.d_Ratio_below ["self", "value"] (spBelow T.f_Ratio) := by
  have G_Ratio_top : FnOk P w K mg base CX0 1 T.f_Ratio_top T.d_Ratio_top ["self"] (spTop T.f_Ratio) := ok_top T
  have G_Ratio_bottom : FnOk P w K mg base CX0 1 T.f_Ratio_bottom T.d_Ratio_bottom ["self"] (spBottom T.f_Ratio) := ok_bottom T
  have G_as_ratio : FnOk P w K mg base CX0 3 T.f_as_ratio T.d_as_ratio ["value"] (spNum T.f_Ratio) := ok_asN T
  refine T.F_Ratio_below.ok sc_Ratio_below (fun vs H Q E h => ?_) (fun cdv A outer s H vs Q E hr h => ?_)
  · obtain ⟨p, y, t, b, t', b', rfl, _⟩ := h
    rfl
  · obtain ⟨p, y, t, b, t', b', rfl, r, n, ht, hb, ht', hb', k⟩ := h
    refine ⟨_, (pss_cons (ps_set (i := 2) sc_Ratio_below.nd rfl (Or.inl rfl) (pe_call G_as_ratio (hr.mono (by decide)) rfl T.m_as_ratio T.F_as_ratio.kp T.b_as_ratio .nil pass0 (pa_cons (pv 1) pa_nil)))
    (pss_one (ps_ret (pe_cmpR op_lt (pe_op op_mulW (pe_fld (pv 0) rfl) (pe_prop (pv 2) T.cl_Ratio T.p_Ratio_bottom G_Ratio_bottom (hr.mono (by decide)) T.b_Ratio_bottom .nil pass0 rfl)) (pe_op op_mulW (pe_prop (pv 2) T.cl_Ratio T.p_Ratio_top G_Ratio_top (hr.mono (by decide)) T.b_Ratio_top .nil pass0 rfl) (pe_fld (pv 0) rfl)) (nomark _))))), ?_⟩
    refine ⟨_, rfl, y, t', b', rfl, n, fun p' H1 s1 r1 => ?_⟩
    obtain ⟨dx, hp⟩ := r.on s1
    obtain ⟨dx', hp'⟩ := id r1
    refine ⟨_, rfl, p, T.f_Ratio, dx, _, _, rfl, hp, T.cl_Ratio, T.na_Ratio_top, rf_top _ _, _, rfl, p', dx', _, rfl, hp', p', t', b', rfl, r1, _, _, rfl, rfl, sm_mul ht hb', ?_⟩
    refine ⟨_, rfl, p', dx', _, rfl, hp', p', t', b', rfl, r1, _, rfl, p, T.f_Ratio, dx, _, _, rfl, hp, T.cl_Ratio, T.na_Ratio_bottom, rf_bottom _ _, _, _, rfl, rfl, sm_mul ht' hb, _, _, rfl, rfl, ?_⟩
    exact k H1 s1
end

section
variable {P : Program} {w : World} {K : PySem.W.Frag} {mg : Str → Option Value} {base : Heap}
theorem ok_neg (T : Txt K mg) : FnOk P w K mg base CX0 3 T.f_Ratio_neg T.d_Ratio_neg ["self"] (spNeg T.f_Ratio) := by
  have G_Ratio_init : FnOk P w K mg base CX0 1 T.f_Ratio_init T.d_Ratio_init ["self", "top", "bottom"] (spInit T.f_Ratio) := ok_init T
  refine T.F_Ratio_neg.ok sc_Ratio_neg (fun vs H Q E h => ?_) (fun cdv A outer s H vs Q E hr h => ?_)
  · obtain ⟨p, t, b, rfl, _⟩ := h
    rfl
  · obtain ⟨p, t, b, rfl, ⟨dx, hp⟩, hl, hb, k⟩ := h
    refine ⟨_, (pss_one (ps_ret (pe_make T.mk_Ratio G_Ratio_init (hr.mono (by decide)) rfl T.m_Ratio T.b2_Ratio_init T.v2_Ratio_init pass0 (pa_cons (pe_un un_neg (pe_fld (pv 0) rfl)) (pa_cons (pe_fld (pv 0) rfl) pa_nil))))), ?_⟩
    refine ⟨_, rfl, p, T.f_Ratio, dx, _, _, rfl, hp, T.cl_Ratio, T.na_Ratio_top, rf_top _ _, t, rfl, _, rfl, p, T.f_Ratio, dx, _, _, rfl, hp, T.cl_Ratio, T.na_Ratio_bottom, rf_bottom _ _, ?_⟩
    refine made_rat hl.ne hb.big fun q H' nq sq rq => ?_
    rw [hl.neg.tt, hl.neg.bb] at rq
    exact k q H' nq sq rq
end

section
variable {P : Program} {w : World} {K : PySem.W.Frag} {mg : Str → Option Value} {base : Heap}
theorem ok_eqB (T : Txt K mg) : FnOk P w K mg base CX0 1 T.f_Ratio_eq T.d_Ratio_eq ["self", "other"] (spEqB T.f_Ratio) := by
  refine T.F_Ratio_eq.ok sc_Ratio_eq (fun vs H Q E h => ?_) (fun cdv A outer s H vs Q E hr h => ?_)
  · obtain ⟨a, b, t, c, t', c', rfl, _⟩ := h
    rfl
  · obtain ⟨a, b, t, c, t', c', rfl, ra, rb, k⟩ := h
    obtain ⟨da, ha⟩ := id ra
    obtain ⟨db, hb⟩ := id rb
    refine ⟨_, (pss_one (ps_ret (pe_and (pe_callB call_isi (by rfl) T.n_isinstance (by decide +kernel) (pa_cons (pv 1) (pa_cons (pe_glob (v := .ref T.f_Ratio) rfl T.m_Ratio rfl) pa_nil))) (pe_and (pe_cmpR op_eq (pe_fld (pv 0) rfl) (pe_fld (pv 1) rfl) (nomark _)) (pe_one (pe_cmpR op_eq (pe_fld (pv 0) rfl) (pe_fld (pv 1) rfl) (nomark _))))))), ?_⟩
    refine ⟨_, rfl, .ref b, .ref T.f_Ratio, .ref T.f_Ratio, .ref T.f_Ratio, true, rfl, .own _, tyR T.ic_Ratio rb, kit_self, true, rfl, iteT ?_⟩
    refine ⟨_, rfl, a, T.f_Ratio, da, _, _, rfl, ha, T.cl_Ratio, T.na_Ratio_top, rf_top _ _, _, rfl, b, T.f_Ratio, db, _, _, rfl, hb, T.cl_Ratio, T.na_Ratio_top, rf_top _ _, rfl, ?_⟩
    by_cases e1 : t = t'
    · refine ⟨true, by rw [decide_eq_true (by rw [e1])], iteT ?_⟩
      refine ⟨_, rfl, a, T.f_Ratio, da, _, _, rfl, ha, T.cl_Ratio, T.na_Ratio_bottom, rf_bottom _ _, _, rfl, b, T.f_Ratio, db, _, _, rfl, hb, T.cl_Ratio, T.na_Ratio_bottom, rf_bottom _ _, rfl, ?_⟩
      have e : decide (V.int c = V.int c') = decide (t = t' ∧ c = c') := decide_eq_decide.mpr ⟨fun q => ⟨e1, by injection q⟩, fun q => by rw [q.2]⟩
      rw [e]
      exact k
    · refine ⟨false, by rw [decide_eq_false (fun q => e1 (by injection q))], iteF ?_⟩
      have e : decide (t = t' ∧ c = c') = false := decide_eq_false fun q => e1 q.1
      rw [e] at k
      exact k
end

/-! ### differences, least and greatest -/
section
variable {P : Program} {w : World} {K : PySem.W.Frag} {mg : Str → Option Value} {base : Heap}
def spSub (C : Addr) : Sp := fun vs H Q _ => ∃ (p : Addr) (y : V) (t b t' b' : Int), vs = [.ref p, y] ∧ RatAt C H p t b ∧ Num C H y t' b' ∧ SM t ∧ SM b ∧ SM t' ∧ SM b' ∧ b ≠ 0 ∧ Low t' b' ∧ Res C H (t * b' + -t' * b) (b * b') Q
def spRsub (C : Addr) : Sp := fun vs H Q _ => ∃ (p : Addr) (i t b : Int), vs = [.ref p, .int i] ∧ RatAt C H p t b ∧ SM t ∧ SM b ∧ SM i ∧ Low t b ∧ Res C H (-t * 1 + i * b) (b * 1) Q
/-- the least, the greatest -/
def pick (m v : Int × Int) : Int × Int := if v.1 * m.2 < m.1 * v.2 then v else m
def pickG (m v : Int × Int) : Int × Int := if m.1 * v.2 < v.1 * m.2 then v else m
def foldP (f : Int × Int → Int × Int → Int × Int) : List (Int × Int) → Int × Int
  | [] => (0, 1)
  | v :: r => r.foldl f v
def ngP (v : Int × Int) : Int × Int := (-v.1, v.2)
theorem pick_neg (m v : Int × Int) : pick (ngP m) (ngP v) = ngP (pickG m v) := by
  unfold pick pickG ngP
  simp only
  have e : (-v.1 * m.2 < -m.1 * v.2) ↔ (m.1 * v.2 < v.1 * m.2) := by rw [Int.neg_mul, Int.neg_mul]; omega
  by_cases h : m.1 * v.2 < v.1 * m.2
  · rw [if_pos (e.mpr h), if_pos h]
  · rw [if_neg (fun q => h (e.mp q)), if_neg h]
theorem fold_neg : ∀ (l : List (Int × Int)) (m : Int × Int), (l.map ngP).foldl pick (ngP m) = ngP (l.foldl pickG m)
  | [], m => rfl
  | v :: r, m => by
    show (r.map ngP).foldl pick (pick (ngP m) (ngP v)) = ngP (r.foldl pickG (pickG m v))
    rw [pick_neg]
    exact fold_neg r _
theorem least_neg {ps : List (Int × Int)} (h : ps ≠ []) : foldP pick (ps.map ngP) = ngP (foldP pickG ps) := by
  cases ps with
  | nil => exact absurd rfl h
  | cons v r => exact fold_neg r v
/-- small and in lowest terms -/
def Fine (v : Int × Int) : Prop := Low v.1 v.2 ∧ SM v.1 ∧ SM v.2
theorem Fine.ng {v : Int × Int} (h : Fine v) : Fine (ngP v) := ⟨h.1.neg, h.2.1.neg, h.2.2⟩
theorem fine_pick {m v : Int × Int} (a : Fine m) (b : Fine v) : Fine (pick m v) := by unfold pick; split <;> assumption
theorem fine_fold : ∀ (l : List (Int × Int)) (m : Int × Int), Fine m → (∀ v ∈ l, Fine v) → Fine (l.foldl pick m)
  | [], m, h, _ => h
  | v :: r, m, h, k => fine_fold r _ (fine_pick h (k v List.mem_cons_self)) fun u hu => k u (List.mem_cons_of_mem _ hu)
theorem fine_least {ps : List (Int × Int)} (h : ps ≠ []) (k : ∀ v ∈ ps, Fine v) : Fine (foldP pick ps) := by
  cases ps with
  | nil => exact absurd rfl h
  | cons v r => exact fine_fold r v (k v List.mem_cons_self) fun u hu => k u (List.mem_cons_of_mem _ hu)
/-- the items of a list or tuple, and their values -/
structure Nums (C : Addr) (H : Hp) (xs : List V) (ps : List (Int × Int)) : Prop where
  len : xs.length = ps.length
  at_ : ∀ (i : Nat) (x : V) (p : Int × Int), xs[i]? = some x → ps[i]? = some p → Num C H x p.1 p.2
  fine : ∀ p ∈ ps, Fine p
theorem Nums.on {C : Addr} {H H' : Hp} {xs : List V} {ps : List (Int × Int)} (n : Nums C H xs ps) (s : Same H H') : Nums C H' xs ps := ⟨n.len, fun i x p a b => (n.at_ i x p a b).on s, n.fine⟩
theorem RatAt.put {C : Addr} {H : Hp} {p D : Addr} {t b : Int} {ys zs : List V} (r : RatAt C H p t b) (h : H D = some (.lst ys)) : RatAt C (upd H D (.lst zs)) p t b := by
  obtain ⟨dx, e⟩ := r
  have n : p ≠ D := fun q => by rw [q, h] at e; cases e
  exact ⟨dx, by rw [upd_ne n]; exact e⟩
theorem Num.put {C : Addr} {H : Hp} {v : V} {D : Addr} {t b : Int} {ys zs : List V} (r : Num C H v t b) (h : H D = some (.lst ys)) : Num C (upd H D (.lst zs)) v t b := r.elim .inl fun ⟨p, e, r⟩ => .inr ⟨p, e, r.put h⟩
theorem Nums.put {C : Addr} {H : Hp} {D : Addr} {xs ys zs : List V} {ps : List (Int × Int)} (n : Nums C H xs ps) (h : H D = some (.lst ys)) : Nums C (upd H D (.lst zs)) xs ps := ⟨n.len, fun i x p a b => (n.at_ i x p a b).put h, n.fine⟩
theorem Nums.nil {C : Addr} {H : Hp} : Nums C H [] [] := ⟨rfl, fun i x p a _ => by simp at a, fun p h => by simp at h⟩
theorem Nums.cons {C : Addr} {H : Hp} {x : V} {p : Int × Int} {xs : List V} {ps : List (Int × Int)} (n : Num C H x p.1 p.2) (f : Fine p) (r : Nums C H xs ps) : Nums C H (x :: xs) (p :: ps) := by
  refine ⟨by rw [List.length_cons, List.length_cons, r.len], fun i y q a b => ?_, fun q h => ?_⟩
  · cases i with
    | zero =>
      simp at a b
      subst a; subst b
      exact n
    | succ i =>
      simp at a b
      exact r.at_ i y q a b
  · rcases List.mem_cons.mp h with rfl | h
    · exact f
    · exact r.fine q h
theorem Nums.snoc {C : Addr} {H : Hp} {x : V} {p : Int × Int} : ∀ {xs : List V} {ps : List (Int × Int)}, Nums C H xs ps → Num C H x p.1 p.2 → Fine p → Nums C H (xs ++ [x]) (ps ++ [p])
  | [], [], _, n, f => Nums.cons n f Nums.nil
  | [], _ :: _, r, _, _ => by have := r.len; simp at this
  | _ :: _, [], r, _, _ => by have := r.len; simp at this
  | y :: ys, q :: qs, r, n, f => by
    refine Nums.cons (r.at_ 0 y q rfl rfl) (r.fine q List.mem_cons_self) (Nums.snoc ⟨?_, fun i x p a b => r.at_ (i + 1) x p (by simpa using a) (by simpa using b), fun p h => r.fine p (List.mem_cons_of_mem _ h)⟩ n f)
    have := r.len
    simpa using this
theorem Nums.get {C : Addr} {H : Hp} {xs : List V} {ps : List (Int × Int)} (n : Nums C H xs ps) {i : Nat} {x : V} (h : xs[i]? = some x) : ∃ p, ps[i]? = some p ∧ Num C H x p.1 p.2 ∧ Fine p := by
  have hi : i < ps.length := by rw [← n.len]; exact (List.getElem?_eq_some_iff.mp h).1
  exact ⟨ps[i], List.getElem?_eq_getElem hi, n.at_ i x _ h (List.getElem?_eq_getElem hi), n.fine _ (List.getElem_mem hi)⟩
theorem fold_more {f : Int × Int → Int × Int → Int × Int} {l : List (Int × Int)} {i : Nat} {m v : Int × Int} (h : l[i]? = some v) : (l.take (i + 1)).foldl f m = f ((l.take i).foldl f m) v := by
  rw [take_more h, List.foldl_append]
  rfl
theorem nBe1 : (("below" : Str) == ("_top" : Str)) = false := by decide +kernel
theorem nBe2 : (("below" : Str) == ("_bottom" : Str)) = false := by decide +kernel
theorem rf_below (t b : Int) : (rf t b).lookup ("below" : Str) = none := by simp [rf, List.lookup, nBe1, nBe2]
theorem nOv1 : (("over" : Str) == ("_top" : Str)) = false := by decide +kernel
theorem nOv2 : (("over" : Str) == ("_bottom" : Str)) = false := by decide +kernel
theorem rf_over (t b : Int) : (rf t b).lookup ("over" : Str) = none := by simp [rf, List.lookup, nOv1, nOv2]
def SqA (K : PySem.W.Frag) (H : Hp) (l : Addr) (xs : List V) : Prop := SqL K H l xs ∨ SqT K H l xs
theorem ix_seq {H : Hp} {l : Addr} {xs : List V} {i : Int} {v : V} {Q : VK} (h : SqA K H l xs) (e : atI xs i = some v) (q : Q v H) : rIxL K (.ref l) (.int i) H Q ∨ rIxT K (.ref l) (.int i) H Q :=
  h.elim (fun h => .inl ⟨l, xs, i, v, rfl, rfl, h, e, q⟩) fun h => .inr ⟨l, xs, i, v, rfl, rfl, h, e, q⟩
end

section
variable {P : Program} {w : World} {K : PySem.W.Frag} {mg : Str → Option Value} {base : Heap}
theorem ok_sub (T : Txt K mg) : FnOk P w K mg base CX0 5 T.f_Ratio_sub T.d_Ratio_sub ["self", "other"] (spSub T.f_Ratio) := by
  have G_Ratio_add : FnOk P w K mg base CX0 4 T.f_Ratio_add T.d_Ratio_add ["self", "other"] (spAdd T.f_Ratio) := ok_add T
  have G_Ratio_neg : FnOk P w K mg base CX0 3 T.f_Ratio_neg T.d_Ratio_neg ["self"] (spNeg T.f_Ratio) := ok_neg T
  refine T.F_Ratio_sub.ok sc_Ratio_sub (fun vs H Q E h => ?_) (fun cdv A outer s H vs Q E hr h => ?_)
  · obtain ⟨p, y, t, b, t', b', rfl, _⟩ := h
    rfl
  · obtain ⟨p, y, t, b, t', b', rfl, r, n, ht, hb, ht', hb', h0, hl, k⟩ := h
    obtain ⟨dx, hp⟩ := id r
    refine ⟨_, (pss_one (ps_ret (pe_op (op_or (op_oo (nm := "add") rfl T.op_Ratio_add G_Ratio_add (hr.mono (by decide)) T.b_Ratio_add pass0) (op_oi (nm := "add") rfl T.op_Ratio_add G_Ratio_add (hr.mono (by decide)) T.b_Ratio_add pass0)) (pv 0) (pe_un (un_or un_neg (un_negO T.a_Ratio_neg T.i_Ratio_neg G_Ratio_neg (hr.mono (by decide)) T.b_Ratio_neg pass0)) (pv 1))))), ?_⟩
    rcases n with ⟨rfl, rfl⟩ | ⟨q, rfl, rq⟩
    · exact ⟨_, rfl, _, rfl, .inl ⟨t', rfl, .inr ⟨p, dx, _, -t', rfl, rfl, hp, p, _, t, b, -t', 1, rfl, r, .inl ⟨rfl, rfl⟩, ht, hb, ht'.neg, hb', h0, by decide, k⟩⟩⟩
    · obtain ⟨dq, hq⟩ := id rq
      refine ⟨_, rfl, _, rfl, .inr ⟨q, dq, _, rfl, hq, q, t', b', rfl, rq, hl, hb', fun o H1 no s1 ro => ?_⟩⟩
      obtain ⟨d0, ho⟩ := id ro
      exact .inl ⟨p, dx, _, o, d0, _, rfl, rfl, s1 _ _ hp, ho, p, _, t, b, -t', b', rfl, r.on s1, .inr ⟨o, rfl, ro⟩, ht, hb, ht'.neg, hb', h0, hl.ne, fun q' H' nq sq rq' => k q' H' (s1.free nq) (s1.trans sq) rq'⟩
theorem ok_rsub (T : Txt K mg) : FnOk P w K mg base CX0 5 T.f_Ratio_rsub T.d_Ratio_rsub ["self", "other"] (spRsub T.f_Ratio) := by
  have G_Ratio_add : FnOk P w K mg base CX0 4 T.f_Ratio_add T.d_Ratio_add ["self", "other"] (spAdd T.f_Ratio) := ok_add T
  have G_Ratio_neg : FnOk P w K mg base CX0 3 T.f_Ratio_neg T.d_Ratio_neg ["self"] (spNeg T.f_Ratio) := ok_neg T
  refine T.F_Ratio_rsub.ok sc_Ratio_rsub (fun vs H Q E h => ?_) (fun cdv A outer s H vs Q E hr h => ?_)
  · obtain ⟨p, i, t, b, rfl, _⟩ := h
    rfl
  · obtain ⟨p, i, t, b, rfl, r, ht, hb, hi, hl, k⟩ := h
    obtain ⟨dx, hp⟩ := id r
    refine ⟨_, (pss_one (ps_ret (pe_op (op_oi (nm := "add") rfl T.op_Ratio_add G_Ratio_add (hr.mono (by decide)) T.b_Ratio_add pass0) (pe_un (un_negO T.a_Ratio_neg T.i_Ratio_neg G_Ratio_neg (hr.mono (by decide)) T.b_Ratio_neg pass0) (pv 0)) (pv 1)))), ?_⟩
    refine ⟨_, rfl, p, dx, _, rfl, hp, p, t, b, rfl, r, hl, hb, fun o H1 no s1 ro => ?_⟩
    obtain ⟨d0, ho⟩ := id ro
    exact ⟨_, rfl, o, d0, _, i, rfl, rfl, ho, o, _, -t, b, i, 1, rfl, ro, .inl ⟨rfl, rfl⟩, ht.neg, hb, hi, sm_one, hl.ne, by decide, fun q' H' nq sq rq' => k q' H' (s1.free nq) (s1.trans sq) rq'⟩
end

/-! ### pairs of ints -/
section
variable {P : Program} {w : World} {K : PySem.W.Frag} {mg : Str → Option Value} {base : Heap}
def PairAt (H : Hp) (q : Addr) (t b : Int) : Prop := H q = some (.tup [.int t, .int b])
def ResP (H : Hp) (x y : Int) (Q : VK) : Prop := ∀ o H', H o = none → Same H H' → PairAt H' o (lowT x y) (lowB x y) → Q (.ref o) H'
def spPlus : Sp := fun vs H Q _ => ∃ (q q' : Addr) (t b t' b' : Int), vs = [.ref q, .ref q'] ∧ PairAt H q t b ∧ PairAt H q' t' b' ∧ SM t ∧ SM b ∧ SM t' ∧ SM b' ∧ b ≠ 0 ∧ b' ≠ 0 ∧ ResP H (t * b' + t' * b) (b * b') Q
def spTimes : Sp := fun vs H Q _ => ∃ (q q' : Addr) (t b t' b' : Int), vs = [.ref q, .ref q'] ∧ PairAt H q t b ∧ PairAt H q' t' b' ∧ SM t ∧ SM b ∧ SM t' ∧ SM b' ∧ b ≠ 0 ∧ b' ≠ 0 ∧ ResP H (t * t') (b * b') Q
def spLess : Sp := fun vs H Q _ => ∃ (q q' : Addr) (t b t' b' : Int), vs = [.ref q, .ref q'] ∧ PairAt H q t b ∧ PairAt H q' t' b' ∧ SM t ∧ SM b ∧ SM t' ∧ SM b' ∧ Q (.bl (decide (t * b' < t' * b))) H
end

section
variable {P : Program} {w : World} {K : PySem.W.Frag} {mg : Str → Option Value} {base : Heap}
theorem ok_plus (T : Txt K mg) : FnOk P w K mg base CX0 2 T.f_plus T.d_plus ["_law_one", "_law_two"] spPlus := by
  have G_low : FnOk P w K mg base CX0 1 T.f_low T.d_low ["_law_up", "_law_down"] spLow := ok_low T
  refine T.F_plus.ok sc_plus (fun vs H Q E h => ?_) (fun cdv A outer s H vs Q E hr h => ?_)
  · obtain ⟨q, q', t, b, t', b', rfl, _⟩ := h
    rfl
  · obtain ⟨q, q', t, b, t', b', rfl, hq, hq', ht, hb, ht', hb', h0, h0', k⟩ := h
    refine ⟨_, (pss_one (ps_ret (pe_call G_low (hr.mono (by decide)) rfl T.m_low T.F_low.kp T.b_low .nil pass0 (pa_cons (pe_op op_add (pe_op op_mulW (pe_ix ix_tup (pv 0) pe_int (fun _ _ => rfl)) (pe_ix ix_tup (pv 1) pe_int (fun _ _ => rfl))) (pe_op op_mulW (pe_ix ix_tup (pv 1) pe_int (fun _ _ => rfl)) (pe_ix ix_tup (pv 0) pe_int (fun _ _ => rfl)))) (pa_cons (pe_op op_mulW (pe_ix ix_tup (pv 0) pe_int (fun _ _ => rfl)) (pe_ix ix_tup (pv 1) pe_int (fun _ _ => rfl))) pa_nil))))), ?_⟩
    refine ⟨_, rfl, q, _, 0, .int t, rfl, rfl, SqT.of hq, rfl, _, rfl, q', _, 1, .int b', rfl, rfl, SqT.of hq', rfl, _, _, rfl, rfl, sm_mul ht hb', ?_⟩
    refine ⟨_, rfl, q', _, 0, .int t', rfl, rfl, SqT.of hq', rfl, _, rfl, q, _, 1, .int b, rfl, rfl, SqT.of hq, rfl, _, _, rfl, rfl, sm_mul ht' hb, _, _, rfl, rfl, ?_⟩
    refine ⟨_, rfl, q, _, 1, .int b, rfl, rfl, SqT.of hq, rfl, _, rfl, q', _, 1, .int b', rfl, rfl, SqT.of hq', rfl, _, _, rfl, rfl, sm_mul hb hb', ?_⟩
    exact ⟨_, _, rfl, Int.mul_ne_zero h0 h0', big_mul hb hb', k⟩
end

section
variable {P : Program} {w : World} {K : PySem.W.Frag} {mg : Str → Option Value} {base : Heap}
theorem ok_times (T : Txt K mg) : FnOk P w K mg base CX0 2 T.f_times T.d_times ["_law_one", "_law_two"] spTimes := by
  have G_low : FnOk P w K mg base CX0 1 T.f_low T.d_low ["_law_up", "_law_down"] spLow := ok_low T
  refine T.F_times.ok sc_times (fun vs H Q E h => ?_) (fun cdv A outer s H vs Q E hr h => ?_)
  · obtain ⟨q, q', t, b, t', b', rfl, _⟩ := h
    rfl
  · obtain ⟨q, q', t, b, t', b', rfl, hq, hq', ht, hb, ht', hb', h0, h0', k⟩ := h
    refine ⟨_, (pss_one (ps_ret (pe_call G_low (hr.mono (by decide)) rfl T.m_low T.F_low.kp T.b_low .nil pass0 (pa_cons (pe_op op_mulW (pe_ix ix_tup (pv 0) pe_int (fun _ _ => rfl)) (pe_ix ix_tup (pv 1) pe_int (fun _ _ => rfl))) (pa_cons (pe_op op_mulW (pe_ix ix_tup (pv 0) pe_int (fun _ _ => rfl)) (pe_ix ix_tup (pv 1) pe_int (fun _ _ => rfl))) pa_nil))))), ?_⟩
    refine ⟨_, rfl, q, _, 0, .int t, rfl, rfl, SqT.of hq, rfl, _, rfl, q', _, 0, .int t', rfl, rfl, SqT.of hq', rfl, _, _, rfl, rfl, sm_mul ht ht', ?_⟩
    refine ⟨_, rfl, q, _, 1, .int b, rfl, rfl, SqT.of hq, rfl, _, rfl, q', _, 1, .int b', rfl, rfl, SqT.of hq', rfl, _, _, rfl, rfl, sm_mul hb hb', ?_⟩
    exact ⟨_, _, rfl, Int.mul_ne_zero h0 h0', big_mul hb hb', k⟩
end

section
variable {P : Program} {w : World} {K : PySem.W.Frag} {mg : Str → Option Value} {base : Heap}
theorem ok_less (T : Txt K mg) : FnOk P w K mg base CX0 1 T.f_less T.d_less ["_law_one", "_law_two"] spLess := by
  refine T.F_less.ok sc_less (fun vs H Q E h => ?_) (fun cdv A outer s H vs Q E hr h => ?_)
  · obtain ⟨q, q', t, b, t', b', rfl, _⟩ := h
    rfl
  · obtain ⟨q, q', t, b, t', b', rfl, hq, hq', ht, hb, ht', hb', k⟩ := h
    refine ⟨_, (pss_one (ps_ret (pe_cmpR op_lt (pe_op op_mulW (pe_ix ix_tup (pv 0) pe_int (fun _ _ => rfl)) (pe_ix ix_tup (pv 1) pe_int (fun _ _ => rfl))) (pe_op op_mulW (pe_ix ix_tup (pv 1) pe_int (fun _ _ => rfl)) (pe_ix ix_tup (pv 0) pe_int (fun _ _ => rfl))) (nomark _)))), ?_⟩
    refine ⟨_, rfl, q, _, 0, .int t, rfl, rfl, SqT.of hq, rfl, _, rfl, q', _, 1, .int b', rfl, rfl, SqT.of hq', rfl, _, _, rfl, rfl, sm_mul ht hb', ?_⟩
    exact ⟨_, rfl, q', _, 0, .int t', rfl, rfl, SqT.of hq', rfl, _, rfl, q, _, 1, .int b, rfl, rfl, SqT.of hq, rfl, _, _, rfl, rfl, sm_mul ht' hb, _, _, rfl, rfl, k⟩
end

/-! ### values -/
section
variable {P : Program} {w : World} {K : PySem.W.Frag} {mg : Str → Option Value} {base : Heap}
theorem PairAt.on {H H' : Hp} {q : Addr} {t b : Int} (p : PairAt H q t b) (s : Same H H') : PairAt H' q t b := s _ _ p
theorem int_eq {a b : Int} (h : decide (V.int a = V.int b) = true) : a = b := by
  have := of_decide_eq_true h
  injection this
def spValue (C : Addr) : Sp := fun vs H Q _ => ∃ (st q : Addr) (t b : Int) (G : Hp) (m : Nat), vs = [.ref st, .ref q] ∧ PairAt G q t b ∧ Fine (t, b) ∧ DSt G H st m ∧ m + 2 < 1000000 ∧ ∀ v H', Num C H' v t b → (∀ p, v = .ref p → ∀ xs, H' p ≠ some (.lst xs)) → DSt G H' st (m + 2) → Q v H'
theorem ok_value (T : Txt K mg) : FnOk P w K mg base CX0 3 T.f_value T.d_value ["_law_state", "_law_pair"] (spValue T.f_Ratio) := by
  have G_draw : FnOk P w K mg base CX0 1 T.f_draw T.d_draw ["_law_state", "_law_size"] spDraw := ok_draw T
  have G_Ratio_init : FnOk P w K mg base CX0 1 T.f_Ratio_init T.d_Ratio_init ["self", "top", "bottom"] (spInit T.f_Ratio) := ok_init T
  refine T.F_value.ok sc_value (fun vs H Q E h => ?_) (fun cdv A outer s H vs Q E hr h => ?_)
  · obtain ⟨st, q, t, b, G, m, rfl, _⟩ := h
    rfl
  · obtain ⟨st, q, t, b, G, m, rfl, pq, hf, d, hm, k⟩ := h
    refine ⟨_, (C8.pss_cut (ps_if (PW.pt (pw_and (pt_cmpR op_eq (pe_ix ix_tup (pv 1) pe_int (fun _ _ => rfl)) pe_int (nomark _)) (pw_and1 (pt_cmpR op_eq (pe_call G_draw (hr.mono (by decide)) rfl T.m_draw T.F_draw.kp T.b_draw .nil pass0 (pa_cons (pv 0) (pa_cons pe_int pa_nil))) pe_int (nomark _)))))
      (pss_one (ps_ret (pe_ix ix_tup (pv 1) pe_int (fun _ _ => rfl))))
      pss_nil)
    (pss_cons (ps_set (i := 2) sc_value.nd rfl (Or.inl rfl) (pe_op op_add pe_int (pe_call G_draw (hr.mono (by decide)) rfl T.m_draw T.F_draw.kp T.b_draw .nil pass0 (pa_cons (pv 0) (pa_cons pe_int pa_nil)))))
    (pss_one (ps_ret (pe_make T.mk_Ratio G_Ratio_init (hr.mono (by decide)) rfl T.m_Ratio T.b2_Ratio_init T.v2_Ratio_init pass0 (pa_cons (pe_op op_mulW (pe_ix ix_tup (pv 1) pe_int (fun _ _ => rfl)) (pv 2)) (pa_cons (pe_op op_mulW (pe_ix ix_tup (pv 1) pe_int (fun _ _ => rfl)) (pv 2)) pa_nil))))))), ?_⟩
    refine ⟨fun σ H' => σ = [some (.ref st), some (.ref q), none] ∧ DSt G H' st (m + 1), ?_, ?_⟩
    · refine ⟨_, rfl, q, _, 1, .int b, rfl, rfl, SqT.of (pq.on d.same), rfl, rfl, _, rfl, ite2 (fun hb => ?_) fun _ => ⟨rfl, d.mono (by omega)⟩⟩
      refine ⟨_, rfl, G, st, m, 2, rfl, d, by omega, by decide, by decide, fun r H1 _ _ d1 => ?_⟩
      refine ⟨rfl, _, rfl, ite2 (fun _ => ?_) fun _ => ⟨rfl, d1⟩⟩
      exact ⟨_, rfl, q, _, 0, .int t, rfl, rfl, SqT.of (pq.on d1.same), rfl, k _ _ (.inl ⟨rfl, int_eq hb⟩) (fun p z => nomatch z) (d1.mono (by omega))⟩
    rintro σ H1 ⟨rfl, d1⟩
    refine ⟨_, rfl, G, st, m + 1, 3, rfl, d1, by omega, by decide, by decide, fun r H2 r0 r1 d2 => ?_⟩
    refine ⟨_, _, rfl, rfl, ?_⟩
    have hr1 : SM (1 + r) := Nat.lt_of_lt_of_le (show (1 + r).natAbs < 100 by omega) (by decide +kernel)
    have hz : (1 + r) ≠ 0 := by omega
    have p2 := pq.on d2.same
    refine ⟨_, rfl, q, _, 0, .int t, rfl, rfl, SqT.of p2, rfl, _, rfl, _, _, rfl, rfl, sm_mul hf.2.1 hr1, ?_⟩
    refine ⟨_, rfl, q, _, 1, .int b, rfl, rfl, SqT.of p2, rfl, _, rfl, _, _, rfl, rfl, sm_mul hf.2.2 hr1, ?_⟩
    refine fun x dx nx ndx ne => ⟨x, dx, t * (1 + r), b * (1 + r), rfl, upd_same, Int.mul_ne_zero hf.1.ne hz, big_mul hf.2.2 hr1, fun H3 r3 e3 => ⟨rfl, ?_⟩⟩
    have s3 := Same.made nx ndx e3
    have ls := low_scale (k := 1 + r) (t := t) (b := b) hz hf.1.ne
    rw [Int.mul_comm (1 + r) t, Int.mul_comm (1 + r) b] at ls
    have ht : lowT t b = t := hf.1.tt
    have hb : lowB t b = b := hf.1.bb
    rw [ls.1, ls.2, ht, hb] at r3
    refine k _ _ (.inr ⟨x, rfl, r3⟩) (fun p z xs e => ?_) ((d2.on s3).mono (by omega))
    injection z with z
    obtain ⟨d0, h0⟩ := r3
    rw [← z, h0] at e
    cases e
end

section
variable {P : Program} {w : World} {K : PySem.W.Frag} {mg : Str → Option Value} {base : Heap}
/-- what stands behind and is no list is known from then on -/
theorem DSt.grow {G H : Hp} {s : Addr} {m : Nat} (d : DSt G H s m) : ∃ G', DSt G' H s m ∧ Same G G' ∧ ∀ a o, H a = some o → (∀ xs, o ≠ .lst xs) → G' a = some o := by
  obtain ⟨b, c, gs, cs, n, d, hn⟩ := d
  have gl : ∀ a xs, G a = none → H a = some (.lst xs) → (match G a with | some o => some o | none => match H a with | some (.lst _) => none | x => x) = none := fun a xs e1 e2 => by rw [e1, e2]
  refine ⟨fun a => match G a with | some o => some o | none => match H a with | some (.lst _) => none | x => x, ⟨b, c, gs, cs, n, ⟨fun a o e => ?_, gl _ _ d.fs d.hs, gl _ _ d.fb d.hb, gl _ _ d.fc d.hc, d.hs, d.hb, d.hc, d.ne, d.pos⟩, hn⟩, fun a o e => ?_, fun a o e ne => ?_⟩
  · cases eg : G a with
    | some o' =>
      simp only [eg] at e
      rw [← e]
      exact d.same a _ eg
    | none =>
      simp only [eg] at e
      cases eh : H a with
      | none => rw [eh] at e; cases e
      | some o' =>
        rw [eh] at e
        cases o' <;> first | exact e | cases e
  · show (match G a with | some o => some o | none => match H a with | some (.lst _) => none | x => x) = some o
    rw [e]
  · show (match G a with | some o => some o | none => match H a with | some (.lst _) => none | x => x) = some o
    cases eg : G a with
    | some o' =>
      have := d.same a _ eg
      rw [e] at this
      exact this.symm
    | none =>
      simp only
      rw [e]
      cases o with
      | lst xs => exact absurd rfl (ne xs)
      | _ => rfl
theorem RatAt.ins {C : Addr} {H G : Hp} {p : Addr} {t b : Int} (r : RatAt C H p t b) (k : ∀ a o, H a = some o → (∀ xs, o ≠ .lst xs) → G a = some o) : RatAt C G p t b := let ⟨dx, h⟩ := r; ⟨dx, k _ _ h fun _ z => nomatch z⟩
theorem PairAt.ins {H G : Hp} {p : Addr} {t b : Int} (r : PairAt H p t b) (k : ∀ a o, H a = some o → (∀ xs, o ≠ .lst xs) → G a = some o) : PairAt G p t b := k _ _ r fun _ z => nomatch z
end

/-! ### the operators turned round, == with another thing, over that raises -/
section
variable {P : Program} {w : World} {K : PySem.W.Frag} {mg : Str → Option Value} {base : Heap}
def spRadd (C : Addr) : Sp := fun vs H Q _ => ∃ (p : Addr) (i t b : Int), vs = [.ref p, .int i] ∧ RatAt C H p t b ∧ SM t ∧ SM b ∧ SM i ∧ b ≠ 0 ∧ Res C H (t * 1 + i * b) (b * 1) Q
def spRmul (C : Addr) : Sp := fun vs H Q _ => ∃ (p : Addr) (i t b : Int), vs = [.ref p, .int i] ∧ RatAt C H p t b ∧ SM t ∧ SM b ∧ SM i ∧ b ≠ 0 ∧ Res C H (t * i) (b * 1) Q
theorem ok_radd (T : Txt K mg) : FnOk P w K mg base CX0 5 T.f_Ratio_radd T.d_Ratio_radd ["self", "other"] (spRadd T.f_Ratio) := by
  have G_Ratio_add : FnOk P w K mg base CX0 4 T.f_Ratio_add T.d_Ratio_add ["self", "other"] (spAdd T.f_Ratio) := ok_add T
  refine T.F_Ratio_radd.ok sc_Ratio_radd (fun vs H Q E h => ?_) (fun cdv A outer s H vs Q E hr h => ?_)
  · obtain ⟨p, i, t, b, rfl, _⟩ := h
    rfl
  · obtain ⟨p, i, t, b, rfl, r, ht, hb, hi, h0, k⟩ := h
    obtain ⟨dx, hp⟩ := id r
    refine ⟨_, (pss_one (ps_ret (pe_op (op_oi (nm := "add") rfl T.op_Ratio_add G_Ratio_add (hr.mono (by decide)) T.b_Ratio_add pass0) (pv 0) (pv 1)))), ?_⟩
    exact ⟨_, rfl, _, rfl, p, dx, _, i, rfl, rfl, hp, p, _, t, b, i, 1, rfl, r, .inl ⟨rfl, rfl⟩, ht, hb, hi, sm_one, h0, by decide, k⟩
theorem ok_rmul (T : Txt K mg) : FnOk P w K mg base CX0 5 T.f_Ratio_rmul T.d_Ratio_rmul ["self", "other"] (spRmul T.f_Ratio) := by
  have G_Ratio_mul : FnOk P w K mg base CX0 4 T.f_Ratio_mul T.d_Ratio_mul ["self", "other"] (spMul T.f_Ratio) := ok_mul T
  refine T.F_Ratio_rmul.ok sc_Ratio_rmul (fun vs H Q E h => ?_) (fun cdv A outer s H vs Q E hr h => ?_)
  · obtain ⟨p, i, t, b, rfl, _⟩ := h
    rfl
  · obtain ⟨p, i, t, b, rfl, r, ht, hb, hi, h0, k⟩ := h
    obtain ⟨dx, hp⟩ := id r
    refine ⟨_, (pss_one (ps_ret (pe_op (op_oi (nm := "mul") rfl T.op_Ratio_mul G_Ratio_mul (hr.mono (by decide)) T.b_Ratio_mul pass0) (pv 0) (pv 1)))), ?_⟩
    exact ⟨_, rfl, _, rfl, p, dx, _, i, rfl, rfl, hp, p, _, t, b, i, 1, rfl, r, .inl ⟨rfl, rfl⟩, ht, hb, hi, sm_one, h0, by decide, k⟩
/-- == with what is no ratio -/
def spEqO (K : PySem.W.Frag) (C : Addr) : Sp := fun vs H Q _ => ∃ (p : Addr) (y : V) (ty : Value), vs = [.ref p, y] ∧ TyX K H y ty ∧ PySem.W.kitOne K ty (.ref C) = some false ∧ Q (.bl false) H
theorem ok_eqO (T : Txt K mg) : FnOk P w K mg base CX0 1 T.f_Ratio_eq T.d_Ratio_eq ["self", "other"] (spEqO K T.f_Ratio) := by
  refine T.F_Ratio_eq.ok sc_Ratio_eq (fun vs H Q E h => ?_) (fun cdv A outer s H vs Q E hr h => ?_)
  · obtain ⟨p, y, ty, rfl, _⟩ := h
    rfl
  · obtain ⟨p, y, ty, rfl, hty, hk, k⟩ := h
    refine ⟨_, (pss_one (ps_ret (pe_and (pe_callB call_isi (by rfl) T.n_isinstance (by decide +kernel) (pa_cons (pv 1) (pa_cons (pe_glob (v := .ref T.f_Ratio) rfl T.m_Ratio rfl) pa_nil))) (pe_and (pe_cmpR op_eq (pe_fld (pv 0) rfl) (pe_fld (pv 1) rfl) (nomark _)) (pe_one (pe_cmpR op_eq (pe_fld (pv 0) rfl) (pe_fld (pv 1) rfl) (nomark _))))))), ?_⟩
    exact ⟨_, rfl, y, .ref T.f_Ratio, ty, .ref T.f_Ratio, false, rfl, .own _, hty, hk, false, rfl, iteF k⟩
def spOverX (C D : Addr) : Sp := fun vs H Q E => ∃ (p : Addr) (y : V) (t b t' b' : Int), vs = [.ref p, y] ∧ RatAt C H p t b ∧ Num C H y t' b' ∧ SM t ∧ SM b ∧ SM t' ∧ SM b' ∧ b ≠ 0 ∧ (t' ≠ 0 → Res C H (t * b') (b * t') Q) ∧
  (t' = 0 → ∀ d H', H d = none → Same H H' → H' d = some (.xd [("value", y)]) → E (.ref D) (some d) H')
theorem ok_overX (T : Txt K mg) : FnOk P w K mg base (L2.CX P w) 6 T.f_Ratio_over T.d_Ratio_over ["self", "value"] (spOverX T.f_Ratio T.f_OutOfRange) := by
  have G_Ratio_init : FnOk P w K mg base CX0 1 T.f_Ratio_init T.d_Ratio_init ["self", "top", "bottom"] (spInit T.f_Ratio) := ok_init T
  have G_Ratio_top : FnOk P w K mg base CX0 1 T.f_Ratio_top T.d_Ratio_top ["self"] (spTop T.f_Ratio) := ok_top T
  have G_Ratio_bottom : FnOk P w K mg base CX0 1 T.f_Ratio_bottom T.d_Ratio_bottom ["self"] (spBottom T.f_Ratio) := ok_bottom T
  have G_as_ratio : FnOk P w K mg base CX0 3 T.f_as_ratio T.d_as_ratio ["value"] (spNum T.f_Ratio) := ok_asN T
  have G_OutOfRange_init : FnOk P w K mg base CX0 1 T.f_OutOfRange_init T.d_OutOfRange_init ["self", "value"] (spOor T.f_OutOfRange) := ok_oor T
  refine T.F_Ratio_over.okX sc_Ratio_over (fun vs H Q E h => ?_) (fun cdv A outer s H vs Q E hr h => ?_)
  · obtain ⟨p, y, t, b, t', b', rfl, _⟩ := h
    rfl
  · obtain ⟨p, y, t, b, t', b', rfl, r, n, ht, hb, ht', hb', h0, k, kx⟩ := h
    refine ⟨_, (pss_cons (ps_set (i := 2) sc_Ratio_over.nd rfl (Or.inl rfl) (pe_call G_as_ratio (hr.mono (by decide)) rfl T.m_as_ratio T.F_as_ratio.kp T.b_as_ratio .nil pass0 (pa_cons (pv 1) pa_nil)))
    (pss_cons (ps_if (pt_cmpR op_eq (pe_prop (pv 2) T.cl_Ratio T.p_Ratio_top G_Ratio_top (hr.mono (by decide)) T.b_Ratio_top .nil pass0 rfl) pe_int (nomark _))
      (pss_one (ps_raise rfl (takes_of rfl rfl rfl rfl) (pmk_oex T.ox_OutOfRange T.ix_OutOfRange T.tx_OutOfRange G_OutOfRange_init (hr.mono (by decide)) T.b_OutOfRange_init .nil pass0 rfl T.m_OutOfRange (pa_cons (pv 1) pa_nil))))
      pss_nil)
    (pss_one (ps_ret (pe_make T.mk_Ratio G_Ratio_init (hr.mono (by decide)) rfl T.m_Ratio T.b2_Ratio_init T.v2_Ratio_init pass0 (pa_cons (pe_op op_mulW (pe_fld (pv 0) rfl) (pe_prop (pv 2) T.cl_Ratio T.p_Ratio_bottom G_Ratio_bottom (hr.mono (by decide)) T.b_Ratio_bottom .nil pass0 rfl)) (pa_cons (pe_op op_mulW (pe_fld (pv 0) rfl) (pe_prop (pv 2) T.cl_Ratio T.p_Ratio_top G_Ratio_top (hr.mono (by decide)) T.b_Ratio_top .nil pass0 rfl)) pa_nil))))))), ?_⟩
    refine ⟨_, rfl, y, t', b', rfl, n, fun p' H1 s1 r1 => ?_⟩
    obtain ⟨dx, hp⟩ := r.on s1
    obtain ⟨dx', hp'⟩ := id r1
    refine ⟨_, rfl, p', dx', _, rfl, hp', p', t', b', rfl, r1, rfl, _, rfl, ite2 (fun hz => ?_) fun hz => ?_⟩
    · have hz0 : t' = 0 := by
        have e : V.int t' = V.int 0 := of_decide_eq_true hz
        injection e
      refine ⟨_, rfl, (by show 1 ≤ 1000; decide), fun a na => ?_⟩
      refine ⟨a, y, rfl, upd_same, fun d H' nd ne e => ⟨rfl, d, [("value", y)], ?_, ?_, ?_, ?_⟩⟩
      · rw [e]; exact upd_same
      · rw [e, upd_ne ne]; exact upd_same
      · rw [upd_ne ne] at nd; exact nd
      · rw [upd_ne ne] at nd
        refine kx hz0 d _ (s1.free nd) (s1.trans fun b o hb => ?_) upd_same
        have n1 : b ≠ d := ne_of_none hb nd
        have n2 : b ≠ a := ne_of_none hb na
        rw [upd_ne n1, del_ne n2, e, upd_ne n2, upd_ne n1, upd_ne n2]
        exact hb
    have h0' : t' ≠ 0 := fun e => hz (decide_eq_true (by rw [e]))
    refine ⟨_, rfl, p, T.f_Ratio, dx, _, _, rfl, hp, T.cl_Ratio, T.na_Ratio_top, rf_top _ _, _, rfl, p', dx', _, rfl, hp', p', t', b', rfl, r1, _, _, rfl, rfl, sm_mul ht hb', ?_⟩
    refine ⟨_, rfl, p, T.f_Ratio, dx, _, _, rfl, hp, T.cl_Ratio, T.na_Ratio_bottom, rf_bottom _ _, _, rfl, p', dx', _, rfl, hp', p', t', b', rfl, r1, _, _, rfl, rfl, sm_mul hb ht', ?_⟩
    exact made_rat (Int.mul_ne_zero h0 h0') (big_mul hb ht') fun q H' nq sq rq => k h0' q H' (s1.free nq) (s1.trans sq) rq
/-! ### the law's helpers -/
def spFraction : Sp := fun vs H Q _ => ∃ (st : Addr) (G : Hp) (m : Nat), vs = [.ref st] ∧ DSt G H st m ∧ m + 5 < 1000000 ∧ ∀ (q : Addr) (t b : Int) (H' : Hp), PairAt H' q t b → Low t b → t.natAbs ≤ 10 ^ 20 → b.natAbs ≤ 1000 → DSt G H' st (m + 5) → Q (.ref q) H'
theorem scales3 {r : Int} (h0 : 0 ≤ r) (h1 : r < 3) : ∃ v : Int, atI [V.int 20, .int 1000, .int (10 ^ (20 : Int).toNat)] r = some (.int v) ∧ 0 < v ∧ v ≤ 10 ^ 20 := by
  have h : r = 0 ∨ r = 1 ∨ r = 2 := by omega
  rcases h with rfl | rfl | rfl
  · exact ⟨20, rfl, by decide, by decide +kernel⟩
  · exact ⟨1000, rfl, by decide, by decide +kernel⟩
  · exact ⟨10 ^ (20 : Int).toNat, rfl, by decide +kernel, by decide +kernel⟩
theorem bots3 {r : Int} (h0 : 0 ≤ r) (h1 : r < 3) : ∃ v : Int, atI [V.int 1, .int 12, .int 1000] r = some (.int v) ∧ 0 < v ∧ v ≤ 1000 := by
  have h : r = 0 ∨ r = 1 ∨ r = 2 := by omega
  rcases h with rfl | rfl | rfl
  · exact ⟨1, rfl, by decide, by decide⟩
  · exact ⟨12, rfl, by decide, by decide⟩
  · exact ⟨1000, rfl, by decide, by decide⟩
theorem ok_fraction (T : Txt K mg) : FnOk P w K mg base CX0 2 T.f_fraction T.d_fraction ["_law_state"] spFraction := by
  have G_draw : FnOk P w K mg base CX0 1 T.f_draw T.d_draw ["_law_state", "_law_size"] spDraw := ok_draw T
  have G_low : FnOk P w K mg base CX0 1 T.f_low T.d_low ["_law_up", "_law_down"] spLow := ok_low T
  refine T.F_fraction.ok sc_fraction (fun vs H Q E h => ?_) (fun cdv A outer s H vs Q E hr h => ?_)
  · obtain ⟨st, G, m, rfl, _⟩ := h
    rfl
  · obtain ⟨st, G, m, rfl, d, hm, k⟩ := h
    refine ⟨_, (pss_cons (ps_set (i := 1) sc_fraction.nd rfl (Or.inl rfl) (pe_ix ix_list (pe_lst (pa_cons pe_int (pa_cons pe_int (pa_cons (pe_op op_pow pe_int pe_int) pa_nil)))) (pe_call G_draw (hr.mono (by decide)) rfl T.m_draw T.F_draw.kp T.b_draw .nil pass0 (pa_cons (pv 0) (pa_cons pe_int pa_nil))) (fun _ _ => rfl)))
    (pss_cons (ps_set (i := 2) sc_fraction.nd rfl (Or.inl rfl) (pe_op op_add pe_int (pe_call G_draw (hr.mono (by decide)) rfl T.m_draw T.F_draw.kp T.b_draw .nil pass0 (pa_cons (pv 0) (pa_cons (pe_ix ix_list (pe_lst (pa_cons pe_int (pa_cons pe_int (pa_cons pe_int pa_nil)))) (pe_call G_draw (hr.mono (by decide)) rfl T.m_draw T.F_draw.kp T.b_draw .nil pass0 (pa_cons (pv 0) (pa_cons pe_int pa_nil))) (fun _ _ => rfl)) pa_nil)))))
    (pss_one (ps_ret (pe_call G_low (hr.mono (by decide)) rfl T.m_low T.F_low.kp T.b_low .nil pass0 (pa_cons (pe_op op_sub (pe_call G_draw (hr.mono (by decide)) rfl T.m_draw T.F_draw.kp T.b_draw .nil pass0 (pa_cons (pv 0) (pa_cons (pe_op op_add (pe_op op_mul pe_int (pv 1)) pe_int) pa_nil))) (pv 1)) (pa_cons (pv 2) pa_nil))))))), ?_⟩
    have z3 : 3 ≤ sizeLine := by decide
    have b200 : ∀ z : Int, z ≤ 10 ^ 21 → z < 2 ^ 200 := fun z hz => Int.lt_of_le_of_lt hz (by decide +kernel)
    refine ⟨10, 20, rfl, rfl, ⟨by decide, by decide, by decide⟩, z3, fun l1 hl1 => ?_⟩
    refine ⟨_, rfl, _, st, m, 3, rfl, d.new hl1, by omega, by decide, by decide, fun r H2 r0 r1 d2 => ?_⟩
    obtain ⟨sc, esc, sc0, sc1⟩ := scales3 r0 r1
    refine ⟨l1, _, r, .int sc, rfl, rfl, SqL.of (d2.same _ _ upd_same), esc, ?_⟩
    refine ⟨_, rfl, z3, fun l2 hl2 => ?_⟩
    refine ⟨_, rfl, _, st, _, 3, rfl, d2.new hl2, by omega, by decide, by decide, fun r2 H3 r20 r21 d3 => ?_⟩
    obtain ⟨mo, emo, mo0, mo1⟩ := bots3 r20 r21
    refine ⟨l2, _, r2, .int mo, rfl, rfl, SqL.of (d3.same _ _ upd_same), emo, ?_⟩
    refine ⟨_, st, _, mo, rfl, d3, by omega, mo0, b200 _ (by omega), fun y H4 y0 y1 d4 => ?_⟩
    refine ⟨_, _, rfl, rfl, ?_⟩
    refine ⟨_, rfl, _, rfl, 2, sc, rfl, rfl, .inl ⟨by decide, by decide⟩, _, _, rfl, rfl, ?_⟩
    refine ⟨_, st, _, 2 * sc + 1, rfl, d4, by omega, by omega, b200 _ (by omega), fun z H5 zz0 zz1 d5 => ?_⟩
    refine ⟨_, rfl, _, _, rfl, rfl, _, rfl, ?_⟩
    have hy : 1 + y ≠ 0 := by omega
    have syb : (1 + y).natAbs ≤ 1000 := by omega
    have szb : (z - sc).natAbs ≤ 10 ^ 20 := by omega
    refine ⟨z - sc, 1 + y, rfl, hy, Nat.lt_of_le_of_lt syb (by decide +kernel), fun o H9 no s9 po => ?_⟩
    refine k o _ _ H9 po (Low.of hy) (Nat.le_trans (lowT_le hy) szb) (Nat.le_trans (lowB_le hy) syb) (((d5.on s9).less ?_).mono (by omega))
    exact (same_upd (d.free hl1)).trans (same_upd (d2.free hl2))
def spMinus : Sp := fun vs H Q _ => ∃ (q q' : Addr) (t b t' b' : Int), vs = [.ref q, .ref q'] ∧ PairAt H q t b ∧ PairAt H q' t' b' ∧ SM t ∧ SM b ∧ SM t' ∧ SM b' ∧ b ≠ 0 ∧ b' ≠ 0 ∧ ResP H (t * b' + -t' * b) (b * b') Q
theorem ok_minus (T : Txt K mg) : FnOk P w K mg base CX0 3 T.f_minus T.d_minus ["_law_one", "_law_two"] spMinus := by
  have G_plus : FnOk P w K mg base CX0 2 T.f_plus T.d_plus ["_law_one", "_law_two"] spPlus := ok_plus T
  refine T.F_minus.ok sc_minus (fun vs H Q E h => ?_) (fun cdv A outer s H vs Q E hr h => ?_)
  · obtain ⟨q, q', t, b, t', b', rfl, _⟩ := h
    rfl
  · obtain ⟨q, q', t, b, t', b', rfl, hq, hq', ht, hb, ht', hb', h0, h0', k⟩ := h
    refine ⟨_, (pss_one (ps_ret (pe_call G_plus (hr.mono (by decide)) rfl T.m_plus T.F_plus.kp T.b_plus .nil pass0 (pa_cons (pv 0) (pa_cons (pe_tup (pa_cons (pe_un un_neg (pe_ix ix_tup (pv 1) pe_int (fun _ _ => rfl))) (pa_cons (pe_ix ix_tup (pv 1) pe_int (fun _ _ => rfl)) pa_nil))) pa_nil))))), ?_⟩
    refine ⟨_, rfl, _, rfl, q', _, 0, .int t', rfl, rfl, SqT.of hq', rfl, t', rfl, _, rfl, q', _, 1, .int b', rfl, rfl, SqT.of hq', rfl, (by show 2 ≤ sizeLine; decide), fun o ho => ?_⟩
    exact ⟨q, o, t, b, -t', b', rfl, same_upd ho _ _ hq, upd_same, ht, hb, ht'.neg, hb', h0, h0', fun y H' ny s py => k y H' ((same_upd ho).free ny) ((same_upd ho).trans s) py⟩
end

/-! ### quotients, in place -/
section
variable {P : Program} {w : World} {K : PySem.W.Frag} {mg : Str → Option Value} {base : Heap}
def spTri (C : Addr) : Sp := fun vs H Q _ => ∃ (a : Addr) (y : V) (q1 q2 : Addr) (t b t' b' : Int), vs = [.ref a, y, .ref q1, .ref q2] ∧ RatAt C H a t b ∧ Num C H y t' b' ∧ PairAt H q1 t b ∧ PairAt H q2 t' b' ∧ Fine (t, b) ∧ Fine (t', b') ∧ ∀ H', Same H H' → Q (.bl true) H'
theorem sm_low {x y : Int} (hy : y ≠ 0) (hx : SM x) (h : SM y) : SM (lowT x y) ∧ SM (lowB x y) := ⟨Nat.lt_of_le_of_lt (lowT_le hy) hx, Nat.lt_of_le_of_lt (lowB_le hy) h⟩
theorem lowB_ne {x y : Int} (hy : y ≠ 0) : lowB x y ≠ 0 := by have := lowB_pos (t := x) hy; omega
theorem ok_eqP (T : Txt K mg) : FnP P w K mg base 1 T.f_Ratio_eq T.d_Ratio_eq ["self", "other"] (spEqB T.f_Ratio) := by
  refine fnP_of T.F_Ratio_eq sc_Ratio_eq (fun vs H Q E h => ?_) (fun cdv A outer s H vs Q E pp h => ?_)
  · obtain ⟨a, b, t, c, t', c', rfl, _⟩ := h
    rfl
  · obtain ⟨a, b, t, c, t', c', rfl, ra, rb, k⟩ := h
    obtain ⟨da, ha⟩ := id ra
    obtain ⟨db, hb⟩ := id rb
    refine ⟨_, (pss_one (ps_ret (pe_and (pe_callB call_isi (by rfl) T.n_isinstance (by decide +kernel) (pa_cons (pv 1) (pa_cons (pe_glob (v := .ref T.f_Ratio) rfl T.m_Ratio rfl) pa_nil))) (pe_and (pe_cmpR op_eq (pe_fld (pv 0) rfl) (pe_fld (pv 1) rfl) (nomark _)) (pe_one (pe_cmpR op_eq (pe_fld (pv 0) rfl) (pe_fld (pv 1) rfl) (nomark _))))))), ?_⟩
    refine ⟨_, rfl, .ref b, .ref T.f_Ratio, .ref T.f_Ratio, .ref T.f_Ratio, true, rfl, .own _, tyR T.ic_Ratio rb, kit_self, true, rfl, iteT ?_⟩
    refine ⟨_, rfl, a, T.f_Ratio, da, _, _, rfl, ha, T.cl_Ratio, T.na_Ratio_top, rf_top _ _, _, rfl, b, T.f_Ratio, db, _, _, rfl, hb, T.cl_Ratio, T.na_Ratio_top, rf_top _ _, rfl, ?_⟩
    by_cases e1 : t = t'
    · refine ⟨true, by rw [decide_eq_true (by rw [e1])], iteT ?_⟩
      refine ⟨_, rfl, a, T.f_Ratio, da, _, _, rfl, ha, T.cl_Ratio, T.na_Ratio_bottom, rf_bottom _ _, _, rfl, b, T.f_Ratio, db, _, _, rfl, hb, T.cl_Ratio, T.na_Ratio_bottom, rf_bottom _ _, rfl, ?_⟩
      have e : decide (V.int c = V.int c') = decide (t = t' ∧ c = c') := decide_eq_decide.mpr ⟨fun q => ⟨e1, by injection q⟩, fun q => by rw [q.2]⟩
      rw [e]
      exact k
    · refine ⟨false, by rw [decide_eq_false (fun q => e1 (by injection q))], iteF ?_⟩
      have e : decide (t = t' ∧ c = c') = false := decide_eq_false fun q => e1 q.1
      rw [e] at k
      exact k
theorem ok_lover (T : Txt K mg) : FnOk P w K mg base CX0 8 T.f_over T.d_over ["_law_a", "_law_divisor", "_law_one", "_law_two"] (spTri T.f_Ratio) := by
  have GX_Ratio_over : FnOk P w K mg base (L2.CX P w) 6 T.f_Ratio_over T.d_Ratio_over ["self", "value"] (spOverX T.f_Ratio T.f_OutOfRange) := ok_overX T
  have GP_Ratio_eq : FnP P w K mg base 1 T.f_Ratio_eq T.d_Ratio_eq ["self", "other"] (spEqB T.f_Ratio) := ok_eqP T
  have G_is : FnOk P w K mg base CX0 3 T.f_is T.d_is ["_law_actual", "_law_pair"] (spIs T.f_Ratio) := ok_is T
  have G_times : FnOk P w K mg base CX0 2 T.f_times T.d_times ["_law_one", "_law_two"] spTimes := ok_times T
  have G_low : FnOk P w K mg base CX0 1 T.f_low T.d_low ["_law_up", "_law_down"] spLow := ok_low T
  refine T.F_over.ok sc_over (fun vs H Q E h => ?_) (fun cdv A outer s H vs Q E hr h => ?_)
  · obtain ⟨a, y, q1, q2, t, b, t', b', rfl, _⟩ := h
    rfl
  · obtain ⟨a, y, q1, q2, t, b, t', b', rfl, ra, n, p1, p2, f1, f2, k⟩ := h
    obtain ⟨l1, st, sb⟩ := f1
    obtain ⟨l2, st', sb'⟩ := f2
    change Low t b at l1
    change Low t' b' at l2
    obtain ⟨dx, ha⟩ := id ra
    refine ⟨_, (C8.pss_cut (ps_try_as (i := 5) rfl rfl sc_over.nd rfl rfl ⟨rfl, by decide, .inl T.m_OutOfRange⟩ takes0 (fun W pn xe tk _ =>
      (pss_one (ps_set (i := 4) sc_over.nd rfl (Or.inl rfl) (pe_methE (pv 0) T.cl_Ratio T.me_Ratio_over GX_Ratio_over (hr.mono (by decide)) T.b_Ratio_over (fun σ => passAt tk σ) (pa_cons (pv 1) pa_nil))))) (fun a oe cls d pn hz hf =>
      (pss_one (ps_ret (pe_and (pe_cmpR op_eq (pe_ix (show IxR _ (rIxT K) from ix_tup) (pv 3) pe_int (fun _ _ => rfl)) pe_int (nomark _)) (pe_one (pe_cmpR (op_or op_eq (cmp_ownP (E := E0) (p := (a, oe)) T.a_Ratio_eq T.i_Ratio_eq GP_Ratio_eq ⟨(hr.mono (j := 1) (by decide)).dp, (hr.mono (j := 1) (by decide)).un⟩ List.mem_cons_self T.b_Ratio_eq)) (pe_xf T.xf_OutOfRange T.no_OutOfRange_value hz hf (pv 5)) (pv 1) (nomark _))))))))
    (pss_one (ps_ret (pe_and (pe_cmpR op_ne (pe_ix ix_tup (pv 3) pe_int (fun _ _ => rfl)) pe_int (nomark _)) (pe_one (pe_call G_is (hr.mono (by decide)) rfl T.m_is T.F_is.kp T.b_is .nil pass0 (pa_cons (pv 4) (pa_cons (pe_call G_times (hr.mono (by decide)) rfl T.m_times T.F_times.kp T.b_times .nil pass0 (pa_cons (pv 2) (pa_cons (pe_call G_low (hr.mono (by decide)) rfl T.m_low T.F_low.kp T.b_low .nil pass0 (pa_cons (pe_ix ix_tup (pv 3) pe_int (fun _ _ => rfl)) (pa_cons (pe_ix ix_tup (pv 3) pe_int (fun _ _ => rfl)) pa_nil))) pa_nil))) pa_nil)))))))), ?_⟩
    refine ⟨fun σ H' => ∃ x : Addr, σ = [some (.ref a), some y, some (.ref q1), some (.ref q2), some (.ref x), none] ∧ Same H H' ∧ RatAt T.f_Ratio H' x (lowT (t * b') (b * t')) (lowB (t * b') (b * t')) ∧ t' ≠ 0, ?_, ?_⟩
    · refine ⟨_, rfl, a, dx, _, rfl, ha, rf_over _ _, _, rfl, a, y, t, b, t', b', rfl, ra, n, st, sb, st', sb', l1.ne, fun h0 x H1 nx s1 rx => ⟨x, rfl, s1, rx, h0⟩, fun hz d H1 nd s1 hd => ?_⟩
      subst hz
      refine ⟨true, PySem.W.exm_ref T.ec_OutOfRange.hs T.ec_OutOfRange.hd T.ox_OutOfRange.tyC T.es_OutOfRange_OutOfRange, fun _ ea na => ?_, fun q => nomatch q⟩
      refine ⟨_, rfl, q2, _, 0, .int 0, rfl, rfl, SqT.of (p2.on s1), rfl, rfl, true, by decide, iteT ?_⟩
      refine ⟨_, rfl, rfl, rfl, d, _, _, rfl, hd, rfl, _, rfl, ?_⟩
      rcases n with ⟨rfl, e1⟩ | ⟨p, rfl, rp⟩
      · refine .inl ⟨rfl, ?_⟩
        rw [decide_eq_true rfl]
        exact k _ s1
      · have rp1 := rp.on s1
        obtain ⟨dp, hp⟩ := id rp1
        refine .inr ⟨p, dp, _, p, dp, _, rfl, rfl, hp, hp, p, p, _, _, _, _, rfl, rp1, rp1, ?_⟩
        rw [decide_eq_true ⟨rfl, rfl⟩]
        exact k _ s1
    rintro σ H1 ⟨x, rfl, s1, rx, h0⟩
    have p21 := p2.on s1
    refine ⟨_, rfl, q2, _, 0, .int t', rfl, rfl, SqT.of p21, rfl, rfl, true, by rw [decide_eq_false (fun z => h0 (by injection z))]; rfl, iteT ?_⟩
    have lb := sm_low h0 sb' st'
    refine ⟨_, rfl, _, rfl, _, rfl, q2, _, 1, .int b', rfl, rfl, SqT.of p21, rfl, _, rfl, q2, _, 0, .int t', rfl, rfl, SqT.of p21, rfl, b', t', rfl, h0, st'.big, fun o H2 no s2 po => ?_⟩
    refine ⟨q1, o, t, b, _, _, rfl, (p1.on s1).on s2, po, st, sb, lb.1, lb.2, l1.ne, lowB_ne h0, fun z H3 nz s3 pz => ?_⟩
    rw [← (low_over h0 l1.ne).1, ← (low_over h0 l1.ne).2] at pz
    exact ⟨x, z, _, _, rfl, (rx.on s2).on s3, pz, fun H4 s4 => k H4 (((s1.trans s2).trans s3).trans s4)⟩
theorem ok_quotients (T : Txt K mg) : FnOk P w K mg base CX0 9 T.f_quotients T.d_quotients ["_law_a", "_law_b", "_law_one", "_law_two"] (spTri T.f_Ratio) := by
  have G_over : FnOk P w K mg base CX0 8 T.f_over T.d_over ["_law_a", "_law_divisor", "_law_one", "_law_two"] (spTri T.f_Ratio) := ok_lover T
  have G_Ratio_over : FnOk P w K mg base CX0 4 T.f_Ratio_over T.d_Ratio_over ["self", "value"] (spOver T.f_Ratio) := ok_over T
  have G_Ratio_below : FnOk P w K mg base CX0 4 T.f_Ratio_below T.d_Ratio_below ["self", "value"] (spBelow T.f_Ratio) := ok_below T
  have G_is : FnOk P w K mg base CX0 3 T.f_is T.d_is ["_law_actual", "_law_pair"] (spIs T.f_Ratio) := ok_is T
  have G_times : FnOk P w K mg base CX0 2 T.f_times T.d_times ["_law_one", "_law_two"] spTimes := ok_times T
  have G_less : FnOk P w K mg base CX0 1 T.f_less T.d_less ["_law_one", "_law_two"] spLess := ok_less T
  have G_low : FnOk P w K mg base CX0 1 T.f_low T.d_low ["_law_up", "_law_down"] spLow := ok_low T
  refine T.F_quotients.ok sc_quotients (fun vs H Q E h => ?_) (fun cdv A outer s H vs Q E hr h => ?_)
  · obtain ⟨a, y, q1, q2, t, b, t', b', rfl, _⟩ := h
    rfl
  · obtain ⟨a, y, q1, q2, t, b, t', b', rfl, ra, n, p1, p2, f1, f2, k⟩ := h
    obtain ⟨l1, st, sb⟩ := id f1
    obtain ⟨l2, st', sb'⟩ := id f2
    change Low t b at l1
    change Low t' b' at l2
    refine ⟨_, (pss_cons (ps_if (pt_cmpR op_eq (pe_ix ix_tup (pv 3) pe_int (fun _ _ => rfl)) pe_int (nomark _))
      (pss_one (ps_ret (pe_call G_over (hr.mono (by decide)) rfl T.m_over T.F_over.kp T.b_over .nil pass0 (pa_cons (pv 0) (pa_cons (pv 1) (pa_cons (pv 2) (pa_cons (pv 3) pa_nil)))))))
      pss_nil)
    (pss_cons (ps_if (PW.pt (pw_or (pt_not (pt_val (pe_call G_over (hr.mono (by decide)) rfl T.m_over T.F_over.kp T.b_over .nil pass0 (pa_cons (pv 0) (pa_cons (pv 1) (pa_cons (pv 2) (pa_cons (pv 3) pa_nil))))))) (pw_or1 (pt_not (pt_val (pe_call G_is (hr.mono (by decide)) rfl T.m_is T.F_is.kp T.b_is .nil pass0 (pa_cons (pe_methK0 (pv 0) T.cl_Ratio T.me_Ratio_over G_Ratio_over (hr.mono (by decide)) T.kbm_Ratio_over pass0 (pk_cons (pv 1) pk_nil)) (pa_cons (pe_call G_times (hr.mono (by decide)) rfl T.m_times T.F_times.kp T.b_times .nil pass0 (pa_cons (pv 2) (pa_cons (pe_call G_low (hr.mono (by decide)) rfl T.m_low T.F_low.kp T.b_low .nil pass0 (pa_cons (pe_ix ix_tup (pv 3) pe_int (fun _ _ => rfl)) (pa_cons (pe_ix ix_tup (pv 3) pe_int (fun _ _ => rfl)) pa_nil))) pa_nil))) pa_nil))))))))
      (pss_one (ps_ret pe_bl))
      pss_nil)
    (pss_cons (ps_set (i := 4) sc_quotients.nd rfl (Or.inl rfl) (pe_meth (pv 0) T.cl_Ratio T.me_Ratio_below G_Ratio_below (hr.mono (by decide)) T.b_Ratio_below .nil pass0 (pa_cons (pv 1) pa_nil)))
    (pss_one (ps_ret (pe_and (pe_callB call_isi (by rfl) T.n_isinstance (by decide +kernel) (pa_cons (pv 4) (pa_cons (pe_bltn (v := .ty "bool") (u := .type "bool") (by rfl) T.n_bool (by decide +kernel) rfl) pa_nil))) (pe_and (pe_cmpR op_eq (pv 4) (pe_call G_less (hr.mono (by decide)) rfl T.m_less T.F_less.kp T.b_less .nil pass0 (pa_cons (pv 2) (pa_cons (pv 3) pa_nil))) (nomark _)) (pe_one (pe_cmpR op_eq (pe_methK0 (pv 0) T.cl_Ratio T.me_Ratio_below G_Ratio_below (hr.mono (by decide)) T.kbm_Ratio_below pass0 (pk_cons (pv 1) pk_nil)) (pv 4) (nomark _)))))))))), ?_⟩
    refine ⟨_, rfl, q2, _, 0, .int t', rfl, rfl, SqT.of p2, rfl, rfl, _, rfl, ite2 (fun hz => ?_) fun hz => ?_⟩
    · exact ⟨_, rfl, _, rfl, _, rfl, _, rfl, a, y, q1, q2, t, b, t', b', rfl, ra, n, p1, p2, f1, f2, k⟩
    have h0 : t' ≠ 0 := fun e => hz (decide_eq_true (by rw [e]))
    refine ⟨_, rfl, _, rfl, _, rfl, _, rfl, a, y, q1, q2, t, b, t', b', rfl, ra, n, p1, p2, f1, f2, fun H1 s1 => ⟨_, rfl, iteF ?_⟩⟩
    obtain ⟨dx, ha⟩ := ra.on s1
    refine ⟨_, rfl, a, dx, _, rfl, ha, rf_over _ _, _, rfl, a, y, t, b, t', b', rfl, ra.on s1, n.on s1, st, sb, st', sb', l1.ne, h0, fun x H2 nx s2 rx => ?_⟩
    have p22 := (p2.on s1).on s2
    have lb := sm_low h0 sb' st'
    refine ⟨_, rfl, _, rfl, q2, _, 1, .int b', rfl, rfl, SqT.of p22, rfl, _, rfl, q2, _, 0, .int t', rfl, rfl, SqT.of p22, rfl, b', t', rfl, h0, st'.big, fun o H3 no s3 po => ?_⟩
    refine ⟨q1, o, t, b, _, _, rfl, ((p1.on s1).on s2).on s3, po, st, sb, lb.1, lb.2, l1.ne, lowB_ne h0, fun z H4 nz s4 pz => ?_⟩
    rw [← (low_over h0 l1.ne).1, ← (low_over h0 l1.ne).2] at pz
    refine ⟨x, z, _, _, rfl, (rx.on s3).on s4, pz, fun H5 s5 => ⟨_, rfl, iteF ?_⟩⟩
    have s05 := (((s1.trans s2).trans s3).trans s4).trans s5
    obtain ⟨dx5, ha5⟩ := ra.on s05
    refine ⟨_, rfl, a, dx5, _, rfl, ha5, rf_below _ _, _, rfl, a, y, t, b, t', b', rfl, ra.on s05, n.on s05, st, sb, st', sb', fun H6 s6 => ?_⟩
    have s06 := s05.trans s6
    refine ⟨_, rfl, .bl _, .ty "bool", .type "bool", .type "bool", true, rfl, .ty _, .base (.bl _), kit_ty (by decide +kernel), true, rfl, iteT ?_⟩
    refine ⟨_, rfl, _, rfl, _, rfl, q1, q2, t, b, t', b', rfl, p1.on s06, p2.on s06, st, sb, st', sb', by rfl, true, by rw [decide_eq_true rfl], iteT ?_⟩
    obtain ⟨dx6, ha6⟩ := ra.on s06
    refine ⟨_, rfl, a, dx6, _, rfl, ha6, rf_below _ _, _, rfl, a, y, t, b, t', b', rfl, ra.on s06, n.on s06, st, sb, st', sb', fun H7 s7 => ⟨_, rfl, by rfl, ?_⟩⟩
    rw [decide_eq_true rfl]
    exact k _ (s06.trans s7)
theorem or_num {C : Addr} {H : Hp} {sp : Sp} {E : XK} {a dx : Addr} {fs : List (Str × V)} {y : V} {t b : Int} {Q : VK} (ha : H a = some (.ins C dx fs)) (n : Num C H y t b) (k : sp [.ref a, y] H Q E) : rOO C sp E (.ref a) y H Q ∨ rOI C sp E (.ref a) y H Q := by
  rcases n with ⟨rfl, _⟩ | ⟨p, rfl, dp, hp⟩
  · exact .inr ⟨a, dx, fs, t, rfl, rfl, ha, k⟩
  · exact .inl ⟨a, dx, fs, p, dp, _, rfl, rfl, ha, hp, k⟩
theorem or_numR {C : Addr} {H : Hp} {sp spR : Sp} {E : XK} {a dx : Addr} {fs : List (Str × V)} {y : V} {t b : Int} {Q : VK} (ha : H a = some (.ins C dx fs)) (n : Num C H y t b) (k : ∀ p, y = .ref p → RatAt C H p t b → sp [.ref p, .ref a] H Q E) (kr : y = .int t → b = 1 → spR [.ref a, .int t] H Q E) : rOO C sp E y (.ref a) H Q ∨ rIO C spR E y (.ref a) H Q := by
  rcases n with ⟨rfl, e⟩ | ⟨p, rfl, rp⟩
  · exact .inr ⟨a, dx, fs, t, rfl, rfl, ha, kr rfl e⟩
  · obtain ⟨dp, hp⟩ := id rp
    exact .inl ⟨p, dp, _, a, dx, fs, rfl, rfl, hp, ha, k p rfl rp⟩
theorem ok_in_place (T : Txt K mg) : FnOk P w K mg base CX0 6 T.f_in_place T.d_in_place ["_law_a", "_law_b", "_law_one", "_law_two"] (spTri T.f_Ratio) := by
  have G_Ratio_add : FnOk P w K mg base CX0 4 T.f_Ratio_add T.d_Ratio_add ["self", "other"] (spAdd T.f_Ratio) := ok_add T
  have G_Ratio_sub : FnOk P w K mg base CX0 5 T.f_Ratio_sub T.d_Ratio_sub ["self", "other"] (spSub T.f_Ratio) := ok_sub T
  have G_Ratio_mul : FnOk P w K mg base CX0 4 T.f_Ratio_mul T.d_Ratio_mul ["self", "other"] (spMul T.f_Ratio) := ok_mul T
  have G_is : FnOk P w K mg base CX0 3 T.f_is T.d_is ["_law_actual", "_law_pair"] (spIs T.f_Ratio) := ok_is T
  have G_plus : FnOk P w K mg base CX0 2 T.f_plus T.d_plus ["_law_one", "_law_two"] spPlus := ok_plus T
  have G_minus : FnOk P w K mg base CX0 3 T.f_minus T.d_minus ["_law_one", "_law_two"] spMinus := ok_minus T
  have G_times : FnOk P w K mg base CX0 2 T.f_times T.d_times ["_law_one", "_law_two"] spTimes := ok_times T
  refine T.F_in_place.ok sc_in_place (fun vs H Q E h => ?_) (fun cdv A outer s H vs Q E hr h => ?_)
  · obtain ⟨a, y, q1, q2, t, b, t', b', rfl, _⟩ := h
    rfl
  · obtain ⟨a, y, q1, q2, t, b, t', b', rfl, ra, n, p1, p2, f1, f2, k⟩ := h
    obtain ⟨l1, st, sb⟩ := id f1
    obtain ⟨l2, st', sb'⟩ := id f2
    change Low t b at l1
    change Low t' b' at l2
    obtain ⟨dx, ha⟩ := id ra
    refine ⟨_, (pss_cons (ps_set (i := 4) sc_in_place.nd rfl (Or.inl rfl) (pv 0))
    (pss_cons (ps_aug (i := 4) sc_in_place.nd rfl (Or.inl rfl) (pv 1) (fun pins s σ H x y u v Q I rx ry h => (op_or (iop_oo (nm := "add") rfl T.noi_Ratio_add T.op_Ratio_add G_Ratio_add (hr.mono (by decide)) T.b_Ratio_add pass0) (iop_oi (nm := "add") rfl T.noi_Ratio_add T.op_Ratio_add G_Ratio_add (hr.mono (by decide)) T.b_Ratio_add pass0)) pins s σ H x y u v Q I rx ry h))
    (pss_cons (ps_set (i := 5) sc_in_place.nd rfl (Or.inl rfl) (pv 0))
    (pss_cons (ps_aug (i := 5) sc_in_place.nd rfl (Or.inl rfl) (pv 1) (fun pins s σ H x y u v Q I rx ry h => (op_or (iop_oo (nm := "sub") rfl T.noi_Ratio_sub T.op_Ratio_sub G_Ratio_sub (hr.mono (by decide)) T.b_Ratio_sub pass0) (iop_oi (nm := "sub") rfl T.noi_Ratio_sub T.op_Ratio_sub G_Ratio_sub (hr.mono (by decide)) T.b_Ratio_sub pass0)) pins s σ H x y u v Q I rx ry h))
    (pss_cons (ps_set (i := 6) sc_in_place.nd rfl (Or.inl rfl) (pv 0))
    (pss_cons (ps_aug (i := 6) sc_in_place.nd rfl (Or.inl rfl) (pv 1) (fun pins s σ H x y u v Q I rx ry h => (op_or (iop_oo (nm := "mul") rfl T.noi_Ratio_mul T.op_Ratio_mul G_Ratio_mul (hr.mono (by decide)) T.b_Ratio_mul pass0) (iop_oi (nm := "mul") rfl T.noi_Ratio_mul T.op_Ratio_mul G_Ratio_mul (hr.mono (by decide)) T.b_Ratio_mul pass0)) pins s σ H x y u v Q I rx ry h))
    (pss_cons (ps_if (PW.pt (pw_or (pt_not (pt_val (pe_call G_is (hr.mono (by decide)) rfl T.m_is T.F_is.kp T.b_is .nil pass0 (pa_cons (pv 4) (pa_cons (pe_call G_plus (hr.mono (by decide)) rfl T.m_plus T.F_plus.kp T.b_plus .nil pass0 (pa_cons (pv 2) (pa_cons (pv 3) pa_nil))) pa_nil))))) (pw_or1 (pt_not (pt_val (pe_call G_is (hr.mono (by decide)) rfl T.m_is T.F_is.kp T.b_is .nil pass0 (pa_cons (pv 5) (pa_cons (pe_call G_minus (hr.mono (by decide)) rfl T.m_minus T.F_minus.kp T.b_minus .nil pass0 (pa_cons (pv 2) (pa_cons (pv 3) pa_nil))) pa_nil))))))))
      (pss_one (ps_ret pe_bl))
      pss_nil)
    (pss_one (ps_ret (pe_call G_is (hr.mono (by decide)) rfl T.m_is T.F_is.kp T.b_is .nil pass0 (pa_cons (pv 6) (pa_cons (pe_call G_times (hr.mono (by decide)) rfl T.m_times T.F_times.kp T.b_times .nil pass0 (pa_cons (pv 2) (pa_cons (pv 3) pa_nil))) pa_nil)))))))))))), ?_⟩
    refine ⟨_, rfl, _, rfl, _, rfl, or_num ha n ?_⟩
    refine ⟨a, y, t, b, t', b', rfl, ra, n, st, sb, st', sb', l1.ne, l2.ne, fun x1 H1 n1 s1 r1 => ?_⟩
    refine ⟨_, rfl, _, rfl, _, rfl, or_num (s1 _ _ ha) (n.on s1) ?_⟩
    refine ⟨a, y, t, b, t', b', rfl, ra.on s1, n.on s1, st, sb, st', sb', l1.ne, l2, fun x2 H2 n2 s2 r2 => ?_⟩
    have s02 := s1.trans s2
    refine ⟨_, rfl, _, rfl, _, rfl, or_num (s02 _ _ ha) (n.on s02) ?_⟩
    refine ⟨a, y, t, b, t', b', rfl, ra.on s02, n.on s02, st, sb, st', sb', l1.ne, l2.ne, fun x3 H3 n3 s3 r3 => ?_⟩
    have s03 := s02.trans s3
    refine ⟨_, rfl, _, rfl, _, rfl, q1, q2, t, b, t', b', rfl, p1.on s03, p2.on s03, st, sb, st', sb', l1.ne, l2.ne, fun y1 H4 ny1 s4 py1 => ?_⟩
    refine ⟨x1, y1, _, _, rfl, ((r1.on s2).on s3).on s4, py1, fun H5 s5 => ⟨_, rfl, iteF ?_⟩⟩
    have s05 := (s03.trans s4).trans s5
    refine ⟨_, rfl, _, rfl, _, rfl, q1, q2, t, b, t', b', rfl, p1.on s05, p2.on s05, st, sb, st', sb', l1.ne, l2.ne, fun y2 H6 ny2 s6 py2 => ?_⟩
    refine ⟨x2, y2, _, _, rfl, (((r2.on s3).on s4).on s5).on s6, py2, fun H7 s7 => ⟨_, rfl, iteF ?_⟩⟩
    have s07 := (s05.trans s6).trans s7
    refine ⟨_, rfl, _, rfl, _, rfl, q1, q2, t, b, t', b', rfl, p1.on s07, p2.on s07, st, sb, st', sb', l1.ne, l2.ne, fun y3 H8 ny3 s8 py3 => ?_⟩
    exact ⟨x3, y3, _, _, rfl, ((((r3.on s4).on s5).on s6).on s7).on s8, py3, fun H9 s9 => k H9 ((s07.trans s8).trans s9)⟩
end

/-! ### the law -/
section
variable {P : Program} {w : World} {K : PySem.W.Frag} {mg : Str → Option Value} {base : Heap}
theorem eqv2 (a b c d : Int) : PyData.eqv (dat2 a b) (dat2 c d) = decide (a = c ∧ b = d) := by
  simp only [dat2, PyData.eqv, PyData.eqvAll, Bool.and_true]
  rw [Bool.decide_and, ← Bool.beq_eq_decide_eq, ← Bool.beq_eq_decide_eq]
theorem add_r {C : Addr} {H : Hp} {E : XK} {a : Addr} {y : V} {t b t' b' : Int} {Q : VK} (ra : RatAt C H a t b) (n : Num C H y t' b') (f1 : Fine (t, b)) (f2 : Fine (t', b')) (k : Res C H (t * b' + t' * b) (b * b') Q) : rOO C (spAdd C) E y (.ref a) H Q ∨ rIO C (spRadd C) E y (.ref a) H Q := by
  obtain ⟨dx, ha⟩ := id ra
  refine or_numR ha n (fun p e rp => ?_) fun e e1 => ?_
  · refine ⟨p, _, t', b', t, b, rfl, rp, .inr ⟨a, rfl, ra⟩, f2.2.1, f2.2.2, f1.2.1, f1.2.2, f2.1.ne, f1.1.ne, ?_⟩
    rw [Int.add_comm, Int.mul_comm b' b]
    exact k
  · subst e1
    exact ⟨a, t', t, b, rfl, ra, f1.2.1, f1.2.2, f2.2.1, f1.1.ne, k⟩
theorem sub_r {C : Addr} {H : Hp} {E : XK} {a : Addr} {y : V} {t b t' b' : Int} {Q : VK} (ra : RatAt C H a t b) (n : Num C H y t' b') (f1 : Fine (t, b)) (f2 : Fine (t', b')) (k : Res C H (t' * b + -t * b') (b' * b) Q) : rOO C (spSub C) E y (.ref a) H Q ∨ rIO C (spRsub C) E y (.ref a) H Q := by
  obtain ⟨dx, ha⟩ := id ra
  refine or_numR ha n (fun p e rp => ?_) fun e e1 => ?_
  · exact ⟨p, _, t', b', t, b, rfl, rp, .inr ⟨a, rfl, ra⟩, f2.2.1, f2.2.2, f1.2.1, f1.2.2, f2.1.ne, f1.1, k⟩
  · subst e1
    refine ⟨a, t', t, b, rfl, ra, f1.2.1, f1.2.2, f2.2.1, f1.1, ?_⟩
    rw [Int.add_comm, Int.mul_comm b 1]
    exact k
theorem mul_r {C : Addr} {H : Hp} {E : XK} {a : Addr} {y : V} {t b t' b' : Int} {Q : VK} (ra : RatAt C H a t b) (n : Num C H y t' b') (f1 : Fine (t, b)) (f2 : Fine (t', b')) (k : Res C H (t * t') (b * b') Q) : rOO C (spMul C) E y (.ref a) H Q ∨ rIO C (spRmul C) E y (.ref a) H Q := by
  obtain ⟨dx, ha⟩ := id ra
  refine or_numR ha n (fun p e rp => ?_) fun e e1 => ?_
  · refine ⟨p, _, t', b', t, b, rfl, rp, .inr ⟨a, rfl, ra⟩, f2.2.1, f2.2.2, f1.2.1, f1.2.2, f2.1.ne, f1.1.ne, ?_⟩
    rw [Int.mul_comm t' t, Int.mul_comm b' b]
    exact k
  · subst e1
    exact ⟨a, t', t, b, rfl, ra, f1.2.1, f1.2.2, f2.2.1, f1.1.ne, k⟩
theorem nears {r : Int} (h0 : 0 ≤ r) (h1 : r < 3) : ∃ v : Int, atI [V.int (10 ^ (6 : Int).toNat), .int (10 ^ (12 : Int).toNat), .int (10 ^ (24 : Int).toNat)] r = some (.int v) ∧ 0 < v ∧ v ≤ 10 ^ 24 := by
  have h : r = 0 ∨ r = 1 ∨ r = 2 := by omega
  rcases h with rfl | rfl | rfl
  · exact ⟨10 ^ (6 : Int).toNat, rfl, by decide +kernel, by decide +kernel⟩
  · exact ⟨10 ^ (12 : Int).toNat, rfl, by decide +kernel, by decide +kernel⟩
  · exact ⟨10 ^ (24 : Int).toNat, rfl, by decide +kernel, by decide +kernel⟩
theorem b50 {a : Int} (h : a.natAbs < 10 ^ 50) : SM a := Nat.lt_trans h (by decide +kernel)
theorem b64' {a : Int} (h : a.natAbs ≤ 10 ^ 20) : a.natAbs < 10 ^ 64 := Nat.lt_of_le_of_lt h (by decide +kernel)
theorem near_bd {t b s v : Int} (ht : t.natAbs ≤ 10 ^ 20) (hb : b.natAbs ≤ 1000) (hs : s.natAbs ≤ 1) (hv : v.natAbs ≤ 10 ^ 25) : (t * v + s * b).natAbs < 10 ^ 50 ∧ (b * v).natAbs < 10 ^ 50 := by
  constructor
  · refine Nat.lt_of_le_of_lt (Int.natAbs_add_le _ _) ?_
    rw [Int.natAbs_mul, Int.natAbs_mul]
    exact Nat.lt_of_le_of_lt (Nat.add_le_add (Nat.mul_le_mul ht hv) (Nat.mul_le_mul hs hb)) (by decide +kernel)
  · rw [Int.natAbs_mul]
    exact Nat.lt_of_le_of_lt (Nat.mul_le_mul hb hv) (by decide +kernel)
def spLaw (K : PySem.W.Frag) : Sp := fun vs H Q _ => ∃ (a : Addr) (ns : List Int), vs = [.ref a] ∧ SqL K H a (ns.map V.int) ∧ ns.length ≤ 63 ∧ ∀ H', Q (.bl true) H'
theorem ok_law {f : Addr} {fd : FuncData} (T : Txt K mg) (F : Fun K "law" "law" s_law f fd) : FnOk P w K mg base CX0 10 f fd ["_law_script"] (spLaw K) := by
  have G_start : FnOk P w K mg base CX0 1 T.f_start T.d_start ["_law_script"] (spStart K) := ok_start T
  have G_draw : FnOk P w K mg base CX0 1 T.f_draw T.d_draw ["_law_state", "_law_size"] spDraw := ok_draw T
  have G_fraction : FnOk P w K mg base CX0 2 T.f_fraction T.d_fraction ["_law_state"] spFraction := ok_fraction T
  have G_plus : FnOk P w K mg base CX0 2 T.f_plus T.d_plus ["_law_one", "_law_two"] spPlus := ok_plus T
  have G_minus : FnOk P w K mg base CX0 3 T.f_minus T.d_minus ["_law_one", "_law_two"] spMinus := ok_minus T
  have G_times : FnOk P w K mg base CX0 2 T.f_times T.d_times ["_law_one", "_law_two"] spTimes := ok_times T
  have G_value : FnOk P w K mg base CX0 3 T.f_value T.d_value ["_law_state", "_law_pair"] (spValue T.f_Ratio) := ok_value T
  have G_is : FnOk P w K mg base CX0 3 T.f_is T.d_is ["_law_actual", "_law_pair"] (spIs T.f_Ratio) := ok_is T
  have G_Ratio_init : FnOk P w K mg base CX0 1 T.f_Ratio_init T.d_Ratio_init ["self", "top", "bottom"] (spInit T.f_Ratio) := ok_init T
  have G_Ratio_add : FnOk P w K mg base CX0 4 T.f_Ratio_add T.d_Ratio_add ["self", "other"] (spAdd T.f_Ratio) := ok_add T
  have G_Ratio_radd : FnOk P w K mg base CX0 5 T.f_Ratio_radd T.d_Ratio_radd ["self", "other"] (spRadd T.f_Ratio) := ok_radd T
  have G_Ratio_sub : FnOk P w K mg base CX0 5 T.f_Ratio_sub T.d_Ratio_sub ["self", "other"] (spSub T.f_Ratio) := ok_sub T
  have G_Ratio_rsub : FnOk P w K mg base CX0 5 T.f_Ratio_rsub T.d_Ratio_rsub ["self", "other"] (spRsub T.f_Ratio) := ok_rsub T
  have G_Ratio_mul : FnOk P w K mg base CX0 4 T.f_Ratio_mul T.d_Ratio_mul ["self", "other"] (spMul T.f_Ratio) := ok_mul T
  have G_Ratio_rmul : FnOk P w K mg base CX0 5 T.f_Ratio_rmul T.d_Ratio_rmul ["self", "other"] (spRmul T.f_Ratio) := ok_rmul T
  have G_Ratio_neg : FnOk P w K mg base CX0 3 T.f_Ratio_neg T.d_Ratio_neg ["self"] (spNeg T.f_Ratio) := ok_neg T
  have G_Ratio_eq : FnOk P w K mg base CX0 1 T.f_Ratio_eq T.d_Ratio_eq ["self", "other"] (spEqB T.f_Ratio) := ok_eqB T
  have GO_Ratio_eq : FnOk P w K mg base CX0 1 T.f_Ratio_eq T.d_Ratio_eq ["self", "other"] (spEqO K T.f_Ratio) := ok_eqO T
  have G_Ratio_str : FnOk P w K mg base CX0 2 T.f_Ratio_str T.d_Ratio_str ["self"] (spStr T.f_Ratio) := ok_str T
  have G_Ratio_below : FnOk P w K mg base CX0 4 T.f_Ratio_below T.d_Ratio_below ["self", "value"] (spBelow T.f_Ratio) := ok_below T
  have G_over : FnOk P w K mg base CX0 8 T.f_over T.d_over ["_law_a", "_law_divisor", "_law_one", "_law_two"] (spTri T.f_Ratio) := ok_lover T
  have G_quotients : FnOk P w K mg base CX0 9 T.f_quotients T.d_quotients ["_law_a", "_law_b", "_law_one", "_law_two"] (spTri T.f_Ratio) := ok_quotients T
  have G_in_place : FnOk P w K mg base CX0 6 T.f_in_place T.d_in_place ["_law_a", "_law_b", "_law_one", "_law_two"] (spTri T.f_Ratio) := ok_in_place T
  refine F.ok sc_law (fun vs H Q E h => ?_) (fun cdv A outer s H vs Q E hr h => ?_)
  · obtain ⟨a, ns, rfl, _⟩ := h
    rfl
  · obtain ⟨a0, ns, rfl, hS, hlen, k⟩ := h
    refine ⟨_, (pss_cons (ps_set (i := 1) sc_law.nd rfl (Or.inl rfl) (pe_call G_start (hr.mono (by decide)) rfl T.m_start T.F_start.kp T.b_start .nil pass0 (pa_cons (pv 0) pa_nil)))
    (pss_cons (ps_set (i := 2) sc_law.nd rfl (Or.inl rfl) (pe_call G_fraction (hr.mono (by decide)) rfl T.m_fraction T.F_fraction.kp T.b_fraction .nil pass0 (pa_cons (pv 1) pa_nil)))
    (pss_cons (ps_set (i := 3) sc_law.nd rfl (Or.inl rfl) (pe_call G_fraction (hr.mono (by decide)) rfl T.m_fraction T.F_fraction.kp T.b_fraction .nil pass0 (pa_cons (pv 1) pa_nil)))
    (C8.pss_cut (ps_if (pt_cmpR op_eq (pe_call G_draw (hr.mono (by decide)) rfl T.m_draw T.F_draw.kp T.b_draw .nil pass0 (pa_cons (pv 1) (pa_cons pe_int pa_nil))) pe_int (nomark _))
      (pss_one (ps_set (i := 3) sc_law.nd rfl (Or.inl rfl) (pv 2)))
      pss_nil)
    (C8.pss_cut (ps_if (pt_cmpR op_eq (pe_call G_draw (hr.mono (by decide)) rfl T.m_draw T.F_draw.kp T.b_draw .nil pass0 (pa_cons (pv 1) (pa_cons pe_int pa_nil))) pe_int (nomark _))
      (pss_cons (ps_set (i := 4) sc_law.nd rfl (Or.inl rfl) (pe_op op_add (pe_ix ix_list (pe_lst (pa_cons (pe_op op_pow pe_int pe_int) (pa_cons (pe_op op_pow pe_int pe_int) (pa_cons (pe_op op_pow pe_int pe_int) pa_nil)))) (pe_call G_draw (hr.mono (by decide)) rfl T.m_draw T.F_draw.kp T.b_draw .nil pass0 (pa_cons (pv 1) (pa_cons pe_int pa_nil))) (fun _ _ => rfl)) (pe_call G_draw (hr.mono (by decide)) rfl T.m_draw T.F_draw.kp T.b_draw .nil pass0 (pa_cons (pv 1) (pa_cons pe_int pa_nil)))))
    (pss_one (ps_set (i := 3) sc_law.nd rfl (Or.inl rfl) (pe_call G_plus (hr.mono (by decide)) rfl T.m_plus T.F_plus.kp T.b_plus .nil pass0 (pa_cons (pv 2) (pa_cons (pe_tup (pa_cons (pe_op op_sub pe_int (pe_op op_mul pe_int (pe_call G_draw (hr.mono (by decide)) rfl T.m_draw T.F_draw.kp T.b_draw .nil pass0 (pa_cons (pv 1) (pa_cons pe_int pa_nil))))) (pa_cons (pv 4) pa_nil))) pa_nil))))))
      pss_nil)
    (pss_cons (ps_set (i := 5) sc_law.nd rfl (Or.inl rfl) (pe_make T.mk_Ratio G_Ratio_init (hr.mono (by decide)) rfl T.m_Ratio T.b2_Ratio_init T.v2_Ratio_init pass0 (pa_cons (pe_ix ix_tup (pv 2) pe_int (fun _ _ => rfl)) (pa_cons (pe_ix ix_tup (pv 2) pe_int (fun _ _ => rfl)) pa_nil))))
    (pss_cons (ps_set (i := 6) sc_law.nd rfl (Or.inl rfl) (pe_call G_value (hr.mono (by decide)) rfl T.m_value T.F_value.kp T.b_value .nil pass0 (pa_cons (pv 1) (pa_cons (pv 3) pa_nil))))
    (pss_cons (ps_if (PW.pt (pw_or (pt_not (pt_val (pe_call G_is (hr.mono (by decide)) rfl T.m_is T.F_is.kp T.b_is .nil pass0 (pa_cons (pe_op (op_or (op_oo (nm := "add") rfl T.op_Ratio_add G_Ratio_add (hr.mono (by decide)) T.b_Ratio_add pass0) (op_oi (nm := "add") rfl T.op_Ratio_add G_Ratio_add (hr.mono (by decide)) T.b_Ratio_add pass0)) (pv 5) (pv 6)) (pa_cons (pe_call G_plus (hr.mono (by decide)) rfl T.m_plus T.F_plus.kp T.b_plus .nil pass0 (pa_cons (pv 2) (pa_cons (pv 3) pa_nil))) pa_nil))))) (pw_or1 (pt_not (pt_val (pe_call G_is (hr.mono (by decide)) rfl T.m_is T.F_is.kp T.b_is .nil pass0 (pa_cons (pe_op (op_or (op_oo (nm := "add") rfl T.op_Ratio_add G_Ratio_add (hr.mono (by decide)) T.b_Ratio_add pass0) (op_io (nm := "add") rfl dec_add T.op_Ratio_add G_Ratio_radd (hr.mono (by decide)) T.b_Ratio_radd pass0)) (pv 6) (pv 5)) (pa_cons (pe_call G_plus (hr.mono (by decide)) rfl T.m_plus T.F_plus.kp T.b_plus .nil pass0 (pa_cons (pv 2) (pa_cons (pv 3) pa_nil))) pa_nil))))))))
      (pss_one (ps_ret pe_bl))
      pss_nil)
    (pss_cons (ps_if (PW.pt (pw_or (pt_not (pt_val (pe_call G_is (hr.mono (by decide)) rfl T.m_is T.F_is.kp T.b_is .nil pass0 (pa_cons (pe_op (op_or (op_oo (nm := "sub") rfl T.op_Ratio_sub G_Ratio_sub (hr.mono (by decide)) T.b_Ratio_sub pass0) (op_oi (nm := "sub") rfl T.op_Ratio_sub G_Ratio_sub (hr.mono (by decide)) T.b_Ratio_sub pass0)) (pv 5) (pv 6)) (pa_cons (pe_call G_minus (hr.mono (by decide)) rfl T.m_minus T.F_minus.kp T.b_minus .nil pass0 (pa_cons (pv 2) (pa_cons (pv 3) pa_nil))) pa_nil))))) (pw_or1 (pt_not (pt_val (pe_call G_is (hr.mono (by decide)) rfl T.m_is T.F_is.kp T.b_is .nil pass0 (pa_cons (pe_op (op_or (op_oo (nm := "sub") rfl T.op_Ratio_sub G_Ratio_sub (hr.mono (by decide)) T.b_Ratio_sub pass0) (op_io (nm := "sub") rfl dec_sub T.op_Ratio_sub G_Ratio_rsub (hr.mono (by decide)) T.b_Ratio_rsub pass0)) (pv 6) (pv 5)) (pa_cons (pe_call G_minus (hr.mono (by decide)) rfl T.m_minus T.F_minus.kp T.b_minus .nil pass0 (pa_cons (pv 3) (pa_cons (pv 2) pa_nil))) pa_nil))))))))
      (pss_one (ps_ret pe_bl))
      pss_nil)
    (pss_cons (ps_if (PW.pt (pw_or (pt_not (pt_val (pe_call G_is (hr.mono (by decide)) rfl T.m_is T.F_is.kp T.b_is .nil pass0 (pa_cons (pe_op (op_or (op_oo (nm := "mul") rfl T.op_Ratio_mul G_Ratio_mul (hr.mono (by decide)) T.b_Ratio_mul pass0) (op_oi (nm := "mul") rfl T.op_Ratio_mul G_Ratio_mul (hr.mono (by decide)) T.b_Ratio_mul pass0)) (pv 5) (pv 6)) (pa_cons (pe_call G_times (hr.mono (by decide)) rfl T.m_times T.F_times.kp T.b_times .nil pass0 (pa_cons (pv 2) (pa_cons (pv 3) pa_nil))) pa_nil))))) (pw_or1 (pt_not (pt_val (pe_call G_is (hr.mono (by decide)) rfl T.m_is T.F_is.kp T.b_is .nil pass0 (pa_cons (pe_op (op_or (op_oo (nm := "mul") rfl T.op_Ratio_mul G_Ratio_mul (hr.mono (by decide)) T.b_Ratio_mul pass0) (op_io (nm := "mul") rfl dec_mul T.op_Ratio_mul G_Ratio_rmul (hr.mono (by decide)) T.b_Ratio_rmul pass0)) (pv 6) (pv 5)) (pa_cons (pe_call G_times (hr.mono (by decide)) rfl T.m_times T.F_times.kp T.b_times .nil pass0 (pa_cons (pv 2) (pa_cons (pv 3) pa_nil))) pa_nil))))))))
      (pss_one (ps_ret pe_bl))
      pss_nil)
    (pss_cons (ps_if (PW.pt (pw_or (pt_not (pt_val (pe_call G_is (hr.mono (by decide)) rfl T.m_is T.F_is.kp T.b_is .nil pass0 (pa_cons (pe_un (un_negO T.a_Ratio_neg T.i_Ratio_neg G_Ratio_neg (hr.mono (by decide)) T.b_Ratio_neg pass0) (pv 5)) (pa_cons (pe_tup (pa_cons (pe_un un_neg (pe_ix ix_tup (pv 2) pe_int (fun _ _ => rfl))) (pa_cons (pe_ix ix_tup (pv 2) pe_int (fun _ _ => rfl)) pa_nil))) pa_nil))))) (pw_or (pt_not (pt_val (pe_call G_quotients (hr.mono (by decide)) rfl T.m_quotients T.F_quotients.kp T.b_quotients .nil pass0 (pa_cons (pv 5) (pa_cons (pv 6) (pa_cons (pv 2) (pa_cons (pv 3) pa_nil))))))) (pw_or1 (pt_not (pt_val (pe_call G_in_place (hr.mono (by decide)) rfl T.m_in_place T.F_in_place.kp T.b_in_place .nil pass0 (pa_cons (pv 5) (pa_cons (pv 6) (pa_cons (pv 2) (pa_cons (pv 3) pa_nil)))))))))))
      (pss_one (ps_ret pe_bl))
      pss_nil)
    (pss_cons (ps_set (i := 7) sc_law.nd rfl (Or.inl rfl) (pe_make T.mk_Ratio G_Ratio_init (hr.mono (by decide)) rfl T.m_Ratio T.b2_Ratio_init T.v2_Ratio_init pass0 (pa_cons (pe_ix ix_tup (pv 3) pe_int (fun _ _ => rfl)) (pa_cons (pe_ix ix_tup (pv 3) pe_int (fun _ _ => rfl)) pa_nil))))
    (pss_cons (ps_if (PW.pt (pw_or (pt_cmpR op_ne (pe_cmpR (cmp_own T.a_Ratio_eq T.i_Ratio_eq G_Ratio_eq (hr.mono (by decide)) T.b_Ratio_eq pass0) (pv 5) (pv 7) (nomark _)) (pe_cmpR (op_eqD hr.units) (pv 2) (pv 3) (nomark _)) (nomark _)) (pw_or (pt_cmpR op_ne (pe_cmpR (cmp_own T.a_Ratio_eq T.i_Ratio_eq G_Ratio_eq (hr.mono (by decide)) T.b_Ratio_eq pass0) (pv 7) (pv 5) (nomark _)) (pe_cmpR (op_eqD hr.units) (pv 2) (pv 3) (nomark _)) (nomark _)) (pw_or1 (pt_cmpR op_eq (pe_cmpR (ne_own T.none_Ratio G_Ratio_eq (hr.mono (by decide)) T.b_Ratio_eq pass0) (pv 5) (pv 7) (nomark _)) (pe_cmpR (op_eqD hr.units) (pv 2) (pv 3) (nomark _)) (nomark _))))))
      (pss_one (ps_ret pe_bl))
      pss_nil)
    (pss_cons (ps_if (pt_cmpR (in_own T.oth_Ratio GO_Ratio_eq (hr.mono (by decide)) T.b_Ratio_eq pass0) (pv 5) (pe_lst (pa_cons (pe_ix ix_tup (pv 2) pe_int (fun _ _ => rfl)) (pa_cons (pe_callTy (call_strO T.a_Ratio_str T.i_Ratio_str G_Ratio_str (hr.mono (by decide)) T.b_Ratio_str pass0) (by rfl) T.n_str (by decide +kernel) (pa_cons (pv 5) pa_nil)) (pa_cons pe_non (pa_cons (pv 2) (pa_cons (pe_lst (pa_cons (pe_ix ix_tup (pv 2) pe_int (fun _ _ => rfl)) (pa_cons (pe_ix ix_tup (pv 2) pe_int (fun _ _ => rfl)) pa_nil))) pa_nil)))))) rfl)
      (pss_one (ps_ret pe_bl))
      pss_nil)
    (pss_cons (ps_if (PW.pt (pw_or (pt_not (pt_val (pe_call G_over (hr.mono (by decide)) rfl T.m_over T.F_over.kp T.b_over .nil pass0 (pa_cons (pv 5) (pa_cons (pe_make T.mk_Ratio G_Ratio_init (hr.mono (by decide)) rfl T.m_Ratio T.b2_Ratio_init T.v2_Ratio_init pass0 (pa_cons pe_int (pa_cons pe_int pa_nil))) (pa_cons (pv 2) (pa_cons (pe_tup (pa_cons pe_int (pa_cons pe_int pa_nil))) pa_nil))))))) (pw_or1 (pt_not (pt_val (pe_call G_over (hr.mono (by decide)) rfl T.m_over T.F_over.kp T.b_over .nil pass0 (pa_cons (pv 5) (pa_cons pe_int (pa_cons (pv 2) (pa_cons (pe_tup (pa_cons pe_int (pa_cons pe_int pa_nil))) pa_nil))))))))))
      (pss_one (ps_ret pe_bl))
      pss_nil)
    (pss_one (ps_ret (pe_and (pe_call G_is (hr.mono (by decide)) rfl T.m_is T.F_is.kp T.b_is .nil pass0 (pa_cons (pv 5) (pa_cons (pv 2) pa_nil))) (pe_and (pe_call G_is (hr.mono (by decide)) rfl T.m_is T.F_is.kp T.b_is .nil pass0 (pa_cons (pv 7) (pa_cons (pv 3) pa_nil))) (pe_one (pe_cmpR op_isB (pe_meth (pv 5) T.cl_Ratio T.me_Ratio_below G_Ratio_below (hr.mono (by decide)) T.b_Ratio_below .nil pass0 (pa_cons (pv 5) pa_nil)) pe_bl (nomark _)))))))))))))))))))))), ?_⟩
    have z2 : 2 ≤ sizeLine := by decide
    have z3 : 3 ≤ sizeLine := by decide
    refine ⟨_, rfl, a0, ns, rfl, hS, hlen, fun st H1 d1 => ?_⟩
    refine ⟨_, rfl, st, H, 0, rfl, d1, by decide, fun q1 t b H2 p1 l1 tb bb d2 => ?_⟩
    obtain ⟨G2, e2, sg2, k2⟩ := d2.grow
    refine ⟨_, rfl, st, G2, 5, rfl, e2, by decide, fun q2 t0 b0 H3 p2 l2 tb2 bb2 d3 => ?_⟩
    obtain ⟨G3, e3, sg3, k3⟩ := d3.grow
    have P1 := (p1.ins k2).on sg3
    have P2 := p2.ins k3
    have f1 : Fine (t, b) := ⟨l1, Nat.lt_of_le_of_lt tb (by decide +kernel), Nat.lt_of_le_of_lt bb (by decide +kernel)⟩
    refine ⟨fun σ H' => ∃ (q2 : Addr) (t' b' : Int), σ = [some (.ref a0), some (.ref st), some (.ref q1), some (.ref q2), none, none, none, none] ∧ PairAt G3 q2 t' b' ∧ Low t' b' ∧ t'.natAbs ≤ 10 ^ 20 ∧ b'.natAbs ≤ 1000 ∧ DSt G3 H' st 11, ?_, ?_⟩
    · refine ⟨_, rfl, G3, st, 10, 5, rfl, e3, by decide, by decide, by decide, fun r H4 _ _ d4 => ⟨rfl, _, rfl, ite2 (fun _ => ?_) fun _ => ?_⟩⟩
      · exact ⟨_, rfl, q1, t, b, rfl, P1, l1, tb, bb, d4⟩
      · exact ⟨q2, t0, b0, rfl, P2, l2, tb2, bb2, d4⟩
    rintro σ H4 ⟨q2, t', b', rfl, P2, l2, tb2, bb2, d4⟩
    refine ⟨fun σ H' => ∃ (q2 : Addr) (t' b' : Int) (x4 : Option V) (G : Hp), σ = [some (.ref a0), some (.ref st), some (.ref q1), some (.ref q2), x4, none, none, none] ∧ PairAt G q1 t b ∧ PairAt G q2 t' b' ∧ Low t' b' ∧ t'.natAbs < 10 ^ 50 ∧ b'.natAbs < 10 ^ 50 ∧ DSt G H' st 20, ?_, ?_⟩
    · refine ⟨_, rfl, G3, st, 11, 4, rfl, d4, by decide, by decide, by decide, fun r H5 _ _ d5 => ⟨rfl, _, rfl, ite2 (fun _ => ?_) fun _ => ?_⟩⟩
      · refine ⟨10, 6, rfl, rfl, ⟨by decide, by decide, by decide⟩, 10, 12, rfl, rfl, ⟨by decide, by decide, by decide⟩, 10, 24, rfl, rfl, ⟨by decide, by decide, by decide⟩, z3, fun l hl => ?_⟩
        refine ⟨_, rfl, _, st, 12, 3, rfl, d5.new hl, by decide, by decide, by decide, fun r2 H6 r20 r21 d6 => ?_⟩
        obtain ⟨v, ev, v0, v1⟩ := nears r20 r21
        refine ⟨l, _, r2, .int v, rfl, rfl, SqL.of (d6.same _ _ upd_same), ev, ?_⟩
        have d6' := d6.less (same_upd (d5.free hl))
        refine ⟨_, rfl, G3, st, 13, 1000, rfl, d6', by decide, by decide, by decide, fun r3 H7 r30 r31 d7 => ?_⟩
        refine ⟨_, _, rfl, rfl, ?_⟩
        refine ⟨_, rfl, _, rfl, G3, st, 14, 2, rfl, d7, by decide, by decide, by decide, fun r4 H8 r40 r41 d8 => ?_⟩
        refine ⟨2, r4, rfl, rfl, .inl ⟨by decide, by decide⟩, 1, _, rfl, rfl, _, rfl, z2, fun o ho => ?_⟩
        have hs : (1 - 2 * r4).natAbs ≤ 1 := by omega
        have hv : (v + r3).natAbs ≤ 10 ^ 25 := by omega
        have hv0 : v + r3 ≠ 0 := by omega
        have nb := near_bd tb bb hs hv
        have nz : b * (v + r3) ≠ 0 := Int.mul_ne_zero l1.ne hv0
        refine ⟨q1, o, t, b, 1 - 2 * r4, v + r3, rfl, (P1.on d8.same).on (same_upd ho), upd_same, f1.2.1, f1.2.2, Nat.lt_of_le_of_lt hs (by decide +kernel), Nat.lt_of_le_of_lt hv (by decide +kernel), l1.ne, hv0, fun y H9 ny s9 py => ?_⟩
        obtain ⟨G9, e9, sg9, k9⟩ := ((d8.on (same_upd (o := .tup [V.int (1 - 2 * r4), V.int (v + r3)]) ho)).on s9).grow
        exact ⟨y, _, _, _, G9, rfl, P1.on sg9, py.ins k9, Low.of nz, Nat.lt_of_le_of_lt (lowT_le nz) nb.1, Nat.lt_of_le_of_lt (lowB_le nz) nb.2, e9.mono (by decide)⟩
      · exact ⟨q2, t', b', none, G3, rfl, P1, P2, l2, Nat.lt_of_le_of_lt tb2 (by decide +kernel), Nat.lt_of_le_of_lt bb2 (by decide +kernel), d5.mono (by decide)⟩
    clear d4 tb2 bb2 l2 P2
    rintro σ H5 ⟨q2, t', b', x4, G, rfl, P1, P2, l2, tb2, bb2, d5⟩
    have f2 : Fine (t', b') := ⟨l2, b50 tb2, b50 bb2⟩
    -- the two
    have p15 := P1.on d5.same
    refine ⟨_, rfl, q1, _, 0, .int t, rfl, rfl, SqT.of p15, rfl, _, rfl, q1, _, 1, .int b, rfl, rfl, SqT.of p15, rfl, fun a dx0 nx ndx ne => ⟨a, dx0, t, b, rfl, upd_same, l1.ne, f1.2.2.big, fun H6 r6 e6 => ⟨rfl, ?_⟩⟩⟩
    have s6 := Same.made nx ndx e6
    rw [l1.tt, l1.bb] at r6
    obtain ⟨G6, d6, sg6, k6⟩ := (d5.on s6).grow
    refine ⟨_, rfl, _, rfl, st, q2, t', b', G6, 20, rfl, P2.on sg6, f2, d6, by decide, fun y H7 n _ d7 => ?_⟩
    have ra := (r6.ins k6).on d7.same
    have p1 := (P1.on sg6).on d7.same
    have p2 := (P2.on sg6).on d7.same
    obtain ⟨dx, ha⟩ := id ra
    clear d7 d6 k6 sg6 r6 e6 s6 p15 d5 P1 P2
    -- sums
    refine ⟨_, rfl, _, rfl, or_num ha n ?_⟩
    refine ⟨a, y, t, b, t', b', rfl, ra, n, f1.2.1, f1.2.2, f2.2.1, f2.2.2, l1.ne, l2.ne, fun x1 G1 n1 s1 r1 => ?_⟩
    refine ⟨_, rfl, _, rfl, q1, q2, t, b, t', b', rfl, p1.on s1, p2.on s1, f1.2.1, f1.2.2, f2.2.1, f2.2.2, l1.ne, l2.ne, fun y1 G2 m1 s2 o1 => ?_⟩
    refine ⟨x1, y1, _, _, rfl, r1.on s2, o1, fun G3 s3 => ⟨_, rfl, iteF ?_⟩⟩
    have S3 := (s1.trans s2).trans s3
    refine ⟨_, rfl, _, rfl, add_r (ra.on S3) (n.on S3) f1 f2 fun x2 G4 n2 s4 r2 => ?_⟩
    have S4 := S3.trans s4
    refine ⟨_, rfl, _, rfl, q1, q2, t, b, t', b', rfl, p1.on S4, p2.on S4, f1.2.1, f1.2.2, f2.2.1, f2.2.2, l1.ne, l2.ne, fun y2 G5 m2 s5 o2 => ?_⟩
    refine ⟨x2, y2, _, _, rfl, r2.on s5, o2, fun G6 s6 => ⟨_, rfl, iteF ?_⟩⟩
    have S6 := (S4.trans s5).trans s6
    clear r1 o1 r2 o2
    -- differences
    refine ⟨_, rfl, _, rfl, or_num (S6 _ _ ha) (n.on S6) ?_⟩
    refine ⟨a, y, t, b, t', b', rfl, ra.on S6, n.on S6, f1.2.1, f1.2.2, f2.2.1, f2.2.2, l1.ne, l2, fun x3 G7 n3 s7 r3 => ?_⟩
    have S7 := S6.trans s7
    refine ⟨_, rfl, _, rfl, q1, q2, t, b, t', b', rfl, p1.on S7, p2.on S7, f1.2.1, f1.2.2, f2.2.1, f2.2.2, l1.ne, l2.ne, fun y3 G8 m3 s8 o3 => ?_⟩
    refine ⟨x3, y3, _, _, rfl, r3.on s8, o3, fun G9 s9 => ⟨_, rfl, iteF ?_⟩⟩
    have S9 := (S7.trans s8).trans s9
    refine ⟨_, rfl, _, rfl, sub_r (ra.on S9) (n.on S9) f1 f2 fun x4 G10 n4 s10 r4 => ?_⟩
    have S10 := S9.trans s10
    refine ⟨_, rfl, _, rfl, q2, q1, t', b', t, b, rfl, p2.on S10, p1.on S10, f2.2.1, f2.2.2, f1.2.1, f1.2.2, l2.ne, l1.ne, fun y4 G11 m4 s11 o4 => ?_⟩
    refine ⟨x4, y4, _, _, rfl, r4.on s11, o4, fun G12 s12 => ⟨_, rfl, iteF ?_⟩⟩
    have S12 := (S10.trans s11).trans s12
    -- products
    refine ⟨_, rfl, _, rfl, or_num (S12 _ _ ha) (n.on S12) ?_⟩
    refine ⟨a, y, t, b, t', b', rfl, ra.on S12, n.on S12, f1.2.1, f1.2.2, f2.2.1, f2.2.2, l1.ne, l2.ne, fun x5 G13 n5 s13 r5 => ?_⟩
    have S13 := S12.trans s13
    refine ⟨_, rfl, _, rfl, q1, q2, t, b, t', b', rfl, p1.on S13, p2.on S13, f1.2.1, f1.2.2, f2.2.1, f2.2.2, l1.ne, l2.ne, fun y5 G14 m5 s14 o5 => ?_⟩
    refine ⟨x5, y5, _, _, rfl, r5.on s14, o5, fun G15 s15 => ⟨_, rfl, iteF ?_⟩⟩
    have S15 := (S13.trans s14).trans s15
    refine ⟨_, rfl, _, rfl, mul_r (ra.on S15) (n.on S15) f1 f2 fun x6 G16 n6 s16 r6 => ?_⟩
    have S16 := S15.trans s16
    refine ⟨_, rfl, _, rfl, q1, q2, t, b, t', b', rfl, p1.on S16, p2.on S16, f1.2.1, f1.2.2, f2.2.1, f2.2.2, l1.ne, l2.ne, fun y6 G17 m6 s17 o6 => ?_⟩
    refine ⟨x6, y6, _, _, rfl, r6.on s17, o6, fun G18 s18 => ⟨_, rfl, iteF ?_⟩⟩
    have S18 := (S16.trans s17).trans s18
    clear r3 o3 r4 o4 r5 o5 r6 o6
    -- the minus, quotients, in place
    refine ⟨_, rfl, a, dx, _, rfl, S18 _ _ ha, a, t, b, rfl, ra.on S18, l1, f1.2.2, fun x7 G19 n7 s19 r7 => ?_⟩
    have S19 := S18.trans s19
    refine ⟨_, rfl, q1, _, 0, .int t, rfl, rfl, SqT.of (p1.on S19), rfl, t, rfl, _, rfl, q1, _, 1, .int b, rfl, rfl, SqT.of (p1.on S19), rfl, z2, fun o7 ho7 => ?_⟩
    have s20 := same_upd (o := .tup [V.int (-t), V.int b]) ho7
    refine ⟨x7, o7, -t, b, rfl, r7.on s20, upd_same, fun G21 s21 => ⟨_, rfl, iteF ?_⟩⟩
    have S21 := (S19.trans s20).trans s21
    refine ⟨_, rfl, _, rfl, _, rfl, _, rfl, a, y, q1, q2, t, b, t', b', rfl, ra.on S21, n.on S21, p1.on S21, p2.on S21, f1, f2, fun G22 s22 => ⟨_, rfl, iteF ?_⟩⟩
    have S22 := S21.trans s22
    refine ⟨_, rfl, _, rfl, _, rfl, _, rfl, a, y, q1, q2, t, b, t', b', rfl, ra.on S22, n.on S22, p1.on S22, p2.on S22, f1, f2, fun G23 s23 => ⟨_, rfl, iteF ?_⟩⟩
    have S23 := S22.trans s23
    -- the other
    refine ⟨_, rfl, q2, _, 0, .int t', rfl, rfl, SqT.of (p2.on S23), rfl, _, rfl, q2, _, 1, .int b', rfl, rfl, SqT.of (p2.on S23), rfl, fun o dx1 nx1 ndx1 ne1 => ⟨o, dx1, t', b', rfl, upd_same, l2.ne, f2.2.2.big, fun G24 ro e24 => ⟨rfl, ?_⟩⟩⟩
    have s24 := Same.made nx1 ndx1 e24
    rw [l2.tt, l2.bb] at ro
    have S24 := S23.trans s24
    have ra24 := ra.on S24
    have p124 := p1.on S24
    have p224 := p2.on S24
    obtain ⟨do_, ho⟩ := id ro
    refine ⟨_, rfl, _, rfl, a, dx, _, o, do_, _, rfl, rfl, S24 _ _ ha, ho, a, o, t, b, t', b', rfl, ra24, ro, _, rfl, _, rfl, dat2 t b, dat2 t' b', dp2 p124, dp2 p224, sh2 _ _, sh2 _ _, rfl, _, rfl, iteNS (by rw [eqv2]) ?_⟩
    refine ⟨_, rfl, _, rfl, o, do_, _, a, dx, _, rfl, rfl, ho, S24 _ _ ha, o, a, t', b', t, b, rfl, ro, ra24, _, rfl, _, rfl, dat2 t b, dat2 t' b', dp2 p124, dp2 p224, sh2 _ _, sh2 _ _, rfl, _, rfl, iteNS (by
      rw [eqv2]
      exact congrArg V.bl (decide_eq_decide.mpr ⟨fun h => ⟨h.1.symm, h.2.symm⟩, fun h => ⟨h.1.symm, h.2.symm⟩⟩)) ?_⟩
    refine ⟨_, rfl, _, rfl, a, dx, _, o, do_, _, rfl, rfl, S24 _ _ ha, ho, a, o, t, b, t', b', rfl, ra24, ro, _, rfl, _, rfl, _, rfl, dat2 t b, dat2 t' b', dp2 p124, dp2 p224, sh2 _ _, sh2 _ _, rfl, _, rfl, ite2 (fun z => ?_) fun _ => ?_⟩
    · exfalso
      have e := of_decide_eq_true z
      injection e with e
      rw [eqv2] at e
      cases h : decide (t = t' ∧ b = b') <;> rw [h] at e <;> cases e
    -- among other things
    refine ⟨_, rfl, _, rfl, q1, _, 0, .int t, rfl, rfl, SqT.of p124, rfl, _, rfl, a, dx, _, rfl, S24 _ _ ha, a, t, b, rfl, ra24, b64' tb, Nat.lt_of_le_of_lt bb (by decide +kernel), fun G25 s25 => ⟨_, rfl, _, rfl, ?_⟩⟩
    have S25 := S24.trans s25
    have p125 := p1.on S25
    refine ⟨_, rfl, q1, _, 0, .int t, rfl, rfl, SqT.of p125, rfl, _, rfl, q1, _, 1, .int b, rfl, rfl, SqT.of p125, rfl, z2, fun m1 hm1 => ⟨by show 5 ≤ sizeLine; decide, fun m2 hm2 => ?_⟩⟩
    have s26 := same_upd (o := .lst [V.int t, V.int b]) hm1
    refine ⟨a, dx, _, m2, _, rfl, rfl, same_upd hm2 _ _ (s26 _ _ (S25 _ _ ha)), upd_same, fun z hz => ?_, _, rfl, iteF ?_⟩
    · have hq : ∀ o, (upd (upd G25 m1 (.lst [V.int t, V.int b])) m2 o) q1 = some (.tup [.int t, .int b]) := fun o => same_upd hm2 _ _ (s26 _ _ p125)
      have hm : ∀ o, (upd (upd G25 m1 (.lst [V.int t, V.int b])) m2 o) m1 = some (.lst [.int t, .int b]) := fun o => same_upd hm2 _ _ upd_same
      simp only [List.mem_cons, List.not_mem_nil, or_false] at hz
      rcases hz with rfl | rfl | rfl | rfl | rfl
      · exact ⟨.inl ⟨_, rfl⟩, a, _, _, rfl, .base (.int _), T.ki_Ratio_int, rfl, rfl⟩
      · exact ⟨.inr (.inl ⟨_, rfl⟩), a, _, _, rfl, .base (.str _), T.ki_Ratio_str, rfl, rfl⟩
      · exact ⟨.inr (.inr (.inl rfl)), a, _, _, rfl, .base .non, T.ki_Ratio_NoneType, rfl, rfl⟩
      · exact ⟨.inr (.inr (.inr (.inl ⟨q1, _, rfl, hq _⟩))), a, _, _, rfl, .base (.tup (hq _)), T.ki_Ratio_tuple, rfl, rfl⟩
      · exact ⟨.inr (.inr (.inr (.inr ⟨m1, _, rfl, hm _⟩))), a, _, _, rfl, .base (.lst (hm _)), T.ki_Ratio_list, rfl, rfl⟩
    have S27 := (S25.trans s26).trans (same_upd (o := .lst [V.int t, .str (ratText t b), .non, .ref q1, .ref m1]) hm2)
    have ro27 := ((ro.on s25).on s26).on (same_upd (o := .lst [V.int t, .str (ratText t b), .non, .ref q1, .ref m1]) hm2)
    -- over nought
    have f0 : Fine (0, 1) := ⟨Low.one 0, by show (0 : Nat) < 2 ^ 200; decide +kernel, sm_one⟩
    have e07 : lowT 0 7 = 0 ∧ lowB 0 7 = 1 := by decide +kernel
    refine ⟨_, rfl, fun x8 dx8 nx8 ndx8 ne8 => ⟨x8, dx8, 0, 7, rfl, upd_same, by decide, (b50 (by decide +kernel)).big, fun G28 r8 e28 => ⟨rfl, _, rfl, z2, fun o8 ho8 => ?_⟩⟩⟩
    have s28 := Same.made nx8 ndx8 e28
    rw [e07.1, e07.2] at r8
    have s29 := same_upd (o := .tup [V.int 0, V.int 1]) ho8
    have S29 := (S27.trans s28).trans s29
    refine ⟨a, .ref x8, q1, o8, t, b, 0, 1, rfl, ra.on S29, .inr ⟨x8, rfl, r8.on s29⟩, p1.on S29, upd_same, f1, f0, fun G30 s30 => ⟨_, rfl, iteF ?_⟩⟩
    have S30 := S29.trans s30
    refine ⟨_, rfl, _, rfl, z2, fun o9 ho9 => ?_⟩
    have s31 := same_upd (o := .tup [V.int 0, V.int 1]) ho9
    have S31 := S30.trans s31
    refine ⟨a, .int 0, q1, o9, t, b, 0, 1, rfl, ra.on S31, .inl ⟨rfl, rfl⟩, p1.on S31, upd_same, f1, f0, fun G32 s32 => ⟨_, rfl, iteF ?_⟩⟩
    have S32 := S31.trans s32
    have ro32 := ((((ro27.on s28).on s29).on s30).on s31).on s32
    -- unchanged
    refine ⟨_, rfl, _, rfl, a, q1, t, b, rfl, ra.on S32, p1.on S32, fun G33 s33 => ⟨true, rfl, iteT ?_⟩⟩
    have S33 := S32.trans s33
    refine ⟨_, rfl, _, rfl, o, q2, t', b', rfl, ro32.on s33, p2.on S33, fun G34 s34 => ⟨true, rfl, iteT ?_⟩⟩
    have S34 := S33.trans s34
    refine ⟨_, rfl, a, dx, _, rfl, S34 _ _ ha, rf_below _ _, _, rfl, a, .ref a, t, b, t, b, rfl, ra.on S34, .inr ⟨a, rfl, ra.on S34⟩, f1.2.1, f1.2.2, f1.2.1, f1.2.2, fun G35 s35 => ⟨_, false, rfl, rfl, ?_⟩⟩
    rw [decide_eq_false (Int.lt_irrefl _)]
    exact k G35
end

set_option maxHeartbeats 0 in
theorem all_mk {l : PySem.W.OpenLaw} {w : World} {K : PySem.W.Frag} {h : Heap} {mg : Str → Option Value} {f_OutOfRange f_Ratio f_as_ratio f_numeral f_start f_draw f_low f_plus f_times f_less f_is f_value f_fraction f_minus f_over f_quotients f_in_place f_OutOfRange_init f_Ratio_init dT_Ratio_init f_Ratio_top p_Ratio_top f_Ratio_bottom p_Ratio_bottom f_Ratio_over f_Ratio_below f_Ratio_neg f_Ratio_add f_Ratio_radd f_Ratio_sub f_Ratio_rsub f_Ratio_mul f_Ratio_rmul f_Ratio_eq f_Ratio_str fa f_law : Addr} {od_as_ratio an_as_ratio od_numeral an_numeral od_start an_start od_draw an_draw od_low an_low od_plus an_plus od_times an_times od_less an_less od_is an_is od_value an_value od_fraction an_fraction od_minus an_minus od_over an_over od_quotients an_quotients od_in_place an_in_place od_OutOfRange_init an_OutOfRange_init od_Ratio_init an_Ratio_init dd0_Ratio_init od_Ratio_top an_Ratio_top od_Ratio_bottom an_Ratio_bottom od_Ratio_over an_Ratio_over od_Ratio_below an_Ratio_below od_Ratio_neg an_Ratio_neg od_Ratio_add an_Ratio_add od_Ratio_radd an_Ratio_radd od_Ratio_sub an_Ratio_sub od_Ratio_rsub an_Ratio_rsub od_Ratio_mul an_Ratio_mul od_Ratio_rmul an_Ratio_rmul od_Ratio_eq an_Ratio_eq od_Ratio_str an_Ratio_str od_law an_law : Option Addr} {sl_as_ratio sl_numeral sl_start sl_draw sl_low sl_plus sl_times sl_less sl_is sl_value sl_fraction sl_minus sl_over sl_quotients sl_in_place sl_OutOfRange_init sl_Ratio_init ds_Ratio_init sl_Ratio_top sl_Ratio_bottom sl_Ratio_over sl_Ratio_below sl_Ratio_neg sl_Ratio_add sl_Ratio_radd sl_Ratio_sub sl_Ratio_rsub sl_Ratio_mul sl_Ratio_rmul sl_Ratio_eq sl_Ratio_str sl_law : Array (Option Value)} {oc_as_ratio kV_as_ratio dc_as_ratio pm_as_ratio cd_as_ratio ct_as_ratio oc_numeral kV_numeral dc_numeral pm_numeral cd_numeral ct_numeral oc_start kV_start dc_start pm_start cd_start ct_start oc_draw kV_draw dc_draw pm_draw cd_draw ct_draw oc_low kV_low dc_low pm_low cd_low ct_low oc_plus kV_plus dc_plus pm_plus cd_plus ct_plus oc_times kV_times dc_times pm_times cd_times ct_times oc_less kV_less dc_less pm_less cd_less ct_less oc_is kV_is dc_is pm_is cd_is ct_is oc_value kV_value dc_value pm_value cd_value ct_value oc_fraction kV_fraction dc_fraction pm_fraction cd_fraction ct_fraction oc_minus kV_minus dc_minus pm_minus cd_minus ct_minus oc_over kV_over dc_over pm_over cd_over ct_over oc_quotients kV_quotients dc_quotients pm_quotients cd_quotients ct_quotients oc_in_place kV_in_place dc_in_place pm_in_place cd_in_place ct_in_place oc_OutOfRange_init kV_OutOfRange_init dc_OutOfRange_init pm_OutOfRange_init cd_OutOfRange_init ct_OutOfRange_init oc_Ratio_init kV_Ratio_init dc_Ratio_init pm_Ratio_init cd_Ratio_init ct_Ratio_init dc0_Ratio_init oc_Ratio_top kV_Ratio_top dc_Ratio_top pm_Ratio_top cd_Ratio_top ct_Ratio_top oc_Ratio_bottom kV_Ratio_bottom dc_Ratio_bottom pm_Ratio_bottom cd_Ratio_bottom ct_Ratio_bottom oc_Ratio_over kV_Ratio_over dc_Ratio_over pm_Ratio_over cd_Ratio_over ct_Ratio_over oc_Ratio_below kV_Ratio_below dc_Ratio_below pm_Ratio_below cd_Ratio_below ct_Ratio_below oc_Ratio_neg kV_Ratio_neg dc_Ratio_neg pm_Ratio_neg cd_Ratio_neg ct_Ratio_neg oc_Ratio_add kV_Ratio_add dc_Ratio_add pm_Ratio_add cd_Ratio_add ct_Ratio_add oc_Ratio_radd kV_Ratio_radd dc_Ratio_radd pm_Ratio_radd cd_Ratio_radd ct_Ratio_radd oc_Ratio_sub kV_Ratio_sub dc_Ratio_sub pm_Ratio_sub cd_Ratio_sub ct_Ratio_sub oc_Ratio_rsub kV_Ratio_rsub dc_Ratio_rsub pm_Ratio_rsub cd_Ratio_rsub ct_Ratio_rsub oc_Ratio_mul kV_Ratio_mul dc_Ratio_mul pm_Ratio_mul cd_Ratio_mul ct_Ratio_mul oc_Ratio_rmul kV_Ratio_rmul dc_Ratio_rmul pm_Ratio_rmul cd_Ratio_rmul ct_Ratio_rmul oc_Ratio_eq kV_Ratio_eq dc_Ratio_eq pm_Ratio_eq cd_Ratio_eq ct_Ratio_eq oc_Ratio_str kV_Ratio_str dc_Ratio_str pm_Ratio_str cd_Ratio_str ct_Ratio_str oc_law kV_law dc_law pm_law cd_law ct_law : Value} {dt_Ratio_init t_PIECE t_PIECE_DIGITS : Tok} {dn_Ratio_init : Nat} {rs_Ratio_top rs_Ratio_bottom : List Value} {fo_Ratio_add ro_Ratio_add fo_Ratio_sub ro_Ratio_sub fo_Ratio_mul ro_Ratio_mul : Option Value} {cdd_Ratio : ClassData} (X : K.In h) (G : h.Ns mainGlobals mg) (hfa : mg "law" = some (.ref fa))
    (a_OutOfRange : PySem.W.nsIn K mainGlobals "OutOfRange" = some (some (.ref f_OutOfRange)))
    (a_Ratio : PySem.W.nsIn K mainGlobals "Ratio" = some (some (.ref f_Ratio)))
    (pg_Ratio : PySem.W.plainGet K f_Ratio Str.empty = true)
    (hd_Ratio : PySem.W.hasDictIn K f_Ratio = true)
    (po_Ratio : PySem.W.plainOver K f_Ratio = true)
    (sa_Ratio : PySem.W.findIn K (.ref f_Ratio) "__setattr__" = some (some (.builtin "object.__setattr__")))
    (mk_Ratio : PySem.W.makesIn K f_Ratio = true)
    (kc_Ratio : PySem.W.keepIn K (.ref f_Ratio) = true)
    (hc_Ratio : PySem.W.findIn K (.ref f_Ratio) "__class__" = some (some (.builtin "object.__class__")))
    (mo_Ratio : PySem.W.mroIn K f_Ratio (.type "object") = some true)
    (ic_Ratio : PySem.W.isClsIn K f_Ratio = true)
    (ty_Ratio : PySem.W.typeIn K (.ref f_Ratio) = some (.type "type"))
    (hn_class : PySem.W.specialIn K (.builtin "object.__class__") "__get__" = some (some (.builtin "getset_descriptor.__get__")))
    (ht_class : PySem.W.takesIn K (.builtin "object.__class__") = some true)
    (na_Ratio_top : PySem.W.findIn K (.ref f_Ratio) "_top" = some none)
    (na_Ratio_bottom : PySem.W.findIn K (.ref f_Ratio) "_bottom" = some none)
    (su_Ratio_int : PySem.W.subIn K (.type "int") (.ref f_Ratio) = some false)
    (su_Ratio_str : PySem.W.subIn K (.type "str") (.ref f_Ratio) = some false)
    (su_Ratio_NoneType : PySem.W.subIn K (.type "NoneType") (.ref f_Ratio) = some false)
    (su_Ratio_tuple : PySem.W.subIn K (.type "tuple") (.ref f_Ratio) = some false)
    (su_Ratio_list : PySem.W.subIn K (.type "list") (.ref f_Ratio) = some false)
    (a_as_ratio : PySem.W.nsIn K mainGlobals "as_ratio" = some (some (.ref f_as_ratio)))
    (l_as_ratio : K.lookup f_as_ratio = some ⟨oc_as_ratio, od_as_ratio, .func (PySem.W.fnOf "as_ratio" "as_ratio" (defArgs s_as_ratio) (defBody s_as_ratio) (defScope s_as_ratio) .none kV_as_ratio dc_as_ratio pm_as_ratio an_as_ratio cd_as_ratio ct_as_ratio), sl_as_ratio⟩)
    (c_as_ratio : PySem.W.codeIn K cd_as_ratio "as_ratio" = true)
    (k_as_ratio : PySem.W.keepIn K (.ref f_as_ratio) = true)
    (a_numeral : PySem.W.nsIn K mainGlobals "numeral" = some (some (.ref f_numeral)))
    (l_numeral : K.lookup f_numeral = some ⟨oc_numeral, od_numeral, .func (PySem.W.fnOf "numeral" "numeral" (defArgs s_numeral) (defBody s_numeral) (defScope s_numeral) .none kV_numeral dc_numeral pm_numeral an_numeral cd_numeral ct_numeral), sl_numeral⟩)
    (c_numeral : PySem.W.codeIn K cd_numeral "numeral" = true)
    (k_numeral : PySem.W.keepIn K (.ref f_numeral) = true)
    (a_start : PySem.W.nsIn K mainGlobals "_law_start" = some (some (.ref f_start)))
    (l_start : K.lookup f_start = some ⟨oc_start, od_start, .func (PySem.W.fnOf "_law_start" "_law_start" (defArgs s_start) (defBody s_start) (defScope s_start) .none kV_start dc_start pm_start an_start cd_start ct_start), sl_start⟩)
    (c_start : PySem.W.codeIn K cd_start "_law_start" = true)
    (k_start : PySem.W.keepIn K (.ref f_start) = true)
    (a_draw : PySem.W.nsIn K mainGlobals "_law_draw" = some (some (.ref f_draw)))
    (l_draw : K.lookup f_draw = some ⟨oc_draw, od_draw, .func (PySem.W.fnOf "_law_draw" "_law_draw" (defArgs s_draw) (defBody s_draw) (defScope s_draw) .none kV_draw dc_draw pm_draw an_draw cd_draw ct_draw), sl_draw⟩)
    (c_draw : PySem.W.codeIn K cd_draw "_law_draw" = true)
    (k_draw : PySem.W.keepIn K (.ref f_draw) = true)
    (a_low : PySem.W.nsIn K mainGlobals "_law_low" = some (some (.ref f_low)))
    (l_low : K.lookup f_low = some ⟨oc_low, od_low, .func (PySem.W.fnOf "_law_low" "_law_low" (defArgs s_low) (defBody s_low) (defScope s_low) .none kV_low dc_low pm_low an_low cd_low ct_low), sl_low⟩)
    (c_low : PySem.W.codeIn K cd_low "_law_low" = true)
    (k_low : PySem.W.keepIn K (.ref f_low) = true)
    (a_plus : PySem.W.nsIn K mainGlobals "_law_plus" = some (some (.ref f_plus)))
    (l_plus : K.lookup f_plus = some ⟨oc_plus, od_plus, .func (PySem.W.fnOf "_law_plus" "_law_plus" (defArgs s_plus) (defBody s_plus) (defScope s_plus) .none kV_plus dc_plus pm_plus an_plus cd_plus ct_plus), sl_plus⟩)
    (c_plus : PySem.W.codeIn K cd_plus "_law_plus" = true)
    (k_plus : PySem.W.keepIn K (.ref f_plus) = true)
    (a_times : PySem.W.nsIn K mainGlobals "_law_times" = some (some (.ref f_times)))
    (l_times : K.lookup f_times = some ⟨oc_times, od_times, .func (PySem.W.fnOf "_law_times" "_law_times" (defArgs s_times) (defBody s_times) (defScope s_times) .none kV_times dc_times pm_times an_times cd_times ct_times), sl_times⟩)
    (c_times : PySem.W.codeIn K cd_times "_law_times" = true)
    (k_times : PySem.W.keepIn K (.ref f_times) = true)
    (a_less : PySem.W.nsIn K mainGlobals "_law_less" = some (some (.ref f_less)))
    (l_less : K.lookup f_less = some ⟨oc_less, od_less, .func (PySem.W.fnOf "_law_less" "_law_less" (defArgs s_less) (defBody s_less) (defScope s_less) .none kV_less dc_less pm_less an_less cd_less ct_less), sl_less⟩)
    (c_less : PySem.W.codeIn K cd_less "_law_less" = true)
    (k_less : PySem.W.keepIn K (.ref f_less) = true)
    (a_is : PySem.W.nsIn K mainGlobals "_law_is" = some (some (.ref f_is)))
    (l_is : K.lookup f_is = some ⟨oc_is, od_is, .func (PySem.W.fnOf "_law_is" "_law_is" (defArgs s_is) (defBody s_is) (defScope s_is) .none kV_is dc_is pm_is an_is cd_is ct_is), sl_is⟩)
    (c_is : PySem.W.codeIn K cd_is "_law_is" = true)
    (k_is : PySem.W.keepIn K (.ref f_is) = true)
    (a_value : PySem.W.nsIn K mainGlobals "_law_value" = some (some (.ref f_value)))
    (l_value : K.lookup f_value = some ⟨oc_value, od_value, .func (PySem.W.fnOf "_law_value" "_law_value" (defArgs s_value) (defBody s_value) (defScope s_value) .none kV_value dc_value pm_value an_value cd_value ct_value), sl_value⟩)
    (c_value : PySem.W.codeIn K cd_value "_law_value" = true)
    (k_value : PySem.W.keepIn K (.ref f_value) = true)
    (a_fraction : PySem.W.nsIn K mainGlobals "_law_fraction" = some (some (.ref f_fraction)))
    (l_fraction : K.lookup f_fraction = some ⟨oc_fraction, od_fraction, .func (PySem.W.fnOf "_law_fraction" "_law_fraction" (defArgs s_fraction) (defBody s_fraction) (defScope s_fraction) .none kV_fraction dc_fraction pm_fraction an_fraction cd_fraction ct_fraction), sl_fraction⟩)
    (c_fraction : PySem.W.codeIn K cd_fraction "_law_fraction" = true)
    (k_fraction : PySem.W.keepIn K (.ref f_fraction) = true)
    (a_minus : PySem.W.nsIn K mainGlobals "_law_minus" = some (some (.ref f_minus)))
    (l_minus : K.lookup f_minus = some ⟨oc_minus, od_minus, .func (PySem.W.fnOf "_law_minus" "_law_minus" (defArgs s_minus) (defBody s_minus) (defScope s_minus) .none kV_minus dc_minus pm_minus an_minus cd_minus ct_minus), sl_minus⟩)
    (c_minus : PySem.W.codeIn K cd_minus "_law_minus" = true)
    (k_minus : PySem.W.keepIn K (.ref f_minus) = true)
    (a_over : PySem.W.nsIn K mainGlobals "_law_over" = some (some (.ref f_over)))
    (l_over : K.lookup f_over = some ⟨oc_over, od_over, .func (PySem.W.fnOf "_law_over" "_law_over" (defArgs s_over) (defBody s_over) (defScope s_over) .none kV_over dc_over pm_over an_over cd_over ct_over), sl_over⟩)
    (c_over : PySem.W.codeIn K cd_over "_law_over" = true)
    (k_over : PySem.W.keepIn K (.ref f_over) = true)
    (a_quotients : PySem.W.nsIn K mainGlobals "_law_quotients" = some (some (.ref f_quotients)))
    (l_quotients : K.lookup f_quotients = some ⟨oc_quotients, od_quotients, .func (PySem.W.fnOf "_law_quotients" "_law_quotients" (defArgs s_quotients) (defBody s_quotients) (defScope s_quotients) .none kV_quotients dc_quotients pm_quotients an_quotients cd_quotients ct_quotients), sl_quotients⟩)
    (c_quotients : PySem.W.codeIn K cd_quotients "_law_quotients" = true)
    (k_quotients : PySem.W.keepIn K (.ref f_quotients) = true)
    (a_in_place : PySem.W.nsIn K mainGlobals "_law_in_place" = some (some (.ref f_in_place)))
    (l_in_place : K.lookup f_in_place = some ⟨oc_in_place, od_in_place, .func (PySem.W.fnOf "_law_in_place" "_law_in_place" (defArgs s_in_place) (defBody s_in_place) (defScope s_in_place) .none kV_in_place dc_in_place pm_in_place an_in_place cd_in_place ct_in_place), sl_in_place⟩)
    (c_in_place : PySem.W.codeIn K cd_in_place "_law_in_place" = true)
    (k_in_place : PySem.W.keepIn K (.ref f_in_place) = true)
    (a_OutOfRange_init : PySem.W.findIn K (.ref f_OutOfRange) "__init__" = some (some (.ref f_OutOfRange_init)))
    (i_OutOfRange_init : PySem.W.isFn K (.ref f_OutOfRange_init) = true)
    (l_OutOfRange_init : K.lookup f_OutOfRange_init = some ⟨oc_OutOfRange_init, od_OutOfRange_init, .func (PySem.W.fnOf "__init__" "OutOfRange.__init__" (defArgs s_OutOfRange_init) (defBody s_OutOfRange_init) (defScope s_OutOfRange_init) .none kV_OutOfRange_init dc_OutOfRange_init pm_OutOfRange_init an_OutOfRange_init cd_OutOfRange_init ct_OutOfRange_init), sl_OutOfRange_init⟩)
    (c_OutOfRange_init : PySem.W.codeIn K cd_OutOfRange_init "OutOfRange.__init__" = true)
    (k_OutOfRange_init : PySem.W.keepIn K (.ref f_OutOfRange_init) = true)
    (a_Ratio_init : PySem.W.findIn K (.ref f_Ratio) "__init__" = some (some (.ref f_Ratio_init)))
    (i_Ratio_init : PySem.W.isFn K (.ref f_Ratio_init) = true)
    (l_Ratio_init : K.lookup f_Ratio_init = some ⟨oc_Ratio_init, od_Ratio_init, .func (PySem.W.fnOf "__init__" "Ratio.__init__" (defArgs s_Ratio_init) (defBody s_Ratio_init) (defScope s_Ratio_init) (.ref dT_Ratio_init) kV_Ratio_init dc_Ratio_init pm_Ratio_init an_Ratio_init cd_Ratio_init ct_Ratio_init), sl_Ratio_init⟩)
    (c_Ratio_init : PySem.W.codeIn K cd_Ratio_init "Ratio.__init__" = true)
    (k_Ratio_init : PySem.W.keepIn K (.ref f_Ratio_init) = true)
    (t_Ratio_init : K.lookup dT_Ratio_init = some ⟨dc0_Ratio_init, dd0_Ratio_init, .seq #[.int 1 dt_Ratio_init] dn_Ratio_init, ds_Ratio_init⟩)
    (a_Ratio_top : PySem.W.findIn K (.ref f_Ratio) "top" = some (some (.ref p_Ratio_top)))
    (pg_Ratio_top : PySem.W.specialIn K (.ref p_Ratio_top) "__get__" = some (some (.builtin "property.__get__")))
    (pt_Ratio_top : PySem.W.takesIn K (.ref p_Ratio_top) = some true)
    (pr_Ratio_top : PySem.W.recIn K p_Ratio_top "property" = some (.ref f_Ratio_top :: rs_Ratio_top))
    (l_Ratio_top : K.lookup f_Ratio_top = some ⟨oc_Ratio_top, od_Ratio_top, .func (PySem.W.fnOf "top" "Ratio.top" (defArgs s_Ratio_top) (defBody s_Ratio_top) (defScope s_Ratio_top) .none kV_Ratio_top dc_Ratio_top pm_Ratio_top an_Ratio_top cd_Ratio_top ct_Ratio_top), sl_Ratio_top⟩)
    (c_Ratio_top : PySem.W.codeIn K cd_Ratio_top "Ratio.top" = true)
    (k_Ratio_top : PySem.W.keepIn K (.ref f_Ratio_top) = true)
    (a_Ratio_bottom : PySem.W.findIn K (.ref f_Ratio) "bottom" = some (some (.ref p_Ratio_bottom)))
    (pg_Ratio_bottom : PySem.W.specialIn K (.ref p_Ratio_bottom) "__get__" = some (some (.builtin "property.__get__")))
    (pt_Ratio_bottom : PySem.W.takesIn K (.ref p_Ratio_bottom) = some true)
    (pr_Ratio_bottom : PySem.W.recIn K p_Ratio_bottom "property" = some (.ref f_Ratio_bottom :: rs_Ratio_bottom))
    (l_Ratio_bottom : K.lookup f_Ratio_bottom = some ⟨oc_Ratio_bottom, od_Ratio_bottom, .func (PySem.W.fnOf "bottom" "Ratio.bottom" (defArgs s_Ratio_bottom) (defBody s_Ratio_bottom) (defScope s_Ratio_bottom) .none kV_Ratio_bottom dc_Ratio_bottom pm_Ratio_bottom an_Ratio_bottom cd_Ratio_bottom ct_Ratio_bottom), sl_Ratio_bottom⟩)
    (c_Ratio_bottom : PySem.W.codeIn K cd_Ratio_bottom "Ratio.bottom" = true)
    (k_Ratio_bottom : PySem.W.keepIn K (.ref f_Ratio_bottom) = true)
    (a_Ratio_over : PySem.W.findIn K (.ref f_Ratio) "over" = some (some (.ref f_Ratio_over)))
    (i_Ratio_over : PySem.W.isFn K (.ref f_Ratio_over) = true)
    (l_Ratio_over : K.lookup f_Ratio_over = some ⟨oc_Ratio_over, od_Ratio_over, .func (PySem.W.fnOf "over" "Ratio.over" (defArgs s_Ratio_over) (defBody s_Ratio_over) (defScope s_Ratio_over) .none kV_Ratio_over dc_Ratio_over pm_Ratio_over an_Ratio_over cd_Ratio_over ct_Ratio_over), sl_Ratio_over⟩)
    (c_Ratio_over : PySem.W.codeIn K cd_Ratio_over "Ratio.over" = true)
    (k_Ratio_over : PySem.W.keepIn K (.ref f_Ratio_over) = true)
    (a_Ratio_below : PySem.W.findIn K (.ref f_Ratio) "below" = some (some (.ref f_Ratio_below)))
    (i_Ratio_below : PySem.W.isFn K (.ref f_Ratio_below) = true)
    (l_Ratio_below : K.lookup f_Ratio_below = some ⟨oc_Ratio_below, od_Ratio_below, .func (PySem.W.fnOf "below" "Ratio.below" (defArgs s_Ratio_below) (defBody s_Ratio_below) (defScope s_Ratio_below) .none kV_Ratio_below dc_Ratio_below pm_Ratio_below an_Ratio_below cd_Ratio_below ct_Ratio_below), sl_Ratio_below⟩)
    (c_Ratio_below : PySem.W.codeIn K cd_Ratio_below "Ratio.below" = true)
    (k_Ratio_below : PySem.W.keepIn K (.ref f_Ratio_below) = true)
    (a_Ratio_neg : PySem.W.findIn K (.ref f_Ratio) "__neg__" = some (some (.ref f_Ratio_neg)))
    (i_Ratio_neg : PySem.W.isFn K (.ref f_Ratio_neg) = true)
    (l_Ratio_neg : K.lookup f_Ratio_neg = some ⟨oc_Ratio_neg, od_Ratio_neg, .func (PySem.W.fnOf "__neg__" "Ratio.__neg__" (defArgs s_Ratio_neg) (defBody s_Ratio_neg) (defScope s_Ratio_neg) .none kV_Ratio_neg dc_Ratio_neg pm_Ratio_neg an_Ratio_neg cd_Ratio_neg ct_Ratio_neg), sl_Ratio_neg⟩)
    (c_Ratio_neg : PySem.W.codeIn K cd_Ratio_neg "Ratio.__neg__" = true)
    (k_Ratio_neg : PySem.W.keepIn K (.ref f_Ratio_neg) = true)
    (a_Ratio_add : PySem.W.findIn K (.ref f_Ratio) "__add__" = some (some (.ref f_Ratio_add)))
    (i_Ratio_add : PySem.W.isFn K (.ref f_Ratio_add) = true)
    (l_Ratio_add : K.lookup f_Ratio_add = some ⟨oc_Ratio_add, od_Ratio_add, .func (PySem.W.fnOf "__add__" "Ratio.__add__" (defArgs s_Ratio_add) (defBody s_Ratio_add) (defScope s_Ratio_add) .none kV_Ratio_add dc_Ratio_add pm_Ratio_add an_Ratio_add cd_Ratio_add ct_Ratio_add), sl_Ratio_add⟩)
    (c_Ratio_add : PySem.W.codeIn K cd_Ratio_add "Ratio.__add__" = true)
    (k_Ratio_add : PySem.W.keepIn K (.ref f_Ratio_add) = true)
    (a_Ratio_radd : PySem.W.findIn K (.ref f_Ratio) "__radd__" = some (some (.ref f_Ratio_radd)))
    (i_Ratio_radd : PySem.W.isFn K (.ref f_Ratio_radd) = true)
    (l_Ratio_radd : K.lookup f_Ratio_radd = some ⟨oc_Ratio_radd, od_Ratio_radd, .func (PySem.W.fnOf "__radd__" "Ratio.__radd__" (defArgs s_Ratio_radd) (defBody s_Ratio_radd) (defScope s_Ratio_radd) .none kV_Ratio_radd dc_Ratio_radd pm_Ratio_radd an_Ratio_radd cd_Ratio_radd ct_Ratio_radd), sl_Ratio_radd⟩)
    (c_Ratio_radd : PySem.W.codeIn K cd_Ratio_radd "Ratio.__radd__" = true)
    (k_Ratio_radd : PySem.W.keepIn K (.ref f_Ratio_radd) = true)
    (a_Ratio_sub : PySem.W.findIn K (.ref f_Ratio) "__sub__" = some (some (.ref f_Ratio_sub)))
    (i_Ratio_sub : PySem.W.isFn K (.ref f_Ratio_sub) = true)
    (l_Ratio_sub : K.lookup f_Ratio_sub = some ⟨oc_Ratio_sub, od_Ratio_sub, .func (PySem.W.fnOf "__sub__" "Ratio.__sub__" (defArgs s_Ratio_sub) (defBody s_Ratio_sub) (defScope s_Ratio_sub) .none kV_Ratio_sub dc_Ratio_sub pm_Ratio_sub an_Ratio_sub cd_Ratio_sub ct_Ratio_sub), sl_Ratio_sub⟩)
    (c_Ratio_sub : PySem.W.codeIn K cd_Ratio_sub "Ratio.__sub__" = true)
    (k_Ratio_sub : PySem.W.keepIn K (.ref f_Ratio_sub) = true)
    (a_Ratio_rsub : PySem.W.findIn K (.ref f_Ratio) "__rsub__" = some (some (.ref f_Ratio_rsub)))
    (i_Ratio_rsub : PySem.W.isFn K (.ref f_Ratio_rsub) = true)
    (l_Ratio_rsub : K.lookup f_Ratio_rsub = some ⟨oc_Ratio_rsub, od_Ratio_rsub, .func (PySem.W.fnOf "__rsub__" "Ratio.__rsub__" (defArgs s_Ratio_rsub) (defBody s_Ratio_rsub) (defScope s_Ratio_rsub) .none kV_Ratio_rsub dc_Ratio_rsub pm_Ratio_rsub an_Ratio_rsub cd_Ratio_rsub ct_Ratio_rsub), sl_Ratio_rsub⟩)
    (c_Ratio_rsub : PySem.W.codeIn K cd_Ratio_rsub "Ratio.__rsub__" = true)
    (k_Ratio_rsub : PySem.W.keepIn K (.ref f_Ratio_rsub) = true)
    (a_Ratio_mul : PySem.W.findIn K (.ref f_Ratio) "__mul__" = some (some (.ref f_Ratio_mul)))
    (i_Ratio_mul : PySem.W.isFn K (.ref f_Ratio_mul) = true)
    (l_Ratio_mul : K.lookup f_Ratio_mul = some ⟨oc_Ratio_mul, od_Ratio_mul, .func (PySem.W.fnOf "__mul__" "Ratio.__mul__" (defArgs s_Ratio_mul) (defBody s_Ratio_mul) (defScope s_Ratio_mul) .none kV_Ratio_mul dc_Ratio_mul pm_Ratio_mul an_Ratio_mul cd_Ratio_mul ct_Ratio_mul), sl_Ratio_mul⟩)
    (c_Ratio_mul : PySem.W.codeIn K cd_Ratio_mul "Ratio.__mul__" = true)
    (k_Ratio_mul : PySem.W.keepIn K (.ref f_Ratio_mul) = true)
    (a_Ratio_rmul : PySem.W.findIn K (.ref f_Ratio) "__rmul__" = some (some (.ref f_Ratio_rmul)))
    (i_Ratio_rmul : PySem.W.isFn K (.ref f_Ratio_rmul) = true)
    (l_Ratio_rmul : K.lookup f_Ratio_rmul = some ⟨oc_Ratio_rmul, od_Ratio_rmul, .func (PySem.W.fnOf "__rmul__" "Ratio.__rmul__" (defArgs s_Ratio_rmul) (defBody s_Ratio_rmul) (defScope s_Ratio_rmul) .none kV_Ratio_rmul dc_Ratio_rmul pm_Ratio_rmul an_Ratio_rmul cd_Ratio_rmul ct_Ratio_rmul), sl_Ratio_rmul⟩)
    (c_Ratio_rmul : PySem.W.codeIn K cd_Ratio_rmul "Ratio.__rmul__" = true)
    (k_Ratio_rmul : PySem.W.keepIn K (.ref f_Ratio_rmul) = true)
    (a_Ratio_eq : PySem.W.findIn K (.ref f_Ratio) "__eq__" = some (some (.ref f_Ratio_eq)))
    (i_Ratio_eq : PySem.W.isFn K (.ref f_Ratio_eq) = true)
    (l_Ratio_eq : K.lookup f_Ratio_eq = some ⟨oc_Ratio_eq, od_Ratio_eq, .func (PySem.W.fnOf "__eq__" "Ratio.__eq__" (defArgs s_Ratio_eq) (defBody s_Ratio_eq) (defScope s_Ratio_eq) .none kV_Ratio_eq dc_Ratio_eq pm_Ratio_eq an_Ratio_eq cd_Ratio_eq ct_Ratio_eq), sl_Ratio_eq⟩)
    (c_Ratio_eq : PySem.W.codeIn K cd_Ratio_eq "Ratio.__eq__" = true)
    (k_Ratio_eq : PySem.W.keepIn K (.ref f_Ratio_eq) = true)
    (a_Ratio_str : PySem.W.findIn K (.ref f_Ratio) "__str__" = some (some (.ref f_Ratio_str)))
    (i_Ratio_str : PySem.W.isFn K (.ref f_Ratio_str) = true)
    (l_Ratio_str : K.lookup f_Ratio_str = some ⟨oc_Ratio_str, od_Ratio_str, .func (PySem.W.fnOf "__str__" "Ratio.__str__" (defArgs s_Ratio_str) (defBody s_Ratio_str) (defScope s_Ratio_str) .none kV_Ratio_str dc_Ratio_str pm_Ratio_str an_Ratio_str cd_Ratio_str ct_Ratio_str), sl_Ratio_str⟩)
    (c_Ratio_str : PySem.W.codeIn K cd_Ratio_str "Ratio.__str__" = true)
    (k_Ratio_str : PySem.W.keepIn K (.ref f_Ratio_str) = true)
    (sf_Ratio : PySem.W.selfFirst K f_Ratio = true)
    (us_Ratio : PySem.W.subIn K (.ref f_Ratio) (.type "int") = some false)
    (i1_Ratio_add : PySem.W.findIn K (.type "int") "__add__" = some fo_Ratio_add)
    (i2_Ratio_add : PySem.W.findIn K (.type "int") "__radd__" = some ro_Ratio_add)
    (i1_Ratio_sub : PySem.W.findIn K (.type "int") "__sub__" = some fo_Ratio_sub)
    (i2_Ratio_sub : PySem.W.findIn K (.type "int") "__rsub__" = some ro_Ratio_sub)
    (i1_Ratio_mul : PySem.W.findIn K (.type "int") "__mul__" = some fo_Ratio_mul)
    (i2_Ratio_mul : PySem.W.findIn K (.type "int") "__rmul__" = some ro_Ratio_mul)
    (ot_Ratio_int : PySem.W.subIn K (.ref f_Ratio) (.type "int") = some false)
    (ot_Ratio_str : PySem.W.subIn K (.ref f_Ratio) (.type "str") = some false)
    (ot_Ratio_NoneType : PySem.W.subIn K (.ref f_Ratio) (.type "NoneType") = some false)
    (ot_Ratio_tuple : PySem.W.subIn K (.ref f_Ratio) (.type "tuple") = some false)
    (ot_Ratio_list : PySem.W.subIn K (.ref f_Ratio) (.type "list") = some false)
    (ne_Ratio : PySem.W.findIn K (.ref f_Ratio) "__ne__" = some (some (.builtin "object.__ne__")))
    (ob_Ratio : PySem.W.subIn K (.ref f_Ratio) (.type "object") = some true)
    (cc_Ratio : PySem.W.clsIn K f_Ratio = some cdd_Ratio)
    (mr_Ratio : cdd_Ratio.mro = [.ref f_Ratio, .type "object"])
    (no1_Ratio_add : PySem.W.findIn K (.ref f_Ratio) "__iadd__" = some none)
    (no2_Ratio_add : PySem.W.findIn K (.type "object") "__iadd__" = some none)
    (no1_Ratio_sub : PySem.W.findIn K (.ref f_Ratio) "__isub__" = some none)
    (no2_Ratio_sub : PySem.W.findIn K (.type "object") "__isub__" = some none)
    (no1_Ratio_mul : PySem.W.findIn K (.ref f_Ratio) "__imul__" = some none)
    (no2_Ratio_mul : PySem.W.findIn K (.type "object") "__imul__" = some none)
    (x_OutOfRange : ∃ nm q N bs bm sn sub ab col dd k0 k1 k2 k3 k5, K.lookup f_OutOfRange = some (excClassObj nm q f_OutOfRange N bs bm true sn sub ab col dd k0 k1 k2 k3 k5 "ValueError.__new__") ∧ PySem.HandSPX.refsVE bm = true)
    (xs_OutOfRange : PySem.W.findIn K (.ref f_OutOfRange) "__setattr__" = some (some (.builtin "object.__setattr__")))
    (xe_OutOfRange : PySem.W.subIn K (.ref f_OutOfRange) (.type "BaseException") = some true)
    (xt_OutOfRange : PySem.W.typeIn K (.ref f_OutOfRange) = some (.type "type"))
    (xk_OutOfRange : PySem.W.keepIn K (.ref f_OutOfRange) = true)
    (xg_OutOfRange : PySem.W.findIn K (.ref f_OutOfRange) "__getattribute__" = some (some (.builtin "BaseException.__getattribute__")))
    (xh_OutOfRange : PySem.W.findIn K (.ref f_OutOfRange) "__getattr__" = some none)
    (xd_OutOfRange : PySem.W.hasDictIn K f_OutOfRange = true)
    (xc_OutOfRange : PySem.W.findIn K (.ref f_OutOfRange) "__class__" = some (some (.builtin "object.__class__")))
    (xm_OutOfRange : PySem.W.mroIn K f_OutOfRange (.type "object") = some true)
    (xi_OutOfRange : PySem.W.isClsIn K f_OutOfRange = true)
    (xf_OutOfRange : PySem.W.typeIn K (.ref f_OutOfRange_init) = some (.type "function"))
    (no_OutOfRange_value : PySem.W.findIn K (.ref f_OutOfRange) "value" = some none)
    (es_OutOfRange_OutOfRange : PySem.W.subIn K (.ref f_OutOfRange) (.ref f_OutOfRange) = some true)
    (q_PIECE : PySem.W.nsIn K mainGlobals "PIECE" = some (some (.int 10000000000000000000000000000000000000000000000000000000000000000 t_PIECE)))
    (q_PIECE_DIGITS : PySem.W.nsIn K mainGlobals "PIECE_DIGITS" = some (some (.int 64 t_PIECE_DIGITS)))
    (g_gcd : PySem.W.nsIn K mainGlobals "gcd" = some (some (.builtin "math.gcd")))
    (z_abs : PySem.W.nsIn K mainGlobals "abs" = some none)
    (z_bool : PySem.W.nsIn K mainGlobals "bool" = some none)
    (z_divmod : PySem.W.nsIn K mainGlobals "divmod" = some none)
    (z_int : PySem.W.nsIn K mainGlobals "int" = some none)
    (z_isinstance : PySem.W.nsIn K mainGlobals "isinstance" = some none)
    (z_len : PySem.W.nsIn K mainGlobals "len" = some none)
    (z_list : PySem.W.nsIn K mainGlobals "list" = some none)
    (z_str : PySem.W.nsIn K mainGlobals "str" = some none)
    (a_law : PySem.W.nsIn K mainGlobals "law" = some (some (.ref f_law)))
    (l_law : K.lookup f_law = some ⟨oc_law, od_law, .func (PySem.W.fnOf "law" "law" (defArgs s_law) (defBody s_law) (defScope s_law) .none kV_law dc_law pm_law an_law cd_law ct_law), sl_law⟩)
    (c_law : PySem.W.codeIn K cd_law "law" = true)
    (k_law : PySem.W.keepIn K (.ref f_law) = true)
    : ∃ fd : FuncData, (∀ (s : Shared) (v : Value), BindsTo s fd ⟨[v], []⟩ [("_law_script", v)]) ∧ ∀ base : Heap, K.In base → base.Ns mainGlobals mg → FnOk l.prog w K mg base CX0 10 fa fd ["_law_script"] (spLaw K) := by
  have e := hfa.symm.trans (PySem.W.mg_of X G a_law)
  cases e
  obtain ⟨e1_Ratio_init, ev1_Ratio_init, eb1_Ratio_init⟩ := FunD.binds1 (K := K) (f := f_Ratio_init) (fd := PySem.W.fnOf "__init__" "Ratio.__init__" (defArgs s_Ratio_init) (defBody s_Ratio_init) (defScope s_Ratio_init) (.ref dT_Ratio_init) kV_Ratio_init dc_Ratio_init pm_Ratio_init an_Ratio_init cd_Ratio_init ct_Ratio_init) (dvs := [V.int 1]) (kws := []) (ps := ["self", "top", "bottom"]) ⟨⟨_, _, _, _, _, _, _, _, _, _, rfl, l_Ratio_init, c_Ratio_init, .inr ⟨by simp, _, _, [.int 1 dt_Ratio_init], _, rfl, t_Ratio_init, rfl, .cons ⟨_, rfl⟩ .nil⟩, .inl rfl⟩, k_Ratio_init⟩ 2 0 (by simp) rfl fun _ _ _ _ _ _ _ us its hl hi => match us, hl, its, hi with | [_, _], _, [_], _ => ⟨_, rfl, rfl⟩
  obtain ⟨e2_Ratio_init, ev2_Ratio_init, eb2_Ratio_init⟩ := FunD.binds1 (K := K) (f := f_Ratio_init) (fd := PySem.W.fnOf "__init__" "Ratio.__init__" (defArgs s_Ratio_init) (defBody s_Ratio_init) (defScope s_Ratio_init) (.ref dT_Ratio_init) kV_Ratio_init dc_Ratio_init pm_Ratio_init an_Ratio_init cd_Ratio_init ct_Ratio_init) (dvs := [V.int 1]) (kws := []) (ps := ["self", "top", "bottom"]) ⟨⟨_, _, _, _, _, _, _, _, _, _, rfl, l_Ratio_init, c_Ratio_init, .inr ⟨by simp, _, _, [.int 1 dt_Ratio_init], _, rfl, t_Ratio_init, rfl, .cons ⟨_, rfl⟩ .nil⟩, .inl rfl⟩, k_Ratio_init⟩ 3 1 (by simp) rfl fun _ _ _ _ _ _ _ us its hl hi => match us, hl, its, hi with | [_, _, _], _, [_], _ => ⟨_, rfl, rfl⟩
  have T : Txt K mg := {
    f_OutOfRange := f_OutOfRange,
    m_OutOfRange := PySem.W.mg_of X G a_OutOfRange,
    f_Ratio := f_Ratio,
    m_Ratio := PySem.W.mg_of X G a_Ratio,
    cl_Ratio := ⟨pg_Ratio, hd_Ratio, po_Ratio, sa_Ratio⟩,
    ic_Ratio := ⟨⟨pg_Ratio, hd_Ratio, po_Ratio, sa_Ratio⟩, hc_Ratio, hn_class, ht_class, mo_Ratio, kit_self⟩,
    na_Ratio_top := na_Ratio_top,
    na_Ratio_bottom := na_Ratio_bottom,
    ki_Ratio_int := kit_not ic_Ratio ty_Ratio su_Ratio_int (fun z => nomatch z),
    ki_Ratio_str := kit_not ic_Ratio ty_Ratio su_Ratio_str (fun z => nomatch z),
    ki_Ratio_NoneType := kit_not ic_Ratio ty_Ratio su_Ratio_NoneType (fun z => nomatch z),
    ki_Ratio_tuple := kit_not ic_Ratio ty_Ratio su_Ratio_tuple (fun z => nomatch z),
    ki_Ratio_list := kit_not ic_Ratio ty_Ratio su_Ratio_list (fun z => nomatch z),
    f_as_ratio := f_as_ratio,
    d_as_ratio := PySem.W.fnOf "as_ratio" "as_ratio" (defArgs s_as_ratio) (defBody s_as_ratio) (defScope s_as_ratio) .none kV_as_ratio dc_as_ratio pm_as_ratio an_as_ratio cd_as_ratio ct_as_ratio,
    F_as_ratio := fun_mk (st := s_as_ratio) l_as_ratio c_as_ratio k_as_ratio,
    b_as_ratio := (fun_mk (st := s_as_ratio) l_as_ratio c_as_ratio k_as_ratio).binds (ps := ["value"]) fun _ _ _ _ _ _ us hl => match us, hl with | [_], _ => rfl,
    m_as_ratio := PySem.W.mg_of X G a_as_ratio,
    f_numeral := f_numeral,
    d_numeral := PySem.W.fnOf "numeral" "numeral" (defArgs s_numeral) (defBody s_numeral) (defScope s_numeral) .none kV_numeral dc_numeral pm_numeral an_numeral cd_numeral ct_numeral,
    F_numeral := fun_mk (st := s_numeral) l_numeral c_numeral k_numeral,
    b_numeral := (fun_mk (st := s_numeral) l_numeral c_numeral k_numeral).binds (ps := ["number"]) fun _ _ _ _ _ _ us hl => match us, hl with | [_], _ => rfl,
    m_numeral := PySem.W.mg_of X G a_numeral,
    f_start := f_start,
    d_start := PySem.W.fnOf "_law_start" "_law_start" (defArgs s_start) (defBody s_start) (defScope s_start) .none kV_start dc_start pm_start an_start cd_start ct_start,
    F_start := fun_mk (st := s_start) l_start c_start k_start,
    b_start := (fun_mk (st := s_start) l_start c_start k_start).binds (ps := ["_law_script"]) fun _ _ _ _ _ _ us hl => match us, hl with | [_], _ => rfl,
    m_start := PySem.W.mg_of X G a_start,
    f_draw := f_draw,
    d_draw := PySem.W.fnOf "_law_draw" "_law_draw" (defArgs s_draw) (defBody s_draw) (defScope s_draw) .none kV_draw dc_draw pm_draw an_draw cd_draw ct_draw,
    F_draw := fun_mk (st := s_draw) l_draw c_draw k_draw,
    b_draw := (fun_mk (st := s_draw) l_draw c_draw k_draw).binds (ps := ["_law_state", "_law_size"]) fun _ _ _ _ _ _ us hl => match us, hl with | [_, _], _ => rfl,
    m_draw := PySem.W.mg_of X G a_draw,
    f_low := f_low,
    d_low := PySem.W.fnOf "_law_low" "_law_low" (defArgs s_low) (defBody s_low) (defScope s_low) .none kV_low dc_low pm_low an_low cd_low ct_low,
    F_low := fun_mk (st := s_low) l_low c_low k_low,
    b_low := (fun_mk (st := s_low) l_low c_low k_low).binds (ps := ["_law_up", "_law_down"]) fun _ _ _ _ _ _ us hl => match us, hl with | [_, _], _ => rfl,
    m_low := PySem.W.mg_of X G a_low,
    f_plus := f_plus,
    d_plus := PySem.W.fnOf "_law_plus" "_law_plus" (defArgs s_plus) (defBody s_plus) (defScope s_plus) .none kV_plus dc_plus pm_plus an_plus cd_plus ct_plus,
    F_plus := fun_mk (st := s_plus) l_plus c_plus k_plus,
    b_plus := (fun_mk (st := s_plus) l_plus c_plus k_plus).binds (ps := ["_law_one", "_law_two"]) fun _ _ _ _ _ _ us hl => match us, hl with | [_, _], _ => rfl,
    m_plus := PySem.W.mg_of X G a_plus,
    f_times := f_times,
    d_times := PySem.W.fnOf "_law_times" "_law_times" (defArgs s_times) (defBody s_times) (defScope s_times) .none kV_times dc_times pm_times an_times cd_times ct_times,
    F_times := fun_mk (st := s_times) l_times c_times k_times,
    b_times := (fun_mk (st := s_times) l_times c_times k_times).binds (ps := ["_law_one", "_law_two"]) fun _ _ _ _ _ _ us hl => match us, hl with | [_, _], _ => rfl,
    m_times := PySem.W.mg_of X G a_times,
    f_less := f_less,
    d_less := PySem.W.fnOf "_law_less" "_law_less" (defArgs s_less) (defBody s_less) (defScope s_less) .none kV_less dc_less pm_less an_less cd_less ct_less,
    F_less := fun_mk (st := s_less) l_less c_less k_less,
    b_less := (fun_mk (st := s_less) l_less c_less k_less).binds (ps := ["_law_one", "_law_two"]) fun _ _ _ _ _ _ us hl => match us, hl with | [_, _], _ => rfl,
    m_less := PySem.W.mg_of X G a_less,
    f_is := f_is,
    d_is := PySem.W.fnOf "_law_is" "_law_is" (defArgs s_is) (defBody s_is) (defScope s_is) .none kV_is dc_is pm_is an_is cd_is ct_is,
    F_is := fun_mk (st := s_is) l_is c_is k_is,
    b_is := (fun_mk (st := s_is) l_is c_is k_is).binds (ps := ["_law_actual", "_law_pair"]) fun _ _ _ _ _ _ us hl => match us, hl with | [_, _], _ => rfl,
    m_is := PySem.W.mg_of X G a_is,
    f_value := f_value,
    d_value := PySem.W.fnOf "_law_value" "_law_value" (defArgs s_value) (defBody s_value) (defScope s_value) .none kV_value dc_value pm_value an_value cd_value ct_value,
    F_value := fun_mk (st := s_value) l_value c_value k_value,
    b_value := (fun_mk (st := s_value) l_value c_value k_value).binds (ps := ["_law_state", "_law_pair"]) fun _ _ _ _ _ _ us hl => match us, hl with | [_, _], _ => rfl,
    m_value := PySem.W.mg_of X G a_value,
    f_fraction := f_fraction,
    d_fraction := PySem.W.fnOf "_law_fraction" "_law_fraction" (defArgs s_fraction) (defBody s_fraction) (defScope s_fraction) .none kV_fraction dc_fraction pm_fraction an_fraction cd_fraction ct_fraction,
    F_fraction := fun_mk (st := s_fraction) l_fraction c_fraction k_fraction,
    b_fraction := (fun_mk (st := s_fraction) l_fraction c_fraction k_fraction).binds (ps := ["_law_state"]) fun _ _ _ _ _ _ us hl => match us, hl with | [_], _ => rfl,
    m_fraction := PySem.W.mg_of X G a_fraction,
    f_minus := f_minus,
    d_minus := PySem.W.fnOf "_law_minus" "_law_minus" (defArgs s_minus) (defBody s_minus) (defScope s_minus) .none kV_minus dc_minus pm_minus an_minus cd_minus ct_minus,
    F_minus := fun_mk (st := s_minus) l_minus c_minus k_minus,
    b_minus := (fun_mk (st := s_minus) l_minus c_minus k_minus).binds (ps := ["_law_one", "_law_two"]) fun _ _ _ _ _ _ us hl => match us, hl with | [_, _], _ => rfl,
    m_minus := PySem.W.mg_of X G a_minus,
    f_over := f_over,
    d_over := PySem.W.fnOf "_law_over" "_law_over" (defArgs s_over) (defBody s_over) (defScope s_over) .none kV_over dc_over pm_over an_over cd_over ct_over,
    F_over := fun_mk (st := s_over) l_over c_over k_over,
    b_over := (fun_mk (st := s_over) l_over c_over k_over).binds (ps := ["_law_a", "_law_divisor", "_law_one", "_law_two"]) fun _ _ _ _ _ _ us hl => match us, hl with | [_, _, _, _], _ => rfl,
    m_over := PySem.W.mg_of X G a_over,
    f_quotients := f_quotients,
    d_quotients := PySem.W.fnOf "_law_quotients" "_law_quotients" (defArgs s_quotients) (defBody s_quotients) (defScope s_quotients) .none kV_quotients dc_quotients pm_quotients an_quotients cd_quotients ct_quotients,
    F_quotients := fun_mk (st := s_quotients) l_quotients c_quotients k_quotients,
    b_quotients := (fun_mk (st := s_quotients) l_quotients c_quotients k_quotients).binds (ps := ["_law_a", "_law_b", "_law_one", "_law_two"]) fun _ _ _ _ _ _ us hl => match us, hl with | [_, _, _, _], _ => rfl,
    m_quotients := PySem.W.mg_of X G a_quotients,
    f_in_place := f_in_place,
    d_in_place := PySem.W.fnOf "_law_in_place" "_law_in_place" (defArgs s_in_place) (defBody s_in_place) (defScope s_in_place) .none kV_in_place dc_in_place pm_in_place an_in_place cd_in_place ct_in_place,
    F_in_place := fun_mk (st := s_in_place) l_in_place c_in_place k_in_place,
    b_in_place := (fun_mk (st := s_in_place) l_in_place c_in_place k_in_place).binds (ps := ["_law_a", "_law_b", "_law_one", "_law_two"]) fun _ _ _ _ _ _ us hl => match us, hl with | [_, _, _, _], _ => rfl,
    m_in_place := PySem.W.mg_of X G a_in_place,
    f_OutOfRange_init := f_OutOfRange_init,
    d_OutOfRange_init := PySem.W.fnOf "__init__" "OutOfRange.__init__" (defArgs s_OutOfRange_init) (defBody s_OutOfRange_init) (defScope s_OutOfRange_init) .none kV_OutOfRange_init dc_OutOfRange_init pm_OutOfRange_init an_OutOfRange_init cd_OutOfRange_init ct_OutOfRange_init,
    F_OutOfRange_init := fun_mk (st := s_OutOfRange_init) l_OutOfRange_init c_OutOfRange_init k_OutOfRange_init,
    b_OutOfRange_init := (fun_mk (st := s_OutOfRange_init) l_OutOfRange_init c_OutOfRange_init k_OutOfRange_init).binds (ps := ["self", "value"]) fun _ _ _ _ _ _ us hl => match us, hl with | [_, _], _ => rfl,
    a_OutOfRange_init := a_OutOfRange_init,
    i_OutOfRange_init := i_OutOfRange_init,
    f_Ratio_init := f_Ratio_init,
    d_Ratio_init := PySem.W.fnOf "__init__" "Ratio.__init__" (defArgs s_Ratio_init) (defBody s_Ratio_init) (defScope s_Ratio_init) (.ref dT_Ratio_init) kV_Ratio_init dc_Ratio_init pm_Ratio_init an_Ratio_init cd_Ratio_init ct_Ratio_init,
    F_Ratio_init := ⟨⟨_, _, _, _, _, _, _, _, _, _, rfl, l_Ratio_init, c_Ratio_init, .inr ⟨by simp, _, _, [.int 1 dt_Ratio_init], _, rfl, t_Ratio_init, rfl, .cons ⟨_, rfl⟩ .nil⟩, .inl rfl⟩, k_Ratio_init⟩,
    a_Ratio_init := a_Ratio_init,
    i_Ratio_init := i_Ratio_init,
    mk_Ratio := ⟨mk_Ratio, a_Ratio_init, i_Ratio_init, kc_Ratio⟩,
    f_Ratio_top := f_Ratio_top,
    d_Ratio_top := PySem.W.fnOf "top" "Ratio.top" (defArgs s_Ratio_top) (defBody s_Ratio_top) (defScope s_Ratio_top) .none kV_Ratio_top dc_Ratio_top pm_Ratio_top an_Ratio_top cd_Ratio_top ct_Ratio_top,
    F_Ratio_top := fun_mk (st := s_Ratio_top) l_Ratio_top c_Ratio_top k_Ratio_top,
    b_Ratio_top := (fun_mk (st := s_Ratio_top) l_Ratio_top c_Ratio_top k_Ratio_top).binds (ps := ["self"]) fun _ _ _ _ _ _ us hl => match us, hl with | [_], _ => rfl,
    p0_Ratio_top := p_Ratio_top,
    p_Ratio_top := ⟨a_Ratio_top, pg_Ratio_top, pt_Ratio_top, ⟨_, pr_Ratio_top⟩⟩,
    f_Ratio_bottom := f_Ratio_bottom,
    d_Ratio_bottom := PySem.W.fnOf "bottom" "Ratio.bottom" (defArgs s_Ratio_bottom) (defBody s_Ratio_bottom) (defScope s_Ratio_bottom) .none kV_Ratio_bottom dc_Ratio_bottom pm_Ratio_bottom an_Ratio_bottom cd_Ratio_bottom ct_Ratio_bottom,
    F_Ratio_bottom := fun_mk (st := s_Ratio_bottom) l_Ratio_bottom c_Ratio_bottom k_Ratio_bottom,
    b_Ratio_bottom := (fun_mk (st := s_Ratio_bottom) l_Ratio_bottom c_Ratio_bottom k_Ratio_bottom).binds (ps := ["self"]) fun _ _ _ _ _ _ us hl => match us, hl with | [_], _ => rfl,
    p0_Ratio_bottom := p_Ratio_bottom,
    p_Ratio_bottom := ⟨a_Ratio_bottom, pg_Ratio_bottom, pt_Ratio_bottom, ⟨_, pr_Ratio_bottom⟩⟩,
    f_Ratio_over := f_Ratio_over,
    d_Ratio_over := PySem.W.fnOf "over" "Ratio.over" (defArgs s_Ratio_over) (defBody s_Ratio_over) (defScope s_Ratio_over) .none kV_Ratio_over dc_Ratio_over pm_Ratio_over an_Ratio_over cd_Ratio_over ct_Ratio_over,
    F_Ratio_over := fun_mk (st := s_Ratio_over) l_Ratio_over c_Ratio_over k_Ratio_over,
    b_Ratio_over := (fun_mk (st := s_Ratio_over) l_Ratio_over c_Ratio_over k_Ratio_over).binds (ps := ["self", "value"]) fun _ _ _ _ _ _ us hl => match us, hl with | [_, _], _ => rfl,
    a_Ratio_over := a_Ratio_over,
    i_Ratio_over := i_Ratio_over,
    f_Ratio_below := f_Ratio_below,
    d_Ratio_below := PySem.W.fnOf "below" "Ratio.below" (defArgs s_Ratio_below) (defBody s_Ratio_below) (defScope s_Ratio_below) .none kV_Ratio_below dc_Ratio_below pm_Ratio_below an_Ratio_below cd_Ratio_below ct_Ratio_below,
    F_Ratio_below := fun_mk (st := s_Ratio_below) l_Ratio_below c_Ratio_below k_Ratio_below,
    b_Ratio_below := (fun_mk (st := s_Ratio_below) l_Ratio_below c_Ratio_below k_Ratio_below).binds (ps := ["self", "value"]) fun _ _ _ _ _ _ us hl => match us, hl with | [_, _], _ => rfl,
    a_Ratio_below := a_Ratio_below,
    i_Ratio_below := i_Ratio_below,
    f_Ratio_neg := f_Ratio_neg,
    d_Ratio_neg := PySem.W.fnOf "__neg__" "Ratio.__neg__" (defArgs s_Ratio_neg) (defBody s_Ratio_neg) (defScope s_Ratio_neg) .none kV_Ratio_neg dc_Ratio_neg pm_Ratio_neg an_Ratio_neg cd_Ratio_neg ct_Ratio_neg,
    F_Ratio_neg := fun_mk (st := s_Ratio_neg) l_Ratio_neg c_Ratio_neg k_Ratio_neg,
    b_Ratio_neg := (fun_mk (st := s_Ratio_neg) l_Ratio_neg c_Ratio_neg k_Ratio_neg).binds (ps := ["self"]) fun _ _ _ _ _ _ us hl => match us, hl with | [_], _ => rfl,
    a_Ratio_neg := a_Ratio_neg,
    i_Ratio_neg := i_Ratio_neg,
    f_Ratio_add := f_Ratio_add,
    d_Ratio_add := PySem.W.fnOf "__add__" "Ratio.__add__" (defArgs s_Ratio_add) (defBody s_Ratio_add) (defScope s_Ratio_add) .none kV_Ratio_add dc_Ratio_add pm_Ratio_add an_Ratio_add cd_Ratio_add ct_Ratio_add,
    F_Ratio_add := fun_mk (st := s_Ratio_add) l_Ratio_add c_Ratio_add k_Ratio_add,
    b_Ratio_add := (fun_mk (st := s_Ratio_add) l_Ratio_add c_Ratio_add k_Ratio_add).binds (ps := ["self", "other"]) fun _ _ _ _ _ _ us hl => match us, hl with | [_, _], _ => rfl,
    a_Ratio_add := a_Ratio_add,
    i_Ratio_add := i_Ratio_add,
    f_Ratio_radd := f_Ratio_radd,
    d_Ratio_radd := PySem.W.fnOf "__radd__" "Ratio.__radd__" (defArgs s_Ratio_radd) (defBody s_Ratio_radd) (defScope s_Ratio_radd) .none kV_Ratio_radd dc_Ratio_radd pm_Ratio_radd an_Ratio_radd cd_Ratio_radd ct_Ratio_radd,
    F_Ratio_radd := fun_mk (st := s_Ratio_radd) l_Ratio_radd c_Ratio_radd k_Ratio_radd,
    b_Ratio_radd := (fun_mk (st := s_Ratio_radd) l_Ratio_radd c_Ratio_radd k_Ratio_radd).binds (ps := ["self", "other"]) fun _ _ _ _ _ _ us hl => match us, hl with | [_, _], _ => rfl,
    a_Ratio_radd := a_Ratio_radd,
    i_Ratio_radd := i_Ratio_radd,
    f_Ratio_sub := f_Ratio_sub,
    d_Ratio_sub := PySem.W.fnOf "__sub__" "Ratio.__sub__" (defArgs s_Ratio_sub) (defBody s_Ratio_sub) (defScope s_Ratio_sub) .none kV_Ratio_sub dc_Ratio_sub pm_Ratio_sub an_Ratio_sub cd_Ratio_sub ct_Ratio_sub,
    F_Ratio_sub := fun_mk (st := s_Ratio_sub) l_Ratio_sub c_Ratio_sub k_Ratio_sub,
    b_Ratio_sub := (fun_mk (st := s_Ratio_sub) l_Ratio_sub c_Ratio_sub k_Ratio_sub).binds (ps := ["self", "other"]) fun _ _ _ _ _ _ us hl => match us, hl with | [_, _], _ => rfl,
    a_Ratio_sub := a_Ratio_sub,
    i_Ratio_sub := i_Ratio_sub,
    f_Ratio_rsub := f_Ratio_rsub,
    d_Ratio_rsub := PySem.W.fnOf "__rsub__" "Ratio.__rsub__" (defArgs s_Ratio_rsub) (defBody s_Ratio_rsub) (defScope s_Ratio_rsub) .none kV_Ratio_rsub dc_Ratio_rsub pm_Ratio_rsub an_Ratio_rsub cd_Ratio_rsub ct_Ratio_rsub,
    F_Ratio_rsub := fun_mk (st := s_Ratio_rsub) l_Ratio_rsub c_Ratio_rsub k_Ratio_rsub,
    b_Ratio_rsub := (fun_mk (st := s_Ratio_rsub) l_Ratio_rsub c_Ratio_rsub k_Ratio_rsub).binds (ps := ["self", "other"]) fun _ _ _ _ _ _ us hl => match us, hl with | [_, _], _ => rfl,
    a_Ratio_rsub := a_Ratio_rsub,
    i_Ratio_rsub := i_Ratio_rsub,
    f_Ratio_mul := f_Ratio_mul,
    d_Ratio_mul := PySem.W.fnOf "__mul__" "Ratio.__mul__" (defArgs s_Ratio_mul) (defBody s_Ratio_mul) (defScope s_Ratio_mul) .none kV_Ratio_mul dc_Ratio_mul pm_Ratio_mul an_Ratio_mul cd_Ratio_mul ct_Ratio_mul,
    F_Ratio_mul := fun_mk (st := s_Ratio_mul) l_Ratio_mul c_Ratio_mul k_Ratio_mul,
    b_Ratio_mul := (fun_mk (st := s_Ratio_mul) l_Ratio_mul c_Ratio_mul k_Ratio_mul).binds (ps := ["self", "other"]) fun _ _ _ _ _ _ us hl => match us, hl with | [_, _], _ => rfl,
    a_Ratio_mul := a_Ratio_mul,
    i_Ratio_mul := i_Ratio_mul,
    f_Ratio_rmul := f_Ratio_rmul,
    d_Ratio_rmul := PySem.W.fnOf "__rmul__" "Ratio.__rmul__" (defArgs s_Ratio_rmul) (defBody s_Ratio_rmul) (defScope s_Ratio_rmul) .none kV_Ratio_rmul dc_Ratio_rmul pm_Ratio_rmul an_Ratio_rmul cd_Ratio_rmul ct_Ratio_rmul,
    F_Ratio_rmul := fun_mk (st := s_Ratio_rmul) l_Ratio_rmul c_Ratio_rmul k_Ratio_rmul,
    b_Ratio_rmul := (fun_mk (st := s_Ratio_rmul) l_Ratio_rmul c_Ratio_rmul k_Ratio_rmul).binds (ps := ["self", "other"]) fun _ _ _ _ _ _ us hl => match us, hl with | [_, _], _ => rfl,
    a_Ratio_rmul := a_Ratio_rmul,
    i_Ratio_rmul := i_Ratio_rmul,
    f_Ratio_eq := f_Ratio_eq,
    d_Ratio_eq := PySem.W.fnOf "__eq__" "Ratio.__eq__" (defArgs s_Ratio_eq) (defBody s_Ratio_eq) (defScope s_Ratio_eq) .none kV_Ratio_eq dc_Ratio_eq pm_Ratio_eq an_Ratio_eq cd_Ratio_eq ct_Ratio_eq,
    F_Ratio_eq := fun_mk (st := s_Ratio_eq) l_Ratio_eq c_Ratio_eq k_Ratio_eq,
    b_Ratio_eq := (fun_mk (st := s_Ratio_eq) l_Ratio_eq c_Ratio_eq k_Ratio_eq).binds (ps := ["self", "other"]) fun _ _ _ _ _ _ us hl => match us, hl with | [_, _], _ => rfl,
    a_Ratio_eq := a_Ratio_eq,
    i_Ratio_eq := i_Ratio_eq,
    f_Ratio_str := f_Ratio_str,
    d_Ratio_str := PySem.W.fnOf "__str__" "Ratio.__str__" (defArgs s_Ratio_str) (defBody s_Ratio_str) (defScope s_Ratio_str) .none kV_Ratio_str dc_Ratio_str pm_Ratio_str an_Ratio_str cd_Ratio_str ct_Ratio_str,
    F_Ratio_str := fun_mk (st := s_Ratio_str) l_Ratio_str c_Ratio_str k_Ratio_str,
    b_Ratio_str := (fun_mk (st := s_Ratio_str) l_Ratio_str c_Ratio_str k_Ratio_str).binds (ps := ["self"]) fun _ _ _ _ _ _ us hl => match us, hl with | [_], _ => rfl,
    a_Ratio_str := a_Ratio_str,
    i_Ratio_str := i_Ratio_str,
    me_Ratio_over := ⟨a_Ratio_over, i_Ratio_over, k_Ratio_over⟩,
    me_Ratio_below := ⟨a_Ratio_below, i_Ratio_below, k_Ratio_below⟩,
    op_Ratio_add := ⟨sf_Ratio, a_Ratio_add, i_Ratio_add, a_Ratio_radd, i_Ratio_radd, ⟨_, i1_Ratio_add⟩, ⟨_, i2_Ratio_add⟩, su_Ratio_int, us_Ratio⟩,
    op_Ratio_sub := ⟨sf_Ratio, a_Ratio_sub, i_Ratio_sub, a_Ratio_rsub, i_Ratio_rsub, ⟨_, i1_Ratio_sub⟩, ⟨_, i2_Ratio_sub⟩, su_Ratio_int, us_Ratio⟩,
    op_Ratio_mul := ⟨sf_Ratio, a_Ratio_mul, i_Ratio_mul, a_Ratio_rmul, i_Ratio_rmul, ⟨_, i1_Ratio_mul⟩, ⟨_, i2_Ratio_mul⟩, su_Ratio_int, us_Ratio⟩,
    oth_Ratio := ⟨a_Ratio_eq, i_Ratio_eq, ot_Ratio_int, ot_Ratio_str, ot_Ratio_NoneType, ot_Ratio_tuple, ot_Ratio_list⟩,
    none_Ratio := ⟨ne_Ratio, ob_Ratio, a_Ratio_eq, i_Ratio_eq⟩,
    kbm_Ratio_over := kbinds_self fun _ u w => .of_eq rfl,
    kbm_Ratio_below := kbinds_self fun _ u w => .of_eq rfl,
    noi_Ratio_add := ⟨⟨_, cc_Ratio, mr_Ratio⟩, no1_Ratio_add, no2_Ratio_add⟩,
    noi_Ratio_sub := ⟨⟨_, cc_Ratio, mr_Ratio⟩, no1_Ratio_sub, no2_Ratio_sub⟩,
    noi_Ratio_mul := ⟨⟨_, cc_Ratio, mr_Ratio⟩, no1_Ratio_mul, no2_Ratio_mul⟩,
    e1_Ratio_init := e1_Ratio_init,
    v1_Ratio_init := ev1_Ratio_init,
    b1_Ratio_init := eb1_Ratio_init,
    e2_Ratio_init := e2_Ratio_init,
    v2_Ratio_init := ev2_Ratio_init,
    b2_Ratio_init := eb2_Ratio_init,
    ox_OutOfRange := ⟨x_OutOfRange, xs_OutOfRange, xe_OutOfRange, xt_OutOfRange, xk_OutOfRange⟩,
    ix_OutOfRange := a_OutOfRange_init,
    tx_OutOfRange := xf_OutOfRange,
    xf_OutOfRange := ⟨xg_OutOfRange, xh_OutOfRange, xe_OutOfRange, xd_OutOfRange⟩,
    ec_OutOfRange := ⟨xg_OutOfRange, xh_OutOfRange, xe_OutOfRange, xd_OutOfRange, xc_OutOfRange, hn_class, ht_class, xm_OutOfRange⟩,
    no_OutOfRange_value := no_OutOfRange_value,
    es_OutOfRange_OutOfRange := es_OutOfRange_OutOfRange,
    xi_OutOfRange_OutOfRange := xi_OutOfRange,
    xt_OutOfRange_OutOfRange := xt_OutOfRange,
    t_PIECE := t_PIECE,
    c_PIECE := PySem.W.mg_of X G q_PIECE,
    t_PIECE_DIGITS := t_PIECE_DIGITS,
    c_PIECE_DIGITS := PySem.W.mg_of X G q_PIECE_DIGITS,
    g_gcd := PySem.W.mg_of X G g_gcd,
    n_abs := PySem.W.mg_none_of X G z_abs,
    n_bool := PySem.W.mg_none_of X G z_bool,
    n_divmod := PySem.W.mg_none_of X G z_divmod,
    n_int := PySem.W.mg_none_of X G z_int,
    n_isinstance := PySem.W.mg_none_of X G z_isinstance,
    n_len := PySem.W.mg_none_of X G z_len,
    n_list := PySem.W.mg_none_of X G z_list,
    n_str := PySem.W.mg_none_of X G z_str }
  exact ⟨PySem.W.fnOf "law" "law" (defArgs s_law) (defBody s_law) (defScope s_law) .none kV_law dc_law pm_law an_law cd_law ct_law, fun s v => .of_eq rfl, fun base _ _ => ok_law T (fun_mk (st := s_law) l_law c_law k_law)⟩
end My
open PySem PySem.W PyProof.Rows
set_option maxRecDepth 100000 in
set_option maxHeartbeats 0 in
theorem PySem.Challenge.cw_extralink_k03_ratio_sums_holds : PySem.Challenge.rw_extralink_k03_ratio_sums.Holds := by
  w_on; o_law; k_head; (case hw => w_witness2)
  k_fill
  refine L2.walk_of (l := PySem.Challenge.rw_extralink_k03_ratio_sums) (n := 63) (k := 10) (x := "_law_script") (CX := fun _ => L2.CX0) (sp := fun w => My.spLaw _) rfl (by decide) rfl ⟨rfl, by decide, by decide⟩ (fun w h Y => PySem.W.kIn_of Y) ?F (fun _ _ a ns hl _ hS => ⟨a, ns, rfl, hS, hl, fun _ => rfl⟩) (fun _ _ _ _ _ h => h)
  case F =>
    intro w mg fa h KX G hmg
    refine' My.all_mk KX G hmg ?a_OutOfRange ?a_Ratio ?pg_Ratio ?hd_Ratio ?po_Ratio ?sa_Ratio ?mk_Ratio ?kc_Ratio ?hc_Ratio ?mo_Ratio ?ic_Ratio ?ty_Ratio ?hn_class ?ht_class ?na_Ratio_top ?na_Ratio_bottom ?su_Ratio_int ?su_Ratio_str ?su_Ratio_NoneType ?su_Ratio_tuple ?su_Ratio_list ?a_as_ratio ?l_as_ratio ?c_as_ratio ?k_as_ratio ?a_numeral ?l_numeral ?c_numeral ?k_numeral ?a_start ?l_start ?c_start ?k_start ?a_draw ?l_draw ?c_draw ?k_draw ?a_low ?l_low ?c_low ?k_low ?a_plus ?l_plus ?c_plus ?k_plus ?a_times ?l_times ?c_times ?k_times ?a_less ?l_less ?c_less ?k_less ?a_is ?l_is ?c_is ?k_is ?a_value ?l_value ?c_value ?k_value ?a_fraction ?l_fraction ?c_fraction ?k_fraction ?a_minus ?l_minus ?c_minus ?k_minus ?a_over ?l_over ?c_over ?k_over ?a_quotients ?l_quotients ?c_quotients ?k_quotients ?a_in_place ?l_in_place ?c_in_place ?k_in_place ?a_OutOfRange_init ?i_OutOfRange_init ?l_OutOfRange_init ?c_OutOfRange_init ?k_OutOfRange_init ?a_Ratio_init ?i_Ratio_init ?l_Ratio_init ?c_Ratio_init ?k_Ratio_init ?t_Ratio_init ?a_Ratio_top ?pg_Ratio_top ?pt_Ratio_top ?pr_Ratio_top ?l_Ratio_top ?c_Ratio_top ?k_Ratio_top ?a_Ratio_bottom ?pg_Ratio_bottom ?pt_Ratio_bottom ?pr_Ratio_bottom ?l_Ratio_bottom ?c_Ratio_bottom ?k_Ratio_bottom ?a_Ratio_over ?i_Ratio_over ?l_Ratio_over ?c_Ratio_over ?k_Ratio_over ?a_Ratio_below ?i_Ratio_below ?l_Ratio_below ?c_Ratio_below ?k_Ratio_below ?a_Ratio_neg ?i_Ratio_neg ?l_Ratio_neg ?c_Ratio_neg ?k_Ratio_neg ?a_Ratio_add ?i_Ratio_add ?l_Ratio_add ?c_Ratio_add ?k_Ratio_add ?a_Ratio_radd ?i_Ratio_radd ?l_Ratio_radd ?c_Ratio_radd ?k_Ratio_radd ?a_Ratio_sub ?i_Ratio_sub ?l_Ratio_sub ?c_Ratio_sub ?k_Ratio_sub ?a_Ratio_rsub ?i_Ratio_rsub ?l_Ratio_rsub ?c_Ratio_rsub ?k_Ratio_rsub ?a_Ratio_mul ?i_Ratio_mul ?l_Ratio_mul ?c_Ratio_mul ?k_Ratio_mul ?a_Ratio_rmul ?i_Ratio_rmul ?l_Ratio_rmul ?c_Ratio_rmul ?k_Ratio_rmul ?a_Ratio_eq ?i_Ratio_eq ?l_Ratio_eq ?c_Ratio_eq ?k_Ratio_eq ?a_Ratio_str ?i_Ratio_str ?l_Ratio_str ?c_Ratio_str ?k_Ratio_str ?sf_Ratio ?us_Ratio ?i1_Ratio_add ?i2_Ratio_add ?i1_Ratio_sub ?i2_Ratio_sub ?i1_Ratio_mul ?i2_Ratio_mul ?ot_Ratio_int ?ot_Ratio_str ?ot_Ratio_NoneType ?ot_Ratio_tuple ?ot_Ratio_list ?ne_Ratio ?ob_Ratio ?cc_Ratio ?mr_Ratio ?no1_Ratio_add ?no2_Ratio_add ?no1_Ratio_sub ?no2_Ratio_sub ?no1_Ratio_mul ?no2_Ratio_mul ?x_OutOfRange ?xs_OutOfRange ?xe_OutOfRange ?xt_OutOfRange ?xk_OutOfRange ?xg_OutOfRange ?xh_OutOfRange ?xd_OutOfRange ?xc_OutOfRange ?xm_OutOfRange ?xi_OutOfRange ?xf_OutOfRange ?no_OutOfRange_value ?es_OutOfRange_OutOfRange ?q_PIECE ?q_PIECE_DIGITS ?g_gcd ?z_abs ?z_bool ?z_divmod ?z_int ?z_isinstance ?z_len ?z_list ?z_str ?a_law ?l_law ?c_law ?k_law
    (case a_OutOfRange => k_is)
    (case a_Ratio => k_is)
    (case pg_Ratio => k_is)
    (case hd_Ratio => k_is)
    (case po_Ratio => k_is)
    (case sa_Ratio => k_is)
    (case mk_Ratio => k_is)
    (case kc_Ratio => k_is)
    (case hc_Ratio => k_is)
    (case mo_Ratio => k_is)
    (case ic_Ratio => k_is)
    (case ty_Ratio => k_is)
    (case hn_class => k_is)
    (case ht_class => k_is)
    (case na_Ratio_top => k_is)
    (case na_Ratio_bottom => k_is)
    (case su_Ratio_int => k_is)
    (case su_Ratio_str => k_is)
    (case su_Ratio_NoneType => k_is)
    (case su_Ratio_tuple => k_is)
    (case su_Ratio_list => k_is)
    (case a_as_ratio => k_is)
    (case l_as_ratio => k_is)
    (case c_as_ratio => k_is)
    (case k_as_ratio => k_is)
    (case a_numeral => k_is)
    (case l_numeral => k_is)
    (case c_numeral => k_is)
    (case k_numeral => k_is)
    (case a_start => k_is)
    (case l_start => k_is)
    (case c_start => k_is)
    (case k_start => k_is)
    (case a_draw => k_is)
    (case l_draw => k_is)
    (case c_draw => k_is)
    (case k_draw => k_is)
    (case a_low => k_is)
    (case l_low => k_is)
    (case c_low => k_is)
    (case k_low => k_is)
    (case a_plus => k_is)
    (case l_plus => k_is)
    (case c_plus => k_is)
    (case k_plus => k_is)
    (case a_times => k_is)
    (case l_times => k_is)
    (case c_times => k_is)
    (case k_times => k_is)
    (case a_less => k_is)
    (case l_less => k_is)
    (case c_less => k_is)
    (case k_less => k_is)
    (case a_is => k_is)
    (case l_is => k_is)
    (case c_is => k_is)
    (case k_is => k_is)
    (case a_value => k_is)
    (case l_value => k_is)
    (case c_value => k_is)
    (case k_value => k_is)
    (case a_fraction => k_is)
    (case l_fraction => k_is)
    (case c_fraction => k_is)
    (case k_fraction => k_is)
    (case a_minus => k_is)
    (case l_minus => k_is)
    (case c_minus => k_is)
    (case k_minus => k_is)
    (case a_over => k_is)
    (case l_over => k_is)
    (case c_over => k_is)
    (case k_over => k_is)
    (case a_quotients => k_is)
    (case l_quotients => k_is)
    (case c_quotients => k_is)
    (case k_quotients => k_is)
    (case a_in_place => k_is)
    (case l_in_place => k_is)
    (case c_in_place => k_is)
    (case k_in_place => k_is)
    (case a_OutOfRange_init => k_is)
    (case i_OutOfRange_init => k_is)
    (case l_OutOfRange_init => k_is)
    (case c_OutOfRange_init => k_is)
    (case k_OutOfRange_init => k_is)
    (case a_Ratio_init => k_is)
    (case i_Ratio_init => k_is)
    (case l_Ratio_init => k_is)
    (case c_Ratio_init => k_is)
    (case k_Ratio_init => k_is)
    (case t_Ratio_init => k_is)
    (case a_Ratio_top => k_is)
    (case pg_Ratio_top => k_is)
    (case pt_Ratio_top => k_is)
    (case pr_Ratio_top => k_is)
    (case l_Ratio_top => k_is)
    (case c_Ratio_top => k_is)
    (case k_Ratio_top => k_is)
    (case a_Ratio_bottom => k_is)
    (case pg_Ratio_bottom => k_is)
    (case pt_Ratio_bottom => k_is)
    (case pr_Ratio_bottom => k_is)
    (case l_Ratio_bottom => k_is)
    (case c_Ratio_bottom => k_is)
    (case k_Ratio_bottom => k_is)
    (case a_Ratio_over => k_is)
    (case i_Ratio_over => k_is)
    (case l_Ratio_over => k_is)
    (case c_Ratio_over => k_is)
    (case k_Ratio_over => k_is)
    (case a_Ratio_below => k_is)
    (case i_Ratio_below => k_is)
    (case l_Ratio_below => k_is)
    (case c_Ratio_below => k_is)
    (case k_Ratio_below => k_is)
    (case a_Ratio_neg => k_is)
    (case i_Ratio_neg => k_is)
    (case l_Ratio_neg => k_is)
    (case c_Ratio_neg => k_is)
    (case k_Ratio_neg => k_is)
    (case a_Ratio_add => k_is)
    (case i_Ratio_add => k_is)
    (case l_Ratio_add => k_is)
    (case c_Ratio_add => k_is)
    (case k_Ratio_add => k_is)
    (case a_Ratio_radd => k_is)
    (case i_Ratio_radd => k_is)
    (case l_Ratio_radd => k_is)
    (case c_Ratio_radd => k_is)
    (case k_Ratio_radd => k_is)
    (case a_Ratio_sub => k_is)
    (case i_Ratio_sub => k_is)
    (case l_Ratio_sub => k_is)
    (case c_Ratio_sub => k_is)
    (case k_Ratio_sub => k_is)
    (case a_Ratio_rsub => k_is)
    (case i_Ratio_rsub => k_is)
    (case l_Ratio_rsub => k_is)
    (case c_Ratio_rsub => k_is)
    (case k_Ratio_rsub => k_is)
    (case a_Ratio_mul => k_is)
    (case i_Ratio_mul => k_is)
    (case l_Ratio_mul => k_is)
    (case c_Ratio_mul => k_is)
    (case k_Ratio_mul => k_is)
    (case a_Ratio_rmul => k_is)
    (case i_Ratio_rmul => k_is)
    (case l_Ratio_rmul => k_is)
    (case c_Ratio_rmul => k_is)
    (case k_Ratio_rmul => k_is)
    (case a_Ratio_eq => k_is)
    (case i_Ratio_eq => k_is)
    (case l_Ratio_eq => k_is)
    (case c_Ratio_eq => k_is)
    (case k_Ratio_eq => k_is)
    (case a_Ratio_str => k_is)
    (case i_Ratio_str => k_is)
    (case l_Ratio_str => k_is)
    (case c_Ratio_str => k_is)
    (case k_Ratio_str => k_is)
    (case sf_Ratio => k_is)
    (case us_Ratio => k_is)
    (case i1_Ratio_add => k_is)
    (case i2_Ratio_add => k_is)
    (case i1_Ratio_sub => k_is)
    (case i2_Ratio_sub => k_is)
    (case i1_Ratio_mul => k_is)
    (case i2_Ratio_mul => k_is)
    (case ot_Ratio_int => k_is)
    (case ot_Ratio_str => k_is)
    (case ot_Ratio_NoneType => k_is)
    (case ot_Ratio_tuple => k_is)
    (case ot_Ratio_list => k_is)
    (case ne_Ratio => k_is)
    (case ob_Ratio => k_is)
    (case cc_Ratio => k_is)
    (case mr_Ratio => rfl)
    (case no1_Ratio_add => k_is)
    (case no2_Ratio_add => k_is)
    (case no1_Ratio_sub => k_is)
    (case no2_Ratio_sub => k_is)
    (case no1_Ratio_mul => k_is)
    (case no2_Ratio_mul => k_is)
    (case x_OutOfRange => exact ⟨_, _, _, _, _, _, _, _, _, _, _, _, _, _, _, by k_is, by decide +kernel⟩)
    (case xs_OutOfRange => k_is)
    (case xe_OutOfRange => k_is)
    (case xt_OutOfRange => k_is)
    (case xk_OutOfRange => k_is)
    (case xg_OutOfRange => k_is)
    (case xh_OutOfRange => k_is)
    (case xd_OutOfRange => k_is)
    (case xc_OutOfRange => k_is)
    (case xm_OutOfRange => k_is)
    (case xi_OutOfRange => k_is)
    (case xf_OutOfRange => k_is)
    (case no_OutOfRange_value => k_is)
    (case es_OutOfRange_OutOfRange => k_is)
    (case q_PIECE => k_is)
    (case q_PIECE_DIGITS => k_is)
    (case g_gcd => k_is)
    (case z_abs => k_is)
    (case z_bool => k_is)
    (case z_divmod => k_is)
    (case z_int => k_is)
    (case z_isinstance => k_is)
    (case z_len => k_is)
    (case z_list => k_is)
    (case z_str => k_is)
    (case a_law => k_is)
    (case l_law => k_is)
    (case c_law => k_is)
    (case k_law => k_is)
