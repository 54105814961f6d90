import PyProof.Rows.All
import Wide.All
import OpenK.AllK
import Wide.FinOn
import HandS.Base
import HandS.Call
import HandS.List
import HandS.Comp
import HandS.Ends
import HandS.Dict
import HandS.Iter
import HandS.Text
import HandS.Words
import HandS.WordsList
import HandS.WordsDict
import HandS.Wide
import HandS.IsInst
import HandS.Codes
import HandS.Property
import HandS.ClsMeth
import HandS.Defaults
import HandS.MakeKw
import HandS.CallLocal
import HandS.CallSlots
import HandS.Exc
import HandS.ExcInit
import HandS.ExcField
import HandS.ExcIs
import HandS.ExcOwn
import HandS.TryOnly
import HandS.WordsExc
import HandS.Gcd
import HandS.FStr
import HandS.StrMore
import HandS.WideBits
import HandS.Style
import HandS.OwnEq
import OpenK.KMeth
import KE.KOpsOwn
import HandS.TupAny
import PyProof.InstEq
import HandS.HotCalls
import HandS.ExcValue
import HandS.Star
import HandS.Zip
import HandS.Walk
import HandS.DictComp
import HandS.Conv
import KE.KDictZip
import HandS.Deep
import PySem.Challenge.RW_extralink_k22_whole_line_sums
set_option Elab.async false
set_option linter.all false
set_option maxRecDepth 100000
/-! My own rules beside the hand layer's: an item of a list read for a store in place, a text backwards, a call by keywords alone; what is said of lists of ints as data. -/
namespace My
open PySem PySem.Spec PyProof.Rows L2

/-! ### rules -/
section
variable {X : Cx}
def rGetL (K : PySem.W.Frag) : V → V → Hp → VK → Prop := fun x y H Q => ∃ p xs i v, x = .ref p ∧ y = .int i ∧ SqL K H p xs ∧ 0 ≤ i ∧ atI xs i = some v ∧ Q v H
theorem get_list : PGet X (rGetL X.K) := by
  intro pins s σ H o i ov iv Q I ro ri h
  obtain ⟨p, xs, k, z, rfl, rfl, hq, h0, he, q⟩ := h
  cases ro
  obtain ⟨t, rfl⟩ := ri
  obtain ⟨its, r, pl, hz⟩ := I.list hq
  obtain ⟨j, h1, h2, h3, h4, h5⟩ := atI_get he
  obtain ⟨w, ew, rw'⟩ := r.get h2
  have hl := r.length
  have hn := line63
  have hj : k.toNat = j := by
    rw [seqIndex_of h0 h5] at h1
    exact Option.some.inj h1
  exact wpAny_getItem_list pl.isList h0 (by omega) (by rw [hj]; simpa using ew) ⟨z, H, I, rw', q⟩

def revS (z : Str) : Str := ⟨z.cps.reverse⟩
def tRevS (te : TE) : TE := fun σ H Q => te σ H fun x H1 => ∃ z, x = .str z ∧ z.length ≤ sizeLine ∧ Q (.str (revS z)) H1
theorem range_back (n : Nat) : sliceRange ((n : Int) - 1) (-1) (-1) = (List.range n).map fun k => n - 1 - k := by
  unfold sliceRange
  have e : (if (-1 : Int) > 0 then (if ((n : Int) - 1) < -1 then (-1 - ((n : Int) - 1) + -1 - 1) / -1 else 0) else (if ((n : Int) - 1) > -1 then (((n : Int) - 1) - -1 - -1 - 1) / (- -1) else 0)).toNat = n := by
    rw [if_neg (by decide)]
    by_cases h : ((n : Int) - 1) > -1
    · rw [if_pos h, show (- -1 : Int) = 1 by decide, Int.ediv_one]
      omega
    · rw [if_neg h]
      omega
  show List.map (fun (k : Nat) => (((n : Int) - 1) + (-1) * (k : Int)).toNat) (List.range (Int.toNat (if (-1 : Int) > 0 then (if ((n : Int) - 1) < -1 then (-1 - ((n : Int) - 1) + -1 - 1) / -1 else 0) else (if ((n : Int) - 1) > -1 then (((n : Int) - 1) - -1 - -1 - 1) / (- -1) else 0)))) = _
  rw [e]
  refine List.map_congr_left fun k hk => ?_
  have := List.mem_range.mp hk
  omega
theorem filterMap_back (z : Array Nat) : (((List.range z.size).map fun k => z.size - 1 - k).filterMap (z[·]?)) = z.toList.reverse := by
  refine List.ext_getElem? fun i => ?_
  have e : (((List.range z.size).map fun k => z.size - 1 - k).filterMap (z[·]?)) = (List.range z.size).map fun k => z.getD (z.size - 1 - k) 0 := by
    rw [List.filterMap_map]
    have : ∀ l : List Nat, (∀ k ∈ l, k < z.size) → l.filterMap ((fun x => z[x]?) ∘ fun k => z.size - 1 - k) = l.map fun k => z.getD (z.size - 1 - k) 0 := by
      intro l
      induction l with
      | nil => intro _; rfl
      | cons a r ih =>
        intro h
        have ha := h a List.mem_cons_self
        have hb : z.size - 1 - a < z.size := by omega
        rw [List.filterMap_cons]
        have e1 : ((fun x => z[x]?) ∘ fun k => z.size - 1 - k) a = some (z.getD (z.size - 1 - a) 0) := by
          show z[z.size - 1 - a]? = _
          rw [Array.getElem?_eq_getElem hb]
          simp [Array.getD, hb]
        rw [e1, List.map_cons, ih fun k hk => h k (List.mem_cons_of_mem _ hk)]
    exact this _ fun k hk => List.mem_range.mp hk
  rw [e, List.getElem?_map]
  by_cases hi : i < z.size
  · rw [List.getElem?_range hi, List.getElem?_reverse (by simpa using hi)]
    have hb : z.size - 1 - i < z.size := by omega
    simp [Array.getD, hb]
  · rw [List.getElem?_eq_none (by simpa using hi), List.getElem?_eq_none (by simpa using hi)]
    rfl
theorem pe_revS {e : Expr} {te : TE} {k : Nat} {p1 p2 p3 pos : Pos} (he : PE X e te) : PE X (.Subscript e (.Slice none none (some (.UnaryOp .USub (.Constant (.int 1) k p1) p2)) p3) pos) (tRevS te) := by
  refine ⟨fun pins s σ H Q I h => ?_⟩
  refine Subscript_ (thn (he.run pins s σ H _ I h) fun v s1 ⟨x, H1, I1, r1, q1⟩ => ?_)
  obtain ⟨z, ex, hz, q⟩ := q1
  subst ex
  obtain ⟨tz, rfl⟩ := r1
  have hst : PO X (some (.UnaryOp .USub (.Constant (.int 1) k p1) p2)) (tPart (tUn (rU fun i => .int (-i)) (tC (.int 1)))) := po_some (pe_un un_neg pe_int)
  refine wpAny_Slice (thn (po_none.run pins s1 σ H1 (fun o H2 => o = none ∧ H2 = H1) I1 ⟨rfl, rfl⟩) fun vl s2 ⟨l, H2, I2, pl, el, e2⟩ => ?_)
  subst el e2
  refine thn (po_none.run pins s2 σ H2 (fun o H3 => o = none ∧ H3 = H2) I2 ⟨rfl, rfl⟩) fun vu s3 ⟨u, H3, I3, pu, eu, e3⟩ => ?_
  subst eu e3
  refine thn (hst.run pins s3 σ H3 (fun o H4 => o = some (-1) ∧ H4 = H3) I3 ⟨1, rfl, -1, rfl, rfl, rfl⟩) fun vs s4 ⟨o, H4, I4, ps, eo, e4⟩ => ?_
  subst eo e4
  have I5 : Inv X pins σ H4 { s4 with heap := s4.heap.push { cls := .type "slice", data := .fields #[vl, vu, vs] } } := I4.kept (t' := s4.toks) fun b ob q => Heap.get?_push_of_some _ q
  obtain ⟨l, rfl, el⟩ := IsPart.raw pl
  obtain ⟨u, rfl, eu⟩ := IsPart.raw pu
  obtain ⟨st, rfl, est⟩ := IsPart.raw ps
  cases l with
  | some _ => cases el
  | none =>
  cases u with
  | some _ => cases eu
  | none =>
  cases st with
  | none => cases est
  | some st =>
  obtain ⟨k1, tk⟩ := st
  have ek : k1 = -1 := Option.some.inj est
  subst ek
  show wpAny (model X.prog X.w) X.A (subscriptTail e (.Slice none none (some (.UnaryOp .USub (.Constant (.int 1) k p1) p2)) p3) (.str z tz) (.ref s4.heap.objs.size)) (EP X pins σ Q) X.xe { s4 with heap := s4.heap.push { cls := .type "slice", data := .fields #[.none, .none, .int (-1) tk] } }
  refine tail_any (ops := [.ref s4.heap.objs.size, .str z tz]) (typeIs_str _ _ _) F.slot_str_getitem.lookup ?_ (by with_unfolding_all rfl)
  refine wpAny_getItem_str_slice (l := none) (u := none) (st := some (-1, tk)) ⟨_, Heap.get?_push_size _ rfl, rfl, rfl⟩ rfl ?_
  have hp : slicePicked z none none (some (-1, tk)) = (List.range z.cps.size).map fun k => z.cps.size - 1 - k := by
    show Builtin.Str.strSliceIndices none none (-1) z.length = _
    unfold Builtin.Str.strSliceIndices
    exact range_back z.length
  have hr : (⟨((slicePicked z none none (some (-1, tk))).filterMap (z.cps[·]?)).toArray⟩ : Str) = revS z := by
    rw [hp, filterMap_back]
    unfold revS
    congr 1
    apply Array.ext'
    simp
  show Made.post (if ((-1 : Int) == 1 && (slicePicked z none none (some (-1, tk))).length == z.length) = true then Made.val (.str z tz) else Made.str ⟨((slicePicked z none none (some (-1, tk))).filterMap (z.cps[·]?)).toArray⟩) (EP X pins σ Q) _
  rw [if_neg (by rw [show ((-1 : Int) == 1) = false by decide, Bool.false_and]; exact Bool.false_ne_true), hr]
  refine ⟨?_, .str _, H4, I5.tok _, ⟨_, rfl⟩, q⟩
  show (revS z).cps.size ≤ sizeLine
  unfold revS
  rw [Array.size_reverse]
  exact hz

section
variable {CX : CXT} {k : Nat} {f : Addr} {fd : FuncData} {ps ks : List Str} {sp : Sp} {E : XK} {x : Str} {p pos : Pos} {kws : List Keyword} {tk : TA} {g : List Value → List Value → List Value} {gV : List V → List V → List V}
def tCallK0 (sp : Sp) (gV : List V → List V → List V) (E : XK) (tk : TA) : TE := fun σ H Q => tk σ H fun zs H2 => sp (gV [] zs) H2 Q E
/-- f(k = v, ..), nothing by place -/
theorem pe_callK0 (F : FnOk X.prog X.w X.K X.mg X.base CX k f fd ps sp) (hr : Room k X.A) (hg : Gl X x) (hm : X.mg x = some (.ref f)) (hk : PySem.W.keepIn X.K (.ref f) = true) (hb : KBinds X.K fd ps ks g gV) (hx : Passes CX X E)
    (hkw : PK X kws tk) (hall : (backToKw pos (keywordEach kws X.env)).all (·.1.isSome) = true := by rfl) (hks : (backToKw pos (keywordEach kws X.env)).filterMap (·.1) = ks := by rfl)
    (hdb : (x == ("__debug__" : Str)) = false := by decide)
    (hpl : ((backTo pos (starEach [] X.env)).any (·.1) || (backToKw pos (keywordEach kws X.env)).any (·.1.isNone)) = false := by rfl) :
    PE X (.Call (.Name x p) [] kws pos) (tCallK0 sp gV E tk) := by
  refine ⟨fun pins s σ H Q I h => ?_⟩
  refine wpAny_Call_Name_kw (ld_glob I hg hm ?_ hdb)
  refine PySem.W.callWith_KW0 (h₀ := X.base) I.ok.mod.kin hk hall (thn (hkw.run pos pins s σ H _ I h) fun ws s2 ⟨zs, H2, I2, rz, q2⟩ => ⟨I2.kIn, ?_⟩) hpl
  rw [hks]
  exact run_fnk (us := []) (vs := []) F hr hb hx I2 .nil rz q2
end
end

/-- all parameters by keyword, in their order -/
def kAll {α : Type} : List α → List α → List α
  | [], zs => zs
  | _ :: _, _ => []
theorem kbinds_all {K : PySem.W.Frag} {fd : FuncData} {ps ks : List Str} (h0 : 0 < ps.length) (h : ∀ (s : Shared) (ws : List Value), K.In s.heap → ws.length = ps.length → BindsTo s fd ⟨[], ks.zip ws⟩ (ps.zip ws)) : KBinds K fd ps ks kAll kAll where
  to := fun s us ws hK hl => by
    cases us with
    | nil => exact h s ws hK hl
    | cons u r =>
      have z : (0 : Nat) = ps.length := hl
      omega
  rel := fun {vs us zs ws} r rz => by
    cases r with
    | nil => exact rz
    | cons _ _ => exact .nil

/-! ### places -/
theorem at0 {α : Type} {x : α} {xs : List α} : atI (x :: xs) 0 = some x := atI_nat (j := 0) rfl
theorem ix_nat {n j : Nat} (h : j < n) : ixN n (j : Int) = some j := by
  unfold ixN
  rw [if_pos (by omega), if_pos (by omega), Int.toNat_natCast]
theorem ix0 {n : Nat} (h : 0 < n) : ixN n 0 = some 0 := ix_nat h

/-! ### walks over a text -/
theorem lc_str {x : Str} {g : TG} {tt : TT} {te : TE} {vs : List Nat} {σ : L2.St} {H1 : Hp} {D : Addr} {Qd : Hp → Prop} (Pv : Nat → Hp → Prop) (h0 : Pv 0 (upd H1 D (.lst [])))
    (hs : ∀ i c H, x.cps.toList[i]? = some c → Pv i H → g (.str ⟨#[c]⟩) (wipe σ vs) H fun σ2 H2 => wipe σ2 vs = wipe σ vs ∧ tt σ2 H2 fun b H3 =>
      if b = true then te σ2 H3 fun y H4 => ∃ acc, H4 D = some (.lst acc) ∧ acc.length < sizeLine ∧ Pv (i + 1) (upd H4 D (.lst (acc ++ [y]))) else Pv (i + 1) H3) (hd : ∀ H, Pv x.cps.size H → Qd H) :
    ∃ W : Nat → Nat → Hp → Prop, (∃ m, W 0 m (upd H1 D (.lst []))) ∧ ∀ i m H, W i m H →
      ((Its x).stop i H ∧ Qd H) ∨ ((Its x).go i H ∧ ∃ Nx : Hp → Prop, (∀ H', Nx H' → ∃ m', m' < m ∧ W (i + 1) m' H') ∧ ∀ y H', (Its x).yld i H y H' → g y (wipe σ vs) H' fun σ2 H2 => wipe σ2 vs = wipe σ vs ∧ tt σ2 H2 fun b H3 =>
        if b = true then te σ2 H3 fun y H4 => ∃ acc, H4 D = some (.lst acc) ∧ acc.length < sizeLine ∧ Nx (upd H4 D (.lst (acc ++ [y]))) else Nx H3) := by
  refine ⟨fun i m H => m = x.cps.size - i ∧ i ≤ x.cps.size ∧ Pv i H, ⟨_, rfl, Nat.zero_le _, h0⟩, ?_⟩
  rintro i m H ⟨rfl, hi, p⟩
  by_cases hlt : i < x.cps.size
  · refine .inr ⟨hlt, Pv (i + 1), fun H' p' => ⟨x.cps.size - (i + 1), by omega, rfl, hlt, p'⟩, fun y H' q => ?_⟩
    obtain ⟨e, c, hc, ey⟩ := q
    subst e
    subst ey
    exact hs i c _ (by rw [Array.getElem?_toList]; exact hc) p
  · have e : i = x.cps.size := by omega
    subst e
    exact .inl ⟨Nat.le_refl _, hd H p⟩

/-! ### lists of ints, of texts as data -/
theorem dp_ints {K : PySem.W.Frag} {H : Hp} : ∀ ns : List Int, DpAll K H (ns.map V.int) (ns.map PyData.int)
  | [] => .nil
  | n :: r => .cons (.int n) (dp_ints r)
theorem dp_strs {K : PySem.W.Frag} {H : Hp} : ∀ ns : List Str, DpAll K H (ns.map V.str) (ns.map PyData.str)
  | [] => .nil
  | n :: r => .cons (.str n) (dp_strs r)
theorem shaped_ints (ns : List Int) : SeqAt.shaped (.list (ns.map PyData.int)) = true := PySem.W.ke_shaped_ints ns
theorem eqv_nil : PyData.eqv (.list []) (.list []) = true := by simp [PyData.eqv, PyData.eqvAll]
theorem eqv_cons {a : PyData} {r : List PyData} : PyData.eqv (.list (a :: r)) (.list []) = false := by simp [PyData.eqv, PyData.eqvAll]
theorem same_upd {H : Hp} {p : Addr} {o : HO} (h : H p = none) : Same H (upd H p o) := fun b x e => by
  rw [upd_ne (ne_of_none e h)]
  exact e
/-- what G doesn't know may change -/
theorem same_mut {G H : Hp} {p : Addr} {o : HO} (e : Same G H) (h : G p = none) : Same G (upd H p o) := fun b x q => by
  rw [upd_ne (ne_of_none q h)]
  exact e b x q
end My

/-! My own rules about instances of own classes: texts of them, making them by names and in a try, operators; errors with a dict in an except suite. -/
namespace My
open PySem PySem.Spec PyProof.Rows L2

section
variable {X : Cx}
/-! ### floor division by any divisor that is not 0 -/
def CDivZ (_ j : Int) : Prop := j ≠ 0 ∧ j.natAbs.log2 < 9000
theorem op_fdivZ : OpR X (binaryOp .FloorDiv) (rI CDivZ fun i j => .int (i.fdiv j)) := opI fun _ _ _ _ _ _ _ hc q => floordiv_int hc.1 q (.inl (PyProof.noPylong_of_log2 hc.2))
theorem cdivZ {i j : Int} (h : j ≠ 0) (hb : j.natAbs < 2 ^ 8000) : CDivZ i j := ⟨h, Nat.lt_of_lt_of_le (PySem.Flt.log2_lt_of (by decide) hb) (by decide)⟩

/-! ### str(o), o of an own class with __str__ -/
def rStrO (C : Addr) (sp : Sp) : List V → Hp → VK → Prop := fun xs H Q => ∃ a dx fs, xs = [.ref a] ∧ H a = some (.ins C dx fs) ∧ sp [.ref a] H (fun v H' => ∃ z, v = .str z ∧ Q (.str z) H') E0
theorem call_strO {CX : CXT} {k : Nat} {C f : Addr} {fd : FuncData} {ps : List Str} {sp : Sp} (hs : PySem.W.findIn X.K (.ref C) "__str__" = some (some (.ref f))) (hf : PySem.W.isFn X.K (.ref f) = true)
    (F : FnOk X.prog X.w X.K X.mg X.base CX k f fd ps sp) (hr : Room (k + 2) X.A) (hb : Binds X.K fd ps []) (hx : Passes CX X.nox E0) : CallR X (.type "str") (rStrO C sp) := by
  intro pins s σ H xs us Q I r h
  obtain ⟨a, dx, fs, rfl, ea, q⟩ := h
  obtain ⟨u, rfl, ru⟩ := vals1 r
  obtain rfl : u = Value.ref a := ru
  obtain ⟨mA, O, _, _, _, _⟩ := ins_get I.hok ea
  obtain ⟨od, J, _⟩ := O.look
  have hl : ([Value.ref a] ++ []).length = ps.length := by rw [← F.len _ _ _ _ q]; rfl
  refine PySem.W.kso_call hr.in1.in1.units0 I.kIn J hs hf (wpAny_call ?_)
  refine codeAny_mono (F.run X.A.in1.in1 X.stack s H ⟨[.ref a], []⟩ [.ref a] [.ref a] _ E0 hr.in1.in1 I.env0.in1.in1 (hb _ [.ref a] I.kIn hl) (.cons rfl .nil) q) fun r s' hq => ?_
  cases r with
  | error er => exact False.elim (hx pins σ H s er s' (I.wish _) hq)
  | ok fl =>
    cases fl with
    | ret u =>
      obtain ⟨v, H', I3, rv, z, ez, q3⟩ := I.after hq
      subst ez
      obtain ⟨t, rfl⟩ := rv
      exact ⟨.str z, H', I3, ⟨t, rfl⟩, q3⟩
    | next => exact False.elim hq
    | brk => exact False.elim hq
    | cont => exact False.elim hq

/-! ### C(k = v, ..), nothing by place -/
section
variable {CX : CXT} {k : Nat} {f C : Addr} {fd : FuncData} {ps ks : List Str} {sp : Sp} {E : XK} {x : Str} {p pos : Pos} {e : Expr} {es : List Expr} {kws : List Keyword} {t tk : TA} {g : List Value → List Value → List Value} {gV : List V → List V → List V}
theorem pe_makeK0 (M : Mk X.K C f) (F : FnOk X.prog X.w X.K X.mg X.base CX k f fd ps sp) (hr : Room (k + 1) X.A) (hg : Gl X x) (hm : X.mg x = some (.ref C)) (hb : KBn X.K fd ps (0 + 1) ks g gV) (hx : Passes CX X E)
    (hkw : PK X kws tk) (hall : (backToKw pos (keywordEach kws X.env)).all (·.1.isSome) = true := by rfl) (hks : (backToKw pos (keywordEach kws X.env)).filterMap (·.1) = ks := by rfl)
    (hdb : (x == ("__debug__" : Str)) = false := by decide)
    (hpl : ((backTo pos (starEach [] X.env)).any (·.1) || (backToKw pos (keywordEach kws X.env)).any (·.1.isNone)) = false := by rfl) :
    PE X (.Call (.Name x p) [] kws pos) (tMakeN C 0 ks.length sp gV E tNil tk) := by
  refine ⟨fun pins s σ H Q I h => ?_⟩
  refine wpAny_Call_Name_kw (ld_glob I hg hm ?_ hdb)
  refine PySem.W.callWith_KW0 (h₀ := X.base) I.ok.mod.kin M.kp hall (thn (hkw.run pos pins s σ H _ I h) fun ws s2 ⟨zs, H2, I2, rz, l1, l2, q2⟩ => ⟨I2.kIn, ?_⟩) hpl
  rw [hks]
  exact run_makeN M F hr hb hx I2 .nil rz rfl l2 q2

/-! ### cls(e, ..), the class under a name of the frame -/
def tMakeL (C : Addr) (i : Nat) (sp : Sp) (dvs : List V) (E : XK) (t : TA) : TE := fun σ H Q => σ[i]? = some (some (.ref C)) ∧ tMake C sp dvs E t σ H Q
theorem pe_makeL {i : Nat} {dvs : List V} {ds : List Value} (M : Mk X.K C f) (F : FnOk X.prog X.w X.K X.mg X.base CX k f fd ps sp) (hr : Room (k + 1) X.A) (hN : X.N[i]? = some x) (hv : Vis X.env.scope x) (hb : Binds X.K fd ps ds) (hd : Vals dvs ds) (hx : Passes CX X E)
    (ha : PA X (e :: es) t) (hd1 : (x == ("__debug__" : Str)) = false := by decide) (hcd : (x == ("__classdict__" : Str)) = false := by decide)
    (he : starEach (e :: es) X.env = (false, eval e X.env) :: starEach es X.env := by rfl) (hpl : (backTo pos (starEach es X.env)).any (·.1) = false := by rfl) :
    PE X (.Call (.Name x p) (e :: es) [] pos) (tMakeL C i sp dvs E t) := by
  refine ⟨fun pins s σ H Q I h => ?_⟩
  obtain ⟨hs, h⟩ := h
  refine wpAny_Call_Name_kw (thn ((pe_var (pos := p) hN hv hd1 hcd).run pins s σ H (fun v H1 => v = .ref C ∧ H1 = H) I ⟨.ref C, hs, rfl, rfl⟩) fun u s1 ⟨v, H1, I1, r1, q1⟩ => ?_)
  obtain ⟨rfl, rfl⟩ := q1
  cases r1
  refine PySem.W.callWith_K (h₀ := X.base) I.ok.mod.kin M.kp (thn (ha.run pos pins s1 σ _ _ I1 h) fun us s2 ⟨vs, H2, I2, r, q⟩ => ⟨I2.kIn, ?_⟩) he hpl
  exact run_make M F hr hb hd hx I2 r q

/-! ### C(e, ..) where what is raised is wished for at the caller's slots -/
def tMakeS (C : Addr) (sp : Sp) (dvs : List V) (E : L2.St → XK) (t : TA) : TE := fun σ H Q => tMake C sp dvs (E σ) t σ H Q
theorem run_makeS {pins : List (Addr × Obj)} {σ : L2.St} {H : Hp} {s : Shared} {Q : VK} {us : List Value} {vs : List V} {dvs : List V} {ds : List Value} (M : Mk X.K C f) (F : FnOk X.prog X.w X.K X.mg X.base CX k f fd ps sp) (hr : Room (k + 1) X.A) (hb : Binds X.K fd ps ds) (hd : Vals dvs ds)
    (hx : PassesAt CX X σ E) (I : Inv X pins σ H s) (r : Vals vs us)
    (h : ∀ x dx, H x = none → H dx = none → dx ≠ x → sp (.ref x :: (vs ++ dvs)) (upd (upd H dx (.own x)) x (.ins C dx [])) (fun v H2 => v = .non ∧ Q (.ref x) H2) E) :
    wpAny (model X.prog X.w) X.A (call (.ref C) us) (EP X pins σ Q) X.xe s := by
  have hq := h (s.heap.objs.size + 1) s.heap.objs.size (I.hok.fresh (Nat.le_succ _)) (I.hok.fresh (Nat.le_refl _)) (Nat.ne_of_lt (Nat.lt_succ_self _))
  have I2 := Inv.made (C := C) I
  have r2 : Vals (V.ref (s.heap.objs.size + 1) :: (vs ++ dvs)) (Value.ref (s.heap.objs.size + 1) :: (us ++ ds)) := .cons rfl (r.append hd)
  have hl : (Value.ref (s.heap.objs.size + 1) :: us ++ ds).length = ps.length := by
    have e := r2.length
    rw [F.len _ _ _ _ hq] at e
    exact e.symm
  refine wpAny_call (make_map (f := f) I.kIn M.makes M.init (beq_iff_eq.mp M.fn) (codeAny_mono (F.run _ X.stack _ _ ⟨Value.ref (s.heap.objs.size + 1) :: us, []⟩ (Value.ref (s.heap.objs.size + 1) :: (us ++ ds)) _ _ E (hr.make C us [])
    (I2.env0.make C us []) (hb _ (Value.ref (s.heap.objs.size + 1) :: us) I2.kIn hl) r2 hq) fun r s' hq' => ?_))
  cases r with
  | error e => exact hx pins _ _ e s' I2 hq'
  | ok fl =>
    cases fl with
    | ret u =>
      obtain ⟨v, H', I3, rv, ev, q3⟩ := I2.after hq'
      subst ev
      exact ⟨rv, ⟨V.ref (s.heap.objs.size + 1), H', I3, rfl, q3⟩⟩
    | next => exact False.elim hq'
    | brk => exact False.elim hq'
    | cont => exact False.elim hq'
theorem pe_makeS {E : L2.St → XK} {dvs : List V} {ds : List Value} (M : Mk X.K C f) (F : FnOk X.prog X.w X.K X.mg X.base CX k f fd ps sp) (hr : Room (k + 1) X.A) (hg : Gl X x) (hm : X.mg x = some (.ref C)) (hb : Binds X.K fd ps ds) (hd : Vals dvs ds) (hx : ∀ σ, PassesAt CX X σ (E σ))
    (ha : PA X (e :: es) t) (hdb : (x == ("__debug__" : Str)) = false := by decide) (he : starEach (e :: es) X.env = (false, eval e X.env) :: starEach es X.env := by rfl) (hpl : (backTo pos (starEach es X.env)).any (·.1) = false := by rfl) :
    PE X (.Call (.Name x p) (e :: es) [] pos) (tMakeS C sp dvs E t) := by
  refine ⟨fun pins s σ H Q I h => ?_⟩
  refine wpAny_Call_Name_kw (ld_glob I hg hm ?_ hdb)
  refine PySem.W.callWith_K (h₀ := X.base) I.ok.mod.kin M.kp (thn (ha.run pos pins s σ H _ I h) fun us s1 ⟨vs, H1, I1, r, q⟩ => ⟨I1.kIn, ?_⟩) he hpl
  exact run_makeS M F hr hb hd (hx σ) I1 r q
end

/-! ### C.m(k = v, ..), m a classmethod -/
section
variable {CX : CXT} {k : Nat} {C q0 g : Addr} {mc : Value} {fd : FuncData} {ps ks : List Str} {sp : Sp} {E : XK} {o : Expr} {m : Str} {pos apos : Pos} {kws : List Keyword} {ta : TE} {tk : TA} {pl : Sem Bool}
def tCMethK (C : Addr) (n : Nat) (sp : Sp) (E : XK) (ta : TE) (tk : TA) : TE := fun σ H Q => ta σ H fun x H1 => x = .ref C ∧ tk σ H1 fun zs H2 => zs.length = n ∧ sp (.ref C :: zs) H2 Q E
theorem pe_cmethK0 (he : PE X o ta) (r : ClX.CRead X.K C mc) (c : ClX.CMet X.K C mc m q0 g) (F : FnOk X.prog X.w X.K X.mg X.base CX k g fd ps sp) (hr : Room k X.A) (hx : Passes CX X E) (hkw : PK X kws tk)
    (hb : ∀ (s : Shared) (ws : List Value), X.K.In s.heap → ws.length = ks.length → BindsTo s fd ⟨Value.ref C :: [], ks.zip ws⟩ (ps.zip (Value.ref C :: ws)))
    (hall : (backToKw pos (keywordEach kws X.env)).all (·.1.isSome) = true := by rfl) (hks : (backToKw pos (keywordEach kws X.env)).filterMap (·.1) = ks := by rfl)
    (hpl : ((backTo pos (starEach [] X.env)).any (·.1) || (backToKw pos (keywordEach kws X.env)).any (·.1.isNone)) = false := by rfl)
    (ht : eval (.Call (.Attribute o m apos) [] kws pos) X.env = (do
      let ov ← eval o X.env
      standAt apos.atName
      let (f, first) ← holding [ov] (getMethod ov m pl)
      callWith pos f first (backTo pos (starEach [] X.env)) (backToKw pos (keywordEach kws X.env))) := by rfl) :
    PE X (.Call (.Attribute o m apos) [] kws pos) (tCMethK C ks.length sp E ta tk) := by
  refine ⟨fun pins s σ H Q I h => ?_⟩
  refine PySem.W.methodCall_KW (pl := pl) (thn (he.run pins s σ H _ I h) fun u s1 ⟨x, H1, I1, rx, ex, h2⟩ => ?_) ht
  subst ex
  obtain rfl : u = Value.ref C := rx
  refine ClX.getmethcm_ok I1 r c fun s2 I2 => ?_
  refine PySem.W.callWith_of hpl (PySem.W.keeps_M (K := X.K) (self := Value.ref C) c.fi) (evalArgs_kw2_nil hall (thn (hkw.run pos _ s2 σ H1 _ I2 h2) fun ws s3 ⟨zs, H2, I3, rz, hl, h3⟩ => ⟨⟨ClX.pin_at I3, I3.kIn⟩, ?_⟩))
  rw [hks]
  suffices z : wpAny (model X.prog X.w) X.A (call (.ref s1.heap.objs.size) [] (ks.zip ws)) (EP X ((s1.heap.objs.size, PySem.W.methodObj (.ref g) (.ref C)) :: pins) σ Q) X.xe s3 from thn z fun _ _ y => ClX.unpinE y
  refine wpAny_call (PySem.W.method_call (ClX.pin_at I3) ?_)
  have r2 : Vals (V.ref C :: zs) (Value.ref C :: ws) := .cons rfl rz
  refine codeAny_mono (F.run X.A X.stack s3 H2 ⟨Value.ref C :: [], ks.zip ws⟩ (Value.ref C :: ws) (V.ref C :: zs) Q E hr I3.env0 (hb s3 ws I3.kIn (rz.length.symm.trans hl)) r2 h3) fun r s' hq => ?_
  cases r with
  | error er => exact hx _ σ H2 s3 er s' I3 hq
  | ok fl =>
    cases fl with
    | ret u => exact I3.after hq
    | next => exact False.elim hq
    | brk => exact False.elim hq
    | cont => exact False.elim hq
end

/-! ### an error with a dict of its own, asked for its class in an except suite -/
theorem class_of_err {prog : Program} {w : World} {A : Around} {E : Value → Shared → Prop} {s : Shared} {K : PySem.W.Frag} {x D : Addr} {ox od : Obj} {Q : Option Value → Shared → Prop} (C : ExcC K D) (hK : K.In s.heap) (J : PySem.W.InstAt s.heap x ox D (some od))
    (h : Q (some (.ref D)) { s with toks := s.toks + 1 }) : wpAny (model prog w) A (getAttr? (.ref x) "__class__") Q E s := by
  have hcd : (PySem.W.clsIn K D).isSome = true := by
    obtain ⟨cd, hc, _⟩ := PySem.W.any_some C.hd
    rw [hc]
    rfl
  have hf : PySem.W.findObj K D (some od) "__class__" = some (.bind (.builtin "getset_descriptor.__get__") (.builtin "object.__class__")) := PySem.W.findObj_data hcd C.ha C.hn C.ht
  obtain ⟨hp, gg, dr, tt, os⟩ := s
  have T0 := J.type (M := model prog w)
  have T1 := PySem.W.looks_findIn (M := model prog w) hK C.hg
  have T2 := PySem.W.looks_findIn (M := model prog w) hK C.hk
  have T3 := PySem.W.looks_find (M := model prog w) hK J hf
  have below : PySem.W.Looks (model prog w) hp (isInstance (.ref x) (.type "BaseException")) true := T0.andThen (PySem.W.looks_subIn hK C.hs)
  have b0 : (false && onTheHeap (Value.builtin "BaseException.__getattribute__")) = false := rfl
  have b2 : (Value.builtin "BaseException.__getattribute__" == Value.builtin "object.__getattribute__") = false := by decide +kernel
  have b1 : (onTheHeap (Value.ref D) && Value.builtin "BaseException.__getattribute__" == Value.builtin "object.__getattribute__") = false := by rw [b2]; rfl
  unfold getAttr? getAttrBy? getAttrBy
  refine wpAny_bind (wpAny_mkText (wpAny_bind (wpAny_attempt (wpAny_holding (wpAny_bind (T0.at (wpAny_bind (T1.at ?_))))))))
  show wpAny _ _ (if (onTheHeap (Value.ref D) && Value.builtin "BaseException.__getattribute__" == Value.builtin "object.__getattribute__") = true then _ else _) _ _ _
  rw [b1, if_neg Bool.false_ne_true]
  unfold getAttrByItsOwn hookBefore
  refine wpAny_bind ?_
  rw [if_pos (show onTheHeap (Value.ref D) = true from rfl)]
  refine T2.at ?_
  refine wpAny_bind (wpAny_attempt (wpAny_holding ?_))
  unfold callGetattribute
  rw [b0, if_neg Bool.false_ne_true]
  unfold boundAndCalled
  rw [PySem.F.excAttr_ValueError.ga.bind (.ref x)]
  refine wpAny_bind (wpAny_pure ?_)
  show wpAny _ _ (call (.builtin "BaseException.__getattribute__") [.ref x, .str "__class__" tt]) _ _ _
  refine wpAny_call (codeAny_call_builtin PySem.F.excAttr_ValueError.ga.plain PySem.F.entry_bexc_ga ?_)
  refine @PySem.W.check_slot (model prog w) _ _ ⟨hp, gg, dr, tt + 1, os⟩ "BaseException.__getattribute__" "BaseException" "__getattribute__" (.ref x) [.str "__class__" tt] [] _ (by decide +kernel) (by decide +kernel) below (PySem.F.args_bexc_ga (.ref x) (.str "__class__" tt)) ?_
  unfold Builtin.«object.__getattribute__»
  refine wpAny_bind (wpAny_of_eq (a := ((Value.ref x : Value), [Value.str "__class__" tt])) (by first | rfl | (simp only [slotArgs]; rfl)) ?_)
  refine wpAny_bind (wpAny_pure (wpAny_bind (T0.at (wpAny_bind (T3.at ?_)))))
  show wpAny _ _ (holding [Value.builtin "object.__class__"] (call (.builtin "getset_descriptor.__get__") [.builtin "object.__class__", .ref x, .ref D]) >>= ret) _ _ _
  refine wpAny_bind (wpAny_holding (wpAny_call (PySem.W.class_get (s := ⟨hp, gg, dr, tt + 1, os⟩) (ox := ox) (od := some od) hK J C.hm ?_)))
  refine wpAny_pure ?_
  show wpAny _ _ (handedOut (.ref D)) _ _ _
  rw [PySem.W.handedOut_of (v := .ref D) rfl]
  first
    | exact wpAny_pure (wpAny_pure h)
    | exact wpAny_pure h
    | exact wpAny_pure (wpAny_bind (wpAny_pure (wpAny_pure h)))
theorem kit_err {K : PySem.W.Frag} {x D : Addr} {ox od : Obj} (C : ExcC K D) : PySem.W.KitX K (.ref x) (.ref D) (fun h => PySem.W.InstAt h x ox D (some od)) where
  ty := fun _ _ _ J => J.type
  it := fun _ _ hK _ => by
    obtain ⟨cdD, hcD, _⟩ := PySem.W.any_some C.hd
    unfold PySem.W.clsIn at hcD
    split at hcD
    · rename_i c' d' cd' sl' ho
      intro A' Q' E' s' kk q
      unfold isType loadHead
      exact wpAny_bind (wpAny_loadPart (kk _ _ (hK _ _ ho)) (wpAny_pure q))
    · cases hcD
  ne := fun h tp dd its n sl hK htp => by
    obtain ⟨cdD, hcD, _⟩ := PySem.W.any_some C.hd
    refine Bool.eq_false_iff.mpr fun q => ?_
    have e : D = tp := Value.ref.inj (beq_iff_eq.mp q)
    subst e
    unfold PySem.W.clsIn at hcD
    split at hcD
    · rename_i c' d' cd' sl' ho
      have z := (hK _ _ ho).symm.trans htp
      cases z
    · cases hcD
  ca := fun hK J q => class_of_err C hK J q
def rIsEd (K : PySem.W.Frag) (a : Addr) (cls : Value) (d : Option Addr) (D : Addr) : List V → Hp → VK → Prop := fun xs H Q => ∃ (c : V) (cv : Value) (b : Bool) (dd : Addr) (fs : List (Str × V)), xs = [.ref a, c] ∧ cls = .ref D ∧ d = some dd ∧ ClsV c cv ∧ PySem.W.kitOne K (.ref D) cv = some b ∧ H dd = some (.xd fs) ∧ Q (.bl b) H
theorem call_isEd {a D : Addr} {cls : Value} {d : Option Addr} {oe : Obj} {pn : List (Addr × Obj)} (C : ExcC X.K D) (hz : Zc cls d oe) (hf : ∃ vs, oe.data = .fields vs) : CallR (X.suite a ((a, oe) :: pn)) (.builtin "isinstance") (rIsEd X.K a cls d D) := by
  intro pins s σ H xs us Q I r h
  obtain ⟨c, cv, b, dd, fs, rfl, e1, e2, hcv, e, hd, q⟩ := h
  subst e1
  subst e2
  obtain ⟨u, w', rfl, ru, rw'⟩ := vals2 r
  obtain rfl : u = Value.ref a := ru
  obtain rfl := hcv.eq rw'
  obtain ⟨hget, _⟩ := I.pin (a, oe) (List.mem_append.mpr (.inl List.mem_cons_self))
  obtain ⟨vs, hv⟩ := hf
  have hx : ObjOk X.prog X.w H s.heap dd (.xd fs) := I.hok dd _ hd
  obtain ⟨mA, hns, hrel⟩ := hx
  obtain ⟨od, ho, hl⟩ := lookIn_ns hns
  have J : PySem.W.InstAt s.heap a oe D (some od) := ⟨hget, hz.1, by unfold PySem.W.notCls; rw [hv] <;> rfl, by rw [hz.2]; exact ho⟩
  exact PySem.W.kia_one (kit_err C) I.kIn J e (fun z => nomatch z) fun tk => ⟨.bl b, H, I.kept (t' := tk) fun _ _ z => z, rfl, q⟩
end

/-! ### isinstance by the written part; keywords in another order -/
theorem kit_self {K : PySem.W.Frag} {C : Addr} : PySem.W.kitOne K (.ref C) (.ref C) = some true := by
  unfold PySem.W.kitOne
  rw [if_pos (by simp)]
theorem kit_sub {K : PySem.W.Frag} {t : Value} {C : Addr} {b : Bool} (ic : PySem.W.isClsIn K C = true) (ty : PySem.W.typeIn K (.ref C) = some (.type "type")) (su : PySem.W.subIn K t (.ref C) = some b) (ne : t ≠ .ref C) : PySem.W.kitOne K t (.ref C) = some b := by
  unfold PySem.W.kitOne
  rw [if_neg (by simpa using ne)]
  show (if ((PySem.W.clsIn K C).isSome && PySem.W.typeIn K (.ref C) == some (.type "type")) = true then PySem.W.subIn K t (.ref C) else none) = some b
  rw [ty, show (PySem.W.clsIn K C).isSome = true from ic, if_pos (by simp)]
  exact su
theorem kit_not {K : PySem.W.Frag} {t : Value} {C : Addr} (ic : PySem.W.isClsIn K C = true) (ty : PySem.W.typeIn K (.ref C) = some (.type "type")) (su : PySem.W.subIn K t (.ref C) = some false) (ne : t ≠ .ref C) : PySem.W.kitOne K t (.ref C) = some false := kit_sub ic ty su ne
def permL {α : Type} (is : List Nat) (ws : List α) : List α := is.filterMap fun i => ws[i]?
theorem permL_rel (is : List Nat) {zs : List V} {ws : List Value} (r : Vals zs ws) : Vals (permL is zs) (permL is ws) := by
  induction is with
  | nil => exact .nil
  | cons i is ih =>
    unfold permL at ih ⊢
    rw [List.filterMap_cons, List.filterMap_cons]
    cases e : zs[i]? with
    | none =>
      rw [r.none_of e]
      exact ih
    | some x =>
      obtain ⟨u, hu, ru⟩ := r.get e
      rw [hu]
      exact .cons ru ih
end My

/-! My own rules about operators of own classes: + - * with an instance or an int on either side, in place, unary minus, == with either answer, != of two lists with the same items. -/
namespace My
open PySem PySem.Spec PyProof.Rows L2

section
variable {X : Cx} {CX : CXT} {k : Nat} {C f : Addr} {fd : FuncData} {ps : List Str} {sp : Sp} {E : XK}
theorem run_own {pins : List (Addr × Obj)} {s : Shared} {σ : L2.St} {H : Hp} {Q : VK} {us : List Value} {vs : List V} (F : FnOk X.prog X.w X.K X.mg X.base CX k f fd ps sp) (hr : Room k X.A) (hb : Binds X.K fd ps []) (hx : Passes CX X E)
    (I : Inv X pins σ H s) (r : Vals vs us) (h : sp vs H Q E) : wpAny (model X.prog X.w) X.A (call (.ref f) us) (EP X pins σ Q) X.xe s := by
  have hl : (us ++ []).length = ps.length := by
    rw [List.append_nil, ← F.len _ _ _ _ h]
    exact r.length.symm
  refine wpAny_call (codeAny_mono (F.run X.A X.stack s H ⟨us, []⟩ us vs _ E hr I.env0 (by
    have := hb s us I.kIn hl
    rw [List.append_nil] at this
    exact this) r h) fun r s' hq => ?_)
  cases r with
  | error e => exact hx pins σ H s e s' I hq
  | ok fl =>
    cases fl with
    | ret w => exact I.after hq
    | next => exact False.elim hq
    | brk => exact False.elim hq
    | cont => exact False.elim hq
/-- what is handed back is no NotImplemented -/
theorem back_of {pins : List (Addr × Obj)} {σ : L2.St} {Q : VK} {v : Value} {s : Shared} (h : EP X pins σ Q v s) : PySem.W.CmpBack (EP X pins σ Q) v s := by
  obtain ⟨x, H, I, r, q⟩ := id h
  cases x with
  | non => obtain rfl : v = Value.none := r; exact h
  | bl b => obtain rfl : v = Value.bool b := r; exact h
  | int i => obtain ⟨t, rfl⟩ := r; exact h
  | str i => obtain ⟨t, rfl⟩ := r; exact h
  | byt i => obtain ⟨t, rfl⟩ := r; exact h
  | flt i => obtain ⟨t, rfl⟩ := r; exact h
  | ref a => obtain rfl : v = Value.ref a := r; exact h
  | ty n => obtain rfl : v = Value.type n := r; exact h

/-! ### the unary minus -/
def rNegO (C : Addr) (sp : Sp) (E : XK) : V → Hp → VK → Prop := fun x H Q => ∃ a dx fs, x = .ref a ∧ H a = some (.ins C dx fs) ∧ sp [.ref a] H Q E
theorem un_negO (hs : PySem.W.findIn X.K (.ref C) "__neg__" = some (some (.ref f))) (hf : PySem.W.isFn X.K (.ref f) = true) (F : FnOk X.prog X.w X.K X.mg X.base CX k f fd ps sp) (hr : Room k X.A) (hb : Binds X.K fd ps []) (hx : Passes CX X E) :
    UnR X (unaryOp .USub) (rNegO C sp E) := by
  intro pins s σ H x v Q I rx h
  obtain ⟨a, dx, fs, rfl, ea, q⟩ := h
  obtain rfl : v = Value.ref a := rx
  obtain ⟨mA, J, _⟩ := ins_get I.hok ea
  obtain ⟨od, J, _⟩ := J.look
  obtain ⟨m, hF⟩ := I.fr
  exact PySem.W.ksp_neg hF I.ok.mod.kin J hs hf (run_own (vs := [V.ref a]) F hr hb hx I (.cons rfl .nil) q)

/-! ### the operators with two sides -/
/-- what of the text an operator must have -/
structure OpO (K : PySem.W.Frag) (C : Addr) (nm : String) (f g : Addr) : Prop where
  sf : PySem.W.selfFirst K C = true
  ls : PySem.W.findIn K (.ref C) (PySem.dunder nm) = some (some (.ref f))
  lf : PySem.W.isFn K (.ref f) = true
  rs : PySem.W.findIn K (.ref C) (dunderR nm) = some (some (.ref g))
  rf : PySem.W.isFn K (.ref g) = true
  i1 : ∃ fo, PySem.W.findIn K (.type "int") (PySem.dunder nm) = some fo
  i2 : ∃ ro, PySem.W.findIn K (.type "int") (dunderR nm) = some ro
  su : PySem.W.subIn K (.type "int") (.ref C) = some false
  us : PySem.W.subIn K (.ref C) (.type "int") = some false
/-- int declines -/
structure Dec (nm : String) (id : String) (B : Builtin) : Prop where
  slot : Slot "int" (PySem.dunder nm) id
  entry : entryFor table id = some B
  args : ∀ a b, argsOk id ⟨[a, b], []⟩
  fills : fillsNumberSlot (.type "int") nm = pure true
  body : ∀ (a : Int) (t : Tok) (l C dx : Addr), Meets (B ⟨[.int a t, .ref l], []⟩) (fun _ R s => s.heap.get? l = some (PySem.W.instObj C dx) ∧ R (.ok (.ret Value.notImplemented)) s)
theorem dec_add : Dec "add" "int.__add__" Builtin.«int.__add__» := ⟨F.slot_int_add, F.entry_int_add, F.args_int_add_2, F.fills_int_add, fun a t l C dx => .of_wp fun prog w A R s h => by obtain ⟨hp, g, d, tk, os⟩ := s; obtain ⟨hl, h⟩ := h; wp_walk; exact ⟨_, rfl, h⟩⟩
theorem dec_sub : Dec "sub" "int.__sub__" Builtin.«int.__sub__» := ⟨F.slot_int_sub, F.entry_int_sub, F.args_int_sub_2, F.fills_int_sub, fun a t l C dx => .of_wp fun prog w A R s h => by obtain ⟨hp, g, d, tk, os⟩ := s; obtain ⟨hl, h⟩ := h; wp_walk; exact ⟨_, rfl, h⟩⟩
theorem dec_mul : Dec "mul" "int.__mul__" Builtin.«int.__mul__» := ⟨F.slot_int_mul, F.entry_int_mul, F.args_int_mul_2, F.fills_int_mul, fun a t l C dx => .of_wp fun prog w A R s h => by obtain ⟨hp, g, d, tk, os⟩ := s; obtain ⟨hl, h⟩ := h; wp_walk; exact ⟨_, rfl, h⟩⟩

section
variable {prog : Program} {w : World} {A : Around} {Ex : Value → Shared → Prop} {s : Shared} {K : PySem.W.Frag} {C f g : Addr} {nm : String}
open PySem.W
theorem b1_own {x y : Addr} {odx ody : Option Obj} {ox oy : Obj} {Q : Value → Shared → Prop} (X : K.In s.heap) (O : OpO K C nm f g) (I : InstAt s.heap x ox C odx) (J : InstAt s.heap y oy C ody)
    (h : wpAny (model prog w) A (call (.ref f) [.ref x, .ref y]) (PySem.W.CmpBack Q) Ex s) : wpAny (model prog w) A (binaryOp1 nm (.ref x) (.ref y)) (fun r s' => ∃ v, r = some v ∧ Q v s') Ex s := by
  obtain ⟨cd, rest, hcd, hm⟩ := ksp_first O.sf
  unfold binaryOp1
  refine wpAny_bind (I.type.here (wpAny_bind (J.type.here (wpAny_bind ((fills_K X hcd hm O.ls).here ?_)))))
  simp only [beq_self_eq_true, if_true]
  refine wpAny_bind (wpAny_pure ?_)
  simp only [Bool.and_false, Bool.false_eq_true, if_false, Bool.false_and]
  refine wpAny_bind (wpAny_pure ?_)
  simp only [Bool.false_eq_true, if_false]
  refine wpAny_bind (m := tryMethod (.ref x) _ (.ref y)) (wpAny_mono (ksp_try X I O.ls O.lf h) (fun r s' hr => ?_) fun _ _ e => e)
  obtain ⟨v, rfl, hq⟩ := hr
  exact wpAny_pure ⟨v, rfl, hq⟩
theorem b1_int {x : Addr} {i : Int} {t : Tok} {odx : Option Obj} {ox : Obj} {Q : Value → Shared → Prop} (X : K.In s.heap) (O : OpO K C nm f g) (I : InstAt s.heap x ox C odx)
    (h : wpAny (model prog w) A (call (.ref f) [.ref x, .int i t]) (PySem.W.CmpBack Q) Ex s) : wpAny (model prog w) A (binaryOp1 nm (.ref x) (.int i t)) (fun r s' => ∃ v, r = some v ∧ Q v s') Ex s := by
  obtain ⟨cd, rest, hcd, hm⟩ := ksp_first O.sf
  obtain ⟨fo, h1⟩ := O.i1
  obtain ⟨ro, h2⟩ := O.i2
  have one := ksp_try X I O.ls O.lf h
  obtain ⟨hh, gg, d, tt, os⟩ := s
  have L1 : Looks (model prog w) hh (typeOf (.ref x)) (.ref C) := I.type
  have L2 : Looks (model prog w) hh (typeOf (.int i t)) (.type "int") := Looks.of_pure rfl
  have L3 : Looks (model prog w) hh (fillsNumberSlot (.ref C) nm) true := fills_K X hcd hm O.ls
  have L4 : Looks (model prog w) hh (fillsNumberSlot (.type "int") nm) ((fo.isSome && !isSeqSlot fo) || (ro.isSome && !isSeqSlot ro)) := ksp_fillsT X h1 h2
  have L5 : Looks (model prog w) hh (isSubtype (.type "int") (.ref C)) false := looks_subIn X O.su
  have L6 : Looks (model prog w) hh (numberSlotInPython (.ref C) nm) true := ksp_inPy X O.ls O.rs (.inr ⟨_, rfl⟩)
  have L7 : Looks (model prog w) hh (numberSlotInPython (.type "int") nm) false := Looks.of_pure rfl
  have L8 : Looks (model prog w) hh (typeLookup (.type "int") (dunderR nm)) ro := looks_findIn X h2
  generalize ((fo.isSome && !isSeqSlot fo) || (ro.isSome && !isSeqSlot ro)) = right at L4
  have hne : (Value.ref C == Value.type "int") = false := Bool.eq_false_iff.mpr fun q => by cases beq_iff_eq.mp q
  unfold binaryOp1
  refine wpAny_bind (L1.at (wpAny_bind (L2.at (wpAny_bind (L3.at ?_)))))
  simp only [hne, Bool.false_eq_true, if_false]
  cases right with
  | false =>
    ksp_lk
    refine wpAny_mono one (fun r s' hr' => ?_) fun _ _ e => e
    obtain ⟨v, rfl, hq⟩ := hr'
    ksp_lk
    exact ⟨v, rfl, hq⟩
  | true =>
    ksp_lk
    refine wpAny_mono one (fun r s' hr' => ?_) fun _ _ e => e
    obtain ⟨v, rfl, hq⟩ := hr'
    ksp_lk
    exact ⟨v, rfl, hq⟩
theorem b1_rint {x dx : Addr} {i : Int} {t : Tok} {odx : Option Obj} {id : String} {B : Builtin} {Q : Value → Shared → Prop} (D : Dec nm id B) (X : K.In s.heap) (O : OpO K C nm f g) (I : InstAt s.heap x (instObj C dx) C odx)
    (h : wpAny (model prog w) A (call (.ref g) [.ref x, .int i t]) (PySem.W.CmpBack Q) Ex s) : wpAny (model prog w) A (binaryOp1 nm (.int i t) (.ref x)) (fun r s' => ∃ v, r = some v ∧ Q v s') Ex s := by
  obtain ⟨cd, rest, hcd, hm⟩ := ksp_first O.sf
  have one := ksp_try X I O.rs O.rf h
  have two : wpAny (model prog w) A (tryMethod (.int i t) (PySem.dunder nm) (.ref x)) (fun r s' => r = none ∧ s' = s) Ex s :=
    wpAny_tryMethod_declines (typeIs_int s i t) D.slot (call_meets D.slot (typeIs_int s i t) D.entry (D.args _ _) (D.body i t x C dx) ⟨I.at_, rfl, rfl, rfl⟩)
  have L1 : Looks (model prog w) s.heap (typeOf (.ref x)) (.ref C) := I.type
  have L3 : Looks (model prog w) s.heap (fillsNumberSlot (.ref C) nm) true := fills_K X hcd hm O.ls
  have L5 : Looks (model prog w) s.heap (isSubtype (.ref C) (.type "int")) false := looks_subIn X O.us
  have hne : (Value.type "int" == Value.ref C) = false := Bool.eq_false_iff.mpr fun q => by cases beq_iff_eq.mp q
  have hpy : numberSlotInPython (.type "int") nm = pure false := rfl
  unfold binaryOp1
  refine wpAny_bind (wpAny_typeOf (typeIs_int s i t) (wpAny_bind (L1.here (wpAny_bind (wpAny_of_eq D.fills ?_)))))
  simp only [hne, Bool.false_eq_true, if_false]
  refine wpAny_bind (L3.here ?_)
  simp only [Bool.and_self, if_true]
  refine wpAny_bind (L5.here ?_)
  simp only [Bool.false_eq_true, if_false, pure_bind, Bool.not_false, Bool.and_self, if_true, hpy]
  refine wpAny_bind (wpAny_mono two (fun r s' hr => ?_) fun _ _ e => e)
  obtain ⟨rfl, rfl⟩ := hr
  refine wpAny_bind (wpAny_mono one (fun r s' hr => ?_) fun _ _ e => e)
  obtain ⟨v, rfl, hq⟩ := hr
  ksp_lk
  exact ⟨v, rfl, hq⟩
end

/-! ### the operators as rules -/
section
variable {X : Cx} {CX CX' : CXT} {k k' : Nat} {C f g : Addr} {fd fd' : FuncData} {ps ps' : List Str} {sp sp' : Sp} {E : XK} {op : Operator}
theorem op_or {F : Value → Value → Sem Value} {r1 r2 : R2} (a : OpR X F r1) (b : OpR X F r2) : OpR X F (fun x y H Q => r1 x y H Q ∨ r2 x y H Q) := by
  intro pins s σ H x y v u Q I rx ry h
  rcases h with h | h
  · exact a pins s σ H x y v u Q I rx ry h
  · exact b pins s σ H x y v u Q I rx ry h
theorem un_or {F : Value → Sem Value} {r1 r2 : V → Hp → VK → Prop} (a : UnR X F r1) (b : UnR X F r2) : UnR X F (fun x H Q => r1 x H Q ∨ r2 x H Q) := by
  intro pins s σ H x v Q I rx h
  rcases h with h | h
  · exact a pins s σ H x v Q I rx h
  · exact b pins s σ H x v Q I rx h
def rOO (C : Addr) (sp : Sp) (E : XK) : R2 := fun x y H Q => ∃ a dx fs b dy gs, x = .ref a ∧ y = .ref b ∧ H a = some (.ins C dx fs) ∧ H b = some (.ins C dy gs) ∧ sp [.ref a, .ref b] H Q E
def rOI (C : Addr) (sp : Sp) (E : XK) : R2 := fun x y H Q => ∃ a dx fs i, x = .ref a ∧ y = .int i ∧ H a = some (.ins C dx fs) ∧ sp [.ref a, .int i] H Q E
def rIO (C : Addr) (sp : Sp) (E : XK) : R2 := fun x y H Q => ∃ b dy gs i, x = .int i ∧ y = .ref b ∧ H b = some (.ins C dy gs) ∧ sp [.ref b, .int i] H Q E
theorem b1_oo {nm : String} (O : OpO X.K C nm f g) (F : FnOk X.prog X.w X.K X.mg X.base CX k f fd ps sp) (hr : Room k X.A) (hb : Binds X.K fd ps []) (hx : Passes CX X E)
    {pins : List (Addr × Obj)} {s : Shared} {σ : L2.St} {H : Hp} {x y : V} {v u : Value} {Q : VK} (I : Inv X pins σ H s) (rx : RelV x v) (ry : RelV y u) (h : rOO C sp E x y H Q) :
    wpAny (model X.prog X.w) X.A (binaryOp1 nm v u) (fun r s' => ∃ z, r = some z ∧ EP X pins σ Q z s') X.xe s := by
  obtain ⟨a, dx, fs, b, dy, gs, rfl, rfl, ea, eb, q⟩ := h
  obtain rfl : v = Value.ref a := rx
  obtain rfl : u = Value.ref b := ry
  obtain ⟨mA, J, _⟩ := ins_get I.hok ea
  obtain ⟨od, J, _⟩ := J.look
  obtain ⟨mB, J', _⟩ := ins_get I.hok eb
  obtain ⟨od', J', _⟩ := J'.look
  exact b1_own I.kIn O J J' (wpAny_mono (run_own (vs := [V.ref a, V.ref b]) F hr hb hx I (.cons rfl (.cons rfl .nil)) q) (fun _ _ z => back_of z) fun _ _ e => e)
theorem b1_oi {nm : String} (O : OpO X.K C nm f g) (F : FnOk X.prog X.w X.K X.mg X.base CX k f fd ps sp) (hr : Room k X.A) (hb : Binds X.K fd ps []) (hx : Passes CX X E)
    {pins : List (Addr × Obj)} {s : Shared} {σ : L2.St} {H : Hp} {x y : V} {v u : Value} {Q : VK} (I : Inv X pins σ H s) (rx : RelV x v) (ry : RelV y u) (h : rOI C sp E x y H Q) :
    wpAny (model X.prog X.w) X.A (binaryOp1 nm v u) (fun r s' => ∃ z, r = some z ∧ EP X pins σ Q z s') X.xe s := by
  obtain ⟨a, dx, fs, i, rfl, rfl, ea, q⟩ := h
  obtain rfl : v = Value.ref a := rx
  obtain ⟨t, rfl⟩ := ry
  obtain ⟨mA, J, _⟩ := ins_get I.hok ea
  obtain ⟨od, J, _⟩ := J.look
  exact b1_int I.kIn O J (wpAny_mono (run_own (vs := [V.ref a, V.int i]) F hr hb hx I (.cons rfl (.cons ⟨t, rfl⟩ .nil)) q) (fun _ _ z => back_of z) fun _ _ e => e)
theorem b1_io {nm : String} {id : String} {B : Builtin} (D : Dec nm id B) (O : OpO X.K C nm f g) (F : FnOk X.prog X.w X.K X.mg X.base CX k g fd ps sp) (hr : Room k X.A) (hb : Binds X.K fd ps []) (hx : Passes CX X E)
    {pins : List (Addr × Obj)} {s : Shared} {σ : L2.St} {H : Hp} {x y : V} {v u : Value} {Q : VK} (I : Inv X pins σ H s) (rx : RelV x v) (ry : RelV y u) (h : rIO C sp E x y H Q) :
    wpAny (model X.prog X.w) X.A (binaryOp1 nm v u) (fun r s' => ∃ z, r = some z ∧ EP X pins σ Q z s') X.xe s := by
  obtain ⟨b, dx, fs, i, rfl, rfl, ea, q⟩ := h
  obtain rfl : u = Value.ref b := ry
  obtain ⟨t, rfl⟩ := rx
  obtain ⟨mA, J, _⟩ := ins_get I.hok ea
  obtain ⟨od, J, _⟩ := J.look
  exact b1_rint D I.kIn O J (wpAny_mono (run_own (vs := [V.ref b, V.int i]) F hr hb hx I (.cons rfl (.cons ⟨t, rfl⟩ .nil)) q) (fun _ _ z => back_of z) fun _ _ e => e)
theorem bin_of {M : Model} {A : Around} {Ex : Value → Shared → Prop} {s : Shared} {nm : String} (hn : op.info.2 = nm) {v u : Value} {R : Value → Shared → Prop} (h : wpAny M A (binaryOp1 nm v u) (fun r s' => ∃ z, r = some z ∧ R z s') Ex s) : wpAny M A (binaryOp op v u) R Ex s := by
  unfold binaryOp
  refine wpAny_holding (wpAny_bind ?_)
  subst hn
  refine wpAny_mono (show wpAny M A (binaryOp1 op.info.2 v u) _ _ _ from h) (fun r s' hr => ?_) fun _ _ e => e
  obtain ⟨z, rfl, q⟩ := hr
  exact wpAny_pure q
theorem op_oo {nm : String} (hn : op.info.2 = nm) (O : OpO X.K C nm f g) (F : FnOk X.prog X.w X.K X.mg X.base CX k f fd ps sp) (hr : Room k X.A) (hb : Binds X.K fd ps []) (hx : Passes CX X E) : OpR X (binaryOp op) (rOO C sp E) :=
  fun _ _ _ _ _ _ _ _ _ I rx ry h => bin_of hn (b1_oo O F hr hb hx I rx ry h)
theorem op_oi {nm : String} (hn : op.info.2 = nm) (O : OpO X.K C nm f g) (F : FnOk X.prog X.w X.K X.mg X.base CX k f fd ps sp) (hr : Room k X.A) (hb : Binds X.K fd ps []) (hx : Passes CX X E) : OpR X (binaryOp op) (rOI C sp E) :=
  fun _ _ _ _ _ _ _ _ _ I rx ry h => bin_of hn (b1_oi O F hr hb hx I rx ry h)
theorem op_io {nm : String} {id : String} {B : Builtin} (hn : op.info.2 = nm) (D : Dec nm id B) (O : OpO X.K C nm f g) (F : FnOk X.prog X.w X.K X.mg X.base CX k g fd ps sp) (hr : Room k X.A) (hb : Binds X.K fd ps []) (hx : Passes CX X E) : OpR X (binaryOp op) (rIO C sp E) :=
  fun _ _ _ _ _ _ _ _ _ I rx ry h => bin_of hn (b1_io D O F hr hb hx I rx ry h)
/-! ### in place, without a method of its own for it -/
structure NoI (K : PySem.W.Frag) (C : Addr) (nm : String) : Prop where
  mro : ∃ cd, PySem.W.clsIn K C = some cd ∧ cd.mro = [.ref C, .type "object"]
  own : PySem.W.findIn K (.ref C) (dunderI nm) = some none
  obj : PySem.W.findIn K (.type "object") (dunderI nm) = some none
open PySem.W in
theorem looks_noI {M : Model} {h : Heap} {nm : String} {add : Bool} {K : Frag} (X : K.In h) (N : NoI K C nm) : Looks M h (fillsInplaceSlot (.ref C) nm add) false := by
  intro A Q E s k q
  obtain ⟨cd, hc, hm⟩ := N.mro
  have Lm : Looks M h (mroOf (.ref C)) cd.mro := (looks_clsIn X hc).andThen (f := fun cd => pure cd.mro) .now
  have Lm' := Lm.keeps k
  obtain ⟨hh, g, d, tt, os⟩ := s
  have X' : K.In hh := X.keeps k
  have L1 : Looks M hh (typeLookup (.ref C) (dunderI nm)) none := looks_findIn X' N.own
  have L2 : Looks M hh (typeLookup (.type "object") (dunderI nm)) none := looks_findIn X' N.obj
  unfold fillsInplaceSlot
  refine wpAny_bind (Lm'.at ?_)
  rw [hm, List.anyM_cons]
  refine wpAny_bind (wpAny_bind (L1.at ?_))
  refine wpAny_pure ?_
  rw [if_neg Bool.false_ne_true, List.anyM_cons]
  refine wpAny_bind (wpAny_bind (L2.at ?_))
  refine wpAny_pure ?_
  rw [if_neg Bool.false_ne_true]
  exact wpAny_pure q
theorem inp_of {M : Model} {A : Around} {Ex : Value → Shared → Prop} {s : Shared} {nm : String} {K : PySem.W.Frag} {a dx : Addr} {ox : Obj} {od : Option Obj} (hn : op.info.2 = nm) (X : K.In s.heap) (I : PySem.W.InstAt s.heap a ox C od) (N : NoI K C nm) {u : Value} {R : Value → Shared → Prop}
    (h : wpAny M A (binaryOp1 nm (.ref a) u) (fun r s' => ∃ z, r = some z ∧ R z s') Ex s) : wpAny M A (inplaceOp op (.ref a) u) R Ex s := by
  subst hn
  unfold inplaceOp
  refine wpAny_holding ?_
  refine wpAny_bind (I.type.here ?_)
  refine wpAny_bind ((looks_noI X N).here ?_)
  rw [if_neg Bool.false_ne_true]
  refine wpAny_bind (wpAny_mono h (fun r s' hr => ?_) fun _ _ e => e)
  obtain ⟨z, rfl, q⟩ := hr
  exact wpAny_pure q
theorem iop_oo {nm : String} (hn : op.info.2 = nm) (N : NoI X.K C nm) (O : OpO X.K C nm f g) (F : FnOk X.prog X.w X.K X.mg X.base CX k f fd ps sp) (hr : Room k X.A) (hb : Binds X.K fd ps []) (hx : Passes CX X E) : OpR X (inplaceOp op) (rOO C sp E) := by
  intro pins s σ H x y v u Q I rx ry h
  have h' := b1_oo O F hr hb hx I rx ry h
  obtain ⟨a, dx, fs, b, dy, gs, rfl, rfl, ea, eb, q⟩ := h
  obtain rfl : v = Value.ref a := rx
  obtain ⟨mA, J, _⟩ := ins_get I.hok ea
  obtain ⟨od, J, _⟩ := J.look
  exact inp_of (dx := dx) hn I.kIn J N h'
theorem iop_oi {nm : String} (hn : op.info.2 = nm) (N : NoI X.K C nm) (O : OpO X.K C nm f g) (F : FnOk X.prog X.w X.K X.mg X.base CX k f fd ps sp) (hr : Room k X.A) (hb : Binds X.K fd ps []) (hx : Passes CX X E) : OpR X (inplaceOp op) (rOI C sp E) := by
  intro pins s σ H x y v u Q I rx ry h
  have h' := b1_oi O F hr hb hx I rx ry h
  obtain ⟨a, dx, fs, i, rfl, rfl, ea, q⟩ := h
  obtain rfl : v = Value.ref a := rx
  obtain ⟨mA, J, _⟩ := ins_get I.hok ea
  obtain ⟨od, J, _⟩ := J.look
  exact inp_of (dx := dx) hn I.kIn J N h'
/-! ### == by the class's own method, with either answer -/
theorem cmp_own (hs : PySem.W.findIn X.K (.ref C) "__eq__" = some (some (.ref f))) (hf : PySem.W.isFn X.K (.ref f) = true) (F : FnOk X.prog X.w X.K X.mg X.base CX k f fd ps sp) (hr : Room k X.A) (hb : Binds X.K fd ps []) (hx : Passes CX X E) : OpR X (compareOp .Eq) (rOO C sp E) := by
  intro pins s σ H x y v u Q I rx ry h
  obtain ⟨a, dx, fs, b, dy, gs, rfl, rfl, ea, eb, q⟩ := h
  obtain rfl : v = Value.ref a := rx
  obtain rfl : u = Value.ref b := ry
  obtain ⟨mA, J, _⟩ := ins_get I.hok ea
  obtain ⟨od, J, _⟩ := J.look
  obtain ⟨mB, J', _⟩ := ins_get I.hok eb
  obtain ⟨od', J', _⟩ := J'.look
  obtain ⟨m, hF⟩ := I.fr
  show wpAny (model X.prog X.w) X.A (richCompare .Eq (.ref a) (.ref b)) (EP X pins σ Q) X.xe s
  refine PySem.W.cmp_K (op := .Eq) (tb := .ref C) hr.units0 hF I.ok.mod.kin J J'.type (by simp [PySem.W.notFirst]) hs hf ?_
  exact wpAny_mono (run_own (vs := [V.ref a, V.ref b]) F hr hb hx I (.cons rfl (.cons rfl .nil)) q) (fun _ _ z => back_of z) fun _ _ e => e
/-! ### != of two lists with the same items -/
def plainV : V → Bool
  | .int _ => true
  | .ref _ => true
  | _ => false
def rNeSame (K : PySem.W.Frag) : R2 := fun x y H Q => ∃ a b xs, x = .ref a ∧ y = .ref b ∧ SqL K H a xs ∧ SqL K H b xs ∧ (∀ z ∈ xs, plainV z = true) ∧ Q (.bl false) H
theorem eqAt_same {A : Around} {s : Shared} {z : V} {u v : Value} (h : plainV z = true) (r : RelV z u) (r' : RelV z v) : SeqAt.EqAt A s u v true := by
  cases z with
  | int i =>
    have := eqAt_V (A := A) (s := s) r r' rfl rfl
    have e : eqV (.int i) (.int i) = true := by simp [eqV]
    rw [e] at this
    exact this
  | ref a =>
    obtain rfl : u = Value.ref a := r
    obtain rfl : v = Value.ref a := r'
    exact SeqAt.EqAt.same _
  | _ => cases h
theorem op_neSame (hu : X.A.units < cLine) : OpR X (compareOp .NotEq) (rNeSame X.K) := by
  intro pins s σ H x y v u Q I rx ry h
  obtain ⟨a, b, xs, rfl, rfl, ha, hb, hp, q⟩ := h
  obtain rfl : v = Value.ref a := rx
  obtain rfl : u = Value.ref b := ry
  obtain ⟨its, r, ⟨o, n, e, c, d, dt⟩, _⟩ := I.list ha
  obtain ⟨its2, r2, ⟨o2, n2, e2, c2, d2, dt2⟩, _⟩ := I.list hb
  have hsz : its.toArray.size = its2.toArray.size := by rw [List.size_toArray, List.size_toArray, ← r.length, ← r2.length]
  show wpAny (model X.prog X.w) X.A (richCompare .NotEq (.ref a) (.ref b)) (EP X pins σ Q) X.xe s
  refine SeqAt.RcNeAt.lists (e := fun _ => true) ⟨o, e, c, n, dt⟩ ⟨o2, e2, c2, n2, dt2⟩ hsz hu (fun j h1 h2 => ?_) _ _ _ _ ?_
  · have k1 : j < xs.length := by rw [r.length]; simpa using h1
    obtain ⟨w1, hw1, rw1⟩ := r.get (List.getElem?_eq_getElem k1)
    obtain ⟨w2, hw2, rw2⟩ := r2.get (List.getElem?_eq_getElem k1)
    have g1 : its[j]? = some its.toArray[j] := by
      have h1' : j < its.length := by simpa using h1
      rw [List.getElem?_eq_getElem h1'] <;> simp
    have g2 : its2[j]? = some its2.toArray[j] := by
      have h2' : j < its2.length := by simpa using h2
      rw [List.getElem?_eq_getElem h2'] <;> simp
    rw [g1] at hw1
    rw [g2] at hw2
    rw [Option.some.inj hw1, Option.some.inj hw2]
    exact eqAt_same (hp _ (List.getElem_mem k1)) rw1 rw2
  · have e : (!(List.range its.toArray.size).all fun _ => true) = false := by simp
    rw [e]
    exact ⟨.bl false, H, I, rfl, q⟩
end
/-! ### list or tuple -/
section
variable {X : Cx}
theorem ix_or {r1 r2 : R2} (a : IxR X r1) (b : IxR X r2) : IxR X (fun x y H Q => r1 x y H Q ∨ r2 x y H Q) := by
  intro value slice pins s σ H x y v u Q I rx ry h
  rcases h with h | h
  · exact a value slice pins s σ H x y v u Q I rx ry h
  · exact b value slice pins s σ H x y v u Q I rx ry h
def iSeq (K : PySem.W.Frag) (tl : TE) : TI := fun σ H R => tl σ H fun x H1 => ∃ a, x = .ref a ∧ (((∃ xs, SqL K H1 a xs) ∧ R (Itl K a) H1) ∨ ((∃ xs, SqT K H1 a xs) ∧ R (Itt K a) H1))
theorem pi_seq {tg l : Expr} {tl : TE} (hl : PE X l tl) : PI X tg l (iSeq X.K tl) := by
  refine ⟨fun pins s σ H R I h => ?_⟩
  refine thn (hl.run pins s σ H _ I h) fun v s1 ⟨x, H1, I1, r1, q1⟩ => ?_
  obtain ⟨a, e, ⟨⟨xs, hq⟩, q⟩ | ⟨⟨xs, hq⟩, q⟩⟩ := q1
  · subst e
    cases r1
    obtain ⟨its, rv, p, hz⟩ := I1.list hq
    refine wpAny_pyIter_list p.isList ?_
    refine ⟨s1.heap.objs.size, [s1.heap.objs.size], _, _, H1, rfl, I1.kept (t' := s1.toks) fun b o e => Heap.get?_push_of_some _ e, turn_list a _, ⟨_, Heap.get?_push_size _ rfl, rfl, rfl⟩, fun b hb => ?_, q⟩
    have e : b = s1.heap.objs.size := by simpa using hb
    subst e
    exact I1.fpOk (Nat.le_refl _) (I1.hok.fresh (Nat.le_refl _))
  · subst e
    cases r1
    obtain ⟨its, rv, p, hz⟩ := I1.tuple hq
    refine wpAny_pyIter_tuple (show s1.heap.IsTuple a its.toArray from p) ?_
    refine ⟨s1.heap.objs.size, [s1.heap.objs.size], _, _, H1, rfl, I1.kept (t' := s1.toks) fun b o e => Heap.get?_push_of_some _ e, turn_tuple a _, ⟨_, Heap.get?_push_size _ rfl, rfl, rfl⟩, fun b hb => ?_, q⟩
    have e : b = s1.heap.objs.size := by simpa using hb
    subst e
    exact I1.fpOk (Nat.le_refl _) (I1.hok.fresh (Nat.le_refl _))
end
end
end My

/-! My own rules about calls that raise: by keywords alone, at the caller's slots; through a def's body. -/
namespace My
open PySem PySem.Spec PyProof.Rows L2
section
variable {X : Cx} {CX : CXT} {k : Nat} {f : Addr} {fd : FuncData} {ps ks : List Str} {sp : Sp} {E : L2.St → XK} {x : Str} {p pos : Pos} {kws : List Keyword} {tk : TA} {g : List Value → List Value → List Value} {gV : List V → List V → List V}
theorem run_fnkS {pins : List (Addr × Obj)} {σ : L2.St} {H : Hp} {s : Shared} {Q : VK} {us ws : List Value} {vs zs : List V} (F : FnOk X.prog X.w X.K X.mg X.base CX k f fd ps sp) (hr : Room k X.A) (hb : KBinds X.K fd ps ks g gV) (hx : PassesAt CX X σ (E σ))
    (I : Inv X pins σ H s) (r : Vals vs us) (rz : Vals zs ws) (h : sp (gV vs zs) H Q (E σ)) : wpAny (model X.prog X.w) X.A (call (.ref f) us (ks.zip ws)) (EP X pins σ Q) X.xe s := by
  have r2 := hb.rel r rz
  have hl : (g us ws).length = ps.length := by rw [← r2.length]; exact F.len _ _ _ _ h
  refine wpAny_call (codeAny_mono (F.run X.A X.stack s H ⟨us, ks.zip ws⟩ (g us ws) (gV vs zs) Q (E σ) hr I.env0 (hb.to s us ws I.kIn hl) r2 h) fun r s' hq => ?_)
  cases r with
  | error e => exact hx pins H s e s' I hq
  | ok fl =>
    cases fl with
    | ret u => exact I.after hq
    | next => exact False.elim hq
    | brk => exact False.elim hq
    | cont => exact False.elim hq
def tCallK0S (sp : Sp) (gV : List V → List V → List V) (E : L2.St → XK) (tk : TA) : TE := fun σ H Q => tk σ H fun zs H2 => sp (gV [] zs) H2 Q (E σ)
theorem pe_callK0S (F : FnOk X.prog X.w X.K X.mg X.base CX k f fd ps sp) (hr : Room k X.A) (hg : Gl X x) (hm : X.mg x = some (.ref f)) (hk : PySem.W.keepIn X.K (.ref f) = true) (hb : KBinds X.K fd ps ks g gV) (hx : ∀ σ, PassesAt CX X σ (E σ))
    (hkw : PK X kws tk) (hall : (backToKw pos (keywordEach kws X.env)).all (·.1.isSome) = true := by rfl) (hks : (backToKw pos (keywordEach kws X.env)).filterMap (·.1) = ks := by rfl)
    (hdb : (x == ("__debug__" : Str)) = false := by decide)
    (hpl : ((backTo pos (starEach [] X.env)).any (·.1) || (backToKw pos (keywordEach kws X.env)).any (·.1.isNone)) = false := by rfl) :
    PE X (.Call (.Name x p) [] kws pos) (tCallK0S sp gV E tk) := by
  refine ⟨fun pins s σ H Q I h => ?_⟩
  refine wpAny_Call_Name_kw (ld_glob I hg hm ?_ hdb)
  refine PySem.W.callWith_KW0 (h₀ := X.base) I.ok.mod.kin hk hall (thn (hkw.run pos pins s σ H _ I h) fun ws s2 ⟨zs, H2, I2, rz, q2⟩ => ⟨I2.kIn, ?_⟩) hpl
  rw [hks]
  exact run_fnkS (us := []) (vs := []) F hr hb (hx σ) I2 .nil rz q2
end
section
variable {X : Cx} {E E' : XK}
/-- what a callee lets out leaves this def too -/
theorem passX (tk : Takes X (fun cls d _ H => E cls d H)) : Passes (L2.CX X.prog X.w) X E := fun pins σ H s e s' I c => L2.passes_call tk (fun _ _ _ _ h => h) pins σ H s e s' I c
end
end My

/-! My own rules: != by object.__ne__ over an own ==, x is a bool, o.m(k = v). -/
namespace My
open PySem PySem.Spec PyProof.Rows L2

section
variable {X : Cx} {CX : CXT} {k : Nat} {C f : Addr} {fd : FuncData} {ps : List Str} {sp : Sp} {E : XK}
/-- a method run below a built-in -/
theorem run_own1 {pins : List (Addr × Obj)} {s : Shared} {σ : L2.St} {H : Hp} {Q : VK} {us : List Value} {vs : List V} (F : FnOk X.prog X.w X.K X.mg X.base CX k f fd ps sp) (hr : Room (k + 1) X.A) (hb : Binds X.K fd ps []) (hx : Passes CX X E)
    (I : Inv X pins σ H s) (r : Vals vs us) (h : sp vs H Q E) : wpAny (model X.prog X.w) X.A.in1 (call (.ref f) us) (EP X pins σ Q) X.xe s := by
  have hl : (us ++ []).length = ps.length := by
    rw [List.append_nil, ← F.len _ _ _ _ h]
    exact r.length.symm
  refine wpAny_call (codeAny_mono (F.run X.A.in1 X.stack s H ⟨us, []⟩ us vs _ E hr.in1 I.env0.in1 (by
    have := hb s us I.kIn hl
    rw [List.append_nil] at this
    exact this) r h) fun r s' hq => ?_)
  cases r with
  | error e => exact hx pins σ H s e s' I hq
  | ok fl =>
    cases fl with
    | ret w => exact I.after hq
    | next => exact False.elim hq
    | brk => exact False.elim hq
    | cont => exact False.elim hq
/-- C has no != of its own -/
structure NoNe (K : PySem.W.Frag) (C f : Addr) : Prop where
  ne : PySem.W.findIn K (.ref C) "__ne__" = some (some (.builtin "object.__ne__"))
  ob : PySem.W.subIn K (.ref C) (.type "object") = some true
  eq : PySem.W.findIn K (.ref C) "__eq__" = some (some (.ref f))
  fn : PySem.W.isFn K (.ref f) = true
theorem ne_K {prog : Program} {w : World} {A : Around} {Ex : Value → Shared → Prop} {s : Shared} {K : PySem.W.Frag} {a b : Addr} {oa ob : Obj} {oda odb : Option Obj} {Q : Value → Shared → Prop} (hu : A.units + 1 < cLine) (X : K.In s.heap) (N : NoNe K C f)
    (I : PySem.W.InstAt s.heap a oa C oda) (J : PySem.W.InstAt s.heap b ob C odb) (h : wpAny (model prog w) A.in1 (call (.ref f) [.ref a, .ref b]) (fun v s' => ∃ r, v = .bool r ∧ Q (.bool (!r)) s') Ex s) :
    wpAny (model prog w) A (richCompare .NotEq (.ref a) (.ref b)) Q Ex s := by
  have body : wpAny (model prog w) A.in1 (Builtin.«object.__ne__» ⟨[.ref a, .ref b], []⟩) (fun fin s' => ∃ r, fin = .done (.ret (.bool (!r))) ∧ Q (.bool (!r)) s') Ex s := by
    unfold Builtin.«object.__ne__»
    refine wpAny_bind (wpAny_of_eq (a := ((Value.ref a : Value), [Value.ref b])) (by first | rfl | (simp only [slotArgs]; rfl)) ?_)
    refine wpAny_bind (wpAny_cRoomFor hu ?_)
    refine wpAny_bind (PySem.W.ifBound_K X I N.eq N.fn (wpAny_mono h (fun v s' hv => ?_) fun _ _ e => e))
    obtain ⟨r, rfl, q⟩ := hv
    refine wpAny_bind (wpAny_truthy_bool ?_)
    exact wpAny_pure ⟨r, rfl, q⟩
  have below : PySem.W.Looks (model prog w) s.heap (isInstance (.ref a) (.type "object")) true := I.type.andThen (PySem.W.looks_subIn X N.ob)
  have one : wpAny (model prog w) A (tryCompare (.ref a) "__ne__" (.ref b)) (fun r s' => ∃ t, r = some (.bool (!t)) ∧ Q (.bool (!t)) s') Ex s := by
    unfold tryCompare
    simp only [callSpecialIfBound?, bindSpecialIfBound?]
    refine wpAny_bind (wpAny_holding (wpAny_bind (wpAny_bind (wpAny_bind (I.type.here ((PySem.W.looks_findIn X N.ne).here ?_))))))
    simp only [F.cmp_object.ne.bind]
    refine wpAny_bind (wpAny_askSetting (wpAny_ite ?_))
    have fin : wpAny (model prog w) A (call (.builtin "object.__ne__") ([.ref a] ++ [.ref b]) >>= fun v => pure (some v)) (fun r s' => ∃ t, r = some (.bool (!t)) ∧ Q (.bool (!t)) s') Ex s := by
      refine wpAny_bind (wpAny_call (codeAny_call_builtin F.cmp_object.ne.plain F.cmpEntry_ne (PySem.W.check_slot F.cmpKind_ne F.cmpSplit_ne below (F.cmpArgs_ne _ _) (wpAny_mono body (fun fin s' hf => ?_) fun _ _ e => e))))
      obtain ⟨r, rfl, q⟩ := hf
      exact wpAny_pure ⟨r, rfl, q⟩
    have fin2 := wpAny_mono fin (Q' := fun a s' => wpAny (model prog w) A (match a with
        | some Value.notImplemented => pure none
        | none => pure none
        | some v => pure (some v)) (fun r s' => ∃ t, r = some (Value.bool !t) ∧ Q (Value.bool !t) s') Ex s') (fun r s' hr => by
      obtain ⟨t, rfl, q⟩ := hr
      exact wpAny_pure ⟨t, rfl, q⟩) fun _ _ e => e
    split
    · exact wpAny_pure (by exact fin2)
    · exact wpAny_tryCatch (wpAny_pure (by exact fin2))
  unfold richCompare
  simp only [oneThing_ref]
  refine wpAny_holding (wpAny_bind (wpAny_cRoomFor (by omega) ?_))
  refine wpAny_bind (I.type.here (wpAny_bind (J.type.here ?_)))
  split
  · rename_i q
    simp at q
  · refine wpAny_bind (wpAny_pure ?_)
    simp only [Bool.false_eq_true, if_false]
    refine wpAny_bind (wpAny_mono one (fun r s' z => ?_) fun _ _ e => e)
    obtain ⟨t, rfl, hq⟩ := z
    exact wpAny_pure hq
/-- x is y, two bools -/
theorem op_isB : OpR X (compareOp .Is) (fun x y H Q => ∃ a b, x = .bl a ∧ y = .bl b ∧ Q (.bl (decide (a = b))) H) := by
  intro pins s σ H x y v u Q I rx ry h
  obtain ⟨a, b, rfl, rfl, q⟩ := h
  cases rx
  cases ry
  show wpAny (model X.prog X.w) X.A (do return .bool (← isSame (.bool a) (.bool b))) (EP X pins σ Q) X.xe s
  refine wpAny_bind ?_
  unfold isSame
  cases a <;> cases b <;> exact wpAny_pure (wpAny_pure ⟨.bl (decide _), H, I, by rfl, q⟩)
section
variable {ks : List Str} {g : List Value → List Value → List Value} {gV : List V → List V → List V} {o : Expr} {m : Str} {pos apos : Pos} {kws : List Keyword} {ta : TE} {tk : TA}
/-- o.m(k = v, ..), nothing by place -/
def tMethK0 (C : Addr) (m : Str) (sp : Sp) (gV : List V → List V → List V) (E : XK) (ta : TE) (tk : TA) : TE := fun σ H Q => ta σ H fun x H1 => ∃ a dx fs, x = .ref a ∧ H1 a = some (.ins C dx fs) ∧ fs.lookup m = none ∧ tk σ H1 fun zs H2 => sp (gV [x] zs) H2 Q E
theorem pe_methK0 {pl : Sem Bool} (he : PE X o ta) (c : Cls X.K C) (hm : Meth X.K C m f) (F : FnOk X.prog X.w X.K X.mg X.base CX k f fd ps sp) (hr : Room k X.A) (hb : KBinds X.K fd ps ks g gV) (hx : Passes CX X E) (hkw : PK X kws tk)
    (hall : (backToKw pos (keywordEach kws X.env)).all (·.1.isSome) = true := by rfl) (hks : (backToKw pos (keywordEach kws X.env)).filterMap (·.1) = ks := by rfl)
    (hpl : ((backTo pos (starEach [] X.env)).any (·.1) || (backToKw pos (keywordEach kws X.env)).any (·.1.isNone)) = false := by rfl)
    (ht : eval (.Call (.Attribute o m apos) [] kws pos) X.env = (do
      let ov ← eval o X.env
      standAt apos.atName
      let (f, first) ← holding [ov] (getMethod ov m pl)
      callWith pos f first (backTo pos (starEach [] X.env)) (backToKw pos (keywordEach kws X.env))) := by rfl) :
    PE X (.Call (.Attribute o m apos) [] kws pos) (tMethK0 C m sp gV E ta tk) := by
  refine ⟨fun pins s σ H Q I h => ?_⟩
  refine PySem.W.methodCall_KW (pl := pl) (thn (he.run pins s σ H _ I h) fun u s1 ⟨x, H1, I1, rx, a, dx, fs, ex, ea, l, q⟩ => ?_) ht
  subst ex
  obtain rfl : u = Value.ref a := rx
  refine getmeth_ok I1 ea c hm l ?_
  refine PySem.W.callWith_KW0 (first := [.ref a]) (h₀ := X.base) I.ok.mod.kin hm.kp hall (thn (hkw.run pos pins s1 σ H1 _ I1 q) fun ws s2 ⟨zs, H2, I2, rz, q2⟩ => ⟨I2.kIn, ?_⟩) hpl
  rw [hks]
  exact run_fnk (us := [.ref a]) (vs := [.ref a]) F hr hb hx I2 (.cons rfl .nil) rz q2
end
/-! ### a built-in value == an instance: the instance's own == answers -/
theorem eq_right {prog : Program} {w : World} {A : Around} {Ex : Value → Shared → Prop} {s : Shared} {K : PySem.W.Frag} {a : Value} {b : Addr} {ob : Obj} {odb : Option Obj} {Ta ida : String} {Q : Value → Shared → Prop} (hu : A.units < cLine) (X : K.In s.heap)
    (he : PySem.W.findIn K (.ref C) "__eq__" = some (some (.ref f))) (hf : PySem.W.isFn K (.ref f) = true) (ha : s.TypeIs a Ta) (J : PySem.W.InstAt s.heap b ob C odb) (hsub : PySem.W.subIn K (.ref C) (.type Ta) = some false)
    (h1 : Slot Ta (cmpInfo .Eq).2.1 ida) (hc1 : ∀ Q' : Value → Shared → Prop, Q' .notImplemented s → wpAny (model prog w) A (call (.builtin ida) [a, .ref b]) Q' Ex s)
    (h : wpAny (model prog w) A (call (.ref f) [.ref b, a]) (fun v s' => ∃ r, v = .bool r ∧ Q (.bool r) s') Ex s) : wpAny (model prog w) A (richCompare .Eq a (.ref b)) Q Ex s := by
  have hne : (Value.type Ta != Value.ref C) = true := by
    rw [bne_iff_ne]
    exact fun z => nomatch z
  rcases hi : cmpInfo CmpOp.Eq with ⟨sym, n1, n2⟩
  have e1 : n1 = "__eq__" := by cases hi; rfl
  have e2 : n2 = "__eq__" := by cases hi; rfl
  rw [hi] at h1
  have one : wpAny (model prog w) A (tryCompare (.ref b) n2 a) (fun r s' => ∃ t, r = some (.bool t) ∧ Q (.bool t) s') Ex s := by
    rw [e2]
    unfold tryCompare
    refine wpAny_bind (PySem.W.ifBound_K X J he hf (wpAny_mono h (fun v s' hv => ?_) fun _ _ e => e))
    obtain ⟨r, rfl, q⟩ := hv
    exact wpAny_pure ⟨r, rfl, q⟩
  simp only [richCompare, hi, ha.oneThing_none]
  try with_reducible refine wpAny_holding ?_
  refine wpAny_bind (wpAny_cRoomFor hu ?_)
  refine wpAny_bind (wpAny_typeOf ha (wpAny_bind (J.type.here ?_)))
  simp only [hne, if_true]
  refine wpAny_bind ((PySem.W.looks_subIn X hsub).here ?_)
  simp only [Bool.false_eq_true, if_false, Bool.not_false, if_true]
  refine wpAny_bind (m := tryCompare a _ (.ref b)) (wpAny_tryCompare_declines ha h1 (hc1 _ ⟨rfl, ?_⟩))
  refine wpAny_bind (m := tryCompare (.ref b) _ a) (wpAny_mono one (fun r s' hr => ?_) fun _ _ e => e)
  obtain ⟨t, rfl, q⟩ := hr
  exact wpAny_pure q
theorem dec_int_eq (a : Int) (t : Tok) (l C dx : Addr) : Meets (Builtin.«int.__eq__» ⟨[.int a t, .ref l], []⟩) (fun _ R s => s.heap.get? l = some (PySem.W.instObj C dx) ∧ R (.ok (.ret Value.notImplemented)) s) := .of_wp fun prog w A R s h => by obtain ⟨hp, g, d, tk, os⟩ := s; obtain ⟨hl, h⟩ := h; wp_walk; exact ⟨_, rfl, h⟩
theorem dec_str_eq (a : Str) (t : Tok) (l C dx : Addr) : Meets (Builtin.«str.__eq__» ⟨[.str a t, .ref l], []⟩) (fun _ R s => s.heap.get? l = some (PySem.W.instObj C dx) ∧ R (.ok (.ret Value.notImplemented)) s) := .of_wp fun prog w A R s h => by obtain ⟨hp, g, d, tk, os⟩ := s; obtain ⟨hl, h⟩ := h; wp_walk; exact ⟨_, rfl, h⟩
theorem dec_none_eq (l : Addr) : Gives (Builtin.«NoneType.__eq__» ⟨[.none, .ref l], []⟩) (.val (Value.notImplemented)) := .of_wp fun M A E s Q h => by obtain ⟨hp, g, d, tk, os⟩ := s; wp_walk; exact ⟨_, rfl, h⟩
section
variable {prog : Program} {w : World} {A : Around} {Ex : Value → Shared → Prop} {s : Shared}
theorem dec_list_eq {l b : Addr} {Q : Value → Shared → Prop} (hl : s.TypeIs (.ref l) "list") (hb : PySem.W.Looks (model prog w) s.heap (isInstance (.ref b) (.type "list")) false) (q : Q .notImplemented s) : wpAny (model prog w) A (call (.builtin "list.__eq__") [.ref l, .ref b]) Q Ex s := by
  refine GQ.call_here F.slot_list_eq hl F.entry_list_eq (F.args_list_eq_2 _ _) ?_
  obtain ⟨hp, g, d, tk, os⟩ := s
  wp_walk using hb.at
  exact q
theorem dec_tuple_eq {l b : Addr} {Q : Value → Shared → Prop} (hl : s.TypeIs (.ref l) "tuple") (hb : PySem.W.Looks (model prog w) s.heap (isInstance (.ref b) (.type "tuple")) false) (q : Q .notImplemented s) : wpAny (model prog w) A (call (.builtin "tuple.__eq__") [.ref l, .ref b]) Q Ex s := by
  refine GQ.call_here F.slot_tuple_eq hl F.entry_tuple_eq (F.args_tuple_eq_2 _ _) ?_
  obtain ⟨hp, g, d, tk, os⟩ := s
  wp_walk using hb.at
  exact q
end
/-! ### an instance in a list of other things, by its own == -/
section
open PySem.SeqAt MeetsSeq MeetsSeq2 MeetsSeq3 SeqRoads2
variable {prog : Program} {w : World} {A : Around} {R : Result → Shared → Prop}
theorem contains_loopG (l : Addr) (x : Value) (N : Nat) (I : Shared → Prop)
    (hl : ∀ s, I s → ∃ (items : Array Value) (n : Nat), s.heap.get? l = some { cls := .type "list", data := .seq items n } ∧ items.size = N ∧ ∀ i (h : i < items.size), wpAny (model prog w) A.in1 (eqBool items[i] x) (fun r s' => r = false ∧ I s') (fun e s' => R (.error e) s') s)
    (fin : ∀ s, I s → R (.ok (.ret (.bool false))) s) (k : Nat) :
    ∀ i : Nat, N - i = k → i ≤ N → ∀ s, I s → wpAny (model prog w) A.in1 (Builtin.«list.__contains__.loop» ⟨[.ref l, x, rawInt i], []⟩) (GQ.FinOf prog w A R) (fun e s' => R (.error e) s') s := by
  induction k with
  | zero =>
    intro i hk hi s h
    obtain ⟨items, n, hl1, hs1, _⟩ := hl _ h
    have hR : R (.ok (.ret (.bool false))) s := fin s h
    obtain ⟨hp, g, d, tk, os⟩ := s
    wp_walk using AutoSeq1.wpAny_loadPart' hl1
    have hi1 : items[((i : Nat) : Int).toNat]? = none := by simp; omega
    rw [hi1]
    wp_walk
    exact hR
  | succ k ih =>
    intro i hk hi s h
    obtain ⟨items, n, hl1, hs1, turn⟩ := hl _ h
    have hlt : i < items.size := by omega
    have ht := turn i hlt
    obtain ⟨hp, g, d, tk, os⟩ := s
    wp_walk using AutoSeq1.wpAny_loadPart' hl1
    have hi1 : items[((i : Nat) : Int).toNat]? = some items[i] := by simp [hlt]
    have hc : ((i : Int) + 1) = ((i + 1 : Nat) : Int) := by omega
    rw [hi1]
    refine wpAny_bind (wpAny_mono ht (fun r s2 h2 => ?_) fun _ _ x => x)
    obtain ⟨hr, h2⟩ := h2
    subst hr
    have hrec := ih (i + 1) (by omega) (by omega) s2 h2
    obtain ⟨hp2, g2, d2, tk2, os2⟩ := s2
    wp_walk
    rw [hc]
    exact ⟨plainId_quiet plain_contains_loop _, codeAny_builtin entry_contains_loop (by
      rw [Around.under_plainId plain_contains_loop _]
      exact hrec)⟩
theorem list_containsG (l : Addr) (x : Value) (N : Nat) (I : Shared → Prop)
    (hl : ∀ s, I s → ∃ (items : Array Value) (n : Nat), s.heap.get? l = some { cls := .type "list", data := .seq items n } ∧ items.size = N ∧ ∀ i (h : i < items.size), wpAny (model prog w) A.in1 (eqBool items[i] x) (fun r s' => r = false ∧ I s') (fun e s' => R (.error e) s') s)
    (fin : ∀ s, I s → R (.ok (.ret (.bool false))) s) {s : Shared} (h : I s) : wpAny (model prog w) A.in1 (Builtin.«list.__contains__» ⟨[.ref l, x], []⟩) (GQ.FinOf prog w A R) (fun e s' => R (.error e) s') s := by
  have hrec := contains_loopG (A := A) (R := R) l x N I hl fin _ 0 rfl (Nat.zero_le _) s h
  obtain ⟨items, n, hl1, _, _⟩ := hl _ h
  obtain ⟨hp, g, d, tk, os⟩ := s
  wp_walk using AutoSeq1.wpAny_loadPart' hl1
  exact ⟨plainId_quiet plain_contains_loop _, codeAny_builtin entry_contains_loop (by
    rw [Around.under_plainId plain_contains_loop _]
    exact hrec)⟩
end
theorem eqBool_any {prog : Program} {w : World} {A : Around} {Ex : Value → Shared → Prop} {s : Shared} {a : Value} {b : Addr} {Q : Bool → Shared → Prop} (hne : a ≠ .ref b) (h : wpAny (model prog w) A (richCompare .Eq a (.ref b)) (fun v s' => ∃ r, v = .bool r ∧ Q r s') Ex s) : wpAny (model prog w) A (eqBool a (.ref b)) Q Ex s := by
  unfold eqBool
  refine wpAny_holding ?_
  refine wpAny_ite_split (fun hab => absurd (eq_of_beq hab) hne) (fun _ => ?_)
  cases a <;> exact wpAny_bind (wpAny_mono h (fun v s' hv => by
    obtain ⟨r, rfl, q⟩ := hv
    exact wpAny_truthy_bool q) fun _ _ x => x)
/-- another thing than an instance -/
def Oth (K : PySem.W.Frag) (H : Hp) (y : V) : Prop := (∃ i, y = .int i) ∨ (∃ z, y = .str z) ∨ y = .non ∨ (∃ p xs, y = .ref p ∧ H p = some (.tup xs)) ∨ (∃ p xs, y = .ref p ∧ H p = some (.lst xs))
structure OthC (K : PySem.W.Frag) (C f : Addr) : Prop where
  eq : PySem.W.findIn K (.ref C) "__eq__" = some (some (.ref f))
  fn : PySem.W.isFn K (.ref f) = true
  i : PySem.W.subIn K (.ref C) (.type "int") = some false
  s : PySem.W.subIn K (.ref C) (.type "str") = some false
  n : PySem.W.subIn K (.ref C) (.type "NoneType") = some false
  t : PySem.W.subIn K (.ref C) (.type "tuple") = some false
  l : PySem.W.subIn K (.ref C) (.type "list") = some false
def rInO (K : PySem.W.Frag) (C : Addr) (sp : Sp) (E : XK) : R2 := fun x y H Q => ∃ a dx fs l ys, x = .ref a ∧ y = .ref l ∧ H a = some (.ins C dx fs) ∧ H l = some (.lst ys) ∧ (∀ z ∈ ys, Oth K H z ∧ sp [.ref a, z] H (fun v H' => v = .bl false ∧ H' = H) E) ∧ Q (.bl false) H
theorem in_own (O : OthC X.K C f) (Fk : FnOk X.prog X.w X.K X.mg X.base CX k f fd ps sp) (hr : Room (k + 1) X.A) (hb : Binds X.K fd ps []) (hx : Passes CX X E) : OpR X (compareOp .In) (rInO X.K C sp E) := by
  intro pins s σ H x y v u Q I rx ry h
  obtain ⟨a, dx, fs, l, ys, rfl, rfl, ea, el, hz, q⟩ := h
  obtain rfl : v = Value.ref a := rx
  obtain rfl : u = Value.ref l := ry
  obtain ⟨z0, its0, n0, r0, e0⟩ := I.hok l _ el
  show wpAny (model X.prog X.w) X.A (do return .bool (← contains (.ref l) (.ref a))) (EP X pins σ Q) X.xe s
  have hT : s.TypeIs (.ref l) "list" := ⟨_, e0, rfl⟩
  refine wpAny_bind (wpAny_contains_slot hT F.slot_list_contains (wpAny_mono (GQ.call_here (Q := fun v s' => v = .bool false ∧ Inv X pins σ H s') F.slot_list_contains hT F.entry_list_contains (F.args_list_contains_2 _ _)
    (list_containsG l (.ref a) ys.length (fun s' => Inv X pins σ H s') (fun s' I' => ?_) (fun s' I' => ⟨rfl, I'⟩) I)) (fun v s' hv => ?_) fun _ _ e => e))
  · obtain ⟨z1, its, n, r, e⟩ := I'.hok l _ el
    refine ⟨its.toArray, n, e, by rw [List.size_toArray]; exact r.length.symm, fun i hi => ?_⟩
    have k1 : i < ys.length := by rw [r.length]; simpa using hi
    obtain ⟨u, hu, ru⟩ := r.get (List.getElem?_eq_getElem k1)
    have g1 : its[i]? = some its.toArray[i] := by
      have h1' : i < its.length := by simpa using hi
      rw [List.getElem?_eq_getElem h1'] <;> simp
    rw [g1] at hu
    rw [Option.some.inj hu]
    obtain ⟨ho, hsp⟩ := hz _ (List.getElem_mem k1)
    obtain ⟨mA, J, _⟩ := ins_get I'.hok ea
    obtain ⟨od, J, _⟩ := J.look
    have own : wpAny (model X.prog X.w) X.A.in1 (call (.ref f) [.ref a, u]) (fun v s' => ∃ r, v = .bool r ∧ ∃ t, Value.bool r = .bool t ∧ (t = false ∧ Inv X pins σ H s')) X.xe s' := by
      refine wpAny_mono (run_own1 (vs := [V.ref a, ys[i]]) Fk hr hb hx I' (.cons rfl (.cons ru .nil)) hsp) (fun v s2 hv => ?_) fun _ _ e => e
      obtain ⟨x, H2, I2, rv, ex, eH⟩ := hv
      subst ex
      subst eH
      obtain rfl : v = Value.bool false := rv
      exact ⟨false, rfl, false, rfl, rfl, I2⟩
    have hu1 : X.A.in1.units < cLine := hr.in1.units0
    rcases ho with ⟨i', ei⟩ | ⟨z', ez⟩ | en | ⟨p, xs, ep, hp⟩ | ⟨p, xs, ep, hp⟩
    · rw [ei] at ru
      obtain ⟨t, rfl⟩ := ru
      exact eqBool_any (fun z => nomatch z) (eq_right hu1 I'.kIn O.eq O.fn (typeIs_int s' i' t) J O.i F.slot_int_eq (fun Q' q' => call_meets F.slot_int_eq (typeIs_int s' i' t) F.entry_int_eq (F.args_int_eq_2 _ _) (dec_int_eq i' t a C dx) ⟨J.at_, q'⟩) own)
    · rw [ez] at ru
      obtain ⟨t, rfl⟩ := ru
      exact eqBool_any (fun z => nomatch z) (eq_right hu1 I'.kIn O.eq O.fn (typeIs_str s' z' t) J O.s F.slot_str_eq (fun Q' q' => call_meets F.slot_str_eq (typeIs_str s' z' t) F.entry_str_eq (F.args_str_eq_2 _ _) (dec_str_eq z' t a C dx) ⟨J.at_, q'⟩) own)
    · rw [en] at ru
      obtain rfl : u = Value.none := ru
      exact eqBool_any (fun z => nomatch z) (eq_right hu1 I'.kIn O.eq O.fn (typeIs_none s') J O.n F.slot_NoneType_eq (fun Q' q' => call_gives F.slot_NoneType_eq (typeIs_none s') F.entry_NoneType_eq (F.args_NoneType_eq_2 _ _) (dec_none_eq a) q') own)
    · rw [ep] at ru
      obtain rfl : u = Value.ref p := ru
      obtain ⟨its2, r2, pt, _⟩ := I'.tuple (SqT.of hp)
      obtain ⟨ot, et, ct, _⟩ := id pt
      have hTp : s'.TypeIs (.ref p) "tuple" := ⟨ot, et, ct⟩
      have below : PySem.W.Looks (model X.prog X.w) s'.heap (isInstance (.ref a) (.type "tuple")) false := J.type.andThen (PySem.W.looks_subIn I'.kIn O.t)
      refine eqBool_any (fun z => ?_) (eq_right hu1 I'.kIn O.eq O.fn hTp J O.t F.slot_tuple_eq (fun Q' q' => dec_tuple_eq hTp below q') own)
      injection z with z
      rw [z, ea] at hp
      cases hp
    · rw [ep] at ru
      obtain rfl : u = Value.ref p := ru
      obtain ⟨z2, its2, n2, r2, e2⟩ := I'.hok p _ hp
      have hTp : s'.TypeIs (.ref p) "list" := ⟨_, e2, rfl⟩
      have below : PySem.W.Looks (model X.prog X.w) s'.heap (isInstance (.ref a) (.type "list")) false := J.type.andThen (PySem.W.looks_subIn I'.kIn O.l)
      refine eqBool_any (fun z => ?_) (eq_right hu1 I'.kIn O.eq O.fn hTp J O.l F.slot_list_eq (fun Q' q' => dec_list_eq hTp below q') own)
      injection z with z
      rw [z, ea] at hp
      cases hp
  · obtain ⟨rfl, I'⟩ := hv
    exact wpAny_truthy_bool (wpAny_pure ⟨.bl false, H, I', rfl, q⟩)
/-- != of two instances -/
theorem ne_own (N : NoNe X.K C f) (F : FnOk X.prog X.w X.K X.mg X.base CX k f fd ps sp) (hr : Room (k + 1) X.A) (hb : Binds X.K fd ps []) (hx : Passes CX X E) :
    OpR X (compareOp .NotEq) (fun x y H Q => rOO C sp E x y H (fun v H' => ∃ b, v = .bl b ∧ Q (.bl (!b)) H')) := by
  intro pins s σ H x y v u Q I rx ry h
  obtain ⟨a, dx, fs, b, dy, gs, rfl, rfl, ea, eb, q⟩ := h
  obtain rfl : v = Value.ref a := rx
  obtain rfl : u = Value.ref b := ry
  obtain ⟨mA, J, _⟩ := ins_get I.hok ea
  obtain ⟨od, J, _⟩ := J.look
  obtain ⟨mB, J', _⟩ := ins_get I.hok eb
  obtain ⟨od', J', _⟩ := J'.look
  show wpAny (model X.prog X.w) X.A (richCompare .NotEq (.ref a) (.ref b)) (EP X pins σ Q) X.xe s
  refine ne_K (by have := hr.un; omega) I.kIn N J J' (wpAny_mono (run_own1 (vs := [V.ref a, V.ref b]) F hr hb hx I (.cons rfl (.cons rfl .nil)) q) (fun v s2 hv => ?_) fun _ _ e => e)
  obtain ⟨x, H2, I2, rv, t, ex, q2⟩ := hv
  subst ex
  obtain rfl : v = Value.bool t := rv
  exact ⟨t, rfl, .bl (!t), H2, I2, rfl, q2⟩
section
variable {E : L2.St → XK} {o e : Expr} {es : List Expr} {m : Str} {pos apos : Pos} {ta : TE} {t : TA}
/-- o.m(e, ..), what is let out wished for at the caller's slots -/
def tMethE (C : Addr) (m : Str) (sp : Sp) (E : L2.St → XK) (ta : TE) (t : TA) : TE := fun σ H Q => ta σ H fun x H1 => ∃ a dx fs, x = .ref a ∧ H1 a = some (.ins C dx fs) ∧ fs.lookup m = none ∧ t σ H1 fun vs H2 => sp (x :: vs) H2 Q (E σ)
theorem pe_methE {pl : Sem Bool} (he : PE X o ta) (c : Cls X.K C) (hm : Meth X.K C m f) (F : FnOk X.prog X.w X.K X.mg X.base CX k f fd ps sp) (hr : Room k X.A) (hb : Binds X.K fd ps []) (hx : ∀ σ, PassesAt CX X σ (E σ)) (ha : PA X (e :: es) t)
    (hst : starEach (e :: es) X.env = (false, eval e X.env) :: starEach es X.env := by rfl) (hpl : (backTo pos (starEach es X.env)).any (·.1) = false := by rfl)
    (ht : eval (.Call (.Attribute o m apos) (e :: es) [] pos) X.env = (do
      let ov ← eval o X.env
      standAt apos.atName
      let (f, first) ← holding [ov] (getMethod ov m pl)
      callWith pos f first (backTo pos (starEach (e :: es) X.env)) (backToKw pos (keywordEach [] X.env))) := by rfl) :
    PE X (.Call (.Attribute o m apos) (e :: es) [] pos) (tMethE C m sp E ta t) := by
  refine ⟨fun pins s σ H Q I h => ?_⟩
  refine PySem.W.methodCall_KW (pl := pl) (thn (he.run pins s σ H _ I h) fun u s1 ⟨x, H1, I1, rx, a, dx, fs, ex, ea, l, q⟩ => ?_) ht
  subst ex
  obtain rfl : u = Value.ref a := rx
  refine getmeth_ok I1 ea c hm l ?_
  refine PySem.W.callWith_K (first := [.ref a]) (h₀ := X.base) I.ok.mod.kin hm.kp (thn (ha.run pos pins s1 σ H1 _ I1 q) fun us s2 ⟨vs, H2, I2, r, q2⟩ => ⟨I2.kIn, ?_⟩) hst hpl
  exact run_fnS (us := .ref a :: us) (vs := .ref a :: vs) F hr hb (hx σ) I2 (.cons rfl r) q2
end
/-- the receiver by place, the other by its name -/
def kSelf {α : Type} : List α → List α → List α
  | [u], ws => u :: ws
  | _, _ => []
theorem kbinds_self {K : PySem.W.Frag} {fd : FuncData} {p1 p2 k : Str} (h : ∀ (s : Shared) (u w : Value), BindsTo s fd ⟨[u], [(k, w)]⟩ [(p1, u), (p2, w)]) : KBinds K fd [p1, p2] [k] kSelf kSelf where
  to := fun s us ws _ hl => match us, ws, hl with
    | [u], [w], _ => h s u w
    | [], _, hl => nomatch hl
    | [_], [], hl => nomatch hl
    | [_], _ :: _ :: _, hl => by simp [kSelf] at hl
    | _ :: _ :: _, _, hl => nomatch hl
  rel := fun r rz => by
    cases r with
    | nil => exact .nil
    | cons a r =>
      cases r with
      | nil => exact .cons a rz
      | cons => exact .nil
end
end My

/-! My own rule: the own == of two instances within an except suite. -/
namespace My
open PySem PySem.Spec PyProof.Rows L2
/-- a def that may be called while an error is handled: the error stands at p, out of reach -/
structure FnP (P : Program) (w : World) (K : PySem.W.Frag) (mg : Str → Option Value) (base : Heap) (k : Nat) (f : Addr) (fd : FuncData) (ps : List Str) (sp : Sp) : Prop where
  len : ∀ vs H Q E, sp vs H Q E → vs.length = ps.length
  run : ∀ (A : Around) (outer : List Env) (s : Shared) (H : Hp) (args : Args) (us : List Value) (vs : List V) (Q : VK) (E : XK) (p : Addr × Obj), L2H.RoomH k A → L2H.PinOk outer H s p → Env0 P w K mg base A outer s H → BindsTo s fd args (ps.zip us) → Vals vs us → sp vs H Q E →
    codeAny (model P w) A (.call (.ref f) args) (CR CX0 outer P w H s Q E) s
theorem fnP_of {P : Program} {w : World} {K : PySem.W.Frag} {mg : Str → Option Value} {base : Heap} {x qual : Str} {st : Stmt} {f : Addr} {fd : FuncData} {N ps : List Str} {k : Nat} {sp : Sp} (F : Fun K x qual st f fd) (S : FnScope N ps (defScope st)) (len : ∀ vs H Q E, sp vs H Q E → vs.length = ps.length)
    (hbody : ∀ (cdv : Value) (A : Around) (outer : List Env) (s : Shared) (H : Hp) (vs : List V) (Q : VK) (E : XK) (p : Addr × Obj), sp vs H Q E →
      ∃ t, PSs (L2H.cxH CX0 P w K mg base N qual (defScope st) f cdv A outer s H E p) (defBody st) t ∧ t { nx := fun _ H' => Q .non H', rt := Q } (L2.start N vs) H) : FnP P w K mg base (k + 1) f fd ps sp := by
  obtain ⟨oc, od, kV, doc, pm, an, cdv, ct, osl, rfl, lk, hcd⟩ := F.ex
  refine ⟨len, fun A outer s H args us vs Q E p hr hpin e0 hb r hsp => ?_⟩
  have up : ∀ b o, base.get? b = some o → s.heap.get? b = some o := fun b o e => (e0.bs b o e).1
  refine codeAny_call_function hr.depth (e0.mod.kin.keeps up _ _ lk) rfl S.co S.gen rfl (PySem.W.codeRec_of (e0.mod.kin.keeps up) hcd) (hb _ _ _ _ ?_)
  refine wpAny_newFunctionEnv_cells S.kind (fun q hq => (S.par q.1 (List.of_mem_zip hq).1).elim .inl fun c => .inr ⟨c, PySem.W.cellsFrom_some _ _ _ (.inl c)⟩) fun env he s1 y => ?_
  subst he
  refine ⟨(e0.mod.nolimit.keeps up).keeps y.toInCall.keep, codeAny_func ?_⟩
  obtain ⟨t, ht, hq⟩ := hbody cdv A outer s H vs Q E p hsp
  refine wpAny_mono (ht.run [] s1 (L2.start N vs) H _ (L2H.inv_startH S hpin e0 (len _ _ _ _ hsp) r y) hq) (fun fl s' hs => ?_) fun e s' hs => hs
  cases fl with
  | ret u =>
    obtain ⟨v, σ', H', J, rv, q⟩ := hs
    exact ⟨v, H', J.os, J.bare, J.base, J.hok, rv, q⟩
  | next =>
    obtain ⟨σ', H', J, q⟩ := hs
    exact ⟨.non, H', J.os, J.bare, J.base, J.hok, rfl, q⟩
  | brk => exact hs.elim fun _ h => h.elim fun _ h => False.elim h.2
  | cont => exact hs.elim fun _ h => h.elim fun _ h => False.elim h.2
section
variable {X : Cx} {k : Nat} {C f : Addr} {fd : FuncData} {ps : List Str} {sp : Sp} {E : XK} {p : Addr × Obj}
theorem cmp_ownP (hs : PySem.W.findIn X.K (.ref C) "__eq__" = some (some (.ref f))) (hf : PySem.W.isFn X.K (.ref f) = true) (F : FnP X.prog X.w X.K X.mg X.base k f fd ps sp) (hr : L2H.RoomH k X.A) (hp : p ∈ X.pn) (hb : Binds X.K fd ps []) : OpR X (compareOp .Eq) (rOO C sp E) := by
  intro pins s σ H x y v u Q I rx ry h
  obtain ⟨a, dx, fs, b, dy, gs, rfl, rfl, ea, eb, q⟩ := h
  obtain rfl : v = Value.ref a := rx
  obtain rfl : u = Value.ref b := ry
  obtain ⟨mA, J, _⟩ := ins_get I.hok ea
  obtain ⟨od, J, _⟩ := J.look
  obtain ⟨mB, J', _⟩ := ins_get I.hok eb
  obtain ⟨od', J', _⟩ := J'.look
  obtain ⟨m, hF⟩ := I.fr
  have hl : ([Value.ref a, Value.ref b] ++ []).length = ps.length := by rw [← F.len _ _ _ _ q]; rfl
  have b2 := hb s [.ref a, .ref b] I.kIn hl
  have P1 := I.pin p (List.mem_append_left _ hp)
  have hpin : L2H.PinOk X.stack H s p := ⟨P1.1, P1.2.1, fun hm => (List.mem_cons.mp (I.stkSub p.1 hm)).elim P1.2.2.1 P1.2.2.2.1, P1.2.2.2.2⟩
  show wpAny (model X.prog X.w) X.A (richCompare .Eq (.ref a) (.ref b)) (EP X pins σ Q) X.xe s
  refine PySem.W.cmp_K (op := .Eq) (tb := .ref C) (by have := hr.un; omega) hF I.ok.mod.kin J J'.type (by simp [PySem.W.notFirst]) hs hf ?_
  refine wpAny_call (codeAny_mono (F.run X.A X.stack s H ⟨[.ref a, .ref b], []⟩ [.ref a, .ref b] [.ref a, .ref b] Q E p hr hpin I.env0 b2 (.cons rfl (.cons rfl .nil)) q) fun r s' hq => ?_)
  cases r with
  | error e => exact hq.elim
  | ok fl =>
    cases fl with
    | ret w => exact back_of (I.after hq)
    | next => exact False.elim hq
    | brk => exact False.elim hq
    | cont => exact False.elim hq
end
end My

/-! My own rules: a text times a number; a class method's call that raises, at the caller's slots. -/
namespace My
open PySem PySem.Spec PyProof.Rows L2
section
variable {X : Cx}
/-- z * k, only the length is told -/
def rRepS : R2 := fun x y H Q => ∃ (z : Str) (k : Int), x = .str z ∧ y = .int k ∧ 2 ≤ k ∧ k < 2 ^ 30 ∧ 1 ≤ z.length ∧ z.length * k.toNat ≤ sizeLine ∧ ∀ u : Str, u.length = k.toNat * z.length → (∀ c ∈ u.cps.toList, c ∈ z.cps.toList) → Q (.str u) H
theorem rep_size (x : Array Nat) : ∀ (n : Nat) (a : Array Nat), ((List.replicate n x).foldl (· ++ ·) a).size = a.size + n * x.size
  | 0, a => by simp
  | n + 1, a => by
    show ((List.replicate n x).foldl (· ++ ·) (a ++ x)).size = _
    rw [rep_size x n (a ++ x), Array.size_append, Nat.add_mul]
    omega
theorem rep_mem (x : Array Nat) : ∀ (n : Nat) (a : Array Nat) (c : Nat), c ∈ (List.replicate n x).foldl (· ++ ·) a → c ∈ a ∨ c ∈ x
  | 0, a, c, h => .inl h
  | n + 1, a, c, h => by
    rcases rep_mem x n (a ++ x) c h with h | h
    · exact Array.mem_append.mp h
    · exact .inr h
theorem op_repS : OpR X (binaryOp .Mult) rRepS := by
  intro pins s σ H x y v u Q I rx ry h
  obtain ⟨z, k, rfl, rfl, h2, h30, h1, hz, q⟩ := h
  obtain ⟨t, rfl⟩ := rx
  obtain ⟨t', rfl⟩ := ry
  have hl : Builtin.Str.tooLong (z.length * k.toNat) = false := decide_eq_false (by omega)
  have hs : sizeLine = 2 ^ 24 := rfl
  have hb : ¬ ((z.length : Int) > (2 ^ 63 - 1) / k) := by
    have e1 : z.length ≤ z.length * k.toNat := Nat.le_mul_of_pos_right _ (by omega)
    have e2 : (2 ^ 24 : Int) ≤ (2 ^ 63 - 1) / k := by
      rw [Int.le_ediv_iff_mul_le (by omega)]
      omega
    omega
  refine P.mul_str (by rw [decide_eq_false (by omega), decide_eq_false (by omega)]; rfl) (fun _ _ => hb) (fun _ _ => hl) ?_
  rw [if_neg (by omega), if_neg (by
    have a1 : (k == 1) = false := by simp; omega
    have a2 : (z.length == 0) = false := by simp; omega
    rw [a1, a2]
    exact Bool.false_ne_true)]
  have e : (⟨(List.replicate k.toNat z.cps).foldl (· ++ ·) #[]⟩ : Str).length = k.toNat * z.length := by
    show ((List.replicate k.toNat z.cps).foldl (· ++ ·) #[]).size = _
    rw [rep_size]
    show 0 + _ = _
    rw [Nat.zero_add]
    rfl
  refine ⟨?_, .str _, H, I.tok _, ⟨_, rfl⟩, q _ e fun c hc => ?_⟩
  rotate_left
  · rcases rep_mem z.cps k.toNat #[] c (Array.mem_toList_iff.mp hc) with h | h
    · exact absurd h (by simp)
    · exact Array.mem_toList_iff.mpr h
  show (⟨(List.replicate k.toNat z.cps).foldl (· ++ ·) #[]⟩ : Str).length ≤ sizeLine
  rw [e, Nat.mul_comm]
  exact hz
end
section
variable {X : Cx} {CX : CXT} {k : Nat} {C p g : Addr} {mc : Value} {fd : FuncData} {ps : List Str} {sp : Sp} {E : L2.St → XK} {o e : Expr} {es : List Expr} {m : Str} {pos apos : Pos} {ta : TE} {t : TA} {pl : Sem Bool}
def tCMethE (C : Addr) (sp : Sp) (E : L2.St → XK) (ta : TE) (t : TA) : TE := fun σ H Q => ta σ H fun x H1 => x = .ref C ∧ t σ H1 fun vs H2 => sp (.ref C :: vs) H2 Q (E σ)
theorem pe_cmethE (he : PE X o ta) (r : ClX.CRead X.K C mc) (c : ClX.CMet X.K C mc m p g) (F : FnOk X.prog X.w X.K X.mg X.base CX k g fd ps sp) (hr : Room k X.A) (hb : Binds X.K fd ps []) (hx : ∀ σ, PassesAt CX X σ (E σ)) (ha : PA X (e :: es) t)
    (hst : starEach (e :: es) X.env = (false, eval e X.env) :: starEach es X.env := by rfl) (hpl : (backTo pos (starEach es X.env)).any (·.1) = false := by rfl)
    (ht : eval (.Call (.Attribute o m apos) (e :: es) [] pos) X.env = (do
      let ov ← eval o X.env
      standAt apos.atName
      let (f, first) ← holding [ov] (getMethod ov m pl)
      callWith pos f first (backTo pos (starEach (e :: es) X.env)) (backToKw pos (keywordEach [] X.env))) := by rfl) :
    PE X (.Call (.Attribute o m apos) (e :: es) [] pos) (tCMethE C sp E ta t) := by
  refine ⟨fun pins s σ H Q I h => ?_⟩
  refine PySem.W.methodCall_KW (pl := pl) (thn (he.run pins s σ H _ I h) fun u s1 ⟨x, H1, I1, rx, ex, q⟩ => ?_) ht
  subst ex
  obtain rfl : u = Value.ref C := rx
  refine ClX.getmethcm_ok I1 r c fun s2 I2 => ?_
  refine ClX.callwith_cm I2 (ClX.base_none I1 (Nat.le_refl _)) c.fi (thn (ha.run pos _ s2 σ H1 _ I2 q) fun us s3 ⟨vs, H2, I3, rv, q2⟩ => ⟨⟨ClX.pin_at I3, I3.kIn⟩, ?_⟩) hst hpl
  suffices z : wpAny (model X.prog X.w) X.A (call (.ref s1.heap.objs.size) us) (EP X ((s1.heap.objs.size, PySem.W.methodObj (.ref g) (.ref C)) :: pins) σ Q) X.xe s3 from thn z fun _ _ y => ClX.unpinE y
  refine wpAny_call (PySem.W.method_call (ClX.pin_at I3) ?_)
  have r2 : Vals (V.ref C :: vs) (Value.ref C :: us) := .cons rfl rv
  have hl : (Value.ref C :: us).length = ps.length := by rw [← r2.length]; exact F.len _ _ _ _ q2
  have b := hb s3 (Value.ref C :: us) I3.kIn (by rw [List.append_nil]; exact hl)
  rw [List.append_nil] at b
  refine codeAny_mono (F.run X.A X.stack s3 H2 ⟨Value.ref C :: us, []⟩ (Value.ref C :: us) (V.ref C :: vs) Q (E σ) hr I3.env0 b r2 q2) fun r s' hq => ?_
  cases r with
  | error er => exact hx σ _ H2 s3 er s' I3 hq
  | ok fl =>
    cases fl with
    | ret u => exact I3.after hq
    | next => exact False.elim hq
    | brk => exact False.elim hq
    | cont => exact False.elim hq
end
theorem kit_vty {K : PySem.W.Frag} {C : Addr} {T : String} {b : Bool} (h : PySem.W.mroIn K C (.type T) = some b) (hm : PySem.W.kitMeta T = true) : PySem.W.kitOne K (.ref C) (.type T) = some b := by
  unfold PySem.W.kitOne
  rw [if_neg (by simp)]
  show (if PySem.W.kitMeta T = true then PySem.W.subIn K (.ref C) (.type T) else none) = some b
  rw [if_pos hm]
  exact h
end My

set_option maxHeartbeats 4000000
/-! My own rules: errors held as values: made, asked for their class, their attributes read. -/
namespace PySem
namespace HandSPX2
open PySem.W PySem.Calls PyProof.Rows PySem.HandSPX
section
variable {M : Model} {A : Around} {E : Value → Shared → Prop} {h : Heap} {g : Array GenState} {d : Drawn} {t : Nat} {os : OsState}
variable {nm q : Str} {C N : Addr} {bs bm bmB : List Value} {hdct : Bool} {sn : List Str} {sub : List Value} {ab : Bool} {col : Option Bool} {dd : Option Addr} {k0 k1 k2 k3 k5 : Option Value} {B newId initId : String}
theorem check_new_ownK (F : ExcBaseFacts B newId initId bmB) (hT : ∀ X : String, bm.contains (.type X) = bmB.contains (.type X)) {rest : List Value} {kws : List (Str × Value)} {Q : Unit → Shared → Prop}
    (hC : h.get? C = some (excClassObj nm q C N bs bm hdct sn sub ab col dd k0 k1 k2 k3 k5 newId)) (hq : Q () ⟨h, g, d, t, os⟩) : wpAny M A (checkBuiltinCall newId ⟨.ref C :: rest, kws⟩) Q E ⟨h, g, d, t, os⟩ := by
  have hcont : (Value.ref C :: bm).contains (.type B) = true := by rw [List.contains_cons, hT, F.hasB, Bool.or_true]
  have hstar := F.noStar
  simp only [checkBuiltinCall, F.newKind, F.newSplit, F.newRow]
  repeat (first | refine wpAny_loadPart_at hC ?_ | (refine wpAny_isSubtype_exc hC ?_; rw [hcont]) | refine wpAny_staticBase_exc hC ?_ | refine wpAny_madeBy_exc hC ?_ | simp only [bne_self_eq_false, Bool.false_eq_true, if_false] | wp_step)
  exact hq
end
section
variable {prog : Program} {w : World} {A : Around} {E : Value → Shared → Prop} {R : Result → Shared → Prop} {h : Heap} {g : Array GenState} {d : Drawn} {t : Nat} {os : OsState}
variable {nm q : Str} {C N : Addr} {bs bm bmB : List Value} {hdct : Bool} {sn : List Str} {sub : List Value} {ab : Bool} {col : Option Bool} {dd : Option Addr} {k0 k1 k2 k3 k5 : Option Value} {B newId initId : String}
theorem new_ownK (F : ExcBaseFacts B newId initId bmB) (hT : ∀ X : String, bm.contains (.type X) = bmB.contains (.type X)) {rest : List Value} {kws : List (Str × Value)}
    (hC : h.get? C = some (excClassObj nm q C N bs bm hdct sn sub ab col dd k0 k1 k2 k3 k5 newId))
    (hq : R (.ok (.ret (.ref (h.objs.size + 1)))) ⟨(h.push { cls := .type "tuple", data := .seq rest.toArray }).push
      { cls := .ref C, data := .fields #[.ref h.objs.size, .none, .none, .none, .bool false, .none] }, g, d, t, os⟩) (hrest : rest.length ≤ sizeLine) :
    codeAny (model prog w) A (.builtin newId ⟨.ref C :: rest, kws⟩) R ⟨h, g, d, t, os⟩ := by
  have hends := F.ends
  have hcB : (Value.ref C :: bm).contains (.type B) = true := by rw [List.contains_cons, hT, F.hasB, Bool.or_true]
  have hcA : (Value.ref C :: bm).contains (.type "AttributeError") = false := by rw [List.contains_cons, hT, F.noAttr]; rfl
  have hcN : (Value.ref C :: bm).contains (.type "NameError") = false := by rw [List.contains_cons, hT, F.noName]; rfl
  refine codeAny_builtinAt F.entry ?_
  unfold Builtin.«BaseException.__new__»
  refine wpAt_bind ?_
  show wpAt _ _ _ (stack >>= _) _ _ _
  refine wpAt_bind (wpAt_stack fun p below => wpAt_of_wpAny ?_)
  wp_walk
  refine wpAt_of_wpAny ?_
  rw [F.owner]
  repeat (first | with_reducible refine wpAny_madeHere_exc F.canon hC ?_ | with_reducible refine wpAny_loadPart_at hC ?_ | (with_reducible refine wpAny_isSubtype_exc hC ?_; first | rw [hcB] | rw [hcA] | rw [hcN]) | wp_step)
  show R _ _
  rw [Heap.size_push]
  exact hq
theorem type_call_ownK (F : ExcBaseFacts B newId initId bmB) (hT : ∀ X : String, bm.contains (.type X) = bmB.contains (.type X)) {rest : List Value} {kws : List (Str × Value)} {fI : Addr} {Q : Fin → Shared → Prop}
    (hC : h.get? C = some (excClassObj nm q C N bs bm hdct sn sub ab col dd k0 k1 k2 k3 k5 newId))
    (hi : W.Looks (model prog w) h (typeLookup (.ref C) "__init__") (some (.ref fI))) (hb : ∀ self, W.Looks (model prog w) h (bindSpecial (.ref fI) self) (.ref fI, [self])) (hrest : rest.length ≤ sizeLine)
    (hq : codeAny (model prog w) A (.call (.ref fI) ⟨.ref (h.objs.size + 1) :: rest, kws⟩)
      (fun r s' => match r with | .ok (.ret v) => v = .none ∧ Q (.done (.ret (.ref (h.objs.size + 1)))) s' | .ok _ => False | .error e => E e s')
      ⟨(h.push (W.kdv_tup rest)).push (excO C h.objs.size), g, d, t, os⟩) :
    wpAny (model prog w) A (Builtin.«type.__call__» ⟨.ref C :: rest, kws⟩) Q E ⟨h, g, d, t, os⟩ := by
  repeat (first | with_reducible refine wpAny_loadPart_at hC ?_ | with_reducible refine wpAny_madeBy_exc hC ?_ | wp_step)
  refine codeAny_call_builtin_code (Code.quiet_builtin _ F.quiet) (check_new_ownK F hT hC ?_)
  refine new_ownK F hT hC ?_ hrest
  show wpAny _ _ _ _ _ _
  have k : ∀ b o, h.get? b = some o → ((h.push (W.kdv_tup rest)).push (excO C h.objs.size)).get? b = some o := fun b o e => Heap.get?_push_of_some _ (Heap.get?_push_of_some _ e)
  have hC₁ := k _ _ hC
  have hget : ((h.push (W.kdv_tup rest)).push (excO C h.objs.size)).get? (h.objs.size + 1) = some (excO C h.objs.size) := by heap_get
  have hcC : (Value.ref C :: bm).contains (.ref C) = true := by simp
  have i1 := hi.keeps k
  have b1 := (hb (.ref (h.objs.size + 1))).keeps k
  unfold isInstance
  repeat (first | with_reducible refine wpAny_loadPart_at hget ?_ | (with_reducible refine wpAny_isSubtype_exc hC₁ ?_; rw [hcC]) | wp_step)
  show wpAny _ _ (typeLookup (.ref C) _) _ _ _
  refine i1.at ?_
  refine wpAny_holding (wpAny_bind (b1.at ?_))
  refine wpAny_bind (wpAny_call (codeAny_mono hq fun r s' z => ?_))
  rcases r with e | (v | _ | _ | _) <;> first | exact z | exact z.elim | skip
  obtain ⟨rfl, z⟩ := z
  first
    | exact wpAny_pure (wpAny_pure z)
    | (wp_walk; exact z)
theorem call_ownK (F : ExcBaseFacts B newId initId bmB) (hT : ∀ X : String, bm.contains (.type X) = bmB.contains (.type X)) {rest : List Value} {kws : List (Str × Value)} {fI : Addr}
    (hC : h.get? C = some (excClassObj nm q C N bs bm hdct sn sub ab col dd k0 k1 k2 k3 k5 newId))
    (hi : W.Looks (model prog w) h (typeLookup (.ref C) "__init__") (some (.ref fI))) (hb : ∀ self, W.Looks (model prog w) h (bindSpecial (.ref fI) self) (.ref fI, [self])) (hrest : rest.length ≤ sizeLine)
    (hq : codeAny (model prog w) (A.under (.builtin "type.__call__" ⟨.ref C :: rest, kws⟩)) (.call (.ref fI) ⟨.ref (h.objs.size + 1) :: rest, kws⟩) (W.InitBack (h.objs.size + 1) R)
      ⟨(h.push (W.kdv_tup rest)).push (excO C h.objs.size), g, d, t, os⟩) :
    codeAny (model prog w) A (.call (.ref C) ⟨rest, kws⟩) R ⟨h, g, d, t, os⟩ := by
  have f1 := tc_lookup
  have f2 := tc_bind (.ref C)
  have hTy : (⟨h, g, d, t, os⟩ : Shared).TypeIs (.ref C) "type" := ⟨_, hC, rfl⟩
  refine codeAny_of_tree ?_
  show wpAny _ _ (callAny (.ref C) _) _ _ _
  repeat (any_goals (first | assumption | with_reducible refine wpAny_loadPart_at hC ?_ | wp_step))
  refine ⟨rfl, ?_⟩
  refine codeAny_call_builtin_at (Code.quiet_builtin _ (by decide +kernel)) entry_typeCall (wpAny_check_type_call_sub hC (type_call_ownK F hT hC hi hb hrest ?_))
  refine codeAny_mono hq fun r s' z => ?_
  rcases r with e | (v | _ | _ | _) <;> exact z
end
end HandSPX2
end PySem
namespace My
open PySem PySem.Spec PyProof.Rows L2
/-- an error as a value: with its dict, or without one -/
def ErrV (H : Hp) (a D : Addr) : Prop := (∃ dx fs, H a = some (exo a D (some dx)) ∧ H dx = some (exd dx fs)) ∨ H a = some (ExO (.ref D) a)
theorem ErrV.on {H H' : Hp} {a D : Addr} (e : ErrV H a D) (s : Same H H') : ErrV H' a D := by
  rcases e with ⟨dx, fs, h1, h2⟩ | h
  · exact .inl ⟨dx, fs, s _ _ h1, s _ _ h2⟩
  · exact .inr (s _ _ h)
/-- an attribute of it -/
def ErrF (H : Hp) (a D : Addr) (n : Str) (v : V) : Prop := ∃ dx fs, H a = some (exo a D (some dx)) ∧ H dx = some (exd dx fs) ∧ fs.lookup n = some v
theorem ErrF.on {H H' : Hp} {a D : Addr} {n : Str} {v : V} (e : ErrF H a D n v) (s : Same H H') : ErrF H' a D n v := let ⟨dx, fs, h1, h2, h3⟩ := e; ⟨dx, fs, s _ _ h1, s _ _ h2, h3⟩
theorem ErrF.err {H : Hp} {a D : Addr} {n : Str} {v : V} (e : ErrF H a D n v) : ErrV H a D := let ⟨dx, fs, h1, h2, _⟩ := e; .inl ⟨dx, fs, h1, h2⟩
def rIsV (K : PySem.W.Frag) : List V → Hp → VK → Prop := fun xs H Q => ∃ (a D : Addr) (c : V) (cv : Value) (b : Bool), xs = [.ref a, c] ∧ ExcC K D ∧ ErrV H a D ∧ ClsV c cv ∧ PySem.W.kitOne K (.ref D) cv = some b ∧ Q (.bl b) H
theorem call_isV {X : Cx} : CallR X (.builtin "isinstance") (rIsV X.K) := by
  intro pins s σ H xs us Q I r h
  obtain ⟨a, D, c, cv, b, rfl, C, he, hcv, e, q⟩ := h
  obtain ⟨u, w', rfl, ru, rw'⟩ := vals2 r
  obtain rfl : u = Value.ref a := ru
  obtain rfl := hcv.eq rw'
  rcases he with ⟨dx, fs, h1, h2⟩ | h1
  · obtain ⟨t1, hget⟩ := exo_at I.hok h1
    obtain ⟨mA, hns, hrel⟩ := exd_at I.hok h2
    obtain ⟨od, ho, hl⟩ := lookIn_ns hns
    have J : PySem.W.InstAt s.heap a { cls := .ref D, dict := some dx, data := .fields #[.ref t1, .none, .none, .none, .bool false, .none] } D (some od) := ⟨hget, rfl, rfl, ho⟩
    exact PySem.W.kia_one (kit_err C) I.kIn J e (fun z => nomatch z) fun tk => ⟨.bl b, H, I.kept (t' := tk) fun _ _ z => z, rfl, q⟩
  · obtain ⟨⟨oe, vs, hget, hz, hv, _⟩, _, _⟩ := I.hok a _ h1
    have J : PySem.W.InstAt s.heap a oe D none := by
      obtain ⟨oc, od, oda, osl⟩ := oe
      obtain ⟨h1, h2⟩ := hz
      dsimp only at h1 h2 hv
      subst h1 h2 hv
      exact ⟨hget, rfl, rfl, trivial⟩
    exact PySem.W.kia_one (PySem.W.handS_kitx_exc C.hg C.hk C.hs C.hd C.ha C.hn C.ht C.hm) I.kIn J e (fun z => nomatch z) fun tk => ⟨.bl b, H, I.kept (t' := tk) fun _ _ z => z, rfl, q⟩
/-- o.f of an error held as a value -/
def tXv (D : Addr) (n : Str) (te : TE) : TE := fun σ H Q => te σ H fun x H1 => ∃ (a : Addr) (v : V), x = .ref a ∧ ErrF H1 a D n v ∧ Q v H1
theorem pe_xv {X : Cx} {D : Addr} {e : Expr} {te : TE} {pos : Pos} {n : Str} (T : XfC X.K D) (hno : PySem.W.findIn X.K (.ref D) n = some none) (he : PE X e te) (hb : attributeBase e n X.env (eval e X.env) = eval e X.env := by rfl) :
    PE X (.Attribute e n pos) (tXv D n te) := by
  refine ⟨fun pins s σ H Q I h => ?_⟩
  refine attr_of hb (thn (he.run pins s σ H _ I h) fun u s1 hh => ?_)
  obtain ⟨x, H1, I1, rx, a, v, ex, ⟨dd, fs, ea, ed, l⟩, q⟩ := hh
  subst ex
  obtain rfl : u = Value.ref a := rx
  obtain ⟨t1, hget⟩ := exo_at I1.hok ea
  obtain ⟨mA, hns, hr⟩ := exd_at I1.hok ed
  obtain ⟨od, ho, hl⟩ := lookIn_ns hns
  obtain ⟨u, hu, ru⟩ := RelO.some_of (v := v) (o := mA n) (by rw [← l]; exact hr n)
  have J : PySem.W.InstAt s1.heap a { cls := .ref D, dict := some dd, data := .fields #[.ref t1, .none, .none, .none, .bool false, .none] } D (some od) := ⟨hget, rfl, rfl, ho⟩
  exact HandSPX.exc_get I1.kIn J T.ga T.gg T.exC (PySem.W.findObj_own T.hdC hno rfl (by rw [hl, hu])) (handed_of ru) ⟨v, H1, I1.tok _, ru, q⟩
/-- C(e, ..), an own error class with an own __init__, as a value -/
structure mkO (C : Addr) (sp : Sp) (vs : List V) (H : Hp) (Q : VK) : Prop where
  len : vs.length ≤ 1000
  k : ∀ a, H a = none → sp (.ref a :: vs) (upd H a (exo a C none)) (fun v H2 => v = .non ∧ Q (.ref a) H2) E0
def tMkV (C : Addr) (sp : Sp) (ta : TA) : TE := fun σ H Q => ta σ H fun vs H1 => mkO C sp vs H1 Q
section
variable {X : Cx} {CX : CXT} {x : Str} {C fI : Addr} {k : Nat} {fd : FuncData} {ps ks : List Str} {sp : Sp} {p pos : Pos} {e : Expr} {es : List Expr} {ta tk : TA} {kws : List Keyword}
theorem run_oexK {pins : List (Addr × Obj)} {σ : L2.St} {H1 : Hp} {s1 : Shared} {Q : VK} {us : List Value} {kws0 : List (Str × Value)} {us2 : List Value} {vs : List V} (T : OexC X.K C) (iC : PySem.W.findIn X.K (.ref C) "__init__" = some (some (.ref fI))) (tI : PySem.W.typeIn X.K (.ref fI) = some (.type "function"))
    (F1 : FnOk X.prog X.w X.K X.mg X.base CX k fI fd ps sp) (hr : Room (k + 1) X.A) (hb : ∀ (s : Shared) (u : Value), X.K.In s.heap → BindsTo s fd ⟨u :: us, kws0⟩ (ps.zip (u :: us2))) (hx : Passes CX X E0) (I1 : Inv X pins σ H1 s1) (r1 : Vals vs us2) (hz : us.length ≤ 1000)
    (q1 : ∀ a, H1 a = none → sp (.ref a :: vs) (upd H1 a (exo a C none)) (fun v H2 => v = .non ∧ Q (.ref a) H2) E0) : wpAny (model X.prog X.w) X.A (call (.ref C) us kws0) (EP X pins σ Q) X.xe s1 := by
  obtain ⟨nm, q, N, bs, bm, sn, sub, ab, col, dd, k0, k1, k2, k3, k5, hC, hbm⟩ := T.cls
  obtain ⟨hp, g, dr, tk, os⟩ := s1
  have hsz : hp.objs.size ≤ hp.objs.size + 1 := Nat.le_succ _
  have hn : H1 (hp.objs.size + 1) = none := I1.hok.fresh hsz
  have hq := q1 (hp.objs.size + 1) hn
  have kk : ∀ b o, hp.get? b = some o → ((hp.push (PySem.W.kdv_tup us)).push (PySem.HandSPX.excO C hp.objs.size)).get? b = some o := fun b o e => Heap.get?_push_of_some _ (Heap.get?_push_of_some _ e)
  have hget : ((hp.push (PySem.W.kdv_tup us)).push (PySem.HandSPX.excO C hp.objs.size)).get? (hp.objs.size + 1) = some (PySem.HandSPX.excO C hp.objs.size) := by heap_get
  have I2 : Inv X pins σ (upd H1 (hp.objs.size + 1) (exo (hp.objs.size + 1) C none)) ⟨(hp.push (PySem.W.kdv_tup us)).push (PySem.HandSPX.excO C hp.objs.size), g, dr, tk, os⟩ :=
    I1.laid (t' := tk) (a := hp.objs.size + 1) (o := exo (hp.objs.size + 1) C none) (h' := (hp.push (PySem.W.kdv_tup us)).push (PySem.HandSPX.excO C hp.objs.size)) kk hsz (exo_ok hget)
  have r2 : Vals (V.ref (hp.objs.size + 1) :: vs) (Value.ref (hp.objs.size + 1) :: us2) := .cons rfl r1
  have b := hb ⟨(hp.push (PySem.W.kdv_tup us)).push (PySem.HandSPX.excO C hp.objs.size), g, dr, tk, os⟩ (Value.ref (hp.objs.size + 1)) I2.kIn
  have hus : us.length ≤ sizeLine := by
    rw [sizeLine_eq]
    omega
  refine wpAny_call (PySem.HandSPX2.call_ownK F.excBase_ValueError (fun Y => PySem.HandSPX.refsVE_contains Y bm hbm) (I1.kIn _ _ hC) (PySem.W.looks_findIn I1.kIn iC) (fun self => PySem.W.bind_fn I1.kIn self tI) hus
    (codeAny_mono (F1.run _ X.stack _ _ ⟨Value.ref (hp.objs.size + 1) :: us, kws0⟩ (Value.ref (hp.objs.size + 1) :: us2) _ _ E0 (hr.make C us kws0) (I2.env0.make C us kws0) b r2 hq) fun r s' hq' => ?_))
  cases r with
  | error er => exact hx pins σ _ _ er s' I2 hq'
  | ok fl =>
    cases fl with
    | ret u =>
      obtain ⟨v, H2, os2, bare2, un2, hok2, rv, ev, q2⟩ := hq'
      subst ev
      obtain ⟨h2, g2, d2, t2, os'⟩ := s'
      obtain rfl : os' = os := os2
      refine ⟨rv, ?_⟩
      exact ⟨.ref (hp.objs.size + 1), H2, I1.call (h' := h2) (g' := g2) (d' := d2) (t' := t2) (ch := []) (.trans (Un.laidN (fs := frs X.stack) (ex := []) (o := exo (hp.objs.size + 1) C none) kk (Heap.get?_none_of_le hsz) hn) un2) hok2 bare2 (fun b z => absurd z (by simp)), rfl, q2⟩
    | next => exact False.elim hq'
    | brk => exact False.elim hq'
    | cont => exact False.elim hq'
theorem pe_oex (T : OexC X.K C) (iC : PySem.W.findIn X.K (.ref C) "__init__" = some (some (.ref fI))) (tI : PySem.W.typeIn X.K (.ref fI) = some (.type "function"))
    (F1 : FnOk X.prog X.w X.K X.mg X.base CX k fI fd ps sp) (hr : Room (k + 1) X.A) (hb : Binds X.K fd ps []) (hx : Passes CX X E0) (hg : Gl X x) (hm : X.mg x = some (.ref C)) (ha : PA X (e :: es) ta)
    (hdb : (x == ("__debug__" : Str)) = false := by decide) (he : starEach (e :: es) X.env = (false, eval e X.env) :: starEach es X.env := by rfl) (hpl : (backTo pos (starEach es X.env)).any (·.1) = false := by rfl) :
    PE X (.Call (.Name x p) (e :: es) [] pos) (tMkV C sp ta) := by
  refine ⟨fun pins s σ H Q I h => ?_⟩
  refine wpAny_Call_Name_kw (ld_glob I hg hm ?_ hdb)
  refine PySem.W.callWith_K (h₀ := X.base) I.ok.mod.kin T.kC (thn (ha.run pos pins s σ H _ I h) fun us s1 ⟨vs, H1, I1, r1, hz, q1⟩ => ⟨I1.kIn, ?_⟩) he hpl
  refine run_oexK (us := us) (us2 := us) (kws0 := []) T iC tI F1 hr (fun s' u hK => ?_) hx I1 r1 (by rw [← Paired.length r1]; exact hz) q1
  have hl : (u :: us).length = ps.length := by
    have e := F1.len _ _ _ _ (q1 s1.heap.objs.size (I1.hok.fresh (Nat.le_refl _)))
    rw [← e, List.length_cons, List.length_cons, Paired.length r1]
  have b := hb s' (u :: us) hK (by rw [List.append_nil]; exact hl)
  rw [List.append_nil] at b
  exact b
/-- C(k = e, ..) -/
structure mkOK (C : Addr) (sp : Sp) (is : List Nat) (n : Nat) (zs : List V) (H : Hp) (Q : VK) : Prop where
  len : zs.length = n
  k : ∀ a, H a = none → sp (.ref a :: permL is zs) (upd H a (exo a C none)) (fun v H2 => v = .non ∧ Q (.ref a) H2) E0
def tMkVK (C : Addr) (sp : Sp) (is : List Nat) (n : Nat) (tk : TA) : TE := fun σ H Q => tk σ H fun zs H1 => mkOK C sp is n zs H1 Q
theorem pe_oexK {is : List Nat} (T : OexC X.K C) (iC : PySem.W.findIn X.K (.ref C) "__init__" = some (some (.ref fI))) (tI : PySem.W.typeIn X.K (.ref fI) = some (.type "function"))
    (F1 : FnOk X.prog X.w X.K X.mg X.base CX k fI fd ps sp) (hr : Room (k + 1) X.A) (hb : ∀ (s : Shared) (u : Value) (ws : List Value), ws.length = ks.length → BindsTo s fd ⟨[u], ks.zip ws⟩ (ps.zip (u :: permL is ws))) (hx : Passes CX X E0) (hg : Gl X x) (hm : X.mg x = some (.ref C))
    (hkw : PK X kws tk) (hall : (backToKw pos (keywordEach kws X.env)).all (·.1.isSome) = true := by rfl) (hks : (backToKw pos (keywordEach kws X.env)).filterMap (·.1) = ks := by rfl)
    (hdb : (x == ("__debug__" : Str)) = false := by decide)
    (hpl : ((backTo pos (starEach [] X.env)).any (·.1) || (backToKw pos (keywordEach kws X.env)).any (·.1.isNone)) = false := by rfl) :
    PE X (.Call (.Name x p) [] kws pos) (tMkVK C sp is ks.length tk) := by
  refine ⟨fun pins s σ H Q I h => ?_⟩
  refine wpAny_Call_Name_kw (ld_glob I hg hm ?_ hdb)
  refine PySem.W.callWith_KW0 (h₀ := X.base) I.ok.mod.kin T.kC hall (thn (hkw.run pos pins s σ H _ I h) fun ws s2 ⟨zs, H2, I2, rz, hz, q2⟩ => ⟨I2.kIn, ?_⟩) hpl
  rw [hks]
  exact run_oexK (us := []) (us2 := permL is ws) T iC tI F1 hr (fun s' u hK => hb s' u ws (by rw [← Paired.length rz]; exact hz)) hx I2 (permL_rel is rz) (Nat.zero_le _) q2
/-- C(), an own error class without an own __init__ -/
theorem pe_exc0 {bmB : List Value} {B newId initId : String} (F : ExcBaseFacts B newId initId bmB) (q : PySem.W.excIn X.K C bmB newId = true) (gC : X.mg x = some (.ref C)) (kC : PySem.W.keepIn X.K (.ref C) = true) (hg : Gl X x) (hdb : (x == ("__debug__" : Str)) = false := by decide) :
    PE X (.Call (.Name x p) [] [] pos) (fun σ H Q => ∀ a, H a = none → Q (.ref a) (upd H a (ExO (.ref C) a))) := by
  refine ⟨fun pins s σ H Q I h => ?_⟩
  refine wpAny_Call_Name_kw (ld_glob I hg gC ?_ hdb)
  refine PySem.W.callWith_KW0 (h₀ := X.base) I.ok.mod.kin kC (by rfl) (thn (pk_nil.run pos pins s σ H (fun vs H1 => vs = [] ∧ H1 = H) I ⟨rfl, rfl⟩) fun ws s2 ⟨zs, H2, I2, rz, ez, eH⟩ => ⟨I2.kIn, ?_⟩) (by rfl)
  subst eH
  show wpAny _ _ (call (.ref C) []) _ _ _
  obtain ⟨bm, N, nm, qn, bs, hdct, sn, sub, ab, col, dd, k0, k1, k2, k3, k5, mN, hC, hN, hni, T⟩ := exc_obj I2.kIn q
  refine wpAny_call_exc_subT F T hC hN hni (fun h' a hm => ?_) (Nat.zero_le _)
  have hn : H2 a = none := I2.hok.gone hm.new
  obtain ⟨t, ht, _, _⟩ := hm.there
  exact ⟨.ref a, upd H2 a (ExO (.ref C) a), I2.laidN hm.keeps hm.new hn (exO_ok ht ⟨rfl, rfl⟩ rfl rfl rfl (show 4 < 6 by decide)), rfl, h a hn⟩
end
/-! ### != of two lists of the same things -/
section
variable {X : Cx}
def plainW : V → Bool
  | .int _ => true
  | .ref _ => true
  | .str _ => true
  | .non => true
  | _ => false
def rNeSameW (K : PySem.W.Frag) : R2 := fun x y H Q => ∃ a b xs, x = .ref a ∧ y = .ref b ∧ SqL K H a xs ∧ SqL K H b xs ∧ (∀ z ∈ xs, plainW z = true) ∧ Q (.bl false) H
theorem eqAt_sameW {A : Around} {s : Shared} {z : V} {u v : Value} (h : plainW z = true) (r : RelV z u) (r' : RelV z v) : SeqAt.EqAt A s u v true := by
  cases z with
  | int i =>
    have := eqAt_V (A := A) (s := s) r r' rfl rfl
    have e : eqV (.int i) (.int i) = true := by simp [eqV]
    rw [e] at this
    exact this
  | str i =>
    have := eqAt_V (A := A) (s := s) r r' rfl rfl
    have e : eqV (.str i) (.str i) = true := by simp [eqV]
    rw [e] at this
    exact this
  | non =>
    have := eqAt_V (A := A) (s := s) r r' rfl rfl
    have e : eqV .non .non = true := by simp [eqV]
    rw [e] at this
    exact this
  | ref a =>
    obtain rfl : u = Value.ref a := r
    obtain rfl : v = Value.ref a := r'
    exact SeqAt.EqAt.same _
  | _ => cases h
theorem op_neSameW (hu : X.A.units < cLine) : OpR X (compareOp .NotEq) (rNeSameW X.K) := by
  intro pins s σ H x y v u Q I rx ry h
  obtain ⟨a, b, xs, rfl, rfl, ha, hb, hp, q⟩ := h
  obtain rfl : v = Value.ref a := rx
  obtain rfl : u = Value.ref b := ry
  obtain ⟨its, r, ⟨o, n, e, c, d, dt⟩, _⟩ := I.list ha
  obtain ⟨its2, r2, ⟨o2, n2, e2, c2, d2, dt2⟩, _⟩ := I.list hb
  have hsz : its.toArray.size = its2.toArray.size := by rw [List.size_toArray, List.size_toArray, ← r.length, ← r2.length]
  show wpAny (model X.prog X.w) X.A (richCompare .NotEq (.ref a) (.ref b)) (EP X pins σ Q) X.xe s
  refine SeqAt.RcNeAt.lists (e := fun _ => true) ⟨o, e, c, n, dt⟩ ⟨o2, e2, c2, n2, dt2⟩ hsz hu (fun j h1 h2 => ?_) _ _ _ _ ?_
  · have k1 : j < xs.length := by rw [r.length]; simpa using h1
    obtain ⟨w1, hw1, rw1⟩ := r.get (List.getElem?_eq_getElem k1)
    obtain ⟨w2, hw2, rw2⟩ := r2.get (List.getElem?_eq_getElem k1)
    have g1 : its[j]? = some its.toArray[j] := by
      have h1' : j < its.length := by simpa using h1
      rw [List.getElem?_eq_getElem h1'] <;> simp
    have g2 : its2[j]? = some its2.toArray[j] := by
      have h2' : j < its2.length := by simpa using h2
      rw [List.getElem?_eq_getElem h2'] <;> simp
    rw [g1] at hw1
    rw [g2] at hw2
    rw [Option.some.inj hw1, Option.some.inj hw2]
    exact eqAt_sameW (hp _ (List.getElem_mem k1)) rw1 rw2
  · have e : (!(List.range its.toArray.size).all fun _ => true) = false := by simp
    rw [e]
    exact ⟨.bl false, H, I, rfl, q⟩
def rEqSameW (K : PySem.W.Frag) : R2 := fun x y H Q => ∃ a b xs, x = .ref a ∧ y = .ref b ∧ SqL K H a xs ∧ SqL K H b xs ∧ (∀ z ∈ xs, plainW z = true) ∧ Q (.bl true) H
theorem op_eqSameW (hu : X.A.units < cLine) : OpR X (compareOp .Eq) (rEqSameW X.K) := by
  intro pins s σ H x y v u Q I rx ry h
  obtain ⟨a, b, xs, rfl, rfl, ha, hb, hp, q⟩ := h
  obtain rfl : v = Value.ref a := rx
  obtain rfl : u = Value.ref b := ry
  obtain ⟨its, r, ⟨o, n, e, c, d, dt⟩, _⟩ := I.list ha
  obtain ⟨its2, r2, ⟨o2, n2, e2, c2, d2, dt2⟩, _⟩ := I.list hb
  have hsz : its.toArray.size = its2.toArray.size := by rw [List.size_toArray, List.size_toArray, ← r.length, ← r2.length]
  show wpAny (model X.prog X.w) X.A (richCompare .Eq (.ref a) (.ref b)) (EP X pins σ Q) X.xe s
  refine SeqAt.RcAt.lists (e := fun _ => true) ⟨o, e, c, n, dt⟩ ⟨o2, e2, c2, n2, dt2⟩ hsz hu (fun j h1 h2 => ?_) _ _ _ _ ?_
  · have k1 : j < xs.length := by rw [r.length]; simpa using h1
    obtain ⟨w1, hw1, rw1⟩ := r.get (List.getElem?_eq_getElem k1)
    obtain ⟨w2, hw2, rw2⟩ := r2.get (List.getElem?_eq_getElem k1)
    have g1 : its[j]? = some its.toArray[j] := by
      have h1' : j < its.length := by simpa using h1
      rw [List.getElem?_eq_getElem h1'] <;> simp
    have g2 : its2[j]? = some its2.toArray[j] := by
      have h2' : j < its2.length := by simpa using h2
      rw [List.getElem?_eq_getElem h2'] <;> simp
    rw [g1] at hw1
    rw [g2] at hw2
    rw [Option.some.inj hw1, Option.some.inj hw2]
    exact eqAt_sameW (hp _ (List.getElem_mem k1)) rw1 rw2
  · have e : ((List.range its.toArray.size).all fun _ => true) = true := by simp
    rw [e]
    exact ⟨.bl true, H, I, rfl, q⟩
end
/-! ### an error class right under the common one -/
structure ErrC (K : PySem.W.Frag) (C EE : Addr) : Prop where
  ec : ExcC K C
  ic : PySem.W.isClsIn K C = true
  ty : PySem.W.typeIn K (.ref C) = some (.type "type")
  cl : ∃ cd, PySem.W.clsIn K C = some cd ∧ cd.mro = [.ref C, .ref EE, .type "ValueError", .type "Exception", .type "BaseException", .type "object"]
theorem ErrC.sub {K : PySem.W.Frag} {C EE : Addr} (e : ErrC K C EE) (base : Value) : PySem.W.mroIn K C base = some ([Value.ref C, .ref EE, .type "ValueError", .type "Exception", .type "BaseException", .type "object"].contains base) := by
  obtain ⟨cd, hc, hm⟩ := e.cl
  unfold PySem.W.mroIn
  rw [hc, Option.bind_some, hm]
  rfl
end My

set_option maxHeartbeats 4000000
/-! My own rules: an instance that is called, also by keywords, also where it raises; a class method by keywords in any order; a dict comprehension over any walk. -/
namespace My
open PySem PySem.Spec PyProof.Rows L2
section
variable {X : Cx} {CX : CXT} {k : Nat} {C g : Addr} {fd : FuncData} {ps ks : List Str} {sp : Sp} {E : L2.St → XK} {fe e : Expr} {es : List Expr} {kws : List Keyword} {pos : Pos} {tf : TE} {t tk : TA}
/-- f(e, ..), f an instance of C, what is let out wished for at the caller's slots -/
def tCallOE (X : Cx) (C : Addr) (sp : Sp) (E : L2.St → XK) (tf : TE) (t : TA) : TE := fun σ H Q => tf σ H fun y H1 => ∃ a, y = V.ref a ∧ t σ H1 fun vs H2 => StX.InsC X H2 a C ∧ sp (V.ref a :: vs) H2 Q (E σ)
theorem pe_callOE (hf : PE X fe tf) (c : StX.CallO X.K C g) (F : FnOk X.prog X.w X.K X.mg X.base CX k g fd ps sp) (hr : Room k X.A) (hb : Binds X.K fd ps []) (hx : ∀ σ, PassesAt CX X σ (E σ)) (ha : PA X (e :: es) t)
    (ht : eval (.Call fe (e :: es) [] pos) X.env = (do callWith pos (← eval fe X.env) [] (backTo pos (starEach (e :: es) X.env)) (backToKw pos (keywordEach [] X.env))) := by rfl)
    (he : starEach (e :: es) X.env = (false, eval e X.env) :: starEach es X.env := by rfl) (hpl : (backTo pos (starEach es X.env)).any (·.1) = false := by rfl) : PE X (.Call fe (e :: es) [] pos) (tCallOE X C sp E tf t) := by
  refine ⟨fun pins s σ H Q I h => ?_⟩
  refine Call_ (thn (hf.run pins s σ H _ I h) fun u s1 ⟨y, H1, I1, ry, a, ey, q⟩ => ?_) ht
  subst ey
  obtain rfl : u = Value.ref a := ry
  refine StX.callO_with (thn (ha.run pos pins s1 σ H1 _ I1 q) fun us s2 ⟨vs, H2, I2, r, hi, q2⟩ => ?_) he hpl
  obtain ⟨ox, od, J, hd⟩ := StX.insC_at I2 hi
  refine ⟨⟨C, ox, od, J, hd⟩, wpAny_call (PySem.W.kco_code I2.kIn J hd c.at_ c.fn c.fi ?_)⟩
  have r2 : Vals (V.ref a :: vs) (Value.ref a :: us) := .cons rfl r
  have hl : (Value.ref a :: us).length = ps.length := by rw [← r2.length]; exact F.len _ _ _ _ q2
  have b := hb s2 (Value.ref a :: us) I2.kIn (by rw [List.append_nil]; exact hl)
  rw [List.append_nil] at b
  refine codeAny_mono (F.run X.A X.stack s2 H2 ⟨Value.ref a :: us, []⟩ (Value.ref a :: us) (V.ref a :: vs) Q (E σ) hr I2.env0 b r2 q2) fun r s' hq => ?_
  cases r with
  | error er => exact hx σ _ H2 s2 er s' I2 hq
  | ok fl =>
    cases fl with
    | ret u => exact I2.after hq
    | next => exact False.elim hq
    | brk => exact False.elim hq
    | cont => exact False.elim hq
end
section
variable {X : Cx} {CX : CXT} {k : Nat} {C q0 g : Addr} {mc : Value} {fd : FuncData} {ps ks : List Str} {sp : Sp} {E : XK} {o : Expr} {m : Str} {pos apos : Pos} {kws : List Keyword} {ta : TE} {tk : TA} {pl : Sem Bool} {gg : List Value → List Value → List Value} {gV : List V → List V → List V}
def tCMethKN (C : Addr) (n : Nat) (sp : Sp) (gV : List V → List V → List V) (E : XK) (ta : TE) (tk : TA) : TE := fun σ H Q => ta σ H fun x H1 => x = .ref C ∧ tk σ H1 fun zs H2 => zs.length = n ∧ sp (gV [.ref C] zs) H2 Q E
theorem pe_cmethKN (he : PE X o ta) (r : ClX.CRead X.K C mc) (c : ClX.CMet X.K C mc m q0 g) (F : FnOk X.prog X.w X.K X.mg X.base CX k g fd ps sp) (hr : Room k X.A) (hx : Passes CX X E) (hkw : PK X kws tk)
    (hb : KBn X.K fd ps (0 + 1) ks gg gV)
    (hall : (backToKw pos (keywordEach kws X.env)).all (·.1.isSome) = true := by rfl) (hks : (backToKw pos (keywordEach kws X.env)).filterMap (·.1) = ks := by rfl)
    (hpl : ((backTo pos (starEach [] X.env)).any (·.1) || (backToKw pos (keywordEach kws X.env)).any (·.1.isNone)) = false := by rfl)
    (ht : eval (.Call (.Attribute o m apos) [] kws pos) X.env = (do
      let ov ← eval o X.env
      standAt apos.atName
      let (f, first) ← holding [ov] (getMethod ov m pl)
      callWith pos f first (backTo pos (starEach [] X.env)) (backToKw pos (keywordEach kws X.env))) := by rfl) :
    PE X (.Call (.Attribute o m apos) [] kws pos) (tCMethKN C ks.length sp gV E ta tk) := by
  refine ⟨fun pins s σ H Q I h => ?_⟩
  refine PySem.W.methodCall_KW (pl := pl) (thn (he.run pins s σ H _ I h) fun u s1 ⟨x, H1, I1, rx, ex, h2⟩ => ?_) ht
  subst ex
  obtain rfl : u = Value.ref C := rx
  refine ClX.getmethcm_ok I1 r c fun s2 I2 => ?_
  refine PySem.W.callWith_of hpl (PySem.W.keeps_M (K := X.K) (self := Value.ref C) c.fi) (evalArgs_kw2_nil hall (thn (hkw.run pos _ s2 σ H1 _ I2 h2) fun ws s3 ⟨zs, H2, I3, rz, hl, h3⟩ => ⟨⟨ClX.pin_at I3, I3.kIn⟩, ?_⟩))
  rw [hks]
  suffices z : wpAny (model X.prog X.w) X.A (call (.ref s1.heap.objs.size) [] (ks.zip ws)) (EP X ((s1.heap.objs.size, PySem.W.methodObj (.ref g) (.ref C)) :: pins) σ Q) X.xe s3 from thn z fun _ _ y => ClX.unpinE y
  refine wpAny_call (PySem.W.method_call (ClX.pin_at I3) ?_)
  have r1 : Vals [V.ref C] [Value.ref C] := .cons rfl .nil
  have r2 := hb.rel r1 rz
  refine codeAny_mono (F.run X.A X.stack s3 H2 ⟨Value.ref C :: [], ks.zip ws⟩ (gg [Value.ref C] ws) (gV [V.ref C] zs) Q E hr I3.env0 (hb.to s3 [Value.ref C] ws I3.kIn rfl (rz.length.symm.trans hl)) r2 h3) fun r s' hq => ?_
  cases r with
  | error er => exact hx _ σ H2 s3 er s' I3 hq
  | ok fl =>
    cases fl with
    | ret u => exact I3.after hq
    | next => exact False.elim hq
    | brk => exact False.elim hq
    | cont => exact False.elim hq
end
/-! ### an instance called by keywords -/
theorem callOK_of {M : Model} {A : Around} {E : Value → Shared → Prop} {s : Shared} {a : Addr} {pos : Pos} {Q : Value → Shared → Prop} {args : List (Bool × Sem Value)} {kws : List (Option Str × Sem Value)} (hplain : (args.any (·.1) || kws.any (·.1.isNone)) = false)
    (h : wpAny M A (evalArgs (.ref a) true args kws) (fun z s₁ => (∃ C ox od, PySem.W.InstAt s₁.heap a ox C od ∧ ox.data = .plain) ∧ wpAny M A (call (.ref a) ([] ++ z.pos) z.kw) Q E s₁) E s) : wpAny M A (callWith pos (.ref a) [] args kws) Q E s := by
  unfold callWith
  have h1 := (Bool.or_eq_false_iff.mp hplain).1
  have h2 := (Bool.or_eq_false_iff.mp hplain).2
  refine wpAny_bind (wpAny_holding (wpAny_mono (by first | exact h | (simp only [h1, h2]; exact h)) (fun z s₁ h₁ => wpAny_bind (wpAny_standAt ?_)) fun _ _ y => y))
  obtain ⟨⟨C, ox, od, J, hd⟩, h₁⟩ := h₁
  have L := PySem.W.kco_keeper (M := M) J hd
  simp only [h1, h2]
  refine wpAny_bind (L.here ?_)
  have tail : ∀ {t : Sem Value}, wpAny M A t Q E s₁ → wpAny M A (t >>= fun r => holding [r] point >>= fun _ => pure r) Q E s₁ :=
    fun ht => wpAny_bind (wpAny_mono ht (fun r s₂ hr => wpAny_bind (wpAny_holding (wpAny_point (wpAny_pure hr)))) fun _ _ y => y)
  exact tail (wpAny_operateT h₁)
section
variable {X : Cx} {CX : CXT} {k : Nat} {C g : Addr} {fd : FuncData} {ps ks : List Str} {sp : Sp} {E : XK} {fe : Expr} {kws : List Keyword} {pos : Pos} {tf : TE} {tk : TA}
def tCallOK (X : Cx) (C : Addr) (n : Nat) (sp : Sp) (E : XK) (tf : TE) (tk : TA) : TE := fun σ H Q => tf σ H fun y H1 => ∃ a, y = V.ref a ∧ tk σ H1 fun zs H2 => zs.length = n ∧ StX.InsC X H2 a C ∧ sp (V.ref a :: zs) H2 Q E
theorem pe_callOK (hf : PE X fe tf) (c : StX.CallO X.K C g) (F : FnOk X.prog X.w X.K X.mg X.base CX k g fd ps sp) (hr : Room k X.A) (hx : Passes CX X E) (hkw : PK X kws tk)
    (hb : ∀ (s : Shared) (u : Value) (ws : List Value), X.K.In s.heap → ws.length = ks.length → BindsTo s fd ⟨[u], ks.zip ws⟩ (ps.zip (u :: ws)))
    (hall : (backToKw pos (keywordEach kws X.env)).all (·.1.isSome) = true := by rfl) (hks : (backToKw pos (keywordEach kws X.env)).filterMap (·.1) = ks := by rfl)
    (hpl : ((backTo pos (starEach [] X.env)).any (·.1) || (backToKw pos (keywordEach kws X.env)).any (·.1.isNone)) = false := by rfl)
    (ht : eval (.Call fe [] kws pos) X.env = (do callWith pos (← eval fe X.env) [] (backTo pos (starEach [] X.env)) (backToKw pos (keywordEach kws X.env))) := by rfl) :
    PE X (.Call fe [] kws pos) (tCallOK X C ks.length sp E tf tk) := by
  refine ⟨fun pins s σ H Q I h => ?_⟩
  show wpAny _ _ (eval (.Call fe [] kws pos) X.env) _ _ _
  rw [ht]
  refine wpAny_bind (thn (hf.run pins s σ H _ I h) fun u s1 ⟨y, H1, I1, ry, a, ey, q⟩ => ?_)
  subst ey
  obtain rfl : u = Value.ref a := ry
  refine callOK_of hpl (evalArgs_kw2_nil hall (thn (hkw.run pos pins s1 σ H1 _ I1 q) fun ws s2 ⟨zs, H2, I2, rz, hl, hi, q2⟩ => ?_))
  rw [hks]
  obtain ⟨ox, od, J, hd⟩ := StX.insC_at I2 hi
  refine ⟨⟨C, ox, od, J, hd⟩, wpAny_call (PySem.W.kco_code I2.kIn J hd c.at_ c.fn c.fi ?_)⟩
  have r2 : Vals (V.ref a :: zs) (Value.ref a :: ws) := .cons rfl rz
  refine codeAny_mono (F.run X.A X.stack s2 H2 ⟨Value.ref a :: [], ks.zip ws⟩ (Value.ref a :: ws) (V.ref a :: zs) Q E hr I2.env0 (hb s2 (.ref a) ws I2.kIn (rz.length.symm.trans hl)) r2 q2) fun r s' hq => ?_
  cases r with
  | error er => exact hx _ σ H2 s2 er s' I2 hq
  | ok fl =>
    cases fl with
    | ret u => exact I2.after hq
    | next => exact False.elim hq
    | brk => exact False.elim hq
    | cont => exact False.elim hq
end
end My

/-! My own rules: an instance in a list of ints and itself, != an int, within an except suite. -/
namespace My
open PySem PySem.Spec PyProof.Rows L2
section
open PySem.SeqAt MeetsSeq MeetsSeq2 MeetsSeq3 SeqRoads2
variable {prog : Program} {w : World} {A : Around} {R : Result → Shared → Prop}
theorem eqBool_same {A : Around} {Ex : Value → Shared → Prop} {s : Shared} {a : Addr} {Q : Bool → Shared → Prop} (h : Q true s) : wpAny (model prog w) A (eqBool (.ref a) (.ref a)) Q Ex s := by
  unfold eqBool
  refine wpAny_holding ?_
  refine wpAny_ite_split (fun _ => ?_) (fun hab => absurd (beq_self_eq_true _) hab)
  wp_walk
  exact h
theorem contains_loopT (l : Addr) (x : Value) (j : Nat) (I : Shared → Prop)
    (hl : ∀ s, I s → ∃ (items : Array Value) (n : Nat), s.heap.get? l = some { cls := .type "list", data := .seq items n } ∧ j < items.size ∧ ∀ i (h : i < items.size), i ≤ j → wpAny (model prog w) A.in1 (eqBool items[i] x) (fun r s' => r = decide (i = j) ∧ I s') (fun e s' => R (.error e) s') s)
    (fin : ∀ s, I s → R (.ok (.ret (.bool true))) s) (k : Nat) :
    ∀ i : Nat, j - i = k → i ≤ j → ∀ s, I s → wpAny (model prog w) A.in1 (Builtin.«list.__contains__.loop» ⟨[.ref l, x, rawInt i], []⟩) (GQ.FinOf prog w A R) (fun e s' => R (.error e) s') s := by
  induction k with
  | zero =>
    intro i hk hi s h
    obtain ⟨items, n, hl1, hs1, turn⟩ := hl _ h
    have hlt : i < items.size := by omega
    have ht := turn i hlt hi
    obtain ⟨hp, g, d, tk, os⟩ := s
    wp_walk using AutoSeq1.wpAny_loadPart' hl1
    have hi1 : items[((i : Nat) : Int).toNat]? = some items[i] := by simp [hlt]
    rw [hi1]
    refine wpAny_bind (wpAny_mono ht (fun r s2 h2 => ?_) fun _ _ x => x)
    obtain ⟨hr, h2⟩ := h2
    rw [decide_eq_true (show i = j by omega)] at hr
    subst hr
    have hR := fin s2 h2
    obtain ⟨hp2, g2, d2, tk2, os2⟩ := s2
    wp_walk
    exact hR
  | succ k ih =>
    intro i hk hi s h
    obtain ⟨items, n, hl1, hs1, turn⟩ := hl _ h
    have hlt : i < items.size := by omega
    have ht := turn i hlt hi
    obtain ⟨hp, g, d, tk, os⟩ := s
    wp_walk using AutoSeq1.wpAny_loadPart' hl1
    have hi1 : items[((i : Nat) : Int).toNat]? = some items[i] := by simp [hlt]
    have hc : ((i : Int) + 1) = ((i + 1 : Nat) : Int) := by omega
    rw [hi1]
    refine wpAny_bind (wpAny_mono ht (fun r s2 h2 => ?_) fun _ _ x => x)
    obtain ⟨hr, h2⟩ := h2
    rw [decide_eq_false (show ¬ i = j by omega)] at hr
    subst hr
    have hrec := ih (i + 1) (by omega) (by omega) s2 h2
    obtain ⟨hp2, g2, d2, tk2, os2⟩ := s2
    wp_walk
    rw [hc]
    exact ⟨plainId_quiet plain_contains_loop _, codeAny_builtin entry_contains_loop (by
      rw [Around.under_plainId plain_contains_loop _]
      exact hrec)⟩
theorem list_containsT (l : Addr) (x : Value) (j : Nat) (I : Shared → Prop)
    (hl : ∀ s, I s → ∃ (items : Array Value) (n : Nat), s.heap.get? l = some { cls := .type "list", data := .seq items n } ∧ j < items.size ∧ ∀ i (h : i < items.size), i ≤ j → wpAny (model prog w) A.in1 (eqBool items[i] x) (fun r s' => r = decide (i = j) ∧ I s') (fun e s' => R (.error e) s') s)
    (fin : ∀ s, I s → R (.ok (.ret (.bool true))) s) {s : Shared} (h : I s) : wpAny (model prog w) A.in1 (Builtin.«list.__contains__» ⟨[.ref l, x], []⟩) (GQ.FinOf prog w A R) (fun e s' => R (.error e) s') s := by
  have hrec := contains_loopT (A := A) (R := R) l x j I hl fin _ 0 rfl (Nat.zero_le _) s h
  obtain ⟨items, n, hl1, _, _⟩ := hl _ h
  obtain ⟨hp, g, d, tk, os⟩ := s
  wp_walk using AutoSeq1.wpAny_loadPart' hl1
  exact ⟨plainId_quiet plain_contains_loop _, codeAny_builtin entry_contains_loop (by
    rw [Around.under_plainId plain_contains_loop _]
    exact hrec)⟩
end
/-- an instance != an int -/
theorem ne_KI {prog : Program} {w : World} {A : Around} {Ex : Value → Shared → Prop} {s : Shared} {K : PySem.W.Frag} {C f a : Addr} {oa : Obj} {oda : Option Obj} {i : Int} {tk : Tok} {Q : Value → Shared → Prop} (hu : A.units + 1 < cLine) (X : K.In s.heap) (N : NoNe K C f)
    (hi : PySem.W.subIn K (.type "int") (.ref C) = some false) (I : PySem.W.InstAt s.heap a oa C oda) (h : wpAny (model prog w) A.in1 (call (.ref f) [.ref a, .int i tk]) (fun v s' => ∃ r, v = .bool r ∧ Q (.bool (!r)) s') Ex s) :
    wpAny (model prog w) A (richCompare .NotEq (.ref a) (.int i tk)) Q Ex s := by
  have body : wpAny (model prog w) A.in1 (Builtin.«object.__ne__» ⟨[.ref a, .int i tk], []⟩) (fun fin s' => ∃ r, fin = .done (.ret (.bool (!r))) ∧ Q (.bool (!r)) s') Ex s := by
    unfold Builtin.«object.__ne__»
    refine wpAny_bind (wpAny_of_eq (a := ((Value.ref a : Value), [Value.int i tk])) (by first | rfl | (simp only [slotArgs]; rfl)) ?_)
    refine wpAny_bind (wpAny_cRoomFor hu ?_)
    refine wpAny_bind (PySem.W.ifBound_K X I N.eq N.fn (wpAny_mono h (fun v s' hv => ?_) fun _ _ e => e))
    obtain ⟨r, rfl, q⟩ := hv
    refine wpAny_bind (wpAny_truthy_bool ?_)
    exact wpAny_pure ⟨r, rfl, q⟩
  have below : PySem.W.Looks (model prog w) s.heap (isInstance (.ref a) (.type "object")) true := I.type.andThen (PySem.W.looks_subIn X N.ob)
  have one : wpAny (model prog w) A (tryCompare (.ref a) "__ne__" (.int i tk)) (fun r s' => ∃ t, r = some (.bool (!t)) ∧ Q (.bool (!t)) s') Ex s := by
    unfold tryCompare
    simp only [callSpecialIfBound?, bindSpecialIfBound?]
    refine wpAny_bind (wpAny_holding (wpAny_bind (wpAny_bind (wpAny_bind (I.type.here ((PySem.W.looks_findIn X N.ne).here ?_))))))
    simp only [F.cmp_object.ne.bind]
    refine wpAny_bind (wpAny_askSetting (wpAny_ite ?_))
    have fin : wpAny (model prog w) A (call (.builtin "object.__ne__") ([.ref a] ++ [.int i tk]) >>= fun v => pure (some v)) (fun r s' => ∃ t, r = some (.bool (!t)) ∧ Q (.bool (!t)) s') Ex s := by
      refine wpAny_bind (wpAny_call (codeAny_call_builtin F.cmp_object.ne.plain F.cmpEntry_ne (PySem.W.check_slot F.cmpKind_ne F.cmpSplit_ne below (F.cmpArgs_ne _ _) (wpAny_mono body (fun fin s' hf => ?_) fun _ _ e => e))))
      obtain ⟨r, rfl, q⟩ := hf
      exact wpAny_pure ⟨r, rfl, q⟩
    have fin2 := wpAny_mono fin (Q' := fun a s' => wpAny (model prog w) A (match a with
        | some Value.notImplemented => pure none
        | none => pure none
        | some v => pure (some v)) (fun r s' => ∃ t, r = some (Value.bool !t) ∧ Q (Value.bool !t) s') Ex s') (fun r s' hr => by
      obtain ⟨t, rfl, q⟩ := hr
      exact wpAny_pure ⟨t, rfl, q⟩) fun _ _ e => e
    split
    · exact wpAny_pure (by exact fin2)
    · exact wpAny_tryCatch (wpAny_pure (by exact fin2))
  unfold richCompare
  simp only [oneThing_ref]
  refine wpAny_holding (wpAny_bind (wpAny_cRoomFor (by omega) ?_))
  refine wpAny_bind (I.type.here (wpAny_bind (wpAny_typeOf (typeIs_int s i tk) ?_)))
  split
  · refine wpAny_bind ((PySem.W.looks_subIn X hi).here ?_)
    simp only [Bool.false_eq_true, if_false]
    refine wpAny_bind (wpAny_mono one (fun r s' z => ?_) fun _ _ e => e)
    obtain ⟨t, rfl, hq⟩ := z
    exact wpAny_pure hq
  · refine wpAny_bind (wpAny_pure ?_)
    simp only [Bool.false_eq_true, if_false]
    refine wpAny_bind (wpAny_mono one (fun r s' z => ?_) fun _ _ e => e)
    obtain ⟨t, rfl, hq⟩ := z
    exact wpAny_pure hq
section
variable {X : Cx} {k : Nat} {C f : Addr} {fd : FuncData} {ps : List Str} {sp : Sp} {E : XK} {p : Addr × Obj}
theorem run_own1P {pins : List (Addr × Obj)} {s : Shared} {σ : L2.St} {H : Hp} {Q : VK} {us : List Value} {vs : List V} (F : FnP X.prog X.w X.K X.mg X.base k f fd ps sp) (hr : L2H.RoomH (k + 1) X.A) (hp : p ∈ X.pn) (hb : Binds X.K fd ps [])
    (I : Inv X pins σ H s) (r : Vals vs us) (h : sp vs H Q E) : wpAny (model X.prog X.w) X.A.in1 (call (.ref f) us) (EP X pins σ Q) X.xe s := by
  have hl : (us ++ []).length = ps.length := by
    rw [List.append_nil, ← F.len _ _ _ _ h]
    exact r.length.symm
  have P1 := I.pin p (List.mem_append_left _ hp)
  have hpin : L2H.PinOk X.stack H s p := ⟨P1.1, P1.2.1, fun hm => (List.mem_cons.mp (I.stkSub p.1 hm)).elim P1.2.2.1 P1.2.2.2.1, P1.2.2.2.2⟩
  have hr1 : L2H.RoomH k X.A.in1 := ⟨by have := hr.dp; show X.A.depth + 3 * k + 5 < _; omega, by have := hr.un; show X.A.units + 1 + 16 * k + 200 < _; omega⟩
  refine wpAny_call (codeAny_mono (F.run X.A.in1 X.stack s H ⟨us, []⟩ us vs _ E p hr1 hpin I.env0.in1 (by
    have := hb s us I.kIn hl
    rw [List.append_nil] at this
    exact this) r h) fun r s' hq => ?_)
  cases r with
  | error e => exact hq.elim
  | ok fl =>
    cases fl with
    | ret w => exact I.after hq
    | next => exact False.elim hq
    | brk => exact False.elim hq
    | cont => exact False.elim hq
/-- an instance in a list that holds it behind some ints that are not equal to it -/
def rInP (sp : Sp) (E : XK) (C : Addr) : R2 := fun x y H Q => ∃ a dx fs l, ∃ ys : List V, ∃ j : Nat, x = .ref a ∧ y = .ref l ∧ H a = some (.ins C dx fs) ∧ H l = some (.lst ys) ∧ ys[j]? = some (V.ref a) ∧ (∀ i, i < j → ∃ n : Int, ys[i]? = some (V.int n) ∧ sp [.ref a, .int n] H (fun v H' => v = .bl false ∧ H' = H) E) ∧ Q (.bl true) H
theorem in_ownP (O : OthC X.K C f) (Fk : FnP X.prog X.w X.K X.mg X.base k f fd ps sp) (hr : L2H.RoomH (k + 1) X.A) (hp : p ∈ X.pn) (hb : Binds X.K fd ps []) : OpR X (compareOp .In) (rInP sp E C) := by
  intro pins s σ H x y v u Q I rx ry h
  obtain ⟨a, dx, fs, l, ys, j, rfl, rfl, ea, el, hj, hz, q⟩ := h
  obtain rfl : v = Value.ref a := rx
  obtain rfl : u = Value.ref l := ry
  obtain ⟨z0, its0, n0, r0, e0⟩ := I.hok l _ el
  show wpAny (model X.prog X.w) X.A (do return .bool (← contains (.ref l) (.ref a))) (EP X pins σ Q) X.xe s
  have hT : s.TypeIs (.ref l) "list" := ⟨_, e0, rfl⟩
  have hjl := (List.getElem?_eq_some_iff.mp hj).1
  refine wpAny_bind (wpAny_contains_slot hT F.slot_list_contains (wpAny_mono (GQ.call_here (Q := fun v s' => v = .bool true ∧ Inv X pins σ H s') F.slot_list_contains hT F.entry_list_contains (F.args_list_contains_2 _ _)
    (list_containsT l (.ref a) j (fun s' => Inv X pins σ H s') (fun s' I' => ?_) (fun s' I' => ⟨rfl, I'⟩) I)) (fun v s' hv => ?_) fun _ _ e => e))
  · obtain ⟨z1, its, n, r, e⟩ := I'.hok l _ el
    refine ⟨its.toArray, n, e, by rw [List.size_toArray, ← r.length]; exact hjl, fun i hi hij => ?_⟩
    have k1 : i < ys.length := by rw [r.length]; simpa using hi
    obtain ⟨u, hu, ru⟩ := r.get (List.getElem?_eq_getElem k1)
    have g1 : its[i]? = some its.toArray[i] := by
      have h1' : i < its.length := by simpa using hi
      rw [List.getElem?_eq_getElem h1'] <;> simp
    rw [g1] at hu
    rw [Option.some.inj hu]
    by_cases hE : i = j
    · subst hE
      rw [List.getElem?_eq_getElem k1] at hj
      rw [Option.some.inj hj] at ru
      obtain rfl : u = Value.ref a := ru
      exact eqBool_same ⟨(decide_eq_true rfl).symm, I'⟩
    · obtain ⟨m, em, hsp⟩ := hz i (by omega)
      rw [List.getElem?_eq_getElem k1] at em
      rw [Option.some.inj em] at ru
      obtain ⟨mA, J, _⟩ := ins_get I'.hok ea
      obtain ⟨od, J, _⟩ := J.look
      obtain ⟨t, rfl⟩ := ru
      have own : wpAny (model X.prog X.w) X.A.in1 (call (.ref f) [.ref a, .int m t]) (fun v s' => ∃ r, v = .bool r ∧ ∃ t, Value.bool r = .bool t ∧ (t = decide (i = j) ∧ Inv X pins σ H s')) X.xe s' := by
        refine wpAny_mono (run_own1P (vs := [V.ref a, V.int m]) Fk hr hp hb I' (.cons rfl (.cons ⟨t, rfl⟩ .nil)) hsp) (fun v s2 hv => ?_) fun _ _ e => e
        obtain ⟨x, H2, I2, rv, ex, eH⟩ := hv
        subst ex
        subst eH
        obtain rfl : v = Value.bool false := rv
        exact ⟨false, rfl, false, rfl, (decide_eq_false hE).symm, I2⟩
      have hu1 : X.A.in1.units < cLine := by have := hr.un; show X.A.units + 1 < _; omega
      exact eqBool_any (fun z => nomatch z) (eq_right hu1 I'.kIn O.eq O.fn (typeIs_int s' m t) J O.i F.slot_int_eq (fun Q' q' => call_meets F.slot_int_eq (typeIs_int s' m t) F.entry_int_eq (F.args_int_eq_2 _ _) (dec_int_eq m t a C dx) ⟨J.at_, q'⟩) own)
  · obtain ⟨rfl, I'⟩ := hv
    exact wpAny_truthy_bool (wpAny_pure ⟨.bl true, H, I', rfl, q⟩)
/-- an instance != an int, in a suite -/
def rNeP (sp : Sp) (E : XK) (C : Addr) : R2 := fun x y H Q => ∃ a dx fs, ∃ n : Int, x = .ref a ∧ y = .int n ∧ H a = some (.ins C dx fs) ∧ sp [.ref a, .int n] H (fun v H' => ∃ b, v = .bl b ∧ Q (.bl (!b)) H') E
theorem ne_ownP (N : NoNe X.K C f) (hi : PySem.W.subIn X.K (.type "int") (.ref C) = some false) (Fk : FnP X.prog X.w X.K X.mg X.base k f fd ps sp) (hr : L2H.RoomH (k + 1) X.A) (hp : p ∈ X.pn) (hb : Binds X.K fd ps []) : OpR X (compareOp .NotEq) (rNeP sp E C) := by
  intro pins s σ H x y v u Q I rx ry h
  obtain ⟨a, dx, fs, n, rfl, rfl, ea, q⟩ := h
  obtain rfl : v = Value.ref a := rx
  obtain ⟨t, rfl⟩ := ry
  obtain ⟨mA, J, _⟩ := ins_get I.hok ea
  obtain ⟨od, J, _⟩ := J.look
  show wpAny (model X.prog X.w) X.A (richCompare .NotEq (.ref a) (.int n t)) (EP X pins σ Q) X.xe s
  refine ne_KI (by have := hr.un; omega) I.kIn N hi J (wpAny_mono (run_own1P (vs := [V.ref a, V.int n]) Fk hr hp hb I (.cons rfl (.cons ⟨t, rfl⟩ .nil)) q) (fun v s2 hv => ?_) fun _ _ e => e)
  obtain ⟨x, H2, I2, rv, b, ex, q2⟩ := hv
  subst ex
  obtain rfl : v = Value.bool b := rv
  exact ⟨b, rfl, .bl (!b), H2, I2, rfl, q2⟩
end
/-- all is written: no defaults are left -/
theorem binds_nil {K : PySem.W.Frag} {fd : FuncData} {ps : List Str} {e : List Value} (b : Binds K fd ps e) (v : Vals [] e) : Binds K fd ps [] := by
  cases v
  exact b
section
variable {X : Cx} {CX : CXT} {k : Nat} {C g : Addr} {fd : FuncData} {ps ks : List Str} {sp : Sp} {E : L2.St → XK} {fe e : Expr} {es : List Expr} {kws : List Keyword} {pos : Pos} {tf : TE} {t tk : TA}
/-- f(e, ..), f an instance of C, what is let out wished for at the caller's slots (also in a try body) -/
def tCallO2 (C : Addr) (sp : Sp) (E : L2.St → XK) (tf : TE) (t : TA) : TE := fun σ H Q => tf σ H fun y H1 => ∃ a, y = V.ref a ∧ t σ H1 fun vs H2 => (∃ dx fs, H2 a = some (.ins C dx fs)) ∧ sp (V.ref a :: vs) H2 Q (E σ)
theorem pe_callO2 (hf : PE X fe tf) (c : StX.CallO X.K C g) (F : FnOk X.prog X.w X.K X.mg X.base CX k g fd ps sp) (hr : Room k X.A) (hb : Binds X.K fd ps []) (hx : ∀ σ, PassesAt CX X σ (E σ)) (ha : PA X (e :: es) t)
    (ht : eval (.Call fe (e :: es) [] pos) X.env = (do callWith pos (← eval fe X.env) [] (backTo pos (starEach (e :: es) X.env)) (backToKw pos (keywordEach [] X.env))) := by rfl)
    (he : starEach (e :: es) X.env = (false, eval e X.env) :: starEach es X.env := by rfl) (hpl : (backTo pos (starEach es X.env)).any (·.1) = false := by rfl) : PE X (.Call fe (e :: es) [] pos) (tCallO2 C sp E tf t) := by
  refine ⟨fun pins s σ H Q I h => ?_⟩
  refine Call_ (thn (hf.run pins s σ H _ I h) fun u s1 ⟨y, H1, I1, ry, a, ey, q⟩ => ?_) ht
  subst ey
  obtain rfl : u = Value.ref a := ry
  refine StX.callO_with (thn (ha.run pos pins s1 σ H1 _ I1 q) fun us s2 ⟨vs, H2, I2, r, hi, q2⟩ => ?_) he hpl
  obtain ⟨ox, od, J, hd⟩ := StX.insC_at I2 (.inr hi)
  refine ⟨⟨C, ox, od, J, hd⟩, wpAny_call (PySem.W.kco_code I2.kIn J hd c.at_ c.fn c.fi ?_)⟩
  have r2 : Vals (V.ref a :: vs) (Value.ref a :: us) := .cons rfl r
  have hl : (Value.ref a :: us).length = ps.length := by rw [← r2.length]; exact F.len _ _ _ _ q2
  have b := hb s2 (Value.ref a :: us) I2.kIn (by rw [List.append_nil]; exact hl)
  rw [List.append_nil] at b
  refine codeAny_mono (F.run X.A X.stack s2 H2 ⟨Value.ref a :: us, []⟩ (Value.ref a :: us) (V.ref a :: vs) Q (E σ) hr I2.env0 b r2 q2) fun r s' hq => ?_
  cases r with
  | error er => exact hx σ _ H2 s2 er s' I2 hq
  | ok fl =>
    cases fl with
    | ret u => exact I2.after hq
    | next => exact False.elim hq
    | brk => exact False.elim hq
    | cont => exact False.elim hq
end
end My

/-! My own rules: == of two tuples of instances with an own ==, whatever it answers. -/
namespace My
open PySem PySem.Spec PyProof.Rows L2
section
open PySem PySem.SeqAt
open MeetsSeq MeetsSeq2 MeetsSeq3 SeqRoads2
variable {prog : Program} {w : World} {A : Around} {R : Result → Shared → Prop}
theorem tuple_eqB (l b : Addr) (items items2 : Array Value) (n n2 : Nat) (dd dd2 : Option Addr) (sl sl2 : Array (Option Value)) (t : Nat → Bool) (I : Nat → Shared → Prop)
    (turn : ∀ i (h1 : i < items.size) (h2 : i < items2.size) s, I i s → wpAny (model prog w) A.in1 (eqBool items[i] items2[i]) (fun r s' => r = t i ∧ I (i + 1) s') (fun e s' => R (.error e) s') s)
    (ans : Bool) (hans : ans = true ↔ items.size = items2.size ∧ ∀ i, i < items.size → i < items2.size → t i = true)
    (fin : ∀ i s, I i s → R (.ok (.ret (.bool ans))) s) {s : Shared} (hl1 : s.heap.get? l = some { cls := .type "tuple", dict := dd, data := .seq items n, slots := sl }) (hb1 : s.heap.get? b = some { cls := .type "tuple", dict := dd2, data := .seq items2 n2, slots := sl2 }) (h : I 0 s) :
    wpAny (model prog w) A.in1 (Builtin.«tuple.__eq__» ⟨[.ref l, .ref b], []⟩) (GQ.FinOf prog w A R) (fun e s' => R (.error e) s') s := by
  have f2 := AutoSeq1.sub_tuple_tuple
  have hZ : (items.toList.zip items2.toList).length = min items.size items2.size := by simp
  have h0 := h
  obtain ⟨hp, g, d, tk, os⟩ := s
  wp_walk using wpAny_loadPart' hl1, wpAny_loadPart' hb1, wpAny_forIn_list _ (fun rest b s' => b.1 = none ∧ ∃ i, rest = (items.toList.zip items2.toList).drop i ∧ i ≤ min items.size items2.size ∧ I i s' ∧ ∀ j, j < i → t j = true) _
  case turn =>
    rintro ⟨y, x⟩ rest b s' ⟨hb', i, hz, hi, hI, hall⟩
    have hlt : i < (items.toList.zip items2.toList).length := by
      rcases Nat.lt_or_ge i (items.toList.zip items2.toList).length with h' | h'
      · exact h'
      · rw [List.drop_of_length_le h'] at hz; cases hz
    have hlt' := hlt
    rw [hZ] at hlt'
    have h1 : i < items.size := by omega
    have h2 : i < items2.size := by omega
    rw [List.drop_eq_getElem_cons hlt] at hz
    injection hz with hyx hrest
    have hy : y = items[i] := by have := congrArg Prod.fst hyx; simpa using this
    have hx : x = items2[i] := by have := congrArg Prod.snd hyx; simpa using this
    subst hy hx
    refine wpAny_bind (wpAny_mono (turn i h1 h2 s' hI) (fun r s2 q2 => ?_) fun _ _ x => x)
    obtain ⟨hr, q2⟩ := q2
    cases ht : t i with
    | true =>
      rw [ht] at hr
      subst hr
      wp_walk
      exact ⟨rfl, i + 1, hrest, by omega, q2, fun j hj => by
        by_cases e : j = i
        · rw [e]; exact ht
        · exact hall j (by omega)⟩
    | false =>
      rw [ht] at hr
      subst hr
      have ha : ans = false := by
        cases ha : ans with
        | false => rfl
        | true =>
          have := (hans.mp ha).2 i h1 h2
          rw [ht] at this
          cases this
      have hR := fin _ _ q2
      rw [ha] at hR
      wp_walk
      exact hR
  case fin =>
    rintro ⟨b1, b2⟩ s' ⟨hb', i, hz, hi, hI, hall⟩
    simp only at hb'
    subst hb'
    have hge : min items.size items2.size ≤ i := by
      rcases Nat.lt_or_ge i (items.toList.zip items2.toList).length with h' | h'
      · rw [List.drop_eq_getElem_cons h'] at hz; cases hz
      · exact hZ ▸ h'
    have hR : R (.ok (.ret (.bool ans))) s' := fin _ _ hI
    have ha : ans = (items.size == items2.size) := by
      cases hq : ans with
      | true => exact (beq_iff_eq.mpr (hans.mp hq).1).symm
      | false =>
        refine Eq.symm ?_
        rw [Bool.eq_false_iff]
        intro e
        have e := beq_iff_eq.mp e
        have := hans.mpr ⟨e, fun j h1 h2 => hall j (by omega)⟩
        rw [hq] at this
        cases this
    rw [ha] at hR
    wp_walk
    simpa [Builtin.Tuple.tupleCompareSizes] using hR
  case h =>
    exact ⟨rfl, 0, rfl, Nat.zero_le _, h0, fun j hj => absurd hj (Nat.not_lt_zero _)⟩
end
section
variable {X : Cx} {CX : CXT} {k : Nat} {C f : Addr} {fd : FuncData} {ps : List Str} {sp : Sp} {E : XK}
/-- two tuples of instances; t tells which pairs are equal -/
def rTupB (K : PySem.W.Frag) (C : Addr) (sp : Sp) (E : XK) : R2 := fun x y H Q => ∃ a b, ∃ xs ys : List V, ∃ t : Nat → Bool, ∃ ans : Bool, x = .ref a ∧ y = .ref b ∧ SqT K H a xs ∧ SqT K H b ys ∧
  (∀ (i : Nat) u v, xs[i]? = some u → ys[i]? = some v → ∃ p q dx dy fs gs, u = .ref p ∧ v = .ref q ∧ H p = some (.ins C dx fs) ∧ H q = some (.ins C dy gs) ∧ (p = q → t i = true) ∧ sp [.ref p, .ref q] H (fun w H' => w = .bl (t i) ∧ H' = H) E) ∧
  (ans = true ↔ xs.length = ys.length ∧ ∀ i, i < xs.length → i < ys.length → t i = true) ∧ Q (.bl ans) H
theorem op_tupB (hs : PySem.W.findIn X.K (.ref C) "__eq__" = some (some (.ref f))) (hf : PySem.W.isFn X.K (.ref f) = true) (Fk : FnOk X.prog X.w X.K X.mg X.base CX k f fd ps sp) (hr : Room (k + 1) X.A) (hb : Binds X.K fd ps []) (hx : Passes CX X E) : OpR X (compareOp .Eq) (rTupB X.K C sp E) := by
  intro pins s σ H x y v u Q I rx ry h
  obtain ⟨a, b, xs, ys, t, ans, rfl, rfl, ha, hb', hi, hans, q⟩ := h
  cases rx
  cases ry
  obtain ⟨its, r, e, z⟩ := I.tuple ha
  obtain ⟨its2, r2, e2, z2⟩ := I.tuple hb'
  show wpAny (model X.prog X.w) X.A (richCompare .Eq (.ref a) (.ref b)) (EP X pins σ Q) X.xe s
  obtain ⟨⟨cls, dd, data, sl⟩, ho, hc, n, hd⟩ := id e
  obtain ⟨⟨cls2, dd2, data2, sl2⟩, ho2, hc2, n2, hd2⟩ := id e2
  simp only at hc hd hc2 hd2
  subst hc hd hc2 hd2
  have hu : X.A.units < cLine := hr.units0
  refine wpAny_richCompare_same_room (op := .Eq) ⟨_, ho, rfl⟩ ⟨_, ho2, rfl⟩ F.slot_tuple_eq (GQ.call_here F.slot_tuple_eq ⟨_, ho, rfl⟩ F.entry_tuple_eq (F.args_tuple_eq_2 _ _) ?_) hu
  refine tuple_eqB (R := wants (fun v s' => v ≠ .notImplemented ∧ EP X pins σ Q v s') X.xe) a b its.toArray its2.toArray n n2 dd dd2 sl sl2 t (fun _ s' => Inv X pins σ H s') (fun i h1 h2 s' I' => ?_) ans (by rw [hans, List.size_toArray, List.size_toArray, r.length, r2.length]) (fun i s' I' => ⟨(fun x => nomatch x), .bl ans, H, I', rfl, q⟩) ho ho2 I
  have k1 : i < xs.length := by rw [r.length]; simpa using h1
  have k2 : i < ys.length := by rw [r2.length]; simpa using h2
  obtain ⟨u, hu1, ru⟩ := r.get (List.getElem?_eq_getElem k1)
  obtain ⟨v, hv1, rv⟩ := r2.get (List.getElem?_eq_getElem k2)
  have g1 : its[i]? = some its.toArray[i] := by
    have h1' : i < its.length := by simpa using h1
    rw [List.getElem?_eq_getElem h1'] <;> simp
  have g2 : its2[i]? = some its2.toArray[i] := by
    have h2' : i < its2.length := by simpa using h2
    rw [List.getElem?_eq_getElem h2'] <;> simp
  rw [g1] at hu1
  rw [g2] at hv1
  rw [Option.some.inj hu1, Option.some.inj hv1]
  obtain ⟨p', q', dx, dy, fs, gs, eu, evv, hp, hq, hsame, hsp⟩ := hi i _ _ (List.getElem?_eq_getElem k1) (List.getElem?_eq_getElem k2)
  rw [eu] at ru
  rw [evv] at rv
  obtain rfl : u = Value.ref p' := ru
  obtain rfl : v = Value.ref q' := rv
  by_cases hab : p' = q'
  · subst hab
    exact eqBool_same ⟨(hsame rfl).symm, I'⟩
  · obtain ⟨mA, J, _⟩ := ins_get I'.hok hp
    obtain ⟨mB, J', _⟩ := ins_get I'.hok hq
    obtain ⟨od, J, _⟩ := J.look
    obtain ⟨od', J', _⟩ := J'.look
    obtain ⟨m, hF⟩ := I'.fr
    refine GQ.eqBool_refG hab (PySem.W.cmp_K (op := .Eq) (tb := .ref C) hr.in1.units0 hF I'.ok.mod.kin J J'.type (by simp [PySem.W.notFirst]) hs hf (wpAny_mono (run_own1 (vs := [V.ref p', V.ref q']) Fk hr hb hx I' (.cons rfl (.cons rfl .nil)) hsp) (fun v s2 hv => ?_) fun _ _ e => e))
    obtain ⟨x, H2, I2, rv, ex, eH⟩ := hv
    subst ex
    subst eH
    obtain rfl : v = Value.bool (t i) := rv
    exact ⟨t i, rfl, rfl, I2⟩
end
end My

/-! My own rules: != of two tuples that are equal item by item. -/
namespace My
open PySem PySem.Spec PyProof.Rows L2
section
open PySem PySem.SeqAt
open MeetsSeq MeetsSeq2 MeetsSeq3 SeqRoads2
variable {prog : Program} {w : World} {A : Around} {R : Result → Shared → Prop}
theorem tuple_neG (l b : Addr) (items items2 : Array Value) (n n2 : Nat) (dd dd2 : Option Addr) (sl sl2 : Array (Option Value)) (hsz : items.size = items2.size) (I : Shared → Prop)
    (turn : ∀ i (h1 : i < items.size) (h2 : i < items2.size) s, I s → wpAny (model prog w) A.in1 (eqBool items[i] items2[i]) (fun r s' => r = true ∧ I s') (fun e s' => R (.error e) s') s)
    (fin : ∀ s, I s → R (.ok (.ret (.bool false))) s) {s : Shared} (hl1 : s.heap.get? l = some { cls := .type "tuple", dict := dd, data := .seq items n, slots := sl }) (hb1 : s.heap.get? b = some { cls := .type "tuple", dict := dd2, data := .seq items2 n2, slots := sl2 }) (h : I s) :
    wpAny (model prog w) A.in1 (Builtin.«tuple.__ne__» ⟨[.ref l, .ref b], []⟩) (GQ.FinOf prog w A R) (fun e s' => R (.error e) s') s := by
  have f2 := AutoSeq1.sub_tuple_tuple
  have hZ : (items.toList.zip items2.toList).length = items.size := by simp [hsz]
  have h0 := h
  obtain ⟨hp, g, d, tk, os⟩ := s
  wp_walk using wpAny_loadPart' hl1, wpAny_loadPart' hb1, wpAny_forIn_list _ (fun rest b s' => b.1 = none ∧ ∃ i, rest = (items.toList.zip items2.toList).drop i ∧ i ≤ items.size ∧ I s') _
  case turn =>
    rintro ⟨y, x⟩ rest b s' ⟨hb', i, hz, hi, hI⟩
    have hlt : i < (items.toList.zip items2.toList).length := by
      rcases Nat.lt_or_ge i (items.toList.zip items2.toList).length with h' | h'
      · exact h'
      · rw [List.drop_of_length_le h'] at hz; cases hz
    have h1 : i < items.size := hZ ▸ hlt
    have h2 : i < items2.size := hsz ▸ h1
    rw [List.drop_eq_getElem_cons hlt] at hz
    injection hz with hyx hrest
    have hy : y = items[i] := by have := congrArg Prod.fst hyx; simpa using this
    have hx : x = items2[i] := by have := congrArg Prod.snd hyx; simpa using this
    subst hy hx
    refine wpAny_bind (wpAny_mono (turn i h1 h2 s' hI) (fun r s2 q2 => ?_) fun _ _ x => x)
    obtain ⟨hr, q2⟩ := q2
    subst hr
    wp_walk
    exact ⟨rfl, i + 1, hrest, h1, q2⟩
  case fin =>
    rintro ⟨b1, b2⟩ s' ⟨hb', i, hz, hi, hI⟩
    simp only at hb'
    subst hb'
    have hR : R (.ok (.ret (.bool false))) s' := fin s' hI
    wp_walk
    simpa [Builtin.Tuple.tupleCompareSizes, hsz] using hR
  case h =>
    exact ⟨rfl, 0, rfl, Nat.zero_le _, h0⟩
end
section
variable {X : Cx} {n : Nat} {D : Eqv}
/-- != of two tuples that are equal item by item -/
def rNeG (K : PySem.W.Frag) (D : Eqv) : R2 := fun x y H Q => DTup K D x y H ∧ ∀ H', Ext H H' → Q (.bl false) H'
theorem op_neG (hD : Mon D) (h : EqG X n D) (hr : Room (n + 1) X.A) : OpR X (compareOp .NotEq) (rNeG X.K D) := by
  intro pins s σ H x y v u Q I rx ry hq
  obtain ⟨⟨a, b, xs, ys, rfl, rfl, ha, hb, p⟩, q⟩ := hq
  cases rx
  cases ry
  show wpAny (model X.prog X.w) X.A (richCompare .NotEq (.ref a) (.ref b)) (EP X pins σ Q) X.xe s
  obtain ⟨its, r, e, z⟩ := I.tuple ha
  obtain ⟨its2, r2, e2, z2⟩ := I.tuple hb
  have hsz : its.toArray.size = its2.toArray.size := by rw [List.size_toArray, List.size_toArray, ← r.length, ← r2.length]; exact p.1
  obtain ⟨⟨cls, dd, data, sl⟩, ho, hc, n1, hd⟩ := id e
  obtain ⟨⟨cls2, dd2, data2, sl2⟩, ho2, hc2, n2, hd2⟩ := id e2
  simp only at hc hd hc2 hd2
  subst hc hd hc2 hd2
  refine wpAny_richCompare_same_room (op := .NotEq) ⟨_, ho, rfl⟩ ⟨_, ho2, rfl⟩ F.slot_tuple_ne (GQ.call_here F.slot_tuple_ne ⟨_, ho, rfl⟩ F.entry_tuple_ne (F.args_tuple_ne_2 _ _) ?_) hr.units0
  exact tuple_neG (R := wants (fun v s' => v ≠ .notImplemented ∧ EP X pins σ Q v s') X.xe) a b its.toArray its2.toArray n1 n2 dd dd2 sl sl2 hsz (fun s' => LoopI X pins σ H s') (fun i h1 h2 s' l => turnG hD h ⟨hr, rfl⟩ p r r2 i h1 h2 s' l) (fun s' ⟨H', I', e⟩ => ⟨(fun x => nomatch x), .bl false, H', I', rfl, q H' e⟩) ho ho2 ⟨H, I, Ext.rfl'⟩
end
end My

/-! My own rules: tuple(zip(a, b)) of two tuples. -/
namespace My
open PySem PySem.Spec PyProof.Rows L2 RZ
section
open PySem PySem.W
variable {prog : Program} {w : World} {A : Around} {E : Value → Shared → Prop} {s : Shared}
theorem zipT_item_held {z TI TO T i1 i2 l1 l2 : Addr} {f : Bool} {oT : Obj} {k1 k2 : Nat} {xs ys : Array Value} {x y : Value} {Q : Value → Shared → Prop} (D : ZipApart z TI TO i1 i2 l1 l2)
    (hz : IsZipHeld s.heap z TI TO T f) (hT : s.heap.get? T = some oT) (hTI : IsPair s.heap TI (.ref i1) (.ref i2))
    (h1 : s.heap.IsTupleIter i1 l1 k1) (h2 : s.heap.IsTupleIter i2 l2 k2) (hl1 : s.heap.IsTuple l1 xs) (hl2 : s.heap.IsTuple l2 ys) (hx : xs[k1]? = some x) (hy : ys[k2]? = some y)
    (hQ : ∀ h', IsZipHeld h' z TI TO T true → h'.IsTupleIter i1 l1 (k1 + 1) → h'.IsTupleIter i2 l2 (k2 + 1) → IsPair h' s.heap.objs.size x y → h'.objs.size = s.heap.objs.size + 1 →
      (∀ c o, c ≠ z → c ≠ i1 → c ≠ i2 → s.heap.get? c = some o → h'.get? c = some o) → Q (.ref s.heap.objs.size) { s with heap := h' }) :
    wpAny (model prog w) A (Builtin.«zip.__next__» ⟨[.ref z], []⟩) (fun fin s' => ∃ v, fin = .done (.ret v) ∧ Q v s') E s := by
  show wpAny _ _ (field (.ref z) 2 >>= _) _ _ _
  refine wpAny_bind (wpAny_field hz rfl (x := .bool false) rfl ?_)
  show wpAny _ _ (field (.ref z) 3 >>= _) _ _ _
  refine wpAny_bind (wpAny_field hz rfl (x := .ref TI) rfl ?_)
  refine wpAny_bind (wpAny_seqItems hTI rfl ?_)
  show wpAny _ _ (Builtin.SmallTypes.ownedTupleIsFree (.ref z) >>= _) _ _ _
  refine wpAny_bind (wpAny_tupleHeld_zip hz hT fun h₁ hz₁ hs₁ => ?_)
  simp only [Bool.false_eq_true, if_false]
  refine wpAny_bind ?_
  rw [← Array.forIn_toList]
  simp only [List.forIn_cons, List.forIn_nil]
  refine wpAny_bind (wpAny_bind (wpAny_holding ?_))
  show wpAny _ _ (Builtin.SmallTypes.nextOf (.ref i1) >>= _) _ _ _
  refine wpAny_bind (nextOf_tuple_item (s := { s with heap := h₁ }) (h1.extBut hs₁.extBut D.i1z) (hl1.extBut hs₁.extBut D.l1z) hx fun h₂ h1₂ hs₂ => wpAny_pure ?_)
  refine wpAny_pure ?_
  refine wpAny_bind (wpAny_bind (wpAny_holding ?_))
  show wpAny _ _ (Builtin.SmallTypes.nextOf (.ref i2) >>= _) _ _ _
  refine wpAny_bind (nextOf_tuple_item (s := { s with heap := h₂ }) ((h2.extBut hs₁.extBut D.i2z).extBut hs₂.extBut D.i12.symm) ((hl2.extBut hs₁.extBut D.l2z).extBut hs₂.extBut D.l2i1) hy fun h₃ h2₃ hs₃ => wpAny_pure ?_)
  refine wpAny_pure (wpAny_pure ?_)
  show wpAny _ _ (newTuple [x, y] >>= _) _ _ _
  refine wpAny_bind (wpAny_newTuple ?_)
  have hsz : h₃.objs.size = s.heap.objs.size := by rw [hs₃.1, hs₂.1, hs₁.1]
  have hz₃ : IsZipHeld h₃ z TI TO T true := hs₃.extBut _ _ D.i2z.symm (hs₂.extBut _ _ D.i1z.symm hz₁)
  have hk : ∀ c o, c ≠ z → c ≠ i1 → c ≠ i2 → s.heap.get? c = some o → h₃.get? c = some o := fun c o c1 c2 c3 e => hs₃.extBut _ _ c3 (hs₂.extBut _ _ c2 (hs₁.extBut _ _ c1 e))
  have h1₃ : h₃.IsTupleIter i1 l1 (k1 + 1) := h1₂.extBut hs₃.extBut D.i12
  refine wpAny_pure ⟨_, rfl, ?_⟩
  show Q (.ref h₃.objs.size) _
  have hp : IsPair (h₃.push { cls := .type "tuple", data := .seq #[x, y] }) h₃.objs.size x y := Heap.get?_push_size _ rfl
  have hz4 : (h₃.push { cls := .type "tuple", data := .seq #[x, y] }).objs.size = h₃.objs.size + 1 := Heap.size_push ..
  rw [hsz] at hp hz4 ⊢
  exact hQ _ (Heap.get?_push_of_some _ hz₃) (h1₃.at fun o e => Heap.get?_push_of_some _ e) (h2₃.at fun o e => Heap.get?_push_of_some _ e) hp hz4 fun c o c1 c2 c3 e => Heap.get?_push_of_some _ (hk c o c1 c2 c3 e)
theorem zipT_end_held {z TI TO T i1 i2 l1 l2 : Addr} {f : Bool} {oT : Obj} {k1 k2 : Nat} {xs ys : Array Value} {Q : Fin → Shared → Prop} (hh : A.handled = none) (D : ZipApart z TI TO i1 i2 l1 l2)
    (hz : IsZipHeld s.heap z TI TO T f) (hT : s.heap.get? T = some oT) (hTI : IsPair s.heap TI (.ref i1) (.ref i2))
    (h1 : s.heap.IsTupleIter i1 l1 k1) (h2 : s.heap.IsTupleIter i2 l2 k2) (hl1 : s.heap.IsTuple l1 xs) (hl2 : s.heap.IsTuple l2 ys) (hend : xs[k1]? = none ∨ ys[k2]? = none)
    (hE : ∀ h' e, (∀ c o, c ≠ z → c ≠ i1 → c ≠ i2 → s.heap.get? c = some o → h'.get? c = some o) → (∃ o, h'.get? e = some o ∧ o.cls = .type "StopIteration") → E (.ref e) { s with heap := h' }) :
    wpAny (model prog w) A (Builtin.«zip.__next__» ⟨[.ref z], []⟩) Q E s := by
  show wpAny _ _ (field (.ref z) 2 >>= _) _ _ _
  refine wpAny_bind (wpAny_field hz rfl (x := .bool false) rfl ?_)
  show wpAny _ _ (field (.ref z) 3 >>= _) _ _ _
  refine wpAny_bind (wpAny_field hz rfl (x := .ref TI) rfl ?_)
  refine wpAny_bind (wpAny_seqItems hTI rfl ?_)
  show wpAny _ _ (Builtin.SmallTypes.ownedTupleIsFree (.ref z) >>= _) _ _ _
  refine wpAny_bind (wpAny_tupleHeld_zip hz hT fun h₁ hz₁ hs₁ => ?_)
  simp only [Bool.false_eq_true, if_false]
  refine wpAny_bind ?_
  rw [← Array.forIn_toList]
  simp only [List.forIn_cons, List.forIn_nil]
  refine wpAny_bind (wpAny_bind (wpAny_holding ?_))
  show wpAny _ _ (Builtin.SmallTypes.nextOf (.ref i1) >>= _) _ _ _
  cases hx : xs[k1]? with
  | none =>
    refine wpAny_bind (nextOf_tuple_end (s := { s with heap := h₁ }) hh (h1.extBut hs₁.extBut D.i1z) (hl1.extBut hs₁.extBut D.l1z) hx fun h₂ e hs₂ he => ?_)
    exact hE h₂ e (fun c o c1 c2 _ x => hs₂ _ _ c2 (hs₁.extBut _ _ c1 x)) he
  | some x =>
    have hy : ys[k2]? = none := by rcases hend with h | h; rw [hx] at h; cases h; exact h
    refine wpAny_bind (nextOf_tuple_item (s := { s with heap := h₁ }) (h1.extBut hs₁.extBut D.i1z) (hl1.extBut hs₁.extBut D.l1z) hx fun h₂ h1₂ hs₂ => wpAny_pure ?_)
    refine wpAny_pure ?_
    refine wpAny_bind (wpAny_bind (wpAny_holding ?_))
    show wpAny _ _ (Builtin.SmallTypes.nextOf (.ref i2) >>= _) _ _ _
    refine wpAny_bind (nextOf_tuple_end (s := { s with heap := h₂ }) hh ((h2.extBut hs₁.extBut D.i2z).extBut hs₂.extBut D.i12.symm) ((hl2.extBut hs₁.extBut D.l2z).extBut hs₂.extBut D.l2i1) hy fun h₃ e hs₃ he => ?_)
    exact hE h₃ e (fun c o c1 c2 c3 x => hs₃ _ _ c3 (hs₂.extBut _ _ c2 (hs₁.extBut _ _ c1 x))) he
theorem pyNext_zipT_item_held {z TI TO T i1 i2 l1 l2 : Addr} {f : Bool} {oT : Obj} {k1 k2 : Nat} {xs ys : Array Value} {x y : Value} {Q : Option Value → Shared → Prop} (D : ZipApart z TI TO i1 i2 l1 l2)
    (hz : IsZipHeld s.heap z TI TO T f) (hT : s.heap.get? T = some oT) (hTI : IsPair s.heap TI (.ref i1) (.ref i2))
    (h1 : s.heap.IsTupleIter i1 l1 k1) (h2 : s.heap.IsTupleIter i2 l2 k2) (hl1 : s.heap.IsTuple l1 xs) (hl2 : s.heap.IsTuple l2 ys) (hx : xs[k1]? = some x) (hy : ys[k2]? = some y)
    (hQ : ∀ h', IsZipHeld h' z TI TO T true → h'.IsTupleIter i1 l1 (k1 + 1) → h'.IsTupleIter i2 l2 (k2 + 1) → IsPair h' s.heap.objs.size x y → h'.objs.size = s.heap.objs.size + 1 →
      (∀ c o, c ≠ z → c ≠ i1 → c ≠ i2 → s.heap.get? c = some o → h'.get? c = some o) → Q (some (.ref s.heap.objs.size)) { s with heap := h' }) :
    wpAny (model prog w) A (pyNext (.ref z)) Q E s := by
  have hTy : s.TypeIs (.ref z) "zip" := ⟨_, hz, rfl⟩
  unfold pyNext
  exact wpAny_bind (wpAny_attempt (wpAny_callSpecial?_slot (name := Str.ofString "__next__") hTy F.slot_zip_next
    (wpAny_call_entry F.slot_zip_next hTy F.entry_zip_next
      (zipT_item_held D hz hT hTI h1 h2 hl1 hl2 hx hy fun h' a1 a3 a4 a5 a6 a7 => wpAny_pure (hQ h' a1 a3 a4 a5 a6 a7)) (F.args_zip_next_1 _))))
theorem pyNext_zipT_end_held {z TI TO T i1 i2 l1 l2 : Addr} {f : Bool} {oT : Obj} {k1 k2 : Nat} {xs ys : Array Value} {Q : Option Value → Shared → Prop} (hh : A.handled = none) (D : ZipApart z TI TO i1 i2 l1 l2)
    (hz : IsZipHeld s.heap z TI TO T f) (hT : s.heap.get? T = some oT) (hTI : IsPair s.heap TI (.ref i1) (.ref i2))
    (h1 : s.heap.IsTupleIter i1 l1 k1) (h2 : s.heap.IsTupleIter i2 l2 k2) (hl1 : s.heap.IsTuple l1 xs) (hl2 : s.heap.IsTuple l2 ys) (hend : xs[k1]? = none ∨ ys[k2]? = none)
    (hQ : ∀ h', (∀ c o, c ≠ z → c ≠ i1 → c ≠ i2 → s.heap.get? c = some o → h'.get? c = some o) → Q none { s with heap := h' }) : wpAny (model prog w) A (pyNext (.ref z)) Q E s := by
  have hTy : s.TypeIs (.ref z) "zip" := ⟨_, hz, rfl⟩
  unfold pyNext
  refine wpAny_bind (wpAny_attempt (wpAny_callSpecial?_slot (name := Str.ofString "__next__") hTy F.slot_zip_next
    (wpAny_call_entry F.slot_zip_next hTy F.entry_zip_next (zipT_end_held hh D hz hT hTI h1 h2 hl1 hl2 hend fun h' e hk he => ?_) (F.args_zip_next_1 _))))
  obtain ⟨o, ho, hc⟩ := he
  refine wpAny_bind (wpAny_isInstance (T := "StopIteration") (b := true) ⟨o, ho, hc⟩ isSubtype_stop ?_)
  exact wpAny_pure (hQ _ hk)
end
/-- the zip at turn i; the list that takes its tuples is at d -/
def ZSt (h : Heap) (z TI TO i1 i2 a b d : Addr) (i : Nat) : Prop := IsPair h TI (.ref i1) (.ref i2) ∧ h.IsTupleIter i1 a i ∧ h.IsTupleIter i2 b i ∧
  ((IsZip h z TI TO .none ∧ ∃ x y, IsPair h TO x y) ∨ ∃ T f oT, IsZipHeld h z TI TO T f ∧ h.get? T = some oT ∧ T ≠ z ∧ T ≠ i1 ∧ T ≠ i2 ∧ T ≠ d)
section
open PySem PySem.W
variable {prog : Program} {w : World} {A : Around} {E : Value → Shared → Prop} {s : Shared}
theorem zst_item {z TI TO i1 i2 a b d : Addr} {i : Nat} {xs ys : Array Value} {u v : Value} {Q : Option Value → Shared → Prop} (D : ZipApart z TI TO i1 i2 a b) (st : ZSt s.heap z TI TO i1 i2 a b d i) (p : s.heap.IsTuple a xs) (p2 : s.heap.IsTuple b ys) (hx : xs[i]? = some u) (hy : ys[i]? = some v) (hd : d < s.heap.objs.size)
    (hQ : ∀ h', ZSt h' z TI TO i1 i2 a b d (i + 1) → IsPair h' s.heap.objs.size u v → h'.objs.size = s.heap.objs.size + 1 → (∀ c o, c ≠ z → c ≠ TO → c ≠ i1 → c ≠ i2 → s.heap.get? c = some o → h'.get? c = some o) → Q (some (.ref s.heap.objs.size)) { s with heap := h' }) :
    wpAny (model prog w) A (pyNext (.ref z)) Q E s := by
  obtain ⟨hTI, h1, h2, hz⟩ := st
  have lt : ∀ {c o}, s.heap.get? c = some o → s.heap.objs.size ≠ c := fun e => Nat.ne_of_gt (Heap.lt_size e)
  have n1 : s.heap.objs.size ≠ i1 := let ⟨_, e, _⟩ := h1; lt e
  have n2 : s.heap.objs.size ≠ i2 := let ⟨_, e, _⟩ := h2; lt e
  rcases hz with ⟨hz, x, y, hTO⟩ | ⟨T, f, oT, hz, hT, r1, r2, r3, r4⟩
  · refine pyNext_zipT_item D hz hTI hTO h1 h2 p p2 hx hy fun h' a1 a2 a3 a4 a5 a6 hk => ?_
    exact hQ h' ⟨hk _ _ D.TIz D.TITO D.TIi1 D.TIi2 hTI, a3, a4, .inr ⟨s.heap.objs.size, false, _, a1, a5, lt hz, n1, n2, Nat.ne_of_gt hd⟩⟩ a5 a6 hk
  · refine pyNext_zipT_item_held D hz hT hTI h1 h2 p p2 hx hy fun h' a1 a3 a4 a5 a6 hk => ?_
    exact hQ h' ⟨hk _ _ D.TIz D.TIi1 D.TIi2 hTI, a3, a4, .inr ⟨T, true, oT, a1, hk _ _ r1 r2 r3 hT, r1, r2, r3, r4⟩⟩ a5 a6 fun c o c1 _ c3 c4 e => hk c o c1 c3 c4 e
theorem zst_done {z TI TO i1 i2 a b d : Addr} {i : Nat} {xs ys : Array Value} {Q : Option Value → Shared → Prop} (hh : A.handled = none) (D : ZipApart z TI TO i1 i2 a b) (st : ZSt s.heap z TI TO i1 i2 a b d i) (p : s.heap.IsTuple a xs) (p2 : s.heap.IsTuple b ys) (he : xs[i]? = none ∨ ys[i]? = none)
    (hQ : ∀ h', (∀ c o, c ≠ z → c ≠ TO → c ≠ i1 → c ≠ i2 → s.heap.get? c = some o → h'.get? c = some o) → Q none { s with heap := h' }) :
    wpAny (model prog w) A (pyNext (.ref z)) Q E s := by
  obtain ⟨hTI, h1, h2, hz⟩ := st
  rcases hz with ⟨hz, x, y, hTO⟩ | ⟨T, f, oT, hz, hT, r1, r2, r3, r4⟩
  · exact pyNext_zipT_end hh D hz hTI hTO h1 h2 p p2 he fun h' hk => hQ h' hk
  · exact pyNext_zipT_end_held hh D hz hT hTI h1 h2 p p2 he fun h' hk => hQ h' fun c o c1 _ c3 c4 e => hk c o c1 c3 c4 e
theorem ZSt.on {h h' : Heap} {z TI TO i1 i2 a b d : Addr} {i : Nat} (st : ZSt h z TI TO i1 i2 a b d i) (D : ZipApart z TI TO i1 i2 a b) (hd : d ≠ z ∧ d ≠ TI ∧ d ≠ TO ∧ d ≠ i1 ∧ d ≠ i2) (k : ∀ c o, c ≠ d → h.get? c = some o → h'.get? c = some o) : ZSt h' z TI TO i1 i2 a b d i := by
  obtain ⟨hTI, h1, h2, hz⟩ := st
  obtain ⟨d1, d2, d3, d4, d5⟩ := hd
  refine ⟨k _ _ (Ne.symm d2) hTI, h1.at fun o e => k _ o (Ne.symm d4) e, h2.at fun o e => k _ o (Ne.symm d5) e, ?_⟩
  rcases hz with ⟨hz, x, y, hTO⟩ | ⟨T, f, oT, hz, hT, r1, r2, r3, r4⟩
  · exact .inl ⟨k _ _ (Ne.symm d1) hz, x, y, k _ _ (Ne.symm d3) hTO⟩
  · exact .inr ⟨T, f, oT, k _ _ (Ne.symm d1) hz, k _ _ r4 hT, r1, r2, r3, r4⟩
end
/-- the pairs that stand so far -/
def Zs (H : Hp) (xs ys : List V) (ts : List Addr) : Prop := ∀ (j : Nat) t x y, ts[j]? = some t → xs[j]? = some x → ys[j]? = some y → H t = some (.tup [x, y])
theorem Zs.on {H H' : Hp} {xs ys : List V} {ts : List Addr} (r : Zs H xs ys ts) (s : Same H H') : Zs H' xs ys ts := fun j t x y h1 h2 h3 => s _ _ (r j t x y h1 h2 h3)
theorem sqT_on {K : PySem.W.Frag} {H H' : Hp} {a : Addr} {xs : List V} (e : Same H H') (h : SqT K H a xs) : SqT K H' a xs := by
  rcases h with (h | ⟨o, h⟩) | h
  · exact .inl (.inl (e _ _ h))
  · exact .inl (.inr ⟨o, e _ _ h⟩)
  · exact .inr h
theorem nolen_zip : typeLookup (.type "zip") "__len__" = pure none := by rw [typeLookup_type, builtinLookup_eq_fast]; kernel_rfl
theorem hint_zip : typeLookup (.type "zip") "__length_hint__" = pure none := by rw [typeLookup_type, builtinLookup_eq_fast]; kernel_rfl
section
variable {X : Cx} {pins : List (Addr × Obj)} {σ : L2.St}
theorem ext_zip {A : Around} {R : Result → Shared → Prop} {S z TI TO i1 i2 a b : Addr} {res : Value} (hh : A.in1.handled = none) (D : ZipApart z TI TO i1 i2 a b) (hS : S ≠ z ∧ S ≠ TI ∧ S ≠ TO ∧ S ≠ i1 ∧ S ≠ i2) {xs ys : List V} (hl : xs.length = ys.length) (hn : xs.length ≤ sizeLine) :
    ∀ (k i : Nat) (s : Shared) (H : Hp) (acc : Array Value) (c : Nat) (ts : List Addr), xs.length - i = k → i ≤ xs.length → Inv X pins σ H s → SqT X.K H a xs → SqT X.K H b ys → ZSt s.heap z TI TO i1 i2 a b S i →
      (∀ c ∈ [S, z, TO, i1, i2], FpOk X pins H c ∧ c < s.heap.objs.size) → s.heap.get? S = some { cls := .type "list", dict := none, data := .seq acc c, slots := #[] } → acc.toList = ts.map Value.ref → ts.length = i → Zs H xs ys ts →
      (∀ (s' : Shared) (H' : Hp) (acc' : Array Value) (c' : Nat) (ts' : List Addr), Inv X pins σ H' s' → Same H H' → s'.heap.get? S = some { cls := .type "list", dict := none, data := .seq acc' c', slots := #[] } → acc'.toList = ts'.map Value.ref → ts'.length = xs.length → Zs H' xs ys ts' → R (.ok (.ret res)) s') →
      codeAny (model X.prog X.w) A (.builtin "list.extend.loop" ⟨[.ref S, .ref z, res], []⟩) R s := by
  intro k
  induction k with
  | zero =>
    intro i s H acc c ts hk hi I qa qb st hf hL ha ht hz hR
    have hin : i = xs.length := by omega
    subst hin
    refine codeAny_builtin F.entry_extend_loop ?_
    rw [Around.under_plainId F.plain_extend_loop _]
    show wpAny _ A.in1 (pyNext (.ref z) >>= _) _ _ s
    obtain ⟨its, rv, p, _⟩ := I.tuple qa
    obtain ⟨its2, rv2, p2, _⟩ := I.tuple qb
    have l1 := rv.length
    refine wpAny_bind (zst_done hh D st p p2 (.inl (by simp; omega)) fun h' hk' => wpAny_pure ?_)
    exact hR { s with heap := h' } H acc c ts (I.turnedL (t' := s.toks) (ch := [z, TO, i1, i2]) (fun c o hb q => hk' c o (fun e => hb (by simp [e])) (fun e => hb (by simp [e])) (fun e => hb (by simp [e])) (fun e => hb (by simp [e])) q)
        (fun c hc => (hf c (List.mem_cons_of_mem _ hc)).1)) (fun _ _ e => e) (hk' S _ hS.1 hS.2.2.1 hS.2.2.2.1 hS.2.2.2.2 hL) ha ht hz
  | succ k ih =>
    intro i s H acc c ts hk hi I qa qb st hf hL ha ht hz hR
    have hlt : i < xs.length := by omega
    refine codeAny_builtin F.entry_extend_loop ?_
    rw [Around.under_plainId F.plain_extend_loop _]
    show wpAny _ A.in1 (pyNext (.ref z) >>= _) _ _ s
    obtain ⟨its, rv, p, _⟩ := I.tuple qa
    obtain ⟨its2, rv2, p2, _⟩ := I.tuple qb
    have hx : xs[i]? = some xs[i] := List.getElem?_eq_getElem hlt
    have hy : ys[i]? = some (ys[i]'(by omega)) := List.getElem?_eq_getElem (by omega)
    obtain ⟨u, hu, ru⟩ := rv.get hx
    obtain ⟨u2, hu2, ru2⟩ := rv2.get hy
    have fl : ∀ c ∈ [S, z, TO, i1, i2], c ≠ s.heap.objs.size := fun c hc => Nat.ne_of_lt (hf c hc).2
    have hsz0 : acc.size = i := by rw [← Array.length_toList, ha, List.length_map, ht]
    refine wpAny_bind (zst_item D st p p2 (u := u) (v := u2) (by simpa using hu) (by simpa using hu2) (hf S List.mem_cons_self).2 fun h' st' hT hsz hk' => ?_)
    have hL' := hk' S _ hS.1 hS.2.2.1 hS.2.2.2.1 hS.2.2.2.2 hL
    show wpAny _ A.in1 (updateSeq S (·.push (.ref s.heap.objs.size)) >>= _) _ _ _
    refine wpAny_bind ?_
    have new : ObjOk X.prog X.w (upd H s.heap.objs.size (.tup [xs[i], ys[i]'(by omega)])) h' s.heap.objs.size (.tup [xs[i], ys[i]'(by omega)]) :=
      ⟨by show 2 ≤ sizeLine; decide, [u, u2], .cons ru (.cons ru2 .nil), ⟨_, hT, rfl, _, rfl⟩⟩
    have I1 : Inv X pins σ (upd H s.heap.objs.size (.tup [xs[i], ys[i]'(by omega)])) { s with heap := h' } :=
      I.turnedNew (t' := s.toks) (ch := [z, TO, i1, i2]) (fun c o hb q => hk' c o (fun e => hb (by simp [e])) (fun e => hb (by simp [e])) (fun e => hb (by simp [e])) (fun e => hb (by simp [e])) q) (fun c hc => (hf c (List.mem_cons_of_mem _ hc)).1) (Nat.le_refl _) new
    have hnone : H s.heap.objs.size = none := I.hok.fresh (Nat.le_refl _)
    have sm : Same H (upd H s.heap.objs.size (.tup [xs[i], ys[i]'(by omega)])) := same_upd hnone
    have hf1 : ∀ c ∈ [S, z, TO, i1, i2], FpOk X pins (upd H s.heap.objs.size (.tup [xs[i], ys[i]'(by omega)])) c := fun c hc => by
      obtain ⟨q, r⟩ := (hf c hc).1
      exact ⟨by rw [upd_ne (fl c hc)]; exact q, r⟩
    refine wpAny_updateSeq hL' rfl (wpAny_pure ⟨plainId_quiet F.plain_extend_loop _, ih (i + 1) _ (upd H s.heap.objs.size (.tup [xs[i], ys[i]'(by omega)])) (acc.push (.ref s.heap.objs.size)) _ (ts ++ [s.heap.objs.size]) (by omega) hlt
      (I1.turnedL (t' := s.toks) (ch := [S]) (fun c o hb q => (Heap.get?_update_other _ _ (fun e : S = c => hb (by simp [e]))).trans q) (fun c hc => hf1 c (by rw [List.mem_singleton.mp hc]; exact List.mem_cons_self)))
      (sqT_on sm qa) (sqT_on sm qb) (st'.on D hS fun c o hc q => (Heap.get?_update_other _ _ (Ne.symm hc)).trans q) (fun c hc => ⟨hf1 c hc, ?_⟩) (Heap.get?_update_self _ hL' rfl) (by rw [Array.toList_push, ha, List.map_append]; rfl) (by rw [List.length_append, ht]; rfl) (fun j t x y h1 h2 h3 => ?_) fun s' H' acc' c' ts' I' sm' => hR s' H' acc' c' ts' I' (sm.trans sm')⟩)
      (by rw [hsz0]; omega) (by show (acc.push _).size ≤ sizeLine + 1; rw [Array.size_push, hsz0]; omega)
    · have h1 := (hf c hc).2
      show c < ((h'.update S _).objs.size)
      rw [Heap.size_update, hsz]
      exact Nat.lt_succ_of_lt h1
    · by_cases hj : j < ts.length
      · rw [List.getElem?_append_left hj] at h1
        exact sm _ _ (hz j t x y h1 h2 h3)
      · have hj' := (List.getElem?_eq_some_iff.mp h1).1
        rw [List.length_append, List.length_singleton] at hj'
        have e1 : j = i := by omega
        subst e1
        rw [List.getElem?_append_right (by omega), show j - ts.length = 0 by omega] at h1
        rw [hx] at h2
        rw [hy] at h3
        have e1 : s.heap.objs.size = t := Option.some.inj h1
        rw [← Option.some.inj h2, ← Option.some.inj h3, ← e1]
        exact upd_same

theorem collect_zip {A : Around} {E : Value → Shared → Prop} {s : Shared} {H : Hp} {z TI TO i1 i2 a b : Addr} {x0 y0 : Value} {xs ys : List V} {Q : List Value → Shared → Prop} (hh : A.handled = none) (D : ZipApart z TI TO i1 i2 a b) (hl : xs.length = ys.length) (hn : xs.length ≤ sizeLine)
    (I : Inv X pins σ H s) (qa : SqT X.K H a xs) (qb : SqT X.K H b ys) (hz : IsZip s.heap z TI TO .none) (hTI : IsPair s.heap TI (.ref i1) (.ref i2)) (hTO : IsPair s.heap TO x0 y0) (h1 : s.heap.IsTupleIter i1 a 0) (h2 : s.heap.IsTupleIter i2 b 0)
    (hf : ∀ c ∈ [z, TO, i1, i2], FpOk X pins H c) (hQ : ∀ (s' : Shared) (H' : Hp) (ts : List Addr), Inv X pins σ H' s' → Same H H' → ts.length = xs.length → Zs H' xs ys ts → Q (ts.map Value.ref) s') :
    wpAny (model X.prog X.w) A (collect (.ref z)) Q E s := by
  obtain ⟨oi1, ho1, hc1, hd1⟩ := id h1
  obtain ⟨oi2, ho2, hc2, hd2⟩ := id h2
  have lt : ∀ {c o}, s.heap.get? c = some o → s.heap.objs.size ≠ c := fun e => Nat.ne_of_gt (Heap.lt_size e)
  have hS : s.heap.objs.size ≠ z ∧ s.heap.objs.size ≠ TI ∧ s.heap.objs.size ≠ TO ∧ s.heap.objs.size ≠ i1 ∧ s.heap.objs.size ≠ i2 := ⟨lt hz, lt hTI, lt hTO, lt ho1, lt ho2⟩
  have hSf : FpOk X pins H s.heap.objs.size := I.fpOk (Nat.le_refl _) (I.hok.fresh (Nat.le_refl _))
  unfold collect
  refine wpAny_bind (wpAny_runValue (codeAny_builtin F.entry_proto_collect ?_))
  rw [Around.under_plainId F.plain_proto_collect _]
  show wpAny _ A.in1 (newList [] >>= fun l' => again (.builtin "list.__iadd__" ⟨[l', .ref z], []⟩)) _ _ s
  refine wpAny_bind (wpAny_newObj_type ?_)
  refine wpAny_pure ⟨plainId_quiet F.plain_list_iadd _, codeAny_builtin F.entry_list_iadd ?_⟩
  rw [Around.under_plainId F.plain_list_iadd _]
  have hz1 : IsZip (s.heap.push { cls := .type "list", data := .seq ([] : List Value).toArray }) z TI TO .none := Heap.get?_push_of_some _ hz
  have hT1 : ({ s with heap := s.heap.push { cls := .type "list", data := .seq ([] : List Value).toArray } } : Shared).TypeIs (.ref z) "zip" := ⟨_, hz1, rfl⟩
  show wpAny _ A.in1 (Builtin.List.listExtendWith (.ref s.heap.objs.size) (.ref z) (.ref s.heap.objs.size)) _ _ _
  unfold Builtin.List.listExtendWith
  refine wpAny_bind (wpAny_typeOf hT1 ?_)
  have e1 : Builtin.List.listSameRef (.ref s.heap.objs.size) (.ref z) = false := by simp [Builtin.List.listSameRef, hS.1]
  have e2 : (Value.type "zip" == Value.type "list") = false := by decide
  have e3 : (Value.type "zip" == Value.type "tuple") = false := by decide
  simp only [e1, e2, e3, Bool.or_false, Bool.false_eq_true, if_false]
  refine wpAny_bind (wpAny_pyIter_zip (s := { s with heap := s.heap.push { cls := .type "list", data := .seq ([] : List Value).toArray } }) hz1 ?_)
  refine wpAny_bind (wpAny_holding ?_)
  unfold Builtin.List.listLengthHint
  refine wpAny_bind (wpAny_specialOf hT1 nolen_zip ?_)
  show wpAny _ A.in1 (specialOf (Value.ref z) (Str.ofString "__length_hint__") >>= _) _ _ _
  refine wpAny_bind (wpAny_specialOf hT1 hint_zip ?_)
  refine wpAny_pure ?_
  show wpAny _ A.in1 (rule "list.extend.makes-room" >>= fun _ => Builtin.List.listTouch (.ref s.heap.objs.size) >>= fun _ =>
    again (.builtin "list.extend.loop" ⟨[.ref s.heap.objs.size, .ref z, .ref s.heap.objs.size], []⟩)) _ _ _
  refine wpAny_bind (wpAny_rule ?_)
  have hS₁ : (s.heap.push { cls := .type "list", data := .seq ([] : List Value).toArray }).get? s.heap.objs.size = some { cls := .type "list", data := .seq ([] : List Value).toArray } := Heap.get?_push_size _ rfl
  refine wpAny_bind ?_
  show wpAny _ A.in1 (updateSeq s.heap.objs.size (·.push .none) >>= fun _ => updateSeq s.heap.objs.size (·.pop)) _ _ _
  refine wpAny_bind (wpAny_updateSeq hS₁ rfl ?_)
  have hS₂ := Heap.get?_update_self (Obj.mapSeq (·.push Value.none)) hS₁ rfl
  refine wpAny_updateSeq hS₂ rfl ?_
  have hS₃ := Heap.get?_update_self (Obj.mapSeq (·.pop)) hS₂ rfl
  have oth : ∀ b o, b ≠ s.heap.objs.size → s.heap.get? b = some o →
      (((s.heap.push { cls := .type "list", data := .seq ([] : List Value).toArray }).update s.heap.objs.size (Obj.mapSeq (·.push Value.none))).update s.heap.objs.size (Obj.mapSeq (·.pop))).get? b = some o :=
    fun b o hb e => (Heap.get?_update_other _ _ (Ne.symm hb)).trans ((Heap.get?_update_other _ _ (Ne.symm hb)).trans (Heap.get?_push_of_some _ e))
  have I1 : Inv X pins σ H { s with heap := ((s.heap.push { cls := .type "list", data := .seq ([] : List Value).toArray }).update s.heap.objs.size (Obj.mapSeq (·.push Value.none))).update s.heap.objs.size (Obj.mapSeq (·.pop)) } :=
    I.turnedL (t' := s.toks) (ch := [s.heap.objs.size]) (fun b o hb e => oth b o (fun q => hb (by simp [q])) e) (fun c hc => by rw [List.mem_singleton.mp hc]; exact hSf)
  have hsz : (((s.heap.push { cls := .type "list", data := .seq ([] : List Value).toArray }).update s.heap.objs.size (Obj.mapSeq (·.push Value.none))).update s.heap.objs.size (Obj.mapSeq (·.pop))).objs.size = s.heap.objs.size + 1 := by
    rw [Heap.size_update, Heap.size_update, Heap.size_push]
  refine wpAny_pure ⟨plainId_quiet F.plain_extend_loop _, ext_zip (X := X) (pins := pins) (σ := σ) (A := A) hh D hS hl hn xs.length 0 _ H _ _ [] (by omega) (Nat.zero_le _) I1 qa qb
    ⟨oth _ _ (Ne.symm hS.2.1) hTI, ⟨oi1, oth _ _ (Ne.symm hS.2.2.2.1) ho1, hc1, hd1⟩, ⟨oi2, oth _ _ (Ne.symm hS.2.2.2.2) ho2, hc2, hd2⟩, .inl ⟨oth _ _ (Ne.symm hS.1) hz, _, _, oth _ _ (Ne.symm hS.2.2.1) hTO⟩⟩ (fun c hc => ?_) hS₃ rfl rfl (fun j t x y h => by simp at h) fun s' H' acc' c' ts' I' sm hL' ha hl' hz' => ?_⟩
  · show FpOk X pins H c ∧ c < (((s.heap.push { cls := .type "list", data := .seq ([] : List Value).toArray }).update s.heap.objs.size (Obj.mapSeq (·.push Value.none))).update s.heap.objs.size (Obj.mapSeq (·.pop))).objs.size
    rw [hsz]
    rcases List.mem_cons.mp hc with rfl | hc
    · exact ⟨hSf, Nat.lt_succ_self _⟩
    · refine ⟨hf c hc, ?_⟩
      have e' : c = z ∨ c = TO ∨ c = i1 ∨ c = i2 := by simpa using hc
      refine Nat.lt_succ_of_lt ?_
      rcases e' with q | q | q | q
      · rw [q]; exact Heap.lt_size hz
      · rw [q]; exact Heap.lt_size hTO
      · rw [q]; exact Heap.lt_size ho1
      · rw [q]; exact Heap.lt_size ho2
  · show wpAny _ A (load s.heap.objs.size >>= _) _ _ s'
    refine wpAny_bind (wpAny_load hL' ?_)
    refine wpAny_pure ?_
    show Q acc'.toList s'
    rw [ha]
    exact hQ s' H' ts' I' sm hl' hz'
theorem code_tuple_new_zip {A : Around} {E : Value → Shared → Prop} {s : Shared} {H : Hp} {z TI TO i1 i2 a b : Addr} {x0 y0 : Value} {xs ys : List V} {Q₁ : Value → Shared → Prop} (hh : A.handled = none) (D : ZipApart z TI TO i1 i2 a b) (hl : xs.length = ys.length) (hn : xs.length ≤ sizeLine)
    (I : Inv X pins σ H s) (qa : SqT X.K H a xs) (qb : SqT X.K H b ys) (hz : IsZip s.heap z TI TO .none) (hTI : IsPair s.heap TI (.ref i1) (.ref i2)) (hTO : IsPair s.heap TO x0 y0) (h1 : s.heap.IsTupleIter i1 a 0) (h2 : s.heap.IsTupleIter i2 b 0)
    (hf : ∀ c ∈ [z, TO, i1, i2], FpOk X pins H c) (h : ∀ (s' : Shared) (H' : Hp) (ts : List Addr), Inv X pins σ H' s' → Same H H' → ts.length = xs.length → Zs H' xs ys ts → Q₁ (.ref s'.heap.objs.size) { s' with heap := s'.heap.push { cls := .type "tuple", data := .seq (ts.map Value.ref).toArray } }) :
    codeAny (model X.prog X.w) A (.call (.builtin "tuple.__new__") ⟨[.type "tuple", .ref z], []⟩) (wants Q₁ E) s := by
  refine codeAny_of_tree ?_
  show wpAny _ A.in1 (do checkBuiltinCall "tuple.__new__" ⟨[.type "tuple", .ref z], []⟩; again (.builtin "tuple.__new__" ⟨[.type "tuple", .ref z], []⟩)) _ _ s
  refine wpAny_bind (wpAny_of_eq (F.newCall_tuple_1 _) (wpAny_pure ⟨plainId_quiet F.plain_tuple_new _, codeAny_builtin F.entry_tuple_new ?_⟩))
  rw [Around.under_plainId F.plain_tuple_new _]
  have hsub := sub_tuple_self
  have hinit := init_tuple_lookup
  have hmh := madeHere_tuple
  have hTI' : s.TypeIs (.ref z) "zip" := ⟨_, hz, rfl⟩
  have hh1 : A.in1.handled = none := hh
  wp_walk using wpAny_typeOf hTI', collect_zip (A := A.in1) hh1 D hl hn I qa qb hz hTI hTO h1 h2 hf
  intro s' H' ts I' sm hl' hz'
  show wpAny _ _ (Builtin.Tuple.tupleExact (ts.map Value.ref).toArray >>= fun v => ret v) _ _ _
  unfold Builtin.Tuple.tupleExact
  refine wpAny_bind (wpAny_newObj_type ?_ (by show (ts.map Value.ref).toArray.size ≤ sizeLine; rw [List.size_toArray, List.length_map, hl']; exact hn))
  exact wpAny_pure (h s' H' ts I' sm hl' hz')
theorem call_tuple_zip {A : Around} {E : Value → Shared → Prop} {s : Shared} {H : Hp} {z TI TO i1 i2 a b : Addr} {x0 y0 : Value} {xs ys : List V} {Q : Value → Shared → Prop} (hh : A.handled = none) (D : ZipApart z TI TO i1 i2 a b) (hl : xs.length = ys.length) (hn : xs.length ≤ sizeLine)
    (I : Inv X pins σ H s) (qa : SqT X.K H a xs) (qb : SqT X.K H b ys) (hz : IsZip s.heap z TI TO .none) (hTI : IsPair s.heap TI (.ref i1) (.ref i2)) (hTO : IsPair s.heap TO x0 y0) (h1 : s.heap.IsTupleIter i1 a 0) (h2 : s.heap.IsTupleIter i2 b 0)
    (hf : ∀ c ∈ [z, TO, i1, i2], FpOk X pins H c) (hQ : ∀ (s' : Shared) (H' : Hp) (ts : List Addr), Inv X pins σ H' s' → Same H H' → ts.length = xs.length → Zs H' xs ys ts → Q (.ref s'.heap.objs.size) { s' with heap := s'.heap.push { cls := .type "tuple", data := .seq (ts.map Value.ref).toArray } }) :
    wpAny (model X.prog X.w) A (call (.type "tuple") [.ref z]) Q E s := by
  refine callType_codes (Q₁ := fun obj s₁ => s₁.TypeIs obj "tuple" ∧ Q obj s₁) F.called_tuple (F.typeCall_tuple_1 _) F.entry_object_init
    (code_tuple_new_zip (A := A.in1) hh D hl hn I qa qb hz hTI hTO h1 h2 hf fun s' H' ts I' sm hl' hz' => ⟨⟨_, Heap.get?_push_size _ rfl, rfl⟩, hQ s' H' ts I' sm hl' hz'⟩) fun obj s₁ h₁ => ?_
  exact ⟨h₁.1, F.args_object_init_2 obj _, object_init_meets F.called_tuple.init.lookup F.called_tuple.made (by decide) X.prog X.w A.in1 _ s₁ ⟨h₁.1, rfl, h₁.2⟩⟩
end
section
variable {X : Cx}
/-- tuple(zip(a, b)) of two tuples of one length -/
def tTupZip (K : PySem.W.Frag) (ta : TA) : TE := fun σ H Q => ta σ H fun vs H1 => ∃ a b xs ys, vs = [V.ref a, V.ref b] ∧ SqT K H1 a xs ∧ SqT K H1 b ys ∧ xs.length = ys.length ∧ xs.length ≤ sizeLine ∧
  ∀ (p : Addr) (ts : List Addr) H2, Same H1 H2 → H2 p = some (.tup (ts.map V.ref)) → ts.length = xs.length → Zs H2 xs ys ts → Q (.ref p) H2
theorem vals_refs : ∀ ts : List Addr, Vals (ts.map V.ref) (ts.map Value.ref)
  | [] => .nil
  | t :: r => .cons rfl (vals_refs r)
/-- a fresh zip of two tuples -/
def AtZip (X : Cx) (pins : List (Addr × Obj)) (σ : L2.St) (R : List V → List V → Hp → Prop) : Value → Shared → Prop := fun x s1 => ∃ (z TI TO i1 i2 a b : Addr) (x0 y0 : Value) (xs ys : List V) (H1 : Hp), x = .ref z ∧ ZipApart z TI TO i1 i2 a b ∧ Inv X pins σ H1 s1 ∧ SqT X.K H1 a xs ∧ SqT X.K H1 b ys ∧
  IsZip s1.heap z TI TO .none ∧ IsPair s1.heap TI (.ref i1) (.ref i2) ∧ IsPair s1.heap TO x0 y0 ∧ s1.heap.IsTupleIter i1 a 0 ∧ s1.heap.IsTupleIter i2 b 0 ∧ (∀ c ∈ [z, TO, i1, i2], FpOk X pins H1 c) ∧ R xs ys H1
theorem eval_zip {e e2 : Expr} {ta : TA} {p pos : Pos} {pins : List (Addr × Obj)} {σ : L2.St} {H : Hp} {s : Shared} {R : List V → List V → Hp → Prop} (hg : Gl X "zip") (hm : X.mg "zip" = none) (ha : PA X [e, e2] ta) (I : Inv X pins σ H s)
    (h : ta σ H fun vs H1 => ∃ a b xs ys, vs = [V.ref a, V.ref b] ∧ SqT X.K H1 a xs ∧ SqT X.K H1 b ys ∧ R xs ys H1)
    (hs : starEach [e, e2] X.env = (false, eval e X.env) :: starEach [e2] X.env := by rfl) (hpl : (backTo pos (starEach [e2] X.env)).any (·.1) = false := by rfl) :
    wpAny (model X.prog X.w) X.A (eval (.Call (.Name "zip" p) [e, e2] [] pos) X.env) (AtZip X pins σ R) X.xe s := by
  refine Call_ (ld_blt I hg hm PyProof.Rows.boot_zip (PyProof.Rows.callWith_type1 (thn (ha.run pos pins s σ H _ I h) fun us s1 ⟨vs, H1, I1, r1, q1⟩ => ?_) hs hpl))
  obtain ⟨a, b, xs, ys, ex, qa, qb, q⟩ := q1
  subst ex
  cases r1 with
  | cons r rr =>
    cases rr with
    | cons r' rr =>
      cases rr
      cases r
      cases r'
      obtain ⟨its, rv, p1, _⟩ := I1.tuple qa
      obtain ⟨its2, rv2, p2, _⟩ := I1.tuple qb
      obtain ⟨o1, ho1, _⟩ := id p1
      obtain ⟨o2, ho2, _⟩ := id p2
      refine call_zipT (show s1.heap.IsTuple a its.toArray from p1) (show s1.heap.IsTuple b its2.toArray from p2) fun h' hz hTI hTO h1 h2 hsz hk => ?_
      have I2 : Inv X pins σ H1 { s1 with heap := h' } := I1.kept (t' := s1.toks) hk
      refine ⟨s1.heap.objs.size + 4, s1.heap.objs.size + 2, s1.heap.objs.size + 3, s1.heap.objs.size, s1.heap.objs.size + 1, a, b, _, _, xs, ys, H1, rfl, PySem.W.ktu_apart s1.heap.objs.size a b (Heap.lt_size ho1) (Heap.lt_size ho2), I2, qa, qb, hz, hTI, hTO, h1, h2, fun c hcm => ?_, q⟩
      have e' : c = s1.heap.objs.size + 4 ∨ c = s1.heap.objs.size + 3 ∨ c = s1.heap.objs.size ∨ c = s1.heap.objs.size + 1 := by simpa using hcm
      have hle : s1.heap.objs.size ≤ c := by
        rcases e' with z | z | z | z
        · rw [z]; exact Nat.le_add_right _ _
        · rw [z]; exact Nat.le_add_right _ _
        · rw [z]; exact Nat.le_refl _
        · rw [z]; exact Nat.le_add_right _ _
      exact I1.fpOk hle (I1.hok.fresh hle)
theorem pe_tupZip {e e2 : Expr} {ta : TA} {p p2 pos pos2 : Pos} (hc : X.calm = true) (hg : Gl X "tuple") (hm : X.mg "tuple" = none) (hg2 : Gl X "zip") (hm2 : X.mg "zip" = none) (ha : PA X [e, e2] ta)
    (hs : starEach [e, e2] X.env = (false, eval e X.env) :: starEach [e2] X.env := by rfl) (hpl : (backTo pos2 (starEach [e2] X.env)).any (·.1) = false := by rfl)
    (na : starEach [.Call (.Name "zip" p2) [e, e2] [] pos2] X.env = (false, eval (.Call (.Name "zip" p2) [e, e2] [] pos2) X.env) :: starEach [] X.env := by rfl) :
    PE X (.Call (.Name "tuple" p) [.Call (.Name "zip" p2) [e, e2] [] pos2] [] pos) (tTupZip X.K ta) := by
  refine ⟨fun pins s σ H Q I h => ?_⟩
  refine Call_ (ld_blt I hg hm boot_tuple (PyProof.Rows.callWith_type1 (args_cons (thn (eval_zip (R := fun xs ys H1 => xs.length = ys.length ∧ xs.length ≤ sizeLine ∧ ∀ (p : Addr) (ts : List Addr) H2, Same H1 H2 → H2 p = some (.tup (ts.map V.ref)) → ts.length = xs.length → Zs H2 xs ys ts → Q (.ref p) H2) hg2 hm2 ha I h hs hpl) fun x s1 hx => args_nil ?_) na) na))
  obtain ⟨z, TI, TO, i1, i2, a, b, x0, y0, xs, ys, H1, rfl, D, I1, qa, qb, hz, hTI, hTO, h1, h2, hf, hl, hn, q⟩ := hx
  refine call_tuple_zip (I1.ok.hd hc) D hl hn I1 qa qb hz hTI hTO h1 h2 hf fun s' H' ts I' sm hl' hz' => ?_
  have hno : H' s'.heap.objs.size = none := I'.hok.fresh (Nat.le_refl _)
  have sm2 := same_upd (o := .tup (ts.map V.ref)) hno
  exact ⟨.ref s'.heap.objs.size, upd H' s'.heap.objs.size (.tup (ts.map V.ref)), I'.laid (t' := s'.toks) (fun b o e => Heap.get?_push_of_some _ e) (Nat.le_refl _) (show ObjOk X.prog X.w _ _ _ (.tup (ts.map V.ref)) from ⟨by rw [List.length_map, hl']; exact hn, ts.map Value.ref, vals_refs ts, IsTup.new _ _⟩), rfl,
    q _ ts _ (sm.trans sm2) upd_same hl' (hz'.on sm2)⟩
end
end My

/-! My own rules: an operator between two instances of a class that has no reflected method for it. -/
namespace My
open PySem PySem.Spec PyProof.Rows L2
structure OpN (K : PySem.W.Frag) (C : Addr) (nm : String) (f : Addr) : Prop where
  sf : PySem.W.selfFirst K C = true
  ls : PySem.W.findIn K (.ref C) (PySem.dunder nm) = some (some (.ref f))
  lf : PySem.W.isFn K (.ref f) = true
section
variable {prog : Program} {w : World} {A : Around} {Ex : Value → Shared → Prop} {s : Shared} {K : PySem.W.Frag} {C f : Addr} {nm : String}
open PySem.W
theorem b1_ownN {x y : Addr} {odx ody : Option Obj} {ox oy : Obj} {Q : Value → Shared → Prop} (X : K.In s.heap) (O : OpN K C nm f) (I : InstAt s.heap x ox C odx) (J : InstAt s.heap y oy C ody)
    (h : wpAny (model prog w) A (call (.ref f) [.ref x, .ref y]) (PySem.W.CmpBack Q) Ex s) : wpAny (model prog w) A (binaryOp1 nm (.ref x) (.ref y)) (fun r s' => ∃ v, r = some v ∧ Q v s') Ex s := by
  obtain ⟨cd, rest, hcd, hm⟩ := ksp_first O.sf
  unfold binaryOp1
  refine wpAny_bind (I.type.here (wpAny_bind (J.type.here (wpAny_bind ((fills_K X hcd hm O.ls).here ?_)))))
  simp only [beq_self_eq_true, if_true]
  refine wpAny_bind (wpAny_pure ?_)
  simp only [Bool.and_false, Bool.false_eq_true, if_false, Bool.false_and]
  refine wpAny_bind (wpAny_pure ?_)
  simp only [Bool.false_eq_true, if_false]
  refine wpAny_bind (m := tryMethod (.ref x) _ (.ref y)) (wpAny_mono (ksp_try X I O.ls O.lf h) (fun r s' hr => ?_) fun _ _ e => e)
  obtain ⟨v, rfl, hq⟩ := hr
  exact wpAny_pure ⟨v, rfl, hq⟩
end
section
variable {X : Cx} {CX : CXT} {k : Nat} {C f : Addr} {fd : FuncData} {ps : List Str} {sp : Sp} {E : XK} {op : Operator}
theorem op_nn {nm : String} (hn : op.info.2 = nm) (O : OpN X.K C nm f) (F : FnOk X.prog X.w X.K X.mg X.base CX k f fd ps sp) (hr : Room k X.A) (hb : Binds X.K fd ps []) (hx : Passes CX X E) : OpR X (binaryOp op) (rOO C sp E) := by
  intro pins s σ H x y v u Q I rx ry h
  refine bin_of hn ?_
  obtain ⟨a, dx, fs, b, dy, gs, rfl, rfl, ea, eb, q⟩ := h
  obtain rfl : v = Value.ref a := rx
  obtain rfl : u = Value.ref b := ry
  obtain ⟨mA, J, _⟩ := ins_get I.hok ea
  obtain ⟨od, J, _⟩ := J.look
  obtain ⟨mB, J', _⟩ := ins_get I.hok eb
  obtain ⟨od', J', _⟩ := J'.look
  exact b1_ownN I.kIn O J J' (wpAny_mono (run_own (vs := [V.ref a, V.ref b]) F hr hb hx I (.cons rfl (.cons rfl .nil)) q) (fun _ _ z => back_of z) fun _ _ e => e)
theorem op_notInR {j : Nat} (hr : Room j X.A) : OpR X (compareOp .NotIn) (rNotInD X.K) := op_notInD (by have := hr.un; omega)
end
end My

namespace My
open PySem PySem.Spec PyProof.Rows L2
def topS (i : Nat) : Stmt := PySem.Challenge.pw_extralink_k22_whole_line_sums.main.body.getD i (.Pass ⟨0, 0, 0, 0⟩)
abbrev s_as_ratio : Stmt := topS 13
theorem sc_as_ratio : FnScope ["value"] ["value"] (defScope s_as_ratio) := ⟨rfl, rfl, rfl, by decide +kernel, rfl, by decide +kernel, by decide +kernel⟩
abbrev s_check_corners : Stmt := topS 18
theorem sc_check_corners : FnScope ["corners", "load", "time", "before", "corner"] ["corners"] (defScope s_check_corners) := ⟨rfl, rfl, rfl, by decide +kernel, rfl, by decide +kernel, by decide +kernel⟩
abbrev s_rises_between : Stmt := topS 19
theorem sc_rises_between : FnScope ["loads", "times", "at"] ["loads", "times"] (defScope s_rises_between) := ⟨rfl, rfl, rfl, by decide +kernel, rfl, by decide +kernel, by decide +kernel⟩
abbrev s_many_upto : Stmt := topS 21
theorem sc_many_upto : FnScope ["values", "value", "low", "high", "middle"] ["values", "value"] (defScope s_many_upto) := ⟨rfl, rfl, rfl, by decide +kernel, rfl, by decide +kernel, by decide +kernel⟩
abbrev s_ascending : Stmt := topS 22
theorem sc_ascending : FnScope ["first", "second", "found", "one", "two", "value"] ["first", "second"] (defScope s_ascending) := ⟨rfl, rfl, rfl, by decide +kernel, rfl, by decide +kernel, by decide +kernel⟩
abbrev s_start : Stmt := topS 24
theorem sc_start : FnScope ["_law_script", "_law_cell"] ["_law_script"] (defScope s_start) := ⟨rfl, rfl, rfl, by decide +kernel, rfl, by decide +kernel, by decide +kernel⟩
abbrev s_draw : Stmt := topS 25
theorem sc_draw : FnScope ["_law_state", "_law_size", "_law_digit", "_law_cell", "_law_one"] ["_law_state", "_law_size"] (defScope s_draw) := ⟨rfl, rfl, rfl, by decide +kernel, rfl, by decide +kernel, by decide +kernel⟩
abbrev s_low : Stmt := topS 26
theorem sc_low : FnScope ["_law_up", "_law_down", "_law_a", "_law_b"] ["_law_up", "_law_down"] (defScope s_low) := ⟨rfl, rfl, rfl, by decide +kernel, rfl, by decide +kernel, by decide +kernel⟩
abbrev s_plus : Stmt := topS 27
theorem sc_plus : FnScope ["_law_one", "_law_two"] ["_law_one", "_law_two"] (defScope s_plus) := ⟨rfl, rfl, rfl, by decide +kernel, rfl, by decide +kernel, by decide +kernel⟩
abbrev s_times : Stmt := topS 28
theorem sc_times : FnScope ["_law_one", "_law_two"] ["_law_one", "_law_two"] (defScope s_times) := ⟨rfl, rfl, rfl, by decide +kernel, rfl, by decide +kernel, by decide +kernel⟩
abbrev s_less : Stmt := topS 29
theorem sc_less : FnScope ["_law_one", "_law_two"] ["_law_one", "_law_two"] (defScope s_less) := ⟨rfl, rfl, rfl, by decide +kernel, rfl, by decide +kernel, by decide +kernel⟩
abbrev s_is : Stmt := topS 30
theorem sc_is : FnScope ["_law_actual", "_law_pair"] ["_law_actual", "_law_pair"] (defScope s_is) := ⟨rfl, rfl, rfl, by decide +kernel, rfl, by decide +kernel, by decide +kernel⟩
abbrev s_value : Stmt := topS 31
theorem sc_value : FnScope ["_law_state", "_law_pair", "_law_factor"] ["_law_state", "_law_pair"] (defScope s_value) := ⟨rfl, rfl, rfl, by decide +kernel, rfl, by decide +kernel, by decide +kernel⟩
abbrev s_corners : Stmt := topS 32
theorem sc_corners : FnScope ["_law_state", "_law_scale", "_law_most", "_law_corners_here", "_law_steep_here", "_law_k", "_law_step", "_law_rise", "_law_plan", "_law_load", "_law_time_here", "_law_fine", "_law_slope"] ["_law_state"] (defScope s_corners) := ⟨rfl, rfl, rfl, by decide +kernel, rfl, by decide +kernel, by decide +kernel⟩
abbrev s_over : Stmt := topS 33
theorem sc_over : FnScope ["_law_one", "_law_two"] ["_law_one", "_law_two"] (defScope s_over) := ⟨rfl, rfl, rfl, by decide +kernel, rfl, by decide +kernel, by decide +kernel⟩
abbrev s_minus : Stmt := topS 34
theorem sc_minus : FnScope ["_law_one", "_law_two"] ["_law_one", "_law_two"] (defScope s_minus) := ⟨rfl, rfl, rfl, by decide +kernel, rfl, by decide +kernel, by decide +kernel⟩
abbrev s_steep : Stmt := topS 35
theorem sc_steep : FnScope ["_law_corners_here", "_law_slope", "_law_k"] ["_law_corners_here", "_law_slope", "_law_k"] (defScope s_steep) := ⟨rfl, rfl, rfl, by decide +kernel, rfl, by decide +kernel, by decide +kernel⟩
abbrev s_time : Stmt := topS 36
theorem sc_time : FnScope ["_law_corners_here", "_law_slope", "_law_load", "_law_k"] ["_law_corners_here", "_law_slope", "_law_load"] (defScope s_time) := ⟨rfl, rfl, rfl, by decide +kernel, rfl, by decide +kernel, by decide +kernel⟩
abbrev s_line : Stmt := topS 37
theorem sc_line : FnScope ["_law_state", "_law_corners_here", "_law_slope", "_law_pairs", "_law_corner"] ["_law_state", "_law_corners_here", "_law_slope"] (defScope s_line) := ⟨rfl, rfl, rfl, by decide +kernel, rfl, by decide +kernel, by decide +kernel⟩
abbrev s_plain : Stmt := topS 38
theorem sc_plain : FnScope ["_law_corners_here", "_law_slope", "_law_kept", "_law_k"] ["_law_corners_here", "_law_slope"] (defScope s_plain) := ⟨rfl, rfl, rfl, by decide +kernel, rfl, by decide +kernel, by decide +kernel⟩
abbrev s_told : Stmt := topS 39
theorem sc_told : FnScope ["_law_line_here", "_law_corners_here", "_law_x", "_law_y"] ["_law_line_here"] (defScope s_told) := ⟨rfl, rfl, rfl, by decide +kernel, rfl, by decide +kernel, by decide +kernel⟩
abbrev s_asked : Stmt := topS 40
theorem sc_asked : FnScope ["_law_line_here"] ["_law_line_here"] (defScope s_asked) := ⟨rfl, rfl, rfl, by decide +kernel, rfl, by decide +kernel, by decide +kernel⟩
abbrev s_law : Stmt := topS 41
theorem sc_law : FnScope ["_law_script", "_law_state", "_law_told_here", "_law_a", "_law_b", "_law_c", "_law_total", "_law_loads", "_law_x", "_law_y", "_law_far", "_law_one", "_law_due", "_law_bends", "_law_rise", "_law_same", "_law_k", "_law_corner"] ["_law_script"] (defScope s_law) := ⟨rfl, rfl, rfl, by decide +kernel, rfl, by decide +kernel, by decide +kernel⟩
abbrev s_Ratio_init : Stmt := inClass (topS 12) 0
theorem sc_Ratio_init : FnScope ["self", "top", "bottom", "common"] ["self", "top", "bottom"] (defScope s_Ratio_init) := ⟨rfl, rfl, rfl, by decide +kernel, rfl, by decide +kernel, by decide +kernel⟩
abbrev s_Ratio_top : Stmt := inClass (topS 12) 2
theorem sc_Ratio_top : FnScope ["self"] ["self"] (defScope s_Ratio_top) := ⟨rfl, rfl, rfl, by decide +kernel, rfl, by decide +kernel, by decide +kernel⟩
abbrev s_Ratio_bottom : Stmt := inClass (topS 12) 3
theorem sc_Ratio_bottom : FnScope ["self"] ["self"] (defScope s_Ratio_bottom) := ⟨rfl, rfl, rfl, by decide +kernel, rfl, by decide +kernel, by decide +kernel⟩
abbrev s_Ratio_sign : Stmt := inClass (topS 12) 4
theorem sc_Ratio_sign : FnScope ["self"] ["self"] (defScope s_Ratio_sign) := ⟨rfl, rfl, rfl, by decide +kernel, rfl, by decide +kernel, by decide +kernel⟩
abbrev s_Ratio_over : Stmt := inClass (topS 12) 5
theorem sc_Ratio_over : FnScope ["self", "value", "divisor"] ["self", "value"] (defScope s_Ratio_over) := ⟨rfl, rfl, rfl, by decide +kernel, rfl, by decide +kernel, by decide +kernel⟩
abbrev s_Ratio_below : Stmt := inClass (topS 12) 6
theorem sc_Ratio_below : FnScope ["self", "value", "other"] ["self", "value"] (defScope s_Ratio_below) := ⟨rfl, rfl, rfl, by decide +kernel, rfl, by decide +kernel, by decide +kernel⟩
abbrev s_Ratio_neg : Stmt := inClass (topS 12) 7
theorem sc_Ratio_neg : FnScope ["self"] ["self"] (defScope s_Ratio_neg) := ⟨rfl, rfl, rfl, by decide +kernel, rfl, by decide +kernel, by decide +kernel⟩
abbrev s_Ratio_add : Stmt := inClass (topS 12) 8
theorem sc_Ratio_add : FnScope ["self", "other", "addend", "top"] ["self", "other"] (defScope s_Ratio_add) := ⟨rfl, rfl, rfl, by decide +kernel, rfl, by decide +kernel, by decide +kernel⟩
abbrev s_Ratio_sub : Stmt := inClass (topS 12) 10
theorem sc_Ratio_sub : FnScope ["self", "other"] ["self", "other"] (defScope s_Ratio_sub) := ⟨rfl, rfl, rfl, by decide +kernel, rfl, by decide +kernel, by decide +kernel⟩
abbrev s_Ratio_mul : Stmt := inClass (topS 12) 12
theorem sc_Ratio_mul : FnScope ["self", "other", "factor"] ["self", "other"] (defScope s_Ratio_mul) := ⟨rfl, rfl, rfl, by decide +kernel, rfl, by decide +kernel, by decide +kernel⟩
abbrev s_Ratio_eq : Stmt := inClass (topS 12) 14
theorem sc_Ratio_eq : FnScope ["self", "other"] ["self", "other"] (defScope s_Ratio_eq) := ⟨rfl, rfl, rfl, by decide +kernel, rfl, by decide +kernel, by decide +kernel⟩
abbrev s_Line_init : Stmt := inClass (topS 17) 0
theorem sc_Line_init : FnScope ["self", "corners", "slope", "loads", "times", "rises", "bends", "corner", "at"] ["self", "corners", "slope"] (defScope s_Line_init) := ⟨rfl, rfl, rfl, by decide +kernel, rfl, by decide +kernel, by decide +kernel⟩
abbrev s_Line_straight : Stmt := inClass (topS 17) 1
theorem sc_Line_straight : FnScope ["cls", "base", "slope"] ["cls", "base", "slope"] (defScope s_Line_straight) := ⟨rfl, rfl, rfl, by decide +kernel, rfl, by decide +kernel, by decide +kernel⟩
abbrev s_Line_corners : Stmt := inClass (topS 17) 2
theorem sc_Line_corners : FnScope ["self"] ["self"] (defScope s_Line_corners) := ⟨rfl, rfl, rfl, by decide +kernel, rfl, by decide +kernel, by decide +kernel⟩
abbrev s_Line_slope : Stmt := inClass (topS 17) 3
theorem sc_Line_slope : FnScope ["self"] ["self"] (defScope s_Line_slope) := ⟨rfl, rfl, rfl, by decide +kernel, rfl, by decide +kernel, by decide +kernel⟩
abbrev s_Line_time_at : Stmt := inClass (topS 17) 4
theorem sc_Line_time_at : FnScope ["self", "load", "at"] ["self", "load"] (defScope s_Line_time_at) := ⟨rfl, rfl, rfl, by decide +kernel, rfl, by decide +kernel, by decide +kernel⟩
abbrev s_Line_covers : Stmt := inClass (topS 17) 9
theorem sc_Line_covers : FnScope ["self", "other", "loads", "load"] ["self", "other"] (defScope s_Line_covers) := ⟨rfl, rfl, rfl, by decide +kernel, rfl, by decide +kernel, by decide +kernel⟩
abbrev s_Line_call : Stmt := inClass (topS 17) 10
theorem sc_Line_call : FnScope ["self", "load"] ["self", "load"] (defScope s_Line_call) := ⟨rfl, rfl, rfl, by decide +kernel, rfl, by decide +kernel, by decide +kernel⟩
abbrev s_Line_add : Stmt := inClass (topS 17) 11
theorem sc_Line_add : FnScope ["self", "other", "loads", "corners", "load"] ["self", "other"] (defScope s_Line_add) := ⟨rfl, rfl, rfl, by decide +kernel, rfl, by decide +kernel, by decide +kernel⟩
abbrev s_Line_eq : Stmt := inClass (topS 17) 13
theorem sc_Line_eq : FnScope ["self", "other"] ["self", "other"] (defScope s_Line_eq) := ⟨rfl, rfl, rfl, by decide +kernel, rfl, by decide +kernel, by decide +kernel⟩
set_option maxHeartbeats 0 in
structure Txt (K : PySem.W.Frag) (mg : Str → Option Value) where
  f_Ratio : Addr
  m_Ratio : mg "Ratio" = some (.ref f_Ratio)
  cl_Ratio : Cls K f_Ratio
  ic_Ratio : C8.InsC K f_Ratio
  na_Ratio_top : NoAttr K f_Ratio "_top"
  na_Ratio_bottom : NoAttr K f_Ratio "_bottom"
  sn_Ratio_int : PySem.W.subIn K (.type "int") (.ref f_Ratio) = some false
  ki_Ratio_int : PySem.W.kitOne K (.type "int") (.ref f_Ratio) = some false
  f_Line : Addr
  m_Line : mg "Line" = some (.ref f_Line)
  cl_Line : Cls K f_Line
  ic_Line : C8.InsC K f_Line
  na_Line_loads : NoAttr K f_Line "_loads"
  na_Line_times : NoAttr K f_Line "_times"
  na_Line_rises : NoAttr K f_Line "_rises"
  f_as_ratio : Addr
  d_as_ratio : FuncData
  F_as_ratio : Fun K "as_ratio" "as_ratio" s_as_ratio f_as_ratio d_as_ratio
  b_as_ratio : Binds K d_as_ratio ["value"] []
  m_as_ratio : mg "as_ratio" = some (.ref f_as_ratio)
  f_check_corners : Addr
  d_check_corners : FuncData
  F_check_corners : Fun K "check_corners" "check_corners" s_check_corners f_check_corners d_check_corners
  b_check_corners : Binds K d_check_corners ["corners"] []
  m_check_corners : mg "check_corners" = some (.ref f_check_corners)
  f_rises_between : Addr
  d_rises_between : FuncData
  F_rises_between : Fun K "rises_between" "rises_between" s_rises_between f_rises_between d_rises_between
  b_rises_between : Binds K d_rises_between ["loads", "times"] []
  m_rises_between : mg "rises_between" = some (.ref f_rises_between)
  f_many_upto : Addr
  d_many_upto : FuncData
  F_many_upto : Fun K "many_upto" "many_upto" s_many_upto f_many_upto d_many_upto
  b_many_upto : Binds K d_many_upto ["values", "value"] []
  m_many_upto : mg "many_upto" = some (.ref f_many_upto)
  f_ascending : Addr
  d_ascending : FuncData
  F_ascending : Fun K "ascending" "ascending" s_ascending f_ascending d_ascending
  b_ascending : Binds K d_ascending ["first", "second"] []
  m_ascending : mg "ascending" = some (.ref f_ascending)
  f_start : Addr
  d_start : FuncData
  F_start : Fun K "_law_start" "_law_start" s_start f_start d_start
  b_start : Binds K d_start ["_law_script"] []
  m_start : mg "_law_start" = some (.ref f_start)
  f_draw : Addr
  d_draw : FuncData
  F_draw : Fun K "_law_draw" "_law_draw" s_draw f_draw d_draw
  b_draw : Binds K d_draw ["_law_state", "_law_size"] []
  m_draw : mg "_law_draw" = some (.ref f_draw)
  f_low : Addr
  d_low : FuncData
  F_low : Fun K "_law_low" "_law_low" s_low f_low d_low
  b_low : Binds K d_low ["_law_up", "_law_down"] []
  m_low : mg "_law_low" = some (.ref f_low)
  f_plus : Addr
  d_plus : FuncData
  F_plus : Fun K "_law_plus" "_law_plus" s_plus f_plus d_plus
  b_plus : Binds K d_plus ["_law_one", "_law_two"] []
  m_plus : mg "_law_plus" = some (.ref f_plus)
  f_times : Addr
  d_times : FuncData
  F_times : Fun K "_law_times" "_law_times" s_times f_times d_times
  b_times : Binds K d_times ["_law_one", "_law_two"] []
  m_times : mg "_law_times" = some (.ref f_times)
  f_less : Addr
  d_less : FuncData
  F_less : Fun K "_law_less" "_law_less" s_less f_less d_less
  b_less : Binds K d_less ["_law_one", "_law_two"] []
  m_less : mg "_law_less" = some (.ref f_less)
  f_is : Addr
  d_is : FuncData
  F_is : Fun K "_law_is" "_law_is" s_is f_is d_is
  b_is : Binds K d_is ["_law_actual", "_law_pair"] []
  m_is : mg "_law_is" = some (.ref f_is)
  f_value : Addr
  d_value : FuncData
  F_value : Fun K "_law_value" "_law_value" s_value f_value d_value
  b_value : Binds K d_value ["_law_state", "_law_pair"] []
  m_value : mg "_law_value" = some (.ref f_value)
  f_corners : Addr
  d_corners : FuncData
  F_corners : Fun K "_law_corners" "_law_corners" s_corners f_corners d_corners
  b_corners : Binds K d_corners ["_law_state"] []
  m_corners : mg "_law_corners" = some (.ref f_corners)
  f_over : Addr
  d_over : FuncData
  F_over : Fun K "_law_over" "_law_over" s_over f_over d_over
  b_over : Binds K d_over ["_law_one", "_law_two"] []
  m_over : mg "_law_over" = some (.ref f_over)
  f_minus : Addr
  d_minus : FuncData
  F_minus : Fun K "_law_minus" "_law_minus" s_minus f_minus d_minus
  b_minus : Binds K d_minus ["_law_one", "_law_two"] []
  m_minus : mg "_law_minus" = some (.ref f_minus)
  f_steep : Addr
  d_steep : FuncData
  F_steep : Fun K "_law_steep" "_law_steep" s_steep f_steep d_steep
  b_steep : Binds K d_steep ["_law_corners_here", "_law_slope", "_law_k"] []
  m_steep : mg "_law_steep" = some (.ref f_steep)
  f_time : Addr
  d_time : FuncData
  F_time : Fun K "_law_time" "_law_time" s_time f_time d_time
  b_time : Binds K d_time ["_law_corners_here", "_law_slope", "_law_load"] []
  m_time : mg "_law_time" = some (.ref f_time)
  f_line : Addr
  d_line : FuncData
  F_line : Fun K "_law_line" "_law_line" s_line f_line d_line
  b_line : Binds K d_line ["_law_state", "_law_corners_here", "_law_slope"] []
  m_line : mg "_law_line" = some (.ref f_line)
  f_plain : Addr
  d_plain : FuncData
  F_plain : Fun K "_law_plain" "_law_plain" s_plain f_plain d_plain
  b_plain : Binds K d_plain ["_law_corners_here", "_law_slope"] []
  m_plain : mg "_law_plain" = some (.ref f_plain)
  f_told : Addr
  d_told : FuncData
  F_told : Fun K "_law_told" "_law_told" s_told f_told d_told
  b_told : Binds K d_told ["_law_line_here"] []
  m_told : mg "_law_told" = some (.ref f_told)
  f_asked : Addr
  d_asked : FuncData
  F_asked : Fun K "_law_asked" "_law_asked" s_asked f_asked d_asked
  b_asked : Binds K d_asked ["_law_line_here"] []
  m_asked : mg "_law_asked" = some (.ref f_asked)
  f_Ratio_init : Addr
  d_Ratio_init : FuncData
  F_Ratio_init : FunD K "__init__" "Ratio.__init__" (defArgs s_Ratio_init) (defBody s_Ratio_init) (defScope s_Ratio_init) [V.int 1] [] f_Ratio_init d_Ratio_init
  a_Ratio_init : PySem.W.findIn K (.ref f_Ratio) "__init__" = some (some (.ref f_Ratio_init))
  i_Ratio_init : PySem.W.isFn K (.ref f_Ratio_init) = true
  mk_Ratio : Mk K f_Ratio f_Ratio_init
  f_Ratio_top : Addr
  d_Ratio_top : FuncData
  F_Ratio_top : Fun K "top" "Ratio.top" s_Ratio_top f_Ratio_top d_Ratio_top
  b_Ratio_top : Binds K d_Ratio_top ["self"] []
  p0_Ratio_top : Addr
  p_Ratio_top : PropOf K f_Ratio "top" p0_Ratio_top f_Ratio_top
  f_Ratio_bottom : Addr
  d_Ratio_bottom : FuncData
  F_Ratio_bottom : Fun K "bottom" "Ratio.bottom" s_Ratio_bottom f_Ratio_bottom d_Ratio_bottom
  b_Ratio_bottom : Binds K d_Ratio_bottom ["self"] []
  p0_Ratio_bottom : Addr
  p_Ratio_bottom : PropOf K f_Ratio "bottom" p0_Ratio_bottom f_Ratio_bottom
  f_Ratio_sign : Addr
  d_Ratio_sign : FuncData
  F_Ratio_sign : Fun K "sign" "Ratio.sign" s_Ratio_sign f_Ratio_sign d_Ratio_sign
  b_Ratio_sign : Binds K d_Ratio_sign ["self"] []
  p0_Ratio_sign : Addr
  p_Ratio_sign : PropOf K f_Ratio "sign" p0_Ratio_sign f_Ratio_sign
  f_Ratio_over : Addr
  d_Ratio_over : FuncData
  F_Ratio_over : Fun K "over" "Ratio.over" s_Ratio_over f_Ratio_over d_Ratio_over
  b_Ratio_over : Binds K d_Ratio_over ["self", "value"] []
  a_Ratio_over : PySem.W.findIn K (.ref f_Ratio) "over" = some (some (.ref f_Ratio_over))
  i_Ratio_over : PySem.W.isFn K (.ref f_Ratio_over) = true
  f_Ratio_below : Addr
  d_Ratio_below : FuncData
  F_Ratio_below : Fun K "below" "Ratio.below" s_Ratio_below f_Ratio_below d_Ratio_below
  b_Ratio_below : Binds K d_Ratio_below ["self", "value"] []
  a_Ratio_below : PySem.W.findIn K (.ref f_Ratio) "below" = some (some (.ref f_Ratio_below))
  i_Ratio_below : PySem.W.isFn K (.ref f_Ratio_below) = true
  f_Ratio_neg : Addr
  d_Ratio_neg : FuncData
  F_Ratio_neg : Fun K "__neg__" "Ratio.__neg__" s_Ratio_neg f_Ratio_neg d_Ratio_neg
  b_Ratio_neg : Binds K d_Ratio_neg ["self"] []
  a_Ratio_neg : PySem.W.findIn K (.ref f_Ratio) "__neg__" = some (some (.ref f_Ratio_neg))
  i_Ratio_neg : PySem.W.isFn K (.ref f_Ratio_neg) = true
  f_Ratio_add : Addr
  d_Ratio_add : FuncData
  F_Ratio_add : Fun K "__add__" "Ratio.__add__" s_Ratio_add f_Ratio_add d_Ratio_add
  b_Ratio_add : Binds K d_Ratio_add ["self", "other"] []
  a_Ratio_add : PySem.W.findIn K (.ref f_Ratio) "__add__" = some (some (.ref f_Ratio_add))
  i_Ratio_add : PySem.W.isFn K (.ref f_Ratio_add) = true
  f_Ratio_sub : Addr
  d_Ratio_sub : FuncData
  F_Ratio_sub : Fun K "__sub__" "Ratio.__sub__" s_Ratio_sub f_Ratio_sub d_Ratio_sub
  b_Ratio_sub : Binds K d_Ratio_sub ["self", "other"] []
  a_Ratio_sub : PySem.W.findIn K (.ref f_Ratio) "__sub__" = some (some (.ref f_Ratio_sub))
  i_Ratio_sub : PySem.W.isFn K (.ref f_Ratio_sub) = true
  f_Ratio_mul : Addr
  d_Ratio_mul : FuncData
  F_Ratio_mul : Fun K "__mul__" "Ratio.__mul__" s_Ratio_mul f_Ratio_mul d_Ratio_mul
  b_Ratio_mul : Binds K d_Ratio_mul ["self", "other"] []
  a_Ratio_mul : PySem.W.findIn K (.ref f_Ratio) "__mul__" = some (some (.ref f_Ratio_mul))
  i_Ratio_mul : PySem.W.isFn K (.ref f_Ratio_mul) = true
  f_Ratio_eq : Addr
  d_Ratio_eq : FuncData
  F_Ratio_eq : Fun K "__eq__" "Ratio.__eq__" s_Ratio_eq f_Ratio_eq d_Ratio_eq
  b_Ratio_eq : Binds K d_Ratio_eq ["self", "other"] []
  a_Ratio_eq : PySem.W.findIn K (.ref f_Ratio) "__eq__" = some (some (.ref f_Ratio_eq))
  i_Ratio_eq : PySem.W.isFn K (.ref f_Ratio_eq) = true
  f_Line_init : Addr
  d_Line_init : FuncData
  F_Line_init : Fun K "__init__" "Line.__init__" s_Line_init f_Line_init d_Line_init
  b_Line_init : Binds K d_Line_init ["self", "corners", "slope"] []
  a_Line_init : PySem.W.findIn K (.ref f_Line) "__init__" = some (some (.ref f_Line_init))
  i_Line_init : PySem.W.isFn K (.ref f_Line_init) = true
  mk_Line : Mk K f_Line f_Line_init
  f_Line_straight : Addr
  d_Line_straight : FuncData
  F_Line_straight : FunD K "straight" "Line.straight" (defArgs s_Line_straight) (defBody s_Line_straight) (defScope s_Line_straight) [V.int 0] [] f_Line_straight d_Line_straight
  p0_Line_straight : Addr
  cr_Line : ClX.CRead K f_Line (.type "type")
  cm_Line_straight : ClX.CMet K f_Line (.type "type") "straight" p0_Line_straight f_Line_straight
  f_Line_corners : Addr
  d_Line_corners : FuncData
  F_Line_corners : Fun K "corners" "Line.corners" s_Line_corners f_Line_corners d_Line_corners
  b_Line_corners : Binds K d_Line_corners ["self"] []
  p0_Line_corners : Addr
  p_Line_corners : PropOf K f_Line "corners" p0_Line_corners f_Line_corners
  f_Line_slope : Addr
  d_Line_slope : FuncData
  F_Line_slope : Fun K "slope" "Line.slope" s_Line_slope f_Line_slope d_Line_slope
  b_Line_slope : Binds K d_Line_slope ["self"] []
  p0_Line_slope : Addr
  p_Line_slope : PropOf K f_Line "slope" p0_Line_slope f_Line_slope
  f_Line_time_at : Addr
  d_Line_time_at : FuncData
  F_Line_time_at : Fun K "time_at" "Line.time_at" s_Line_time_at f_Line_time_at d_Line_time_at
  b_Line_time_at : Binds K d_Line_time_at ["self", "load"] []
  a_Line_time_at : PySem.W.findIn K (.ref f_Line) "time_at" = some (some (.ref f_Line_time_at))
  i_Line_time_at : PySem.W.isFn K (.ref f_Line_time_at) = true
  f_Line_covers : Addr
  d_Line_covers : FuncData
  F_Line_covers : Fun K "covers" "Line.covers" s_Line_covers f_Line_covers d_Line_covers
  b_Line_covers : Binds K d_Line_covers ["self", "other"] []
  a_Line_covers : PySem.W.findIn K (.ref f_Line) "covers" = some (some (.ref f_Line_covers))
  i_Line_covers : PySem.W.isFn K (.ref f_Line_covers) = true
  f_Line_call : Addr
  d_Line_call : FuncData
  F_Line_call : Fun K "__call__" "Line.__call__" s_Line_call f_Line_call d_Line_call
  b_Line_call : Binds K d_Line_call ["self", "load"] []
  a_Line_call : PySem.W.findIn K (.ref f_Line) "__call__" = some (some (.ref f_Line_call))
  i_Line_call : PySem.W.isFn K (.ref f_Line_call) = true
  f_Line_add : Addr
  d_Line_add : FuncData
  F_Line_add : Fun K "__add__" "Line.__add__" s_Line_add f_Line_add d_Line_add
  b_Line_add : Binds K d_Line_add ["self", "other"] []
  a_Line_add : PySem.W.findIn K (.ref f_Line) "__add__" = some (some (.ref f_Line_add))
  i_Line_add : PySem.W.isFn K (.ref f_Line_add) = true
  f_Line_eq : Addr
  d_Line_eq : FuncData
  F_Line_eq : Fun K "__eq__" "Line.__eq__" s_Line_eq f_Line_eq d_Line_eq
  b_Line_eq : Binds K d_Line_eq ["self", "other"] []
  a_Line_eq : PySem.W.findIn K (.ref f_Line) "__eq__" = some (some (.ref f_Line_eq))
  i_Line_eq : PySem.W.isFn K (.ref f_Line_eq) = true
  me_Ratio_over : Meth K f_Ratio "over" f_Ratio_over
  me_Ratio_below : Meth K f_Ratio "below" f_Ratio_below
  me_Line_time_at : Meth K f_Line "time_at" f_Line_time_at
  me_Line_covers : Meth K f_Line "covers" f_Line_covers
  f_Ratio_radd : Addr
  op_Ratio_add : OpO K f_Ratio "add" f_Ratio_add f_Ratio_radd
  f_Ratio_rsub : Addr
  op_Ratio_sub : OpO K f_Ratio "sub" f_Ratio_sub f_Ratio_rsub
  f_Ratio_rmul : Addr
  op_Ratio_mul : OpO K f_Ratio "mul" f_Ratio_mul f_Ratio_rmul
  on_Line_add : OpN K f_Line "add" f_Line_add
  oth_Ratio : OthC K f_Ratio f_Ratio_eq
  none_Ratio : NoNe K f_Ratio f_Ratio_eq
  oth_Line : OthC K f_Line f_Line_eq
  none_Line : NoNe K f_Line f_Line_eq
  noi_Ratio_add : NoI K f_Ratio "add"
  noi_Ratio_sub : NoI K f_Ratio "sub"
  noi_Ratio_mul : NoI K f_Ratio "mul"
  e1_Ratio_init : List Value
  v1_Ratio_init : Vals [V.int 1] e1_Ratio_init
  b1_Ratio_init : Binds K d_Ratio_init ["self", "top", "bottom"] e1_Ratio_init
  e2_Ratio_init : List Value
  v2_Ratio_init : Vals [] e2_Ratio_init
  b2_Ratio_init : Binds K d_Ratio_init ["self", "top", "bottom"] e2_Ratio_init
  e1_Line_straight : List Value
  v1_Line_straight : Vals [V.int 0] e1_Line_straight
  b1_Line_straight : Binds K d_Line_straight ["cls", "base", "slope"] e1_Line_straight
  e2_Line_straight : List Value
  v2_Line_straight : Vals [] e2_Line_straight
  b2_Line_straight : Binds K d_Line_straight ["cls", "base", "slope"] e2_Line_straight
  co_Line : StX.CallO K f_Line f_Line_call
  ck_Line_call : ∀ (s : Shared) (u : Value) (ws : List Value), K.In s.heap → ws.length = (["load"] : List Str).length → BindsTo s d_Line_call ⟨[u], (["load"] : List Str).zip ws⟩ ((["self", "load"] : List Str).zip (u :: ws))
  g_gcd : mg "gcd" = some (.builtin "math.gcd")
  n_abs : mg "abs" = none
  n_any : mg "any" = none
  n_int : mg "int" = none
  n_isinstance : mg "isinstance" = none
  n_len : mg "len" = none
  n_list : mg "list" = none
  n_range : mg "range" = none
  n_tuple : mg "tuple" = none
  n_zip : mg "zip" = none
/-! ### the law's own draws: a list of great numbers, a list of cells, a count -/
section
variable {P : Program} {w : World} {K : PySem.W.Frag} {mg : Str → Option Value} {base : Heap}
/-- the state's objects as they stand; G is what else is known, the state is none of it -/
structure DS (G H : Hp) (s b c : Addr) (gs cs : List Int) (n : Nat) : Prop where
  same : Same G H
  fs : G s = none
  fb : G b = none
  fc : G c = none
  hs : H s = some (.lst [.ref b, .ref c, .int (n : Int)])
  hb : H b = some (.lst (gs.map V.int))
  hc : H c = some (.lst (cs.map V.int))
  ne : b ≠ c
  pos : 0 < cs.length
theorem DS.sb {G H : Hp} {s b c : Addr} {gs cs : List Int} {n : Nat} (d : DS G H s b c gs cs n) : s ≠ b := ne_of d.hs d.hb (by cases gs <;> simp)
theorem DS.sc {G H : Hp} {s b c : Addr} {gs cs : List Int} {n : Nat} (d : DS G H s b c gs cs n) : s ≠ c := ne_of d.hs d.hc (by cases cs <;> simp)
/-- at most m draws were made -/
def DSt (G H : Hp) (s : Addr) (m : Nat) : Prop := ∃ (b c : Addr) (gs cs : List Int) (n : Nat), DS G H s b c gs cs n ∧ n ≤ m
theorem DSt.same {G H : Hp} {s : Addr} {m : Nat} (d : DSt G H s m) : Same G H := let ⟨_, _, _, _, _, d, _⟩ := d; d.same
theorem DSt.mono {G H : Hp} {s : Addr} {m m' : Nat} (d : DSt G H s m) (h : m ≤ m') : DSt G H s m' := let ⟨b, c, gs, cs, n, d, hn⟩ := d; ⟨b, c, gs, cs, n, d, Nat.le_trans hn h⟩
/-- a new object comes beside, known from then on -/
theorem DSt.new {G H : Hp} {s : Addr} {m : Nat} {p : Addr} {o : HO} (d : DSt G H s m) (hp : H p = none) : DSt (upd G p o) (upd H p o) s m := by
  obtain ⟨b, c, gs, cs, n, d, hn⟩ := d
  have n1 : s ≠ p := ne_of_none d.hs hp
  have n2 : b ≠ p := ne_of_none d.hb hp
  have n3 : c ≠ p := ne_of_none d.hc hp
  refine ⟨b, c, gs, cs, n, ⟨fun a u e => ?_, ?_, ?_, ?_, ?_, ?_, ?_, d.ne, d.pos⟩, hn⟩
  · by_cases ha : a = p
    · subst ha; rw [upd_same] at e ⊢; exact e
    · rw [upd_ne ha] at e ⊢; exact d.same a u e
  · rw [upd_ne n1]; exact d.fs
  · rw [upd_ne n2]; exact d.fb
  · rw [upd_ne n3]; exact d.fc
  · rw [upd_ne n1]; exact d.hs
  · rw [upd_ne n2]; exact d.hb
  · rw [upd_ne n3]; exact d.hc
/-- a known object changes -/
theorem DSt.put {G H : Hp} {s : Addr} {m : Nat} {p : Addr} {o u : HO} (d : DSt G H s m) (hp : G p = some u) : DSt (upd G p o) (upd H p o) s m := by
  obtain ⟨b, c, gs, cs, n, d, hn⟩ := d
  have n1 : s ≠ p := fun e => by rw [← e, d.fs] at hp; cases hp
  have n2 : b ≠ p := fun e => by rw [← e, d.fb] at hp; cases hp
  have n3 : c ≠ p := fun e => by rw [← e, d.fc] at hp; cases hp
  refine ⟨b, c, gs, cs, n, ⟨fun a v e => ?_, ?_, ?_, ?_, ?_, ?_, ?_, d.ne, d.pos⟩, hn⟩
  · by_cases ha : a = p
    · subst ha; rw [upd_same] at e ⊢; exact e
    · rw [upd_ne ha] at e ⊢; exact d.same a v e
  · rw [upd_ne n1]; exact d.fs
  · rw [upd_ne n2]; exact d.fb
  · rw [upd_ne n3]; exact d.fc
  · rw [upd_ne n1]; exact d.hs
  · rw [upd_ne n2]; exact d.hb
  · rw [upd_ne n3]; exact d.hc
/-- what else is known of the heap may be less, the rest may be more -/
theorem DSt.less {G G' H : Hp} {s : Addr} {m : Nat} (d : DSt G H s m) (h : Same G' G) : DSt G' H s m := by
  obtain ⟨b, c, gs, cs, n, d, hn⟩ := d
  have fr : ∀ a, G a = none → G' a = none := fun a e => h.free e
  exact ⟨b, c, gs, cs, n, ⟨h.trans d.same, fr _ d.fs, fr _ d.fb, fr _ d.fc, d.hs, d.hb, d.hc, d.ne, d.pos⟩, hn⟩
/-- all that stands behind stays; known is what was known -/
theorem DSt.on {G H H' : Hp} {s : Addr} {m : Nat} (d : DSt G H s m) (h : Same H H') : DSt G H' s m := by
  obtain ⟨b, c, gs, cs, n, d, hn⟩ := d
  exact ⟨b, c, gs, cs, n, ⟨d.same.trans h, d.fs, d.fb, d.fc, h _ _ d.hs, h _ _ d.hb, h _ _ d.hc, d.ne, d.pos⟩, hn⟩
theorem DSt.free {G H : Hp} {s : Addr} {m : Nat} {p : Addr} (d : DSt G H s m) (hp : H p = none) : G p = none := d.same.free hp

def spStart (K : PySem.W.Frag) : Sp := fun vs H Q _ => ∃ (a : Addr) (ns : List Int), vs = [.ref a] ∧ SqL K H a (ns.map V.int) ∧ ns.length ≤ 63 ∧ ∀ (s : Addr) (H' : Hp), DSt H H' s 0 → Q (.ref s) H'
def spDraw : Sp := fun vs H Q _ => ∃ (G : Hp) (s : Addr) (m : Nat) (sz : Int), vs = [.ref s, .int sz] ∧ DSt G H s m ∧ m < 1000000 ∧ 0 < sz ∧ sz < 2 ^ 200 ∧
  ∀ (r : Int) (H' : Hp), 0 ≤ r → r < sz → DSt G H' s (m + 1) → Q (.int r) H'

theorem take_more {α : Type} : ∀ {l : List α} {i : Nat} {x : α}, l[i]? = some x → l.take (i + 1) = l.take i ++ [x]
  | [], i, x, h => by simp at h
  | a :: l, 0, x, h => by
    have e : a = x := Option.some.inj h
    subst e
    rfl
  | a :: l, i + 1, x, h => by
    have ih := take_more (l := l) (i := i) (x := x) h
    show a :: l.take (i + 1) = a :: l.take i ++ [x]
    rw [ih]
    rfl
theorem pow_lt (c n : Int) (hc : 0 ≤ c) (hc2 : c < 2147483647) (hn : 0 ≤ n) (hn2 : n ≤ 1000001) : (c * 48271 + n * 69621 + 7).natAbs < 2 ^ 64 := by omega
theorem pow_lt2 (c n : Int) (hc : 0 ≤ c) (hc2 : c < 2147483647) (hn : 0 ≤ n) (hn2 : n ≤ 1000001) : (c * 16807 + n * 40692 + 13).natAbs < 2 ^ 64 := by omega

theorem cut1 (xs : List V) : cutV xs (some 1) none = xs.drop 1 := by
  unfold cutV
  rw [show HT.sIx xs.length 0 (some 1) = min 1 xs.length from HT.sIx_nat xs.length 0 1, HT.sIx_none]
  cases xs with
  | nil => rfl
  | cons x r =>
    rw [show min 1 (x :: r).length = 1 by
      rw [List.length_cons]
      omega]
    show (List.take ((x :: r).length - 1) r) = r
    rw [List.length_cons, Nat.add_sub_cancel]
    exact List.take_length
theorem big1 : (0 : Int) < 2147483647 := by decide
theorem big2 : (0 : Int) < 2147483629 := by decide
theorem ok_start (T : Txt K mg) : FnOk P w K mg base CX0 1 T.f_start T.d_start ["_law_script"] (spStart K) := by
  refine T.F_start.ok sc_start (fun vs H Q E h => ?_) (fun cdv A outer s H vs Q E hr h => ?_)
  · obtain ⟨a, ns, rfl, _⟩ := h
    rfl
  · obtain ⟨a, ns, rfl, hS, hlen, k⟩ := h
    refine ⟨_, (pss_one (ps_ret (pe_lst (pa_cons (pe_lc (own := [("_law_cell", 1)]) (g := gName 1) rfl sc_start.nd (pi_list (pv 0)) (blkOk_by (N := ["_law_script", "_law_cell"]) (sc := defScope s_start) (by decide +kernel)) (fun _ _ _ _ _ => pg_name (i := 1) sc_start.nd rfl (Or.inl rfl)) (fun _ _ _ _ _ => pts_one (pt_cmpR op_ge (pe_callB call_abs (by rfl) T.n_abs (by decide +kernel) (pa_cons (pv 1) pa_nil)) (pe_op op_pow pe_int pe_int) (nomark _))) (fun _ _ _ _ _ => (pe_callB call_abs (by rfl) T.n_abs (by decide +kernel) (pa_cons (pv 1) pa_nil)))) (pa_cons (pe_op op_cat (pe_callTy call_list_of (by rfl) T.n_list (by decide +kernel) (pa_cons (pv 0) pa_nil)) (pe_lst (pa_cons pe_int pa_nil))) (pa_cons pe_int pa_nil)))))), ?_⟩
    refine ⟨_, rfl, a, rfl, ⟨_, hS⟩, fun D hD => ?_⟩
    refine lc_list (K := K) (a := a) (xs := ns.map V.int) (fun i H1 => ∃ gs : List Int, gs.length ≤ i ∧ H1 D = some (.lst (gs.map V.int)) ∧ Same H H1) ⟨[], Nat.le_refl _, upd_same, same_upd hD⟩ (fun i H1 _ ⟨_, _, _, sm⟩ => sm.seq hS) ?_ ?_
    · intro i x H1 hi ⟨gs, hg, eD, sm⟩
      obtain ⟨z, rfl⟩ : ∃ z, x = V.int z := by
        rw [List.getElem?_map] at hi
        cases e : ns[i]? with
        | none =>
          rw [e] at hi
          cases hi
        | some z =>
          rw [e] at hi
          exact ⟨z, (Option.some.inj hi).symm⟩
      have hi63 : i < 63 := by
        have := (List.getElem?_eq_some_iff.mp hi).1
        rw [List.length_map] at this
        omega
      refine ⟨rfl, _, rfl, z, rfl, 10, 18, rfl, rfl, ⟨by decide, by decide, by decide⟩, _, _, rfl, rfl, _, rfl, ?_⟩
      refine ite2 (fun _ => ?_) fun _ => ?_
      · refine ⟨_, rfl, z, rfl, gs.map V.int, eD, small1000 (by rw [List.length_map]; omega), gs ++ [if z < 0 then -z else z], by rw [List.length_append]; exact Nat.add_le_add_right hg 1, ?_, same_mut sm hD⟩
        rw [upd_same, List.map_append]
        rfl
      · exact ⟨gs, Nat.le_succ_of_le hg, eD, sm⟩
    · intro H1 ⟨gs, hg, eD, sm⟩
      refine ⟨_, rfl, a, _, rfl, .inl (sm.seq hS), fun l hl => ?_⟩
      refine ⟨by show 1 ≤ sizeLine; decide, fun o ho => ?_⟩
      have nlo : l ≠ o := fun e => by
        rw [← e, upd_same] at ho
        cases ho
      refine ⟨l, o, _, _, rfl, rfl, by rw [upd_ne nlo]; exact upd_same, upd_same, Nat.le_of_lt (small1000 ?_), fun c hc => ?_⟩
      · rw [List.length_map]
        show ns.length + 1 ≤ 1000
        omega
      refine ⟨by show 3 ≤ sizeLine; decide, fun st hst => ?_⟩
      have eDo : (upd (upd H1 l (.lst (ns.map V.int))) o (.lst [V.int 5])) D = some (.lst (gs.map V.int)) := same_upd ho _ _ (same_upd hl _ _ eD)
      have nDc : D ≠ c := ne_of_none eDo hc
      have hcs := hst
      have ncst : c ≠ st := fun e => by
        rw [← e, upd_same] at hst
        cases hst
      have nDst : D ≠ st := ne_of_none (same_upd hc _ _ eDo) hst
      have sm4 : Same H (upd (upd (upd H1 l (.lst (ns.map V.int))) o (.lst [V.int 5])) c (.lst (ns.map V.int ++ [V.int 5]))) := ((sm.trans (same_upd hl)).trans (same_upd ho)).trans (same_upd hc)
      refine k st _ ⟨D, c, gs, ns ++ [5], 0, ⟨sm4.trans (same_upd hst), sm4.free hst, hD, ((sm.trans (same_upd hl)).trans (same_upd ho)).free hc, upd_same, ?_, ?_, nDc, by rw [List.length_append]; exact Nat.succ_pos _⟩, Nat.le_refl _⟩
      · rw [upd_ne nDst]
        exact same_upd hc _ _ eDo
      · rw [upd_ne ncst, upd_same, List.map_append]
        rfl

theorem ok_draw (T : Txt K mg) : FnOk P w K mg base CX0 1 T.f_draw T.d_draw ["_law_state", "_law_size"] spDraw := by
  refine T.F_draw.ok sc_draw (fun vs H Q E h => ?_) (fun cdv A outer s H vs Q E hr h => ?_)
  · obtain ⟨G, a, m, sz, rfl, _⟩ := h
    rfl
  · obtain ⟨G, a, m, sz, rfl, ⟨b0, c, gs0, cs, n, d0, hn⟩, hm, hs0, hs2, k⟩ := h
    refine ⟨_, (pss_cons (ps_augS (pv 0) pe_int get_list pe_int ip_add set_list)
    (C8.pss_cut (ps_while PassesOwn.never (PW.pt (pw_and (pt_cmpR (op_neD hr.units) (pe_ix ix_list (pv 0) pe_int (fun _ _ => rfl)) (pe_lst pa_nil) (nomark _)) (pw_and1 (pt_cmpR op_eq (pe_ix ix_list (pe_ix ix_list (pv 0) pe_int (fun _ _ => rfl)) pe_int (fun _ _ => rfl)) pe_int (nomark _)))))
      (pss_one (ps_asg (pe_slice sl_list (pe_ix ix_list (pv 0) pe_int (fun _ _ => rfl)) (po_some pe_int) po_none) (pg_sub (pv 0) pe_int set_list))))
    (pss_cons (ps_if (pt_cmpR (op_neD hr.units) (pe_ix ix_list (pv 0) pe_int (fun _ _ => rfl)) (pe_lst pa_nil) (nomark _))
      (pss_cons (ps_set (i := 2) sc_draw.nd rfl (Or.inl rfl) (pe_op op_mod (pe_callTy call_int1 (by rfl) T.n_int (by decide +kernel) (pa_cons (pe_ix ix_list (pe_ix ix_list (pv 0) pe_int (fun _ _ => rfl)) pe_int (fun _ _ => rfl)) pa_nil)) (pv 1)))
    (pss_cons (ps_asg (pe_op op_fdivW (pe_ix ix_list (pe_ix ix_list (pv 0) pe_int (fun _ _ => rfl)) pe_int (fun _ _ => rfl)) (pv 1)) (pg_sub (pe_ix ix_list (pv 0) pe_int (fun _ _ => rfl)) pe_int set_list))
    (pss_one (ps_ret (pv 2)))))
      pss_nil)
    (pss_cons (ps_set (i := 3) sc_draw.nd rfl (Or.inl rfl) (pe_op op_mod (pe_callTy call_int1 (by rfl) T.n_int (by decide +kernel) (pa_cons (pe_ix ix_list (pe_ix ix_list (pv 0) pe_int (fun _ _ => rfl)) (pe_op op_mod (pe_callTy call_int1 (by rfl) T.n_int (by decide +kernel) (pa_cons (pe_ix ix_list (pv 0) pe_int (fun _ _ => rfl)) pa_nil)) (pe_callB call_len_seq (by rfl) T.n_len (by decide +kernel) (pa_cons (pe_ix ix_list (pv 0) pe_int (fun _ _ => rfl)) pa_nil))) (fun _ _ => rfl)) pa_nil)) pe_int))
    (pss_cons (ps_set (i := 4) sc_draw.nd rfl (Or.inl rfl) (pe_op op_mod (pe_callTy call_int1 (by rfl) T.n_int (by decide +kernel) (pa_cons (pe_op op_pow (pe_op op_add (pe_op op_add (pe_op op_mul (pv 3) pe_int) (pe_op op_mul (pe_ix ix_list (pv 0) pe_int (fun _ _ => rfl)) pe_int)) pe_int) pe_int) pa_nil)) pe_int))
    (pss_one (ps_ret (pe_op op_mod (pe_op op_mod (pe_callTy call_int1 (by rfl) T.n_int (by decide +kernel) (pa_cons (pe_op op_pow (pe_op op_add (pe_op op_add (pe_op op_mul (pv 4) pe_int) (pe_op op_mul (pe_ix ix_list (pv 0) pe_int (fun _ _ => rfl)) pe_int)) pe_int) pe_int) pa_nil)) pe_int) (pv 1))))))))), ?_⟩
    -- the count
    refine ⟨_, rfl, a, _, 2, _, rfl, rfl, SqL.of d0.hs, by decide, rfl, (n : Int), 1, rfl, rfl, a, _, 2, 2, rfl, rfl, d0.hs, rfl, ?_⟩
    have d1 : DS G (upd H a (.lst [V.ref b0, V.ref c, V.int ((n + 1 : Nat) : Int)])) a b0 c gs0 cs (n + 1) :=
      ⟨same_mut d0.same d0.fs, d0.fs, d0.fb, d0.fc, upd_same, by rw [upd_ne d0.sb.symm]; exact d0.hb, by rw [upd_ne d0.sc.symm]; exact d0.hc, d0.ne, d0.pos⟩
    -- the noughts ahead go
    refine ⟨fun σ H2 => σ = [some (.ref a), some (.int sz), none, none, none] ∧ ∃ (b : Addr) (gs : List Int), DS G H2 a b c gs cs (n + 1), ?_, ?_⟩
    · refine ⟨fun j σ H2 => σ = [some (.ref a), some (.int sz), none, none, none] ∧ ∃ (b : Addr) (gs : List Int), gs.length = j ∧ DS G H2 a b c gs cs (n + 1), ⟨_, rfl, b0, gs0, rfl, d1⟩, ?_⟩
      rintro j σ H2 ⟨rfl, b, gs, rfl, d⟩
      refine ⟨_, rfl, a, _, 0, _, rfl, rfl, SqL.of d.hs, rfl, Nat.zero_le _, fun p hp => ?_⟩
      have sp : Same H2 (upd H2 p (.lst [])) := same_upd hp
      have d2 : DS G (upd H2 p (.lst [])) a b c gs cs (n + 1) := ⟨d.same.trans sp, d.fs, d.fb, d.fc, sp _ _ d.hs, sp _ _ d.hb, sp _ _ d.hc, d.ne, d.pos⟩
      cases gs with
      | nil =>
        refine ⟨.list [], .list [], .lst (SqL.of d2.hb) .nil, .lst (SqL.of upd_same) .nil, shaped_ints [], shaped_ints [], false, by simp [PyData.eqv, PyData.eqvAll], iteF (iteF (⟨rfl, b, [], d2⟩))⟩
      | cons g r =>
        refine ⟨.list ((g :: r).map PyData.int), .list [], .lst (SqL.of d2.hb) (dp_ints _), .lst (SqL.of upd_same) .nil, shaped_ints _, shaped_ints [], true, by simp [PyData.eqv, PyData.eqvAll], iteT ?_⟩
        refine ⟨_, rfl, a, _, 0, _, rfl, rfl, SqL.of d2.hs, rfl, b, _, 0, .int g, rfl, rfl, SqL.of d2.hb, at0, rfl, _, rfl, ite2 (fun _ => ?_) fun _ => ⟨rfl, b, _, d2⟩⟩
        -- state[0] = state[0][1:]
        refine ⟨fun σ H3 => σ = [some (.ref a), some (.int sz), none, none, none] ∧ ∃ (b : Addr) (gs : List Int), gs.length = r.length ∧ DS G H3 a b c gs cs (n + 1), fun σ' H' h' => ⟨r.length, Nat.lt_succ_self _, h'⟩, ?_⟩
        refine ⟨_, rfl, a, _, 0, _, rfl, rfl, SqL.of d2.hs, rfl, 1, rfl, b, _, rfl, SqL.of d2.hb, fun q hq => ?_⟩
        have n1 : a ≠ q := ne_of_none d2.hs hq
        have n3 : c ≠ q := ne_of_none d2.hc hq
        refine ⟨_, rfl, a, _, 0, 0, rfl, rfl, by rw [upd_ne n1]; exact d2.hs, rfl, rfl, q, r, rfl, ?_⟩
        exact ⟨same_mut (d2.same.trans (same_upd hq)) d2.fs, d2.fs, d2.same.free hq, d2.fc, upd_same, by rw [upd_ne n1.symm, upd_same, cut1]; rfl, by rw [upd_ne d2.sc.symm, upd_ne n3]; exact d2.hc, n3.symm, d2.pos⟩
    · rintro σ H2 ⟨rfl, b, gs, d⟩
      refine ⟨_, rfl, a, _, 0, _, rfl, rfl, SqL.of d.hs, rfl, Nat.zero_le _, fun p hp => ?_⟩
      have sp : Same H2 (upd H2 p (.lst [])) := same_upd hp
      have d2 : DS G (upd H2 p (.lst [])) a b c gs cs (n + 1) := ⟨d.same.trans sp, d.fs, d.fb, d.fc, sp _ _ d.hs, sp _ _ d.hb, sp _ _ d.hc, d.ne, d.pos⟩
      cases gs with
      | cons g r =>
        refine ⟨.list ((g :: r).map PyData.int), .list [], .lst (SqL.of d2.hb) (dp_ints _), .lst (SqL.of upd_same) .nil, shaped_ints _, shaped_ints [], true, by simp [PyData.eqv, PyData.eqvAll], iteT ?_⟩
        refine ⟨_, rfl, a, _, 0, _, rfl, rfl, SqL.of d2.hs, rfl, b, _, 0, .int g, rfl, rfl, SqL.of d2.hb, at0, .inl ⟨g, rfl, ?_⟩⟩
        refine ⟨_, rfl, g, sz, rfl, rfl, hs0, ?_⟩
        refine ⟨_, rfl, a, _, 0, _, rfl, rfl, SqL.of d2.hs, rfl, b, _, 0, .int g, rfl, rfl, SqL.of d2.hb, at0, _, rfl, g, sz, rfl, rfl, wide_div (b := 200) hs0 (by omega) (by decide) (by decide), ?_⟩
        refine ⟨_, rfl, a, _, 0, _, rfl, rfl, SqL.of d2.hs, rfl, b, _, 0, 0, rfl, rfl, d2.hb, ix0 (Nat.succ_pos _), ?_⟩
        refine ⟨_, rfl, k _ _ (Int.emod_nonneg _ (by omega)) (Int.emod_lt_of_pos _ hs0) ⟨b, c, g / sz :: r, cs, n + 1, ?_, Nat.succ_le_succ hn⟩⟩
        exact ⟨same_mut d2.same d2.fb, d2.fs, d2.fb, d2.fc, by rw [upd_ne d2.sb]; exact d2.hs, upd_same, by rw [upd_ne d2.ne.symm]; exact d2.hc, d2.ne, d2.pos⟩
      | nil =>
        refine ⟨.list [], .list [], .lst (SqL.of d2.hb) .nil, .lst (SqL.of upd_same) .nil, shaped_ints [], shaped_ints [], false, by simp [PyData.eqv, PyData.eqvAll], iteF ?_⟩
        have hl : (0 : Int) < (cs.length : Int) := by have := d.pos; omega
        have i0 : 0 ≤ ((n + 1 : Nat) : Int) % (cs.length : Int) := Int.emod_nonneg _ (by omega)
        have i1 : ((n + 1 : Nat) : Int) % (cs.length : Int) < (cs.length : Int) := Int.emod_lt_of_pos _ hl
        obtain ⟨j, ej⟩ : ∃ j : Nat, ((n + 1 : Nat) : Int) % (cs.length : Int) = (j : Int) := ⟨(((n + 1 : Nat) : Int) % (cs.length : Int)).toNat, by omega⟩
        have hj : j < cs.length := by omega
        refine ⟨_, rfl, a, _, 1, _, rfl, rfl, SqL.of d2.hs, rfl, _, rfl, a, _, 2, _, rfl, rfl, SqL.of d2.hs, rfl, .inl ⟨_, rfl, ?_⟩⟩
        refine ⟨_, rfl, a, _, 1, _, rfl, rfl, SqL.of d2.hs, rfl, c, _, rfl, .inl (SqL.of d2.hc), _, _, rfl, rfl, by rw [List.length_map]; exact hl, ?_⟩
        refine ⟨c, _, _, .int cs[j], rfl, rfl, SqL.of d2.hc, by rw [List.length_map]; exact at_of ej (by rw [List.getElem?_map, List.getElem?_eq_getElem hj]; rfl), .inl ⟨_, rfl, _, _, rfl, rfl, big1, ?_⟩⟩
        have c0 : 0 ≤ cs[j] % 2147483647 := Int.emod_nonneg _ (by decide)
        have c1 : cs[j] % 2147483647 < 2147483647 := Int.emod_lt_of_pos _ (by decide)
        refine ⟨_, rfl, _, _, rfl, rfl, .inr ⟨by decide, by decide⟩, _, rfl, a, _, 2, _, rfl, rfl, SqL.of d2.hs, rfl, _, _, rfl, rfl, .inr ⟨by decide, by decide⟩, _, _, rfl, rfl, _, _, rfl, rfl, _, _, rfl, rfl, ⟨by decide, by decide, pow_lt _ _ c0 c1 (by omega) (by omega)⟩, .inl ⟨_, rfl, _, _, rfl, rfl, big1, ?_⟩⟩
        have e0 : ∀ z : Int, 0 ≤ z % 2147483647 := fun z => Int.emod_nonneg _ (by decide)
        have e1 : ∀ z : Int, z % 2147483647 < 2147483647 := fun z => Int.emod_lt_of_pos _ (by decide)
        refine ⟨_, rfl, _, _, rfl, rfl, .inr ⟨by decide, by decide⟩, _, rfl, a, _, 2, _, rfl, rfl, SqL.of d2.hs, rfl, _, _, rfl, rfl, .inr ⟨by decide, by decide⟩, _, _, rfl, rfl, _, _, rfl, rfl, _, _, rfl, rfl, ⟨by decide, by decide, pow_lt2 _ _ (e0 _) (e1 _) (by omega) (by omega)⟩, .inl ⟨_, rfl, _, _, rfl, rfl, big2, ?_⟩⟩
        refine ⟨_, rfl, _, sz, rfl, rfl, hs0, ?_⟩
        exact k _ _ (Int.emod_nonneg _ (by omega)) (Int.emod_lt_of_pos _ hs0) ⟨b, c, [], cs, n + 1, d2, Nat.succ_le_succ hn⟩
end

/-! ### ratios -/
section
variable {P : Program} {w : World} {K : PySem.W.Frag} {mg : Str → Option Value} {base : Heap}
/-- a ratio's attributes -/
def rf (t b : Int) : List (Str × V) := [("_top", .int t), ("_bottom", .int b)]
theorem rf_top (t b : Int) : (rf t b).lookup ("_top" : Str) = some (.int t) := by simp [rf, List.lookup]
theorem nTB : (("_bottom" : Str) == ("_top" : Str)) = false := by decide +kernel
theorem nBT : (("_top" : Str) == ("_bottom" : Str)) = false := by decide +kernel
theorem rf_bottom (t b : Int) : (rf t b).lookup ("_bottom" : Str) = some (.int b) := by simp [rf, List.lookup, nTB]
def RatAt (C : Addr) (H : Hp) (p : Addr) (t b : Int) : Prop := ∃ dx, H p = some (.ins C dx (rf t b))
/-- the divisor -/
def dvs (t b : Int) : Int := if b < 0 then -((Nat.gcd t.natAbs b.natAbs : Nat) : Int) else ((Nat.gcd t.natAbs b.natAbs : Nat) : Int)
def lowT (t b : Int) : Int := t.fdiv (dvs t b)
def lowB (t b : Int) : Int := b.fdiv (dvs t b)
def BIG (z : Int) : Prop := z.natAbs < 2 ^ 8000
theorem dvs_ne {t b : Int} (h : b ≠ 0) : dvs t b ≠ 0 := by
  have hg : 0 < Nat.gcd t.natAbs b.natAbs := Nat.gcd_pos_of_pos_right _ (by omega)
  unfold dvs
  split <;> omega
theorem dvs_le {t b : Int} (h : b ≠ 0) : (dvs t b).natAbs ≤ b.natAbs := by
  have hg : Nat.gcd t.natAbs b.natAbs ≤ b.natAbs := Nat.le_of_dvd (by omega) (Nat.gcd_dvd_right _ _)
  unfold dvs
  split <;> omega
/-- Ratio(t, b), b not 0 -/
def spInit (C : Addr) : Sp := fun vs H Q _ => ∃ (p dx : Addr) (t b : Int), vs = [.ref p, .int t, .int b] ∧ H p = some (.ins C dx []) ∧ b ≠ 0 ∧ BIG b ∧ ∀ H', RatAt C H' p (lowT t b) (lowB t b) → (∀ a o, H a = some o → a ≠ p → H' a = some o) → Q .non H'
theorem ok_init (T : Txt K mg) : FnOk P w K mg base CX0 1 T.f_Ratio_init T.d_Ratio_init ["self", "top", "bottom"] (spInit T.f_Ratio) := by
  refine T.F_Ratio_init.ok sc_Ratio_init (fun vs H Q E h => ?_) (fun cdv A outer s H vs Q E hr h => ?_)
  · obtain ⟨p, dx, t, b, rfl, _⟩ := h
    rfl
  · obtain ⟨p, dx, t, b, rfl, hp, hb, hB, k⟩ := h
    refine ⟨_, PSs.nox (pss_cons (ps_if (pt_cmpR op_eq (pv 2) pe_int (nomark _))
      (pss_one ps_never)
      pss_nil)
    (pss_cons (ps_set (i := 3) sc_Ratio_init.nd rfl (Or.inl rfl) (pe_callBfun cr_gcd rfl T.g_gcd (pa_cons (pv 1) (pa_cons (pv 2) pa_nil))))
    (C8.pss_cut (ps_if (pt_cmpR op_lt (pv 2) pe_int (nomark _))
      (pss_one (ps_set (i := 3) sc_Ratio_init.nd rfl (Or.inl rfl) (pe_un un_neg (pv 3))))
      pss_nil)
    (pss_cons (ps_fld (pv 0) (pe_op op_fdivZ (pv 1) (pv 3)) rfl)
    (pss_one (ps_fld (pv 0) (pe_op op_fdivZ (pv 2) (pv 3)) rfl)))))), ?_⟩
    refine ⟨_, rfl, rfl, _, rfl, ite2 (fun h0 => ?_) fun _ => ?_⟩
    · have e : V.int b = V.int 0 := of_decide_eq_true h0
      injection e with e
      exact absurd e hb
    refine ⟨_, rfl, _, rfl, t, b, rfl, ?_⟩
    refine ⟨fun σ H' => σ = [some (.ref p), some (.int t), some (.int b), some (.int (dvs t b))] ∧ H' = H, ?_, ?_⟩
    · refine ⟨_, rfl, b, 0, rfl, rfl, _, rfl, ite2 (fun h0 => ?_) fun h0 => ?_⟩
      · have h0' : b < 0 := of_decide_eq_true h0
        refine ⟨_, rfl, _, rfl, ?_, rfl⟩
        unfold dvs
        rw [if_pos h0']
        rfl
      · have h0' : ¬ b < 0 := fun q => h0 (decide_eq_true q)
        refine ⟨?_, rfl⟩
        unfold dvs
        rw [if_neg h0']
        rfl
    · rintro σ H' ⟨rfl, rfl⟩
      have hz : CDivZ t (dvs t b) := cdivZ (dvs_ne hb) (Nat.lt_of_le_of_lt (dvs_le hb) hB)
      have hz2 : CDivZ b (dvs t b) := cdivZ (dvs_ne hb) (Nat.lt_of_le_of_lt (dvs_le hb) hB)
      refine ⟨_, rfl, _, rfl, t, _, rfl, rfl, hz, _, rfl, p, T.f_Ratio, dx, [], rfl, hp, T.cl_Ratio, T.na_Ratio_top, (by show 0 < 1000; decide), ?_⟩
      refine ⟨_, rfl, _, rfl, b, _, rfl, rfl, hz2, _, rfl, p, T.f_Ratio, dx, _, rfl, upd_same, T.cl_Ratio, T.na_Ratio_bottom, (by show 1 < 1000; decide), ?_⟩
      refine k _ ⟨dx, Eq.trans upd_same ?_⟩ fun a o e ha => by rw [upd_ne ha, upd_ne ha]; exact e
      show some (HO.ins T.f_Ratio dx (if ("_top" : Str) = "_bottom" then _ else _)) = _
      rw [if_neg (by decide +kernel)]
      rfl
/-- the properties -/
def spTop (C : Addr) : Sp := fun vs H Q _ => ∃ (p : Addr) (t b : Int), vs = [.ref p] ∧ RatAt C H p t b ∧ Q (.int t) H
def spBottom (C : Addr) : Sp := fun vs H Q _ => ∃ (p : Addr) (t b : Int), vs = [.ref p] ∧ RatAt C H p t b ∧ Q (.int b) H
def sgnI (t : Int) : Int := if t < 0 then -1 else if 0 < t then 1 else 0
def spSign (C : Addr) : Sp := fun vs H Q _ => ∃ (p : Addr) (t b : Int), vs = [.ref p] ∧ RatAt C H p t b ∧ Q (.int (sgnI t)) H
theorem ok_top (T : Txt K mg) : FnOk P w K mg base CX0 1 T.f_Ratio_top T.d_Ratio_top ["self"] (spTop T.f_Ratio) := by
  refine T.F_Ratio_top.ok sc_Ratio_top (fun vs H Q E h => ?_) (fun cdv A outer s H vs Q E hr h => ?_)
  · obtain ⟨p, t, b, rfl, _⟩ := h
    rfl
  · obtain ⟨p, t, b, rfl, ⟨dx, hp⟩, k⟩ := h
    refine ⟨_, (pss_one (ps_ret (pe_fld (pv 0) rfl))), ?_⟩
    exact ⟨_, rfl, p, T.f_Ratio, dx, _, _, rfl, hp, T.cl_Ratio, T.na_Ratio_top, rf_top _ _, k⟩
theorem ok_bottom (T : Txt K mg) : FnOk P w K mg base CX0 1 T.f_Ratio_bottom T.d_Ratio_bottom ["self"] (spBottom T.f_Ratio) := by
  refine T.F_Ratio_bottom.ok sc_Ratio_bottom (fun vs H Q E h => ?_) (fun cdv A outer s H vs Q E hr h => ?_)
  · obtain ⟨p, t, b, rfl, _⟩ := h
    rfl
  · obtain ⟨p, t, b, rfl, ⟨dx, hp⟩, k⟩ := h
    refine ⟨_, (pss_one (ps_ret (pe_fld (pv 0) rfl))), ?_⟩
    exact ⟨_, rfl, p, T.f_Ratio, dx, _, _, rfl, hp, T.cl_Ratio, T.na_Ratio_bottom, rf_bottom _ _, k⟩
end

section
variable {P : Program} {w : World} {K : PySem.W.Frag} {mg : Str → Option Value} {base : Heap}
theorem ok_sign (T : Txt K mg) : FnOk P w K mg base CX0 1 T.f_Ratio_sign T.d_Ratio_sign ["self"] (spSign T.f_Ratio) := by
  refine T.F_Ratio_sign.ok sc_Ratio_sign (fun vs H Q E h => ?_) (fun cdv A outer s H vs Q E hr h => ?_)
  · obtain ⟨p, t, b, rfl, _⟩ := h
    rfl
  · obtain ⟨p, t, b, rfl, ⟨dx, hp⟩, k⟩ := h
    refine ⟨_, (pss_cons (ps_if (pt_cmpR op_lt (pe_fld (pv 0) rfl) pe_int (nomark _))
      (pss_one (ps_ret (pe_un un_neg pe_int)))
      pss_nil)
    (pss_one (ps_ret (pe_ifExp (pt_cmpR op_gt (pe_fld (pv 0) rfl) pe_int (nomark _)) pe_int pe_int)))), ?_⟩
    refine ⟨_, rfl, p, T.f_Ratio, dx, _, _, rfl, hp, T.cl_Ratio, T.na_Ratio_top, rf_top _ _, t, 0, rfl, rfl, _, rfl, ite2 (fun h0 => ?_) fun h0 => ?_⟩
    · refine ⟨1, rfl, ?_⟩
      have e : sgnI t = -1 := if_pos (of_decide_eq_true h0)
      rw [e] at k
      exact k
    · have h0' : ¬ t < 0 := fun q => h0 (decide_eq_true q)
      refine ⟨_, rfl, p, T.f_Ratio, dx, _, _, rfl, hp, T.cl_Ratio, T.na_Ratio_top, rf_top _ _, t, 0, rfl, rfl, _, rfl, ite2 (fun h1 => ?_) fun h1 => ?_⟩
      · have e : sgnI t = 1 := (if_neg h0').trans (if_pos (of_decide_eq_true h1))
        rw [e] at k
        exact k
      · have e : sgnI t = 0 := (if_neg h0').trans (if_neg fun q => h1 (decide_eq_true q))
        rw [e] at k
        exact k
end

/-! ### texts of numbers and of ratios -/
def dec (n : Int) : Str := Str.ofString (toString n)
theorem tl_dec (n : Int) : TL.tl (dec n) = if n < 0 then 45 :: TL.numL n.natAbs else TL.numL n.natAbs := by
  cases n with
  | ofNat m => exact TL.tl_num m
  | negSucc m =>
    rw [if_pos (Int.negSucc_lt_zero m)]
    show TL.tl (Str.ofString ("-" ++ Nat.repr (m + 1))) = 45 :: TL.numL (m + 1)
    have h := TL.tl_num (m + 1)
    rw [TL.tl_ofString] at h ⊢
    rw [String.toList_append, List.map_append]
    have h' : (Nat.repr (m + 1)).toList.map Char.toNat = TL.numL (m + 1) := h
    rw [h']
    rfl
theorem dec_nn {n : Int} (h : ¬ n < 0) : TL.tl (dec n) = TL.numL n.natAbs := (tl_dec n).trans (if_neg h)
theorem dec_neg {n : Int} (h : n < 0) : TL.tl (dec n) = 45 :: TL.numL n.natAbs := (tl_dec n).trans (if_pos h)
theorem dec_len {n : Int} {k : Nat} (hk : 0 < k) (h : n.natAbs < 10 ^ k) : (dec n).length ≤ k + 1 := by
  rw [TL.len_tl, tl_dec]
  have := TL.numL_len hk h
  split
  · rw [List.length_cons]; omega
  · omega
/-- a number as it may stand before or behind a stroke -/
def numOk (l : List Nat) : Bool := decide (1 ≤ l.length ∧ l.length ≤ 9) && (!(decide (l.head? = some 48) && !decide (l = [48])) && l.all fun c => decide (48 ≤ c ∧ c ≤ 57))
def stripL : List Nat → List Nat
  | [] => []
  | c :: r => if c = 45 then r else c :: r
def negL (l : List Nat) : Bool := decide (l.head? = some 45)
def frontL (l : List Nat) : List Nat := (stripL l).takeWhile fun c => c != 47
def backL (l : List Nat) : List Nat := match (stripL l).dropWhile fun c => c != 47 with
  | [] => [49]
  | _ :: b => b
def goodL (l : List Nat) : Bool := numOk (frontL l) && (numOk (backL l) && !decide (backL l = [48]))
def topL (l : List Nat) : Int := if negL l then -((NumText.digitsVal (frontL l) : Nat) : Int) else ((NumText.digitsVal (frontL l) : Nat) : Int)
def botL (l : List Nat) : Int := ((NumText.digitsVal (backL l) : Nat) : Int)
theorem numOk_len {l : List Nat} (h : numOk l = true) : 1 ≤ l.length ∧ l.length ≤ 9 := of_decide_eq_true (Bool.and_eq_true_iff.mp h).1
theorem numOk_all {l : List Nat} (h : numOk l = true) : NumText.AllDigits l := fun c hc => of_decide_eq_true (List.all_eq_true.mp (Bool.and_eq_true_iff.mp (Bool.and_eq_true_iff.mp h).2).2 c hc)
theorem fold_ge (l : List Nat) : ∀ a : Nat, a ≤ l.foldl (fun acc c => acc * 10 + (c - 48)) a := by
  induction l with
  | nil => intro a; exact Nat.le_refl _
  | cons c r ih =>
    intro a
    have := ih (a * 10 + (c - 48))
    show a ≤ r.foldl _ (a * 10 + (c - 48))
    omega
theorem fold_lt (l : List Nat) (h : NumText.AllDigits l) : ∀ a : Nat, l.foldl (fun acc c => acc * 10 + (c - 48)) a < (a + 1) * 10 ^ l.length := by
  induction l with
  | nil => intro a; simp
  | cons c r ih =>
    intro a
    have hc := h.head
    have h1 := ih h.tail (a * 10 + (c - 48))
    show r.foldl _ (a * 10 + (c - 48)) < (a + 1) * 10 ^ (r.length + 1)
    have h2 : (a * 10 + (c - 48) + 1) * 10 ^ r.length ≤ ((a + 1) * 10) * 10 ^ r.length := Nat.mul_le_mul_right _ (by omega)
    have h3 : ((a + 1) * 10) * 10 ^ r.length = (a + 1) * 10 ^ (r.length + 1) := by rw [Nat.pow_succ, Nat.mul_assoc, Nat.mul_comm 10]
    omega
theorem val_lt {l : List Nat} (h : numOk l = true) : NumText.digitsVal l < 10 ^ 9 := by
  have h1 := fold_lt l (numOk_all h) 0
  have h2 : (0 + 1) * 10 ^ l.length ≤ 10 ^ 9 := by
    rw [Nat.zero_add, Nat.one_mul]
    exact Nat.pow_le_pow_right (by decide) (numOk_len h).2
  exact Nat.lt_of_lt_of_le h1 h2
theorem val_ne {l : List Nat} (h : numOk l = true) (h0 : l ≠ [48]) : NumText.digitsVal l ≠ 0 := by
  cases l with
  | nil => exact absurd (numOk_len h).1 (by decide)
  | cons c r =>
    have hc := (numOk_all h).head
    have h1 : c ≠ 48 := fun e => by
      have h2 := (Bool.and_eq_true_iff.mp (Bool.and_eq_true_iff.mp h).2).1
      rw [e, decide_eq_true (show (48 :: r).head? = some 48 from rfl), Bool.true_and, Bool.not_not] at h2
      exact h0 (by rw [e]; exact of_decide_eq_true h2)
    have h3 := fold_ge r (0 * 10 + (c - 48))
    show r.foldl _ (0 * 10 + (c - 48)) ≠ 0
    omega
theorem bot_ne {l : List Nat} (h : goodL l = true) : botL l ≠ 0 := by
  have h1 := (Bool.and_eq_true_iff.mp (Bool.and_eq_true_iff.mp h).2)
  have h2 : backL l ≠ [48] := by simpa using h1.2
  have := val_ne h1.1 h2
  unfold botL
  omega
theorem bot_big {l : List Nat} (h : goodL l = true) : BIG (botL l) := by
  have h1 := (Bool.and_eq_true_iff.mp (Bool.and_eq_true_iff.mp h).2)
  have := val_lt h1.1
  show (botL l).natAbs < 2 ^ 8000
  unfold botL
  rw [Int.natAbs_natCast]
  exact Nat.lt_of_lt_of_le this (by decide +kernel)
theorem reads {l : List Nat} (h : numOk l = true) : PySem.intText? ⟨l.toArray⟩ = some ((NumText.digitsVal l : Nat) : Int) := by
  have hl := numOk_len h
  have := PySem.intText_digits (x := ⟨l.toArray⟩) (by show NumText.AllDigits l; exact numOk_all h) (by show l ≠ []; intro e; rw [e] at hl; exact absurd hl.1 (by decide)) (by show l.toArray.size ≤ 4300; rw [List.size_toArray]; omega)
  exact this
/-! the text's methods -/
def dash : Str := "-"
def stroke : Str := "/"
theorem tl_dash : TL.tl dash = [45] := by decide +kernel
theorem tl_stroke : TL.tl stroke = [47] := by decide +kernel
theorem dash_eq : dash = ⟨#[45]⟩ := TL.ext_tl tl_dash
theorem strip_eq (z : Str) : Txt.removeprefix z dash = ⟨(stripL (TL.tl z)).toArray⟩ := by
  rw [← TL.mk_tl z, dash_eq]
  generalize TL.tl z = l
  cases l with
  | nil => rfl
  | cons c r =>
    unfold Txt.removeprefix stripL
    by_cases h : c = 45
    · subst h
      have e : Builtin.Str.subAt ⟨(45 :: r).toArray⟩ ⟨#[45]⟩ 0 = true := by
        show ((45 :: r).toArray.extract 0 (0 + 1) == #[45]) = true
        simp
      rw [e, if_pos rfl]
      show (if ((⟨(45 :: r).toArray⟩ : Str).length - 1 == (⟨(45 :: r).toArray⟩ : Str).length) = true then _ else _) = _
      rw [if_neg (by
        show ¬ (((45 :: r).toArray.size - 1 == (45 :: r).toArray.size) = true)
        rw [List.size_toArray, List.length_cons]
        simp)]
      refine TL.ext_tl ?_
      show TL.tl (Builtin.Str.strSub ⟨(45 :: r).toArray⟩ 1 (⟨(45 :: r).toArray⟩ : Str).length) = _
      rw [TL.tl_strSub_end]
      rfl
    · have e : Builtin.Str.subAt ⟨(c :: r).toArray⟩ ⟨#[45]⟩ 0 = false := by
        show ((c :: r).toArray.extract 0 (0 + 1) == #[45]) = false
        simp [h]
      rw [e, if_neg Bool.false_ne_true]
      show (⟨(c :: r).toArray⟩ : Str) = _
      simp [h]
theorem starts_eq (z : Str) : Txt.startswith z dash = negL (TL.tl z) := by
  rw [← TL.mk_tl z, dash_eq]
  generalize TL.tl z = l
  unfold Txt.startswith negL
  cases l with
  | nil => rfl
  | cons c r =>
    have e1 : decide (0 + (⟨#[45]⟩ : Str).length ≤ (⟨(c :: r).toArray⟩ : Str).length) = true := by
      refine decide_eq_true ?_
      show 0 + 1 ≤ (c :: r).toArray.size
      rw [List.size_toArray, List.length_cons]
      omega
    rw [e1, Bool.true_and]
    show ((c :: r).toArray.extract 0 (0 + 1) == #[45]) = decide (some c = some 45)
    by_cases h : c = 45
    · subst h; simp
    · simp [h]
theorem span_none {l : List Nat} (h : 47 ∉ l) : l.takeWhile (fun c => c != 47) = l ∧ l.dropWhile (fun c => c != 47) = [] := by
  induction l with
  | nil => exact ⟨rfl, rfl⟩
  | cons c r ih =>
    have h1 : c ≠ 47 := fun e => h (by rw [e]; exact List.mem_cons_self)
    have := ih fun q => h (List.mem_cons_of_mem _ q)
    rw [List.takeWhile_cons, List.dropWhile_cons]
    simp [h1, this]
theorem span_at {f b : List Nat} (h : 47 ∉ f) : (f ++ 47 :: b).takeWhile (fun c => c != 47) = f ∧ (f ++ 47 :: b).dropWhile (fun c => c != 47) = 47 :: b := by
  induction f with
  | nil => exact ⟨by simp, by simp⟩
  | cons c r ih =>
    have h1 : c ≠ 47 := fun e => h (by rw [e]; exact List.mem_cons_self)
    have := ih fun q => h (List.mem_cons_of_mem _ q)
    rw [List.cons_append, List.takeWhile_cons, List.dropWhile_cons]
    simp [h1, this]
/-- the text cut at its first stroke -/
theorem cut_eq (l : List Nat) : (∃ b, l.dropWhile (fun c => c != 47) = 47 :: b ∧ Txt.partition ⟨l.toArray⟩ stroke = (⟨(l.takeWhile fun c => c != 47).toArray⟩, stroke, ⟨b.toArray⟩)) ∨
    (l.dropWhile (fun c => c != 47) = [] ∧ l.takeWhile (fun c => c != 47) = l ∧ Txt.partition ⟨l.toArray⟩ stroke = (⟨l.toArray⟩, Str.empty, Str.empty)) := by
  by_cases h : 47 ∈ l
  · obtain ⟨f, b, e, hf⟩ : ∃ f b, l = f ++ 47 :: b ∧ 47 ∉ f := by
      induction l with
      | nil => cases h
      | cons c r ih =>
        by_cases hc : c = 47
        · exact ⟨[], r, by rw [hc]; rfl, by simp⟩
        · rcases List.mem_cons.mp h with h | h
          · exact absurd h.symm hc
          · obtain ⟨f, b, e, hf⟩ := ih h
            refine ⟨c :: f, b, by rw [e]; rfl, fun q => ?_⟩
            rcases List.mem_cons.mp q with q | q
            · exact hc q.symm
            · exact hf q
    obtain ⟨e1, e2⟩ := span_at (b := b) hf
    left
    refine ⟨b, by rw [e, e2], ?_⟩
    rw [e, e1]
    have e3 : (⟨(f ++ 47 :: b).toArray⟩ : Str) = ⟨f.toArray⟩ ++ stroke ++ ⟨b.toArray⟩ := TL.ext_tl (by rw [TL.tl_append, TL.tl_append, tl_stroke, List.append_assoc]; rfl)
    rw [e3]
    exact TL.partition_app tl_stroke hf
  · obtain ⟨e1, e2⟩ := span_none h
    exact .inr ⟨e2, e1, TL.partition_none tl_stroke h⟩
/-! a ratio's text -/
def ratText (t b : Int) : Str := if b = 1 then dec t else dec t ++ stroke ++ dec b
theorem numL_head {n : Nat} (h : (TL.numL n).head? = some 48) : TL.numL n = [48] := by
  induction n using Nat.strongRecOn with
  | _ n ih =>
    by_cases hn : n < 10
    · rw [TL.numL_lt hn] at h ⊢
      have : 48 + n = 48 := Option.some.inj h
      rw [this]
    · rw [TL.numL_step (by omega)] at h
      have h1 : (TL.numL (n / 10)).head? = some 48 := by
        cases e : TL.numL (n / 10) with
        | nil => exact absurd e (TL.numL_ne _)
        | cons c r =>
          rw [e] at h
          exact h
      have h2 := ih (n / 10) (by omega) h1
      have h3 := congrArg NumText.digitsVal h2
      rw [TL.numL_val] at h3
      have h4 : NumText.digitsVal [48] = 0 := rfl
      omega
theorem numOk_num {n : Nat} (h : n < 10 ^ 9) : numOk (TL.numL n) = true := by
  unfold numOk
  have h1 : 1 ≤ (TL.numL n).length ∧ (TL.numL n).length ≤ 9 := by
    refine ⟨?_, TL.numL_len (by decide) h⟩
    cases e : TL.numL n with
    | nil => exact absurd e (TL.numL_ne n)
    | cons c r => exact Nat.succ_pos _
  have h2 : (TL.numL n).all (fun c => decide (48 ≤ c ∧ c ≤ 57)) = true := List.all_eq_true.mpr fun c hc => decide_eq_true (TL.numL_digits n c hc)
  rw [decide_eq_true h1, h2, Bool.true_and, Bool.and_true]
  by_cases h3 : (TL.numL n).head? = some 48
  · rw [decide_eq_true (numL_head h3), Bool.not_true, Bool.and_false, Bool.not_false]
  · rw [decide_eq_false h3, Bool.false_and, Bool.not_false]
theorem num_no47 (n : Nat) : 47 ∉ TL.numL n := TL.numL_free (.inl (by decide))
theorem strip_num {n : Nat} {r : List Nat} : stripL (TL.numL n ++ r) = TL.numL n ++ r ∧ negL (TL.numL n ++ r) = false := by
  cases e : TL.numL n with
  | nil => exact absurd e (TL.numL_ne n)
  | cons c q =>
    have hc : c ≠ 45 := fun z => TL.numL_free (n := n) (s := 45) (.inl (by decide)) (by rw [e, z]; exact List.mem_cons_self)
    refine ⟨if_neg hc, decide_eq_false fun z => hc (Option.some.inj z)⟩
/-- the text of a ratio with small numbers is read back -/
theorem text_back {t b : Int} (ht : t.natAbs < 10 ^ 9) (hb0 : 0 < b) (hb : b.natAbs < 10 ^ 9) : goodL (TL.tl (ratText t b)) = true ∧ topL (TL.tl (ratText t b)) = t ∧ botL (TL.tl (ratText t b)) = b := by
  have key : ∀ r : List Nat, TL.tl (ratText t b) = TL.tl (dec t) ++ r → stripL (TL.tl (ratText t b)) = TL.numL t.natAbs ++ r ∧ negL (TL.tl (ratText t b)) = decide (t < 0) := by
    intro r e
    rw [e]
    by_cases h : t < 0
    · rw [dec_neg h, decide_eq_true h]
      exact ⟨rfl, rfl⟩
    · rw [dec_nn h, decide_eq_false h]
      exact strip_num
  have fin : frontL (TL.tl (ratText t b)) = TL.numL t.natAbs → backL (TL.tl (ratText t b)) = TL.numL b.natAbs → negL (TL.tl (ratText t b)) = decide (t < 0) → goodL (TL.tl (ratText t b)) = true ∧ topL (TL.tl (ratText t b)) = t ∧ botL (TL.tl (ratText t b)) = b := by
    intro e1 e2 e3
    refine ⟨?_, ?_, ?_⟩
    · unfold goodL
      rw [e1, e2, numOk_num ht, numOk_num hb, Bool.true_and, Bool.true_and]
      have : TL.numL b.natAbs ≠ [48] := fun q => by
        have := congrArg NumText.digitsVal q
        rw [TL.numL_val] at this
        have h4 : NumText.digitsVal [48] = 0 := rfl
        omega
      rw [decide_eq_false this, Bool.not_false]
    · unfold topL
      rw [e1, e3, TL.numL_val]
      by_cases h : t < 0
      · rw [decide_eq_true h, if_pos rfl]; omega
      · rw [decide_eq_false h, if_neg Bool.false_ne_true]; omega
    · unfold botL
      rw [e2, TL.numL_val]
      omega
  by_cases h1 : b = 1
  · have e : TL.tl (ratText t b) = TL.tl (dec t) ++ [] := by
      unfold ratText
      rw [if_pos h1, List.append_nil]
    obtain ⟨k1, k2⟩ := key [] e
    rw [List.append_nil] at k1
    obtain ⟨s1, s2⟩ := span_none (num_no47 t.natAbs)
    refine fin ?_ ?_ k2
    · unfold frontL
      rw [k1, s1]
    · unfold backL
      rw [k1, s2, h1]
      rfl
  · have e : TL.tl (ratText t b) = TL.tl (dec t) ++ (47 :: TL.numL b.natAbs) := by
      unfold ratText
      rw [if_neg h1, TL.tl_append, TL.tl_append, tl_stroke, dec_nn (n := b) (by omega), List.append_assoc]
      rfl
    obtain ⟨k1, k2⟩ := key _ e
    obtain ⟨s1, s2⟩ := span_at (b := TL.numL b.natAbs) (num_no47 t.natAbs)
    refine fin ?_ ?_ k2
    · unfold frontL
      rw [k1, s1]
    · unfold backL
      rw [k1, s2]
theorem ratText_len {t b : Int} (ht : t.natAbs < 10 ^ 64) (hb : b.natAbs < 10 ^ 64) : (ratText t b).length ≤ 200 := by
  have h1 := dec_len (by decide) ht
  have h2 := dec_len (by decide) hb
  unfold ratText
  split
  · omega
  · rw [TL.len_tl, TL.tl_append, TL.tl_append, tl_stroke, List.length_append, List.length_append, ← TL.len_tl, ← TL.len_tl]
    simp only [List.length_cons, List.length_nil]
    omega

/-! ### the functions on ratios -/
section
variable {P : Program} {w : World} {K : PySem.W.Frag} {mg : Str → Option Value} {base : Heap}
theorem made_rat {C : Addr} {H : Hp} {t b : Int} {Q : VK} {E : XK} (hb : b ≠ 0) (hB : BIG b) (k : ∀ x H', H x = none → Same H H' → RatAt C H' x (lowT t b) (lowB t b) → Q (.ref x) H') :
    ∀ x dx, H x = none → H dx = none → dx ≠ x → spInit C [.ref x, .int t, .int b] (upd (upd H dx (.own x)) x (.ins C dx [])) (fun v H2 => v = .non ∧ Q (.ref x) H2) E :=
  fun x dx nx nd _ => ⟨x, dx, t, b, rfl, upd_same, hb, hB, fun H' r st => ⟨rfl, k x H' nx (Same.made nx nd st) r⟩⟩
theorem low_one (t : Int) : lowT t 1 = t ∧ lowB t 1 = 1 := by
  have e : dvs t 1 = 1 := by
    unfold dvs
    rw [if_neg (by decide)]
    simp
  unfold lowT lowB
  rw [e]
  exact ⟨by rw [Int.fdiv_one], by decide⟩
theorem big_one : BIG 1 := by show (1 : Nat) < 2 ^ 8000; decide +kernel
theorem tyR {C : Addr} {H : Hp} {p : Addr} {t b : Int} (ic : C8.InsC K C) (r : RatAt C H p t b) : TyX K H (.ref p) (.ref C) := by
  obtain ⟨dx, hp⟩ := r
  exact .base (.ins hp ic.cl ic.ha ic.hn ic.htk ic.hm)
theorem abs_of (n : Int) : (if n < 0 then -n else n) = ((n.natAbs : Nat) : Int) := by split <;> omega
end

section
variable {P : Program} {w : World} {K : PySem.W.Frag} {mg : Str → Option Value} {base : Heap}
/-- _law_low -/
def spLow : Sp := fun vs H Q _ => ∃ t b : Int, vs = [.int t, .int b] ∧ b ≠ 0 ∧ BIG b ∧ ∀ p H', H p = none → Same H H' → H' p = some (.tup [.int (lowT t b), .int (lowB t b)]) → Q (.ref p) H'
theorem ok_low (T : Txt K mg) : FnOk P w K mg base CX0 1 T.f_low T.d_low ["_law_up", "_law_down"] spLow := by
  refine T.F_low.ok sc_low (fun vs H Q E h => ?_) (fun cdv A outer s H vs Q E hr h => ?_)
  · obtain ⟨t, b, rfl, _⟩ := h
    rfl
  · obtain ⟨t, b, rfl, hb, hB, k⟩ := h
    refine ⟨_, (pss_cons (ps_set (i := 2) sc_low.nd rfl (Or.inl rfl) (pe_callB call_abs (by rfl) T.n_abs (by decide +kernel) (pa_cons (pv 0) pa_nil)))
    (pss_cons (ps_set (i := 3) sc_low.nd rfl (Or.inl rfl) (pe_callB call_abs (by rfl) T.n_abs (by decide +kernel) (pa_cons (pv 1) pa_nil)))
    (C8.pss_cut (ps_while PassesOwn.never (pt_cmpR op_ne (pv 3) pe_int (nomark _))
      (pss_one (ps_par (i := 2) (j := 3) (by rfl) sc_low.nd rfl rfl (by decide) rfl rfl (pa_cons (pv 3) (pa_cons (pe_op op_mod (pe_callTy call_int1 (by rfl) T.n_int (by decide +kernel) (pa_cons (pv 2) pa_nil)) (pv 3)) pa_nil)) (by rfl))))
    (C8.pss_cut (ps_if (pt_cmpR op_lt (pv 1) pe_int (nomark _))
      (pss_one (ps_set (i := 2) sc_low.nd rfl (Or.inl rfl) (pe_un un_neg (pv 2))))
      pss_nil)
    (pss_one (ps_ret (pe_tup (pa_cons (pe_op op_fdivZ (pv 0) (pv 2)) (pa_cons (pe_op op_fdivZ (pv 1) (pv 2)) pa_nil))))))))), ?_⟩
    refine ⟨_, rfl, t, rfl, ?_⟩
    rw [abs_of]
    refine ⟨_, rfl, b, rfl, ?_⟩
    rw [abs_of]
    refine ⟨fun σ H' => σ = [some (.int t), some (.int b), some (.int ((Nat.gcd t.natAbs b.natAbs : Nat) : Int)), some (.int 0)] ∧ H' = H, ?_, ?_⟩
    · refine ⟨fun m σ H' => ∃ x y : Nat, σ = [some (.int t), some (.int b), some (.int (x : Int)), some (.int (y : Int))] ∧ H' = H ∧ Nat.gcd x y = Nat.gcd t.natAbs b.natAbs ∧ y = m, ⟨_, _, _, rfl, rfl, rfl, rfl⟩, ?_⟩
      rintro m σ H' ⟨x, y, rfl, rfl, hg, rfl⟩
      refine ⟨_, rfl, rfl, _, rfl, ?_⟩
      by_cases hy : y = 0
      · subst hy
        refine iteF ⟨?_, rfl⟩
        rw [Nat.gcd_zero_right] at hg
        rw [hg]
        rfl
      · have ey : (!decide (V.int (y : Int) = V.int 0)) = true := by
          rw [Bool.not_eq_true', decide_eq_false_iff_not]
          intro q
          injection q with q
          omega
        rw [ey]
        refine iteT ⟨fun σ' H2 => ∃ x' y' : Nat, σ' = [some (.int t), some (.int b), some (.int (x' : Int)), some (.int (y' : Int))] ∧ H2 = H' ∧ Nat.gcd x' y' = Nat.gcd t.natAbs b.natAbs ∧ y' < y, fun σ' H2 ⟨x', y', e1, e2, e3, e4⟩ => ⟨y', e4, x', y', e1, e2, e3, rfl⟩, ?_⟩
        refine ⟨_, rfl, _, rfl, .inl ⟨_, rfl, _, rfl, (x : Int), (y : Int), rfl, rfl, (by show (0 : Int) < (y : Int); omega), _, _, rfl, y, x % y, ?_, rfl, ?_, Nat.mod_lt _ (by omega)⟩⟩
        · rfl
        · rw [← hg, Nat.gcd_comm x y, Nat.gcd_rec y x, Nat.gcd_comm]
    rintro σ H' ⟨rfl, rfl⟩
    refine ⟨fun σ H2 => σ = [some (.int t), some (.int b), some (.int (dvs t b)), some (.int 0)] ∧ H2 = H', ?_, ?_⟩
    · refine ⟨_, rfl, b, 0, rfl, rfl, _, rfl, ite2 (fun h0 => ?_) fun h0 => ?_⟩
      · refine ⟨_, rfl, _, rfl, ?_, rfl⟩
        unfold dvs
        rw [if_pos (of_decide_eq_true h0)]
        rfl
      · refine ⟨?_, rfl⟩
        unfold dvs
        rw [if_neg fun q => h0 (decide_eq_true q)]
    rintro σ H2 ⟨rfl, rfl⟩
    have hz : ∀ i : Int, CDivZ i (dvs t b) := fun i => cdivZ (dvs_ne hb) (Nat.lt_of_le_of_lt (dvs_le hb) hB)
    exact ⟨_, rfl, _, rfl, t, _, rfl, rfl, hz _, _, rfl, _, rfl, b, _, rfl, rfl, hz _, (by show 2 ≤ sizeLine; decide), fun p hp => k p _ hp (same_upd hp) upd_same⟩
end

section
variable {P : Program} {w : World} {K : PySem.W.Frag} {mg : Str → Option Value} {base : Heap}
def dat2 (t b : Int) : PyData := .tuple [.int t, .int b]
theorem dp2 {H : Hp} {q : Addr} {t b : Int} (h : H q = some (.tup [.int t, .int b])) : Dp K H (.ref q) (dat2 t b) := .tup (SqT.of h) (.cons (.int _) (.cons (.int _) .nil))
theorem sh2 (t b : Int) : SeqAt.shaped (dat2 t b) = true := by simp [dat2, SeqAt.shaped, PyData.canLay0, PyData.canLayAll0, PyData.depth, PyData.depthAll]
theorem eq2 (t b : Int) : PyData.eqv (dat2 t b) (dat2 t b) = true := by simp [dat2, PyData.eqv, PyData.eqvAll]
/-- _law_is, where it holds -/
def spIs (C : Addr) : Sp := fun vs H Q _ => ∃ (p q : Addr) (t b : Int), vs = [.ref p, .ref q] ∧ RatAt C H p t b ∧ H q = some (.tup [.int t, .int b]) ∧ ∀ H', Same H H' → Q (.bl true) H'
theorem ok_is (T : Txt K mg) : FnOk P w K mg base CX0 3 T.f_is T.d_is ["_law_actual", "_law_pair"] (spIs T.f_Ratio) := by
  have G_Ratio_top : FnOk P w K mg base CX0 1 T.f_Ratio_top T.d_Ratio_top ["self"] (spTop T.f_Ratio) := ok_top T
  have G_Ratio_bottom : FnOk P w K mg base CX0 1 T.f_Ratio_bottom T.d_Ratio_bottom ["self"] (spBottom T.f_Ratio) := ok_bottom T
  refine T.F_is.ok sc_is (fun vs H Q E h => ?_) (fun cdv A outer s H vs Q E hr h => ?_)
  · obtain ⟨p, q, t, b, rfl, _⟩ := h
    rfl
  · obtain ⟨p, q, t, b, rfl, r, hq, k⟩ := h
    obtain ⟨dx, hp⟩ := id r
    refine ⟨_, (pss_cons (ps_if (PW.pt (pw_or (pt_not (pt_val (pe_callB call_isi (by rfl) T.n_isinstance (by decide +kernel) (pa_cons (pv 0) (pa_cons (pe_glob (v := .ref T.f_Ratio) rfl T.m_Ratio rfl) pa_nil))))) (pw_or (pt_not (pt_val (pe_callB call_isi (by rfl) T.n_isinstance (by decide +kernel) (pa_cons (pe_prop (pv 0) T.cl_Ratio T.p_Ratio_top G_Ratio_top (hr.mono (by decide)) T.b_Ratio_top .nil pass0 rfl) (pa_cons (pe_bltn (v := .ty "int") (u := .type "int") (by rfl) T.n_int (by decide +kernel) rfl) pa_nil))))) (pw_or1 (pt_not (pt_val (pe_callB call_isi (by rfl) T.n_isinstance (by decide +kernel) (pa_cons (pe_prop (pv 0) T.cl_Ratio T.p_Ratio_bottom G_Ratio_bottom (hr.mono (by decide)) T.b_Ratio_bottom .nil pass0 rfl) (pa_cons (pe_bltn (v := .ty "int") (u := .type "int") (by rfl) T.n_int (by decide +kernel) rfl) pa_nil)))))))))
      (pss_one (ps_ret pe_bl))
      pss_nil)
    (pss_one (ps_ret (pe_cmpR (op_eqD hr.units) (pe_tup (pa_cons (pe_prop (pv 0) T.cl_Ratio T.p_Ratio_top G_Ratio_top (hr.mono (by decide)) T.b_Ratio_top .nil pass0 rfl) (pa_cons (pe_prop (pv 0) T.cl_Ratio T.p_Ratio_bottom G_Ratio_bottom (hr.mono (by decide)) T.b_Ratio_bottom .nil pass0 rfl) pa_nil))) (pv 1) (nomark _))))), ?_⟩
    refine ⟨_, rfl, .ref p, .ref T.f_Ratio, .ref T.f_Ratio, .ref T.f_Ratio, true, rfl, .own _, tyR T.ic_Ratio r, kit_self, true, rfl, iteF ?_⟩
    refine ⟨_, rfl, p, dx, _, rfl, hp, p, t, b, rfl, r, .int t, .ty "int", .type "int", .type "int", true, rfl, .ty _, .base (.int _), kit_ty (by decide +kernel), true, rfl, iteF ?_⟩
    refine ⟨_, rfl, p, dx, _, rfl, hp, p, t, b, rfl, r, .int b, .ty "int", .type "int", .type "int", true, rfl, .ty _, .base (.int _), kit_ty (by decide +kernel), true, rfl, iteF ?_⟩
    refine ⟨_, rfl, p, dx, _, rfl, hp, p, t, b, rfl, r, _, rfl, p, dx, _, rfl, hp, p, t, b, rfl, r, (by show 2 ≤ sizeLine; decide), fun o ho => ?_⟩
    refine ⟨_, rfl, dat2 t b, dat2 t b, dp2 upd_same, dp2 (same_upd ho _ _ hq), sh2 t b, sh2 t b, ?_⟩
    rw [eq2]
    exact k _ (same_upd ho)
end

/-! ### lowest terms -/
theorem dvs_abs (t b : Int) : (dvs t b).natAbs = Nat.gcd t.natAbs b.natAbs := by
  unfold dvs
  split <;> omega
theorem dvs_dvd_t (t b : Int) : dvs t b ∣ t := Int.natAbs_dvd_natAbs.mp (by rw [dvs_abs]; exact Nat.gcd_dvd_left _ _)
theorem dvs_dvd_b (t b : Int) : dvs t b ∣ b := Int.natAbs_dvd_natAbs.mp (by rw [dvs_abs]; exact Nat.gcd_dvd_right _ _)
theorem fdiv_mul {a d : Int} (h : d ∣ a) : a.fdiv d * d = a := by
  obtain ⟨c, rfl⟩ := h
  by_cases hd : d = 0
  · subst hd; simp
  · rw [Int.mul_comm d c, Int.mul_fdiv_cancel _ hd]
theorem lowT_mul (t b : Int) : lowT t b * dvs t b = t := fdiv_mul (dvs_dvd_t t b)
theorem lowB_mul (t b : Int) : lowB t b * dvs t b = b := fdiv_mul (dvs_dvd_b t b)
theorem lowT_le {t b : Int} (h : b ≠ 0) : (lowT t b).natAbs ≤ t.natAbs := by
  have e := congrArg Int.natAbs (lowT_mul t b)
  rw [Int.natAbs_mul] at e
  have hd : 0 < (dvs t b).natAbs := by have := dvs_ne (t := t) h; omega
  rw [← e]
  exact Nat.le_mul_of_pos_right _ hd
theorem lowB_le {t b : Int} (h : b ≠ 0) : (lowB t b).natAbs ≤ b.natAbs := by
  have e := congrArg Int.natAbs (lowB_mul t b)
  rw [Int.natAbs_mul] at e
  have hd : 0 < (dvs t b).natAbs := by have := dvs_ne (t := t) h; omega
  rw [← e]
  exact Nat.le_mul_of_pos_right _ hd
theorem lowB_pos {t b : Int} (h : b ≠ 0) : 0 < lowB t b := by
  have e := lowB_mul t b
  have hg : 0 < Nat.gcd t.natAbs b.natAbs := Nat.gcd_pos_of_pos_right _ (by omega)
  by_cases hb : b < 0
  · have hd : dvs t b < 0 := by unfold dvs; rw [if_pos hb]; omega
    rcases Int.lt_trichotomy (lowB t b) 0 with q | q | q
    · have : 0 < lowB t b * dvs t b := Int.mul_pos_of_neg_of_neg q hd
      omega
    · rw [q, Int.zero_mul] at e; omega
    · exact q
  · have hd : 0 < dvs t b := by unfold dvs; rw [if_neg hb]; omega
    rcases Int.lt_trichotomy (lowB t b) 0 with q | q | q
    · have : lowB t b * dvs t b < 0 := Int.mul_neg_of_neg_of_pos q hd
      omega
    · rw [q, Int.zero_mul] at e; omega
    · exact q
theorem low_gcd {t b : Int} (h : b ≠ 0) : Nat.gcd (lowT t b).natAbs (lowB t b).natAbs = 1 := by
  have e1 := congrArg Int.natAbs (lowT_mul t b)
  have e2 := congrArg Int.natAbs (lowB_mul t b)
  rw [Int.natAbs_mul, dvs_abs] at e1 e2
  have hg : 0 < Nat.gcd t.natAbs b.natAbs := Nat.gcd_pos_of_pos_right _ (by omega)
  have e3 : Nat.gcd (lowT t b).natAbs (lowB t b).natAbs * Nat.gcd t.natAbs b.natAbs = 1 * Nat.gcd t.natAbs b.natAbs := by
    rw [← Nat.gcd_mul_right, e1, e2, Nat.one_mul]
  exact Nat.eq_of_mul_eq_mul_right hg e3
theorem low_same {t b : Int} (hb : 0 < b) (hg : Nat.gcd t.natAbs b.natAbs = 1) : lowT t b = t ∧ lowB t b = b := by
  have e : dvs t b = 1 := by
    unfold dvs
    rw [if_neg (by omega), hg]
    rfl
  unfold lowT lowB
  rw [e, Int.fdiv_one, Int.fdiv_one]
  exact ⟨rfl, rfl⟩
theorem low_low {t b : Int} (h : b ≠ 0) : lowT (lowT t b) (lowB t b) = lowT t b ∧ lowB (lowT t b) (lowB t b) = lowB t b := low_same (lowB_pos h) (low_gcd h)

/-! ### sums, products, differences -/
section
variable {P : Program} {w : World} {K : PySem.W.Frag} {mg : Str → Option Value} {base : Heap}
def Low (t b : Int) : Prop := 0 < b ∧ Nat.gcd t.natAbs b.natAbs = 1
theorem Low.of {t b : Int} (h : b ≠ 0) : Low (lowT t b) (lowB t b) := ⟨lowB_pos h, low_gcd h⟩
theorem Low.neg {t b : Int} (h : Low t b) : Low (-t) b := ⟨h.1, by rw [Int.natAbs_neg]; exact h.2⟩
theorem Low.one (t : Int) : Low t 1 := ⟨by decide, by simp⟩
theorem Low.ne {t b : Int} (h : Low t b) : b ≠ 0 := by have := h.1; omega
theorem Low.tt {t b : Int} (h : Low t b) : lowT t b = t := (low_same h.1 h.2).1
theorem Low.bb {t b : Int} (h : Low t b) : lowB t b = b := (low_same h.1 h.2).2
theorem dvs_scale {k t b : Int} (hk : k ≠ 0) (hb : b ≠ 0) : dvs (k * t) (k * b) = k * dvs t b := by
  have eg : Nat.gcd (k * t).natAbs (k * b).natAbs = k.natAbs * Nat.gcd t.natAbs b.natAbs := by rw [Int.natAbs_mul, Int.natAbs_mul, Nat.gcd_mul_left]
  unfold dvs
  rw [eg, Int.natCast_mul]
  generalize ((Nat.gcd t.natAbs b.natAbs : Nat) : Int) = g
  rcases Int.lt_or_gt_of_ne hk with q | q <;> rcases Int.lt_or_gt_of_ne hb with r | r
  · have : 0 < k * b := Int.mul_pos_of_neg_of_neg q r
    rw [if_neg (by omega), if_pos r, show ((k.natAbs : Nat) : Int) = -k by omega, Int.neg_mul, Int.mul_neg]
  · have : k * b < 0 := Int.mul_neg_of_neg_of_pos q r
    rw [if_pos this, if_neg (by omega), show ((k.natAbs : Nat) : Int) = -k by omega, Int.neg_mul, Int.neg_neg]
  · have : k * b < 0 := Int.mul_neg_of_pos_of_neg q r
    rw [if_pos this, if_pos r, show ((k.natAbs : Nat) : Int) = k by omega, Int.mul_neg]
  · have : 0 < k * b := Int.mul_pos q r
    rw [if_neg (by omega), if_neg (by omega), show ((k.natAbs : Nat) : Int) = k by omega]
theorem fdiv_scale {k a d : Int} (hk : k ≠ 0) (hd : d ≠ 0) (h : d ∣ a) : (k * a).fdiv (k * d) = a.fdiv d := by
  obtain ⟨c, rfl⟩ := h
  have e : k * (d * c) = c * (k * d) := by rw [Int.mul_comm c, Int.mul_assoc]
  rw [e, Int.mul_fdiv_cancel _ (Int.mul_ne_zero hk hd), Int.mul_comm d c, Int.mul_fdiv_cancel _ hd]
theorem low_scale {k t b : Int} (hk : k ≠ 0) (hb : b ≠ 0) : lowT (k * t) (k * b) = lowT t b ∧ lowB (k * t) (k * b) = lowB t b := by
  unfold lowT lowB
  rw [dvs_scale hk hb]
  exact ⟨fdiv_scale hk (dvs_ne hb) (dvs_dvd_t t b), fdiv_scale hk (dvs_ne hb) (dvs_dvd_b t b)⟩
/-- divided by x / y, that is, times the lowest terms of y / x -/
theorem low_over {t b x y : Int} (hy : y ≠ 0) (hb : b ≠ 0) : lowT (t * x) (b * y) = lowT (t * lowT x y) (b * lowB x y) ∧ lowB (t * x) (b * y) = lowB (t * lowT x y) (b * lowB x y) := by
  have h := low_scale (k := dvs x y) (t := t * lowT x y) (b := b * lowB x y) (dvs_ne hy) (Int.mul_ne_zero hb (by have := lowB_pos (t := x) hy; omega))
  have e1 : dvs x y * (t * lowT x y) = t * x := by rw [Int.mul_comm, Int.mul_assoc, lowT_mul]
  have e2 : dvs x y * (b * lowB x y) = b * y := by rw [Int.mul_comm, Int.mul_assoc, lowB_mul]
  rw [e1, e2] at h
  exact h
def SM (z : Int) : Prop := z.natAbs < 2 ^ 3900
theorem sm_mul {a b : Int} (ha : SM a) (hb : SM b) : CMulW a b := wide_mul (a := 3900) (b := 3900) ha hb (by decide) (by decide) (by decide)
theorem big_mul {a b : Int} (ha : SM a) (hb : SM b) : BIG (a * b) := by
  show (a * b).natAbs < 2 ^ 8000
  rw [Int.natAbs_mul]
  exact Nat.lt_of_le_of_lt (Nat.mul_le_mul (Nat.le_of_lt ha) (Nat.le_of_lt hb)) (by decide +kernel)
theorem SM.big {a : Int} (h : SM a) : BIG a := Nat.lt_of_lt_of_le h (by decide +kernel)
theorem SM.neg {a : Int} (h : SM a) : SM (-a) := by unfold SM; rw [Int.natAbs_neg]; exact h
theorem sm_one : SM 1 := by show (1 : Nat) < 2 ^ 3900; decide +kernel
/-- a ratio, or an int as one -/
def Num (C : Addr) (H : Hp) (v : V) (t b : Int) : Prop := (v = .int t ∧ b = 1) ∨ ∃ p, v = .ref p ∧ RatAt C H p t b
theorem RatAt.on {C : Addr} {H H' : Hp} {p : Addr} {t b : Int} (r : RatAt C H p t b) (s : Same H H') : RatAt C H' p t b := let ⟨dx, h⟩ := r; ⟨dx, s _ _ h⟩
theorem Num.on {C : Addr} {H H' : Hp} {v : V} {t b : Int} (n : Num C H v t b) (s : Same H H') : Num C H' v t b := n.elim .inl fun ⟨p, e, r⟩ => .inr ⟨p, e, r.on s⟩
def spNum (C : Addr) : Sp := fun vs H Q _ => ∃ (v : V) (t b : Int), vs = [v] ∧ Num C H v t b ∧ ∀ p H', Same H H' → RatAt C H' p t b → Q (.ref p) H'
theorem ok_asN (T : Txt K mg) : FnOk P w K mg base CX0 3 T.f_as_ratio T.d_as_ratio ["value"] (spNum T.f_Ratio) := by
  have G_Ratio_init : FnOk P w K mg base CX0 1 T.f_Ratio_init T.d_Ratio_init ["self", "top", "bottom"] (spInit T.f_Ratio) := ok_init T
  refine T.F_as_ratio.ok sc_as_ratio (fun vs H Q E h => ?_) (fun cdv A outer s H vs Q E hr h => ?_)
  · obtain ⟨v, t, b, rfl, _⟩ := h
    rfl
  · obtain ⟨v, t, b, rfl, n, k⟩ := h
    refine ⟨_, (pss_cons (ps_if (pt_val (pe_callB call_isi (by rfl) T.n_isinstance (by decide +kernel) (pa_cons (pv 0) (pa_cons (pe_glob (v := .ref T.f_Ratio) rfl T.m_Ratio rfl) pa_nil))))
      (pss_one (ps_ret (pv 0)))
      pss_nil)
    (pss_one (ps_ret (pe_make T.mk_Ratio G_Ratio_init (hr.mono (by decide)) rfl T.m_Ratio T.b1_Ratio_init T.v1_Ratio_init pass0 (pa_cons (pv 0) pa_nil))))), ?_⟩
    rcases n with ⟨rfl, rfl⟩ | ⟨p, rfl, r⟩
    · refine ⟨_, rfl, .int t, .ref T.f_Ratio, .type "int", .ref T.f_Ratio, false, rfl, .own _, .base (.int _), T.ki_Ratio_int, false, rfl, iteF ?_⟩
      refine ⟨_, rfl, made_rat (by decide) big_one fun x H' nx sm r => ?_⟩
      rw [(low_one t).1, (low_one t).2] at r
      exact k x H' sm r
    · exact ⟨_, rfl, .ref p, .ref T.f_Ratio, .ref T.f_Ratio, .ref T.f_Ratio, true, rfl, .own _, tyR T.ic_Ratio r, kit_self, true, rfl, iteT ⟨_, rfl, k p H (Same.refl H) r⟩⟩
/-- a new ratio, in lowest terms -/
def Res (C : Addr) (H : Hp) (x y : Int) (Q : VK) : Prop := ∀ q H', H q = none → Same H H' → RatAt C H' q (lowT x y) (lowB x y) → Q (.ref q) H'
def spAdd (C : Addr) : Sp := fun vs H Q _ => ∃ (p : Addr) (y : V) (t b t' b' : Int), vs = [.ref p, y] ∧ RatAt C H p t b ∧ Num C H y t' b' ∧ SM t ∧ SM b ∧ SM t' ∧ SM b' ∧ b ≠ 0 ∧ b' ≠ 0 ∧ Res C H (t * b' + t' * b) (b * b') Q
def spMul (C : Addr) : Sp := fun vs H Q _ => ∃ (p : Addr) (y : V) (t b t' b' : Int), vs = [.ref p, y] ∧ RatAt C H p t b ∧ Num C H y t' b' ∧ SM t ∧ SM b ∧ SM t' ∧ SM b' ∧ b ≠ 0 ∧ b' ≠ 0 ∧ Res C H (t * t') (b * b') Q
def spOver (C : Addr) : Sp := fun vs H Q _ => ∃ (p : Addr) (y : V) (t b t' b' : Int), vs = [.ref p, y] ∧ RatAt C H p t b ∧ Num C H y t' b' ∧ SM t ∧ SM b ∧ SM t' ∧ SM b' ∧ b ≠ 0 ∧ t' ≠ 0 ∧ Res C H (t * b') (b * t') Q
def spBelow (C : Addr) : Sp := fun vs H Q _ => ∃ (p : Addr) (y : V) (t b t' b' : Int), vs = [.ref p, y] ∧ RatAt C H p t b ∧ Num C H y t' b' ∧ SM t ∧ SM b ∧ SM t' ∧ SM b' ∧ ∀ H', Same H H' → Q (.bl (decide (t * b' < t' * b))) H'
def spNeg (C : Addr) : Sp := fun vs H Q _ => ∃ (p : Addr) (t b : Int), vs = [.ref p] ∧ RatAt C H p t b ∧ Low t b ∧ SM b ∧ ∀ q H', H q = none → Same H H' → RatAt C H' q (-t) b → Q (.ref q) H'
def spEqB (C : Addr) : Sp := fun vs H Q _ => ∃ (p q : Addr) (t b t' b' : Int), vs = [.ref p, .ref q] ∧ RatAt C H p t b ∧ RatAt C H q t' b' ∧ Q (.bl (decide (t = t' ∧ b = b'))) H
end

section
variable {P : Program} {w : World} {K : PySem.W.Frag} {mg : Str → Option Value} {base : Heap}
theorem ok_add (T : Txt K mg) : FnOk P w K mg base CX0 4 T.f_Ratio_add T.d_Ratio_add ["self", "other"] (spAdd T.f_Ratio) := by
  have G_Ratio_init : FnOk P w K mg base CX0 1 T.f_Ratio_init T.d_Ratio_init ["self", "top", "bottom"] (spInit T.f_Ratio) := ok_init T
  have G_Ratio_top : FnOk P w K mg base CX0 1 T.f_Ratio_top T.d_Ratio_top ["self"] (spTop T.f_Ratio) := ok_top T
  have G_Ratio_bottom : FnOk P w K mg base CX0 1 T.f_Ratio_bottom T.d_Ratio_bottom ["self"] (spBottom T.f_Ratio) := ok_bottom T
  have G_as_ratio : FnOk P w K mg base CX0 3 T.f_as_ratio T.d_as_ratio ["value"] (spNum T.f_Ratio) := ok_asN T
  refine T.F_Ratio_add.ok sc_Ratio_add (fun vs H Q E h => ?_) (fun cdv A outer s H vs Q E hr h => ?_)
  · obtain ⟨p, y, t, b, t', b', rfl, _⟩ := h
    rfl
  · obtain ⟨p, y, t, b, t', b', rfl, r, n, ht, hb, ht', hb', h0, h0', k⟩ := h
    refine ⟨_, (pss_cons (ps_set (i := 2) sc_Ratio_add.nd rfl (Or.inl rfl) (pe_call G_as_ratio (hr.mono (by decide)) rfl T.m_as_ratio T.F_as_ratio.kp T.b_as_ratio .nil pass0 (pa_cons (pv 1) pa_nil)))
    (pss_cons (ps_set (i := 3) sc_Ratio_add.nd rfl (Or.inl rfl) (pe_op op_add (pe_op op_mulW (pe_fld (pv 0) rfl) (pe_prop (pv 2) T.cl_Ratio T.p_Ratio_bottom G_Ratio_bottom (hr.mono (by decide)) T.b_Ratio_bottom .nil pass0 rfl)) (pe_op op_mulW (pe_prop (pv 2) T.cl_Ratio T.p_Ratio_top G_Ratio_top (hr.mono (by decide)) T.b_Ratio_top .nil pass0 rfl) (pe_fld (pv 0) rfl))))
    (pss_one (ps_ret (pe_make T.mk_Ratio G_Ratio_init (hr.mono (by decide)) rfl T.m_Ratio T.b2_Ratio_init T.v2_Ratio_init pass0 (pa_cons (pv 3) (pa_cons (pe_op op_mulW (pe_fld (pv 0) rfl) (pe_prop (pv 2) T.cl_Ratio T.p_Ratio_bottom G_Ratio_bottom (hr.mono (by decide)) T.b_Ratio_bottom .nil pass0 rfl)) pa_nil))))))), ?_⟩
    refine ⟨_, rfl, y, t', b', rfl, n, fun p' H1 s1 r1 => ?_⟩
    obtain ⟨dx, hp⟩ := r.on s1
    obtain ⟨dx', hp'⟩ := id r1
    refine ⟨_, rfl, p, T.f_Ratio, dx, _, _, rfl, hp, T.cl_Ratio, T.na_Ratio_top, rf_top _ _, _, rfl, p', dx', _, rfl, hp', p', t', b', rfl, r1, _, _, rfl, rfl, sm_mul ht hb', ?_⟩
    refine ⟨_, rfl, p', dx', _, rfl, hp', p', t', b', rfl, r1, _, rfl, p, T.f_Ratio, dx, _, _, rfl, hp, T.cl_Ratio, T.na_Ratio_bottom, rf_bottom _ _, _, _, rfl, rfl, sm_mul ht' hb, _, _, rfl, rfl, ?_⟩
    refine ⟨_, rfl, _, rfl, p, T.f_Ratio, dx, _, _, rfl, hp, T.cl_Ratio, T.na_Ratio_bottom, rf_bottom _ _, _, rfl, p', dx', _, rfl, hp', p', t', b', rfl, r1, _, _, rfl, rfl, sm_mul hb hb', ?_⟩
    exact made_rat (Int.mul_ne_zero h0 h0') (big_mul hb hb') fun q H' nq sq rq => k q H' (s1.free nq) (s1.trans sq) rq
end

section
variable {P : Program} {w : World} {K : PySem.W.Frag} {mg : Str → Option Value} {base : Heap}
theorem ok_mul (T : Txt K mg) : FnOk P w K mg base CX0 4 T.f_Ratio_mul T.d_Ratio_mul ["self", "other"] (spMul T.f_Ratio) := by
  have G_Ratio_init : FnOk P w K mg base CX0 1 T.f_Ratio_init T.d_Ratio_init ["self", "top", "bottom"] (spInit T.f_Ratio) := ok_init T
  have G_Ratio_top : FnOk P w K mg base CX0 1 T.f_Ratio_top T.d_Ratio_top ["self"] (spTop T.f_Ratio) := ok_top T
  have G_Ratio_bottom : FnOk P w K mg base CX0 1 T.f_Ratio_bottom T.d_Ratio_bottom ["self"] (spBottom T.f_Ratio) := ok_bottom T
  have G_as_ratio : FnOk P w K mg base CX0 3 T.f_as_ratio T.d_as_ratio ["value"] (spNum T.f_Ratio) := ok_asN T
  refine T.F_Ratio_mul.ok sc_Ratio_mul (fun vs H Q E h => ?_) (fun cdv A outer s H vs Q E hr h => ?_)
  · obtain ⟨p, y, t, b, t', b', rfl, _⟩ := h
    rfl
  · obtain ⟨p, y, t, b, t', b', rfl, r, n, ht, hb, ht', hb', h0, h0', k⟩ := h
    refine ⟨_, (pss_cons (ps_set (i := 2) sc_Ratio_mul.nd rfl (Or.inl rfl) (pe_call G_as_ratio (hr.mono (by decide)) rfl T.m_as_ratio T.F_as_ratio.kp T.b_as_ratio .nil pass0 (pa_cons (pv 1) pa_nil)))
    (pss_one (ps_ret (pe_make T.mk_Ratio G_Ratio_init (hr.mono (by decide)) rfl T.m_Ratio T.b2_Ratio_init T.v2_Ratio_init pass0 (pa_cons (pe_op op_mulW (pe_fld (pv 0) rfl) (pe_prop (pv 2) T.cl_Ratio T.p_Ratio_top G_Ratio_top (hr.mono (by decide)) T.b_Ratio_top .nil pass0 rfl)) (pa_cons (pe_op op_mulW (pe_fld (pv 0) rfl) (pe_prop (pv 2) T.cl_Ratio T.p_Ratio_bottom G_Ratio_bottom (hr.mono (by decide)) T.b_Ratio_bottom .nil pass0 rfl)) pa_nil)))))), ?_⟩
    refine ⟨_, rfl, y, t', b', rfl, n, fun p' H1 s1 r1 => ?_⟩
    obtain ⟨dx, hp⟩ := r.on s1
    obtain ⟨dx', hp'⟩ := id r1
    refine ⟨_, rfl, p, T.f_Ratio, dx, _, _, rfl, hp, T.cl_Ratio, T.na_Ratio_top, rf_top _ _, _, rfl, p', dx', _, rfl, hp', p', t', b', rfl, r1, _, _, rfl, rfl, sm_mul ht ht', ?_⟩
    refine ⟨_, rfl, p, T.f_Ratio, dx, _, _, rfl, hp, T.cl_Ratio, T.na_Ratio_bottom, rf_bottom _ _, _, rfl, p', dx', _, rfl, hp', p', t', b', rfl, r1, _, _, rfl, rfl, sm_mul hb hb', ?_⟩
    exact made_rat (Int.mul_ne_zero h0 h0') (big_mul hb hb') fun q H' nq sq rq => k q H' (s1.free nq) (s1.trans sq) rq
end

section
variable {P : Program} {w : World} {K : PySem.W.Frag} {mg : Str → Option Value} {base : Heap}
theorem ok_over (T : Txt K mg) : FnOk P w K mg base CX0 4 T.f_Ratio_over T.d_Ratio_over ["self", "value"] (spOver T.f_Ratio) := by
  have G_Ratio_init : FnOk P w K mg base CX0 1 T.f_Ratio_init T.d_Ratio_init ["self", "top", "bottom"] (spInit T.f_Ratio) := ok_init T
  have G_Ratio_top : FnOk P w K mg base CX0 1 T.f_Ratio_top T.d_Ratio_top ["self"] (spTop T.f_Ratio) := ok_top T
  have G_Ratio_bottom : FnOk P w K mg base CX0 1 T.f_Ratio_bottom T.d_Ratio_bottom ["self"] (spBottom T.f_Ratio) := ok_bottom T
  have G_as_ratio : FnOk P w K mg base CX0 3 T.f_as_ratio T.d_as_ratio ["value"] (spNum T.f_Ratio) := ok_asN T
  refine T.F_Ratio_over.ok sc_Ratio_over (fun vs H Q E h => ?_) (fun cdv A outer s H vs Q E hr h => ?_)
  · obtain ⟨p, y, t, b, t', b', rfl, _⟩ := h
    rfl
  · obtain ⟨p, y, t, b, t', b', rfl, r, n, ht, hb, ht', hb', h0, h0', k⟩ := h
    refine ⟨_, PSs.nox (pss_cons (ps_set (i := 2) sc_Ratio_over.nd rfl (Or.inl rfl) (pe_call G_as_ratio (hr.mono (by decide)) rfl T.m_as_ratio T.F_as_ratio.kp T.b_as_ratio .nil pass0 (pa_cons (pv 1) pa_nil)))
    (pss_cons (ps_if (pt_cmpR op_eq (pe_prop (pv 2) T.cl_Ratio T.p_Ratio_top G_Ratio_top (hr.mono (by decide)) T.b_Ratio_top .nil pass0 rfl) pe_int (nomark _))
      (pss_one ps_never)
      pss_nil)
    (pss_one (ps_ret (pe_make T.mk_Ratio G_Ratio_init (hr.mono (by decide)) rfl T.m_Ratio T.b2_Ratio_init T.v2_Ratio_init pass0 (pa_cons (pe_op op_mulW (pe_fld (pv 0) rfl) (pe_prop (pv 2) T.cl_Ratio T.p_Ratio_bottom G_Ratio_bottom (hr.mono (by decide)) T.b_Ratio_bottom .nil pass0 rfl)) (pa_cons (pe_op op_mulW (pe_fld (pv 0) rfl) (pe_prop (pv 2) T.cl_Ratio T.p_Ratio_top G_Ratio_top (hr.mono (by decide)) T.b_Ratio_top .nil pass0 rfl)) pa_nil))))))), ?_⟩
    refine ⟨_, rfl, y, t', b', rfl, n, fun p' H1 s1 r1 => ?_⟩
    obtain ⟨dx, hp⟩ := r.on s1
    obtain ⟨dx', hp'⟩ := id r1
    refine ⟨_, rfl, p', dx', _, rfl, hp', p', t', b', rfl, r1, rfl, _, rfl, ite2 (fun hz => ?_) fun _ => ?_⟩
    · have e : V.int t' = V.int 0 := of_decide_eq_true hz
      injection e with e
      exact absurd e h0'
    refine ⟨_, rfl, p, T.f_Ratio, dx, _, _, rfl, hp, T.cl_Ratio, T.na_Ratio_top, rf_top _ _, _, rfl, p', dx', _, rfl, hp', p', t', b', rfl, r1, _, _, rfl, rfl, sm_mul ht hb', ?_⟩
    refine ⟨_, rfl, p, T.f_Ratio, dx, _, _, rfl, hp, T.cl_Ratio, T.na_Ratio_bottom, rf_bottom _ _, _, rfl, p', dx', _, rfl, hp', p', t', b', rfl, r1, _, _, rfl, rfl, sm_mul hb ht', ?_⟩
    exact made_rat (Int.mul_ne_zero h0 h0') (big_mul hb ht') fun q H' nq sq rq => k q H' (s1.free nq) (s1.trans sq) rq
end

section
variable {P : Program} {w : World} {K : PySem.W.Frag} {mg : Str → Option Value} {base : Heap}
theorem ok_below (T : Txt K mg) : FnOk P w K mg base CX0 4 T.f_Ratio_below T.d_Ratio_below ["self", "value"] (spBelow T.f_Ratio) := by
  have G_Ratio_top : FnOk P w K mg base CX0 1 T.f_Ratio_top T.d_Ratio_top ["self"] (spTop T.f_Ratio) := ok_top T
  have G_Ratio_bottom : FnOk P w K mg base CX0 1 T.f_Ratio_bottom T.d_Ratio_bottom ["self"] (spBottom T.f_Ratio) := ok_bottom T
  have G_as_ratio : FnOk P w K mg base CX0 3 T.f_as_ratio T.d_as_ratio ["value"] (spNum T.f_Ratio) := ok_asN T
  refine T.F_Ratio_below.ok sc_Ratio_below (fun vs H Q E h => ?_) (fun cdv A outer s H vs Q E hr h => ?_)
  · obtain ⟨p, y, t, b, t', b', rfl, _⟩ := h
    rfl
  · obtain ⟨p, y, t, b, t', b', rfl, r, n, ht, hb, ht', hb', k⟩ := h
    refine ⟨_, (pss_cons (ps_set (i := 2) sc_Ratio_below.nd rfl (Or.inl rfl) (pe_call G_as_ratio (hr.mono (by decide)) rfl T.m_as_ratio T.F_as_ratio.kp T.b_as_ratio .nil pass0 (pa_cons (pv 1) pa_nil)))
    (pss_one (ps_ret (pe_cmpR op_lt (pe_op op_mulW (pe_fld (pv 0) rfl) (pe_prop (pv 2) T.cl_Ratio T.p_Ratio_bottom G_Ratio_bottom (hr.mono (by decide)) T.b_Ratio_bottom .nil pass0 rfl)) (pe_op op_mulW (pe_prop (pv 2) T.cl_Ratio T.p_Ratio_top G_Ratio_top (hr.mono (by decide)) T.b_Ratio_top .nil pass0 rfl) (pe_fld (pv 0) rfl)) (nomark _))))), ?_⟩
    refine ⟨_, rfl, y, t', b', rfl, n, fun p' H1 s1 r1 => ?_⟩
    obtain ⟨dx, hp⟩ := r.on s1
    obtain ⟨dx', hp'⟩ := id r1
    refine ⟨_, rfl, p, T.f_Ratio, dx, _, _, rfl, hp, T.cl_Ratio, T.na_Ratio_top, rf_top _ _, _, rfl, p', dx', _, rfl, hp', p', t', b', rfl, r1, _, _, rfl, rfl, sm_mul ht hb', ?_⟩
    refine ⟨_, rfl, p', dx', _, rfl, hp', p', t', b', rfl, r1, _, rfl, p, T.f_Ratio, dx, _, _, rfl, hp, T.cl_Ratio, T.na_Ratio_bottom, rf_bottom _ _, _, _, rfl, rfl, sm_mul ht' hb, _, _, rfl, rfl, ?_⟩
    exact k H1 s1
end

section
variable {P : Program} {w : World} {K : PySem.W.Frag} {mg : Str → Option Value} {base : Heap}
theorem ok_neg (T : Txt K mg) : FnOk P w K mg base CX0 3 T.f_Ratio_neg T.d_Ratio_neg ["self"] (spNeg T.f_Ratio) := by
  have G_Ratio_init : FnOk P w K mg base CX0 1 T.f_Ratio_init T.d_Ratio_init ["self", "top", "bottom"] (spInit T.f_Ratio) := ok_init T
  refine T.F_Ratio_neg.ok sc_Ratio_neg (fun vs H Q E h => ?_) (fun cdv A outer s H vs Q E hr h => ?_)
  · obtain ⟨p, t, b, rfl, _⟩ := h
    rfl
  · obtain ⟨p, t, b, rfl, ⟨dx, hp⟩, hl, hb, k⟩ := h
    refine ⟨_, (pss_one (ps_ret (pe_make T.mk_Ratio G_Ratio_init (hr.mono (by decide)) rfl T.m_Ratio T.b2_Ratio_init T.v2_Ratio_init pass0 (pa_cons (pe_un un_neg (pe_fld (pv 0) rfl)) (pa_cons (pe_fld (pv 0) rfl) pa_nil))))), ?_⟩
    refine ⟨_, rfl, p, T.f_Ratio, dx, _, _, rfl, hp, T.cl_Ratio, T.na_Ratio_top, rf_top _ _, t, rfl, _, rfl, p, T.f_Ratio, dx, _, _, rfl, hp, T.cl_Ratio, T.na_Ratio_bottom, rf_bottom _ _, ?_⟩
    refine made_rat hl.ne hb.big fun q H' nq sq rq => ?_
    rw [hl.neg.tt, hl.neg.bb] at rq
    exact k q H' nq sq rq
end

section
variable {P : Program} {w : World} {K : PySem.W.Frag} {mg : Str → Option Value} {base : Heap}
theorem ok_eqB (T : Txt K mg) : FnOk P w K mg base CX0 1 T.f_Ratio_eq T.d_Ratio_eq ["self", "other"] (spEqB T.f_Ratio) := by
  refine T.F_Ratio_eq.ok sc_Ratio_eq (fun vs H Q E h => ?_) (fun cdv A outer s H vs Q E hr h => ?_)
  · obtain ⟨a, b, t, c, t', c', rfl, _⟩ := h
    rfl
  · obtain ⟨a, b, t, c, t', c', rfl, ra, rb, k⟩ := h
    obtain ⟨da, ha⟩ := id ra
    obtain ⟨db, hb⟩ := id rb
    refine ⟨_, (pss_one (ps_ret (pe_and (pe_callB call_isi (by rfl) T.n_isinstance (by decide +kernel) (pa_cons (pv 1) (pa_cons (pe_glob (v := .ref T.f_Ratio) rfl T.m_Ratio rfl) pa_nil))) (pe_and (pe_cmpR op_eq (pe_fld (pv 0) rfl) (pe_fld (pv 1) rfl) (nomark _)) (pe_one (pe_cmpR op_eq (pe_fld (pv 0) rfl) (pe_fld (pv 1) rfl) (nomark _))))))), ?_⟩
    refine ⟨_, rfl, .ref b, .ref T.f_Ratio, .ref T.f_Ratio, .ref T.f_Ratio, true, rfl, .own _, tyR T.ic_Ratio rb, kit_self, true, rfl, iteT ?_⟩
    refine ⟨_, rfl, a, T.f_Ratio, da, _, _, rfl, ha, T.cl_Ratio, T.na_Ratio_top, rf_top _ _, _, rfl, b, T.f_Ratio, db, _, _, rfl, hb, T.cl_Ratio, T.na_Ratio_top, rf_top _ _, rfl, ?_⟩
    by_cases e1 : t = t'
    · refine ⟨true, by rw [decide_eq_true (by rw [e1])], iteT ?_⟩
      refine ⟨_, rfl, a, T.f_Ratio, da, _, _, rfl, ha, T.cl_Ratio, T.na_Ratio_bottom, rf_bottom _ _, _, rfl, b, T.f_Ratio, db, _, _, rfl, hb, T.cl_Ratio, T.na_Ratio_bottom, rf_bottom _ _, rfl, ?_⟩
      have e : decide (V.int c = V.int c') = decide (t = t' ∧ c = c') := decide_eq_decide.mpr ⟨fun q => ⟨e1, by injection q⟩, fun q => by rw [q.2]⟩
      rw [e]
      exact k
    · refine ⟨false, by rw [decide_eq_false (fun q => e1 (by injection q))], iteF ?_⟩
      have e : decide (t = t' ∧ c = c') = false := decide_eq_false fun q => e1 q.1
      rw [e] at k
      exact k
end

section
variable {P : Program} {w : World} {K : PySem.W.Frag} {mg : Str → Option Value} {base : Heap}
/-- two equal ratios -/
def REq (C : Addr) : Addr → Addr → Hp → Prop := fun a b H => ∃ t c : Int, RatAt C H a t c ∧ RatAt C H b t c
theorem ok_eq (T : Txt K mg) : FnOk P w K mg base CX0 1 T.f_Ratio_eq T.d_Ratio_eq ["self", "other"] (spEq (REq T.f_Ratio)) := by
  refine T.F_Ratio_eq.ok sc_Ratio_eq (fun vs H Q E h => ?_) (fun cdv A outer s H vs Q E hr h => ?_)
  · obtain ⟨a, b, rfl, _⟩ := h
    rfl
  · obtain ⟨a, b, rfl, ⟨t, c, ra, rb⟩, k⟩ := h
    obtain ⟨da, ha⟩ := id ra
    obtain ⟨db, hb⟩ := id rb
    refine ⟨_, (pss_one (ps_ret (pe_and (pe_callB call_isi (by rfl) T.n_isinstance (by decide +kernel) (pa_cons (pv 1) (pa_cons (pe_glob (v := .ref T.f_Ratio) rfl T.m_Ratio rfl) pa_nil))) (pe_and (pe_cmpR op_eq (pe_fld (pv 0) rfl) (pe_fld (pv 1) rfl) (nomark _)) (pe_one (pe_cmpR op_eq (pe_fld (pv 0) rfl) (pe_fld (pv 1) rfl) (nomark _))))))), ?_⟩
    refine ⟨_, rfl, .ref b, .ref T.f_Ratio, .ref T.f_Ratio, .ref T.f_Ratio, true, rfl, .own _, tyR T.ic_Ratio rb, kit_self, true, rfl, iteT ?_⟩
    refine ⟨_, rfl, a, T.f_Ratio, da, _, _, rfl, ha, T.cl_Ratio, T.na_Ratio_top, rf_top _ _, _, rfl, b, T.f_Ratio, db, _, _, rfl, hb, T.cl_Ratio, T.na_Ratio_top, rf_top _ _, rfl, true, by rw [decide_eq_true rfl], iteT ?_⟩
    refine ⟨_, rfl, a, T.f_Ratio, da, _, _, rfl, ha, T.cl_Ratio, T.na_Ratio_bottom, rf_bottom _ _, _, rfl, b, T.f_Ratio, db, _, _, rfl, hb, T.cl_Ratio, T.na_Ratio_bottom, rf_bottom _ _, rfl, ?_⟩
    rw [decide_eq_true rfl]
    exact k _ fun _ _ z => z
end

/-! ### differences, least and greatest -/
section
variable {P : Program} {w : World} {K : PySem.W.Frag} {mg : Str → Option Value} {base : Heap}
def spSub (C : Addr) : Sp := fun vs H Q _ => ∃ (p : Addr) (y : V) (t b t' b' : Int), vs = [.ref p, y] ∧ RatAt C H p t b ∧ Num C H y t' b' ∧ SM t ∧ SM b ∧ SM t' ∧ SM b' ∧ b ≠ 0 ∧ Low t' b' ∧ Res C H (t * b' + -t' * b) (b * b') Q
def spRsub (C : Addr) : Sp := fun vs H Q _ => ∃ (p : Addr) (i t b : Int), vs = [.ref p, .int i] ∧ RatAt C H p t b ∧ SM t ∧ SM b ∧ SM i ∧ Low t b ∧ Res C H (-t * 1 + i * b) (b * 1) Q
/-- the least, the greatest -/
def pick (m v : Int × Int) : Int × Int := if v.1 * m.2 < m.1 * v.2 then v else m
def pickG (m v : Int × Int) : Int × Int := if m.1 * v.2 < v.1 * m.2 then v else m
def foldP (f : Int × Int → Int × Int → Int × Int) : List (Int × Int) → Int × Int
  | [] => (0, 1)
  | v :: r => r.foldl f v
def ngP (v : Int × Int) : Int × Int := (-v.1, v.2)
theorem pick_neg (m v : Int × Int) : pick (ngP m) (ngP v) = ngP (pickG m v) := by
  unfold pick pickG ngP
  simp only
  have e : (-v.1 * m.2 < -m.1 * v.2) ↔ (m.1 * v.2 < v.1 * m.2) := by rw [Int.neg_mul, Int.neg_mul]; omega
  by_cases h : m.1 * v.2 < v.1 * m.2
  · rw [if_pos (e.mpr h), if_pos h]
  · rw [if_neg (fun q => h (e.mp q)), if_neg h]
theorem fold_neg : ∀ (l : List (Int × Int)) (m : Int × Int), (l.map ngP).foldl pick (ngP m) = ngP (l.foldl pickG m)
  | [], m => rfl
  | v :: r, m => by
    show (r.map ngP).foldl pick (pick (ngP m) (ngP v)) = ngP (r.foldl pickG (pickG m v))
    rw [pick_neg]
    exact fold_neg r _
theorem least_neg {ps : List (Int × Int)} (h : ps ≠ []) : foldP pick (ps.map ngP) = ngP (foldP pickG ps) := by
  cases ps with
  | nil => exact absurd rfl h
  | cons v r => exact fold_neg r v
/-- small and in lowest terms -/
def Fine (v : Int × Int) : Prop := Low v.1 v.2 ∧ SM v.1 ∧ SM v.2
theorem Fine.ng {v : Int × Int} (h : Fine v) : Fine (ngP v) := ⟨h.1.neg, h.2.1.neg, h.2.2⟩
theorem fine_pick {m v : Int × Int} (a : Fine m) (b : Fine v) : Fine (pick m v) := by unfold pick; split <;> assumption
theorem fine_fold : ∀ (l : List (Int × Int)) (m : Int × Int), Fine m → (∀ v ∈ l, Fine v) → Fine (l.foldl pick m)
  | [], m, h, _ => h
  | v :: r, m, h, k => fine_fold r _ (fine_pick h (k v List.mem_cons_self)) fun u hu => k u (List.mem_cons_of_mem _ hu)
theorem fine_least {ps : List (Int × Int)} (h : ps ≠ []) (k : ∀ v ∈ ps, Fine v) : Fine (foldP pick ps) := by
  cases ps with
  | nil => exact absurd rfl h
  | cons v r => exact fine_fold r v (k v List.mem_cons_self) fun u hu => k u (List.mem_cons_of_mem _ hu)
/-- the items of a list or tuple, and their values -/
structure Nums (C : Addr) (H : Hp) (xs : List V) (ps : List (Int × Int)) : Prop where
  len : xs.length = ps.length
  at_ : ∀ (i : Nat) (x : V) (p : Int × Int), xs[i]? = some x → ps[i]? = some p → Num C H x p.1 p.2
  fine : ∀ p ∈ ps, Fine p
theorem Nums.on {C : Addr} {H H' : Hp} {xs : List V} {ps : List (Int × Int)} (n : Nums C H xs ps) (s : Same H H') : Nums C H' xs ps := ⟨n.len, fun i x p a b => (n.at_ i x p a b).on s, n.fine⟩
theorem RatAt.put {C : Addr} {H : Hp} {p D : Addr} {t b : Int} {ys zs : List V} (r : RatAt C H p t b) (h : H D = some (.lst ys)) : RatAt C (upd H D (.lst zs)) p t b := by
  obtain ⟨dx, e⟩ := r
  have n : p ≠ D := fun q => by rw [q, h] at e; cases e
  exact ⟨dx, by rw [upd_ne n]; exact e⟩
theorem Num.put {C : Addr} {H : Hp} {v : V} {D : Addr} {t b : Int} {ys zs : List V} (r : Num C H v t b) (h : H D = some (.lst ys)) : Num C (upd H D (.lst zs)) v t b := r.elim .inl fun ⟨p, e, r⟩ => .inr ⟨p, e, r.put h⟩
theorem Nums.put {C : Addr} {H : Hp} {D : Addr} {xs ys zs : List V} {ps : List (Int × Int)} (n : Nums C H xs ps) (h : H D = some (.lst ys)) : Nums C (upd H D (.lst zs)) xs ps := ⟨n.len, fun i x p a b => (n.at_ i x p a b).put h, n.fine⟩
theorem Nums.nil {C : Addr} {H : Hp} : Nums C H [] [] := ⟨rfl, fun i x p a _ => by simp at a, fun p h => by simp at h⟩
theorem Nums.cons {C : Addr} {H : Hp} {x : V} {p : Int × Int} {xs : List V} {ps : List (Int × Int)} (n : Num C H x p.1 p.2) (f : Fine p) (r : Nums C H xs ps) : Nums C H (x :: xs) (p :: ps) := by
  refine ⟨by rw [List.length_cons, List.length_cons, r.len], fun i y q a b => ?_, fun q h => ?_⟩
  · cases i with
    | zero =>
      simp at a b
      subst a; subst b
      exact n
    | succ i =>
      simp at a b
      exact r.at_ i y q a b
  · rcases List.mem_cons.mp h with rfl | h
    · exact f
    · exact r.fine q h
theorem Nums.snoc {C : Addr} {H : Hp} {x : V} {p : Int × Int} : ∀ {xs : List V} {ps : List (Int × Int)}, Nums C H xs ps → Num C H x p.1 p.2 → Fine p → Nums C H (xs ++ [x]) (ps ++ [p])
  | [], [], _, n, f => Nums.cons n f Nums.nil
  | [], _ :: _, r, _, _ => by have := r.len; simp at this
  | _ :: _, [], r, _, _ => by have := r.len; simp at this
  | y :: ys, q :: qs, r, n, f => by
    refine Nums.cons (r.at_ 0 y q rfl rfl) (r.fine q List.mem_cons_self) (Nums.snoc ⟨?_, fun i x p a b => r.at_ (i + 1) x p (by simpa using a) (by simpa using b), fun p h => r.fine p (List.mem_cons_of_mem _ h)⟩ n f)
    have := r.len
    simpa using this
theorem Nums.get {C : Addr} {H : Hp} {xs : List V} {ps : List (Int × Int)} (n : Nums C H xs ps) {i : Nat} {x : V} (h : xs[i]? = some x) : ∃ p, ps[i]? = some p ∧ Num C H x p.1 p.2 ∧ Fine p := by
  have hi : i < ps.length := by rw [← n.len]; exact (List.getElem?_eq_some_iff.mp h).1
  exact ⟨ps[i], List.getElem?_eq_getElem hi, n.at_ i x _ h (List.getElem?_eq_getElem hi), n.fine _ (List.getElem_mem hi)⟩
theorem fold_more {f : Int × Int → Int × Int → Int × Int} {l : List (Int × Int)} {i : Nat} {m v : Int × Int} (h : l[i]? = some v) : (l.take (i + 1)).foldl f m = f ((l.take i).foldl f m) v := by
  rw [take_more h, List.foldl_append]
  rfl
theorem nBe1 : (("below" : Str) == ("_top" : Str)) = false := by decide +kernel
theorem nBe2 : (("below" : Str) == ("_bottom" : Str)) = false := by decide +kernel
theorem rf_below (t b : Int) : (rf t b).lookup ("below" : Str) = none := by simp [rf, List.lookup, nBe1, nBe2]
theorem nOv1 : (("over" : Str) == ("_top" : Str)) = false := by decide +kernel
theorem nOv2 : (("over" : Str) == ("_bottom" : Str)) = false := by decide +kernel
theorem rf_over (t b : Int) : (rf t b).lookup ("over" : Str) = none := by simp [rf, List.lookup, nOv1, nOv2]
def SqA (K : PySem.W.Frag) (H : Hp) (l : Addr) (xs : List V) : Prop := SqL K H l xs ∨ SqT K H l xs
theorem ix_seq {H : Hp} {l : Addr} {xs : List V} {i : Int} {v : V} {Q : VK} (h : SqA K H l xs) (e : atI xs i = some v) (q : Q v H) : rIxL K (.ref l) (.int i) H Q ∨ rIxT K (.ref l) (.int i) H Q :=
  h.elim (fun h => .inl ⟨l, xs, i, v, rfl, rfl, h, e, q⟩) fun h => .inr ⟨l, xs, i, v, rfl, rfl, h, e, q⟩
end

section
variable {P : Program} {w : World} {K : PySem.W.Frag} {mg : Str → Option Value} {base : Heap}
theorem ok_sub (T : Txt K mg) : FnOk P w K mg base CX0 5 T.f_Ratio_sub T.d_Ratio_sub ["self", "other"] (spSub T.f_Ratio) := by
  have G_Ratio_add : FnOk P w K mg base CX0 4 T.f_Ratio_add T.d_Ratio_add ["self", "other"] (spAdd T.f_Ratio) := ok_add T
  have G_Ratio_neg : FnOk P w K mg base CX0 3 T.f_Ratio_neg T.d_Ratio_neg ["self"] (spNeg T.f_Ratio) := ok_neg T
  refine T.F_Ratio_sub.ok sc_Ratio_sub (fun vs H Q E h => ?_) (fun cdv A outer s H vs Q E hr h => ?_)
  · obtain ⟨p, y, t, b, t', b', rfl, _⟩ := h
    rfl
  · obtain ⟨p, y, t, b, t', b', rfl, r, n, ht, hb, ht', hb', h0, hl, k⟩ := h
    obtain ⟨dx, hp⟩ := id r
    refine ⟨_, (pss_one (ps_ret (pe_op (op_or (op_oo (nm := "add") rfl T.op_Ratio_add G_Ratio_add (hr.mono (by decide)) T.b_Ratio_add pass0) (op_oi (nm := "add") rfl T.op_Ratio_add G_Ratio_add (hr.mono (by decide)) T.b_Ratio_add pass0)) (pv 0) (pe_un (un_or un_neg (un_negO T.a_Ratio_neg T.i_Ratio_neg G_Ratio_neg (hr.mono (by decide)) T.b_Ratio_neg pass0)) (pv 1))))), ?_⟩
    rcases n with ⟨rfl, rfl⟩ | ⟨q, rfl, rq⟩
    · exact ⟨_, rfl, _, rfl, .inl ⟨t', rfl, .inr ⟨p, dx, _, -t', rfl, rfl, hp, p, _, t, b, -t', 1, rfl, r, .inl ⟨rfl, rfl⟩, ht, hb, ht'.neg, hb', h0, by decide, k⟩⟩⟩
    · obtain ⟨dq, hq⟩ := id rq
      refine ⟨_, rfl, _, rfl, .inr ⟨q, dq, _, rfl, hq, q, t', b', rfl, rq, hl, hb', fun o H1 no s1 ro => ?_⟩⟩
      obtain ⟨d0, ho⟩ := id ro
      exact .inl ⟨p, dx, _, o, d0, _, rfl, rfl, s1 _ _ hp, ho, p, _, t, b, -t', b', rfl, r.on s1, .inr ⟨o, rfl, ro⟩, ht, hb, ht'.neg, hb', h0, hl.ne, fun q' H' nq sq rq' => k q' H' (s1.free nq) (s1.trans sq) rq'⟩
end

/-! ### pairs of ints -/
section
variable {P : Program} {w : World} {K : PySem.W.Frag} {mg : Str → Option Value} {base : Heap}
def PairAt (H : Hp) (q : Addr) (t b : Int) : Prop := H q = some (.tup [.int t, .int b])
def ResP (H : Hp) (x y : Int) (Q : VK) : Prop := ∀ o H', H o = none → Same H H' → PairAt H' o (lowT x y) (lowB x y) → Q (.ref o) H'
def spPlus : Sp := fun vs H Q _ => ∃ (q q' : Addr) (t b t' b' : Int), vs = [.ref q, .ref q'] ∧ PairAt H q t b ∧ PairAt H q' t' b' ∧ SM t ∧ SM b ∧ SM t' ∧ SM b' ∧ b ≠ 0 ∧ b' ≠ 0 ∧ ResP H (t * b' + t' * b) (b * b') Q
def spTimes : Sp := fun vs H Q _ => ∃ (q q' : Addr) (t b t' b' : Int), vs = [.ref q, .ref q'] ∧ PairAt H q t b ∧ PairAt H q' t' b' ∧ SM t ∧ SM b ∧ SM t' ∧ SM b' ∧ b ≠ 0 ∧ b' ≠ 0 ∧ ResP H (t * t') (b * b') Q
def spLess : Sp := fun vs H Q _ => ∃ (q q' : Addr) (t b t' b' : Int), vs = [.ref q, .ref q'] ∧ PairAt H q t b ∧ PairAt H q' t' b' ∧ SM t ∧ SM b ∧ SM t' ∧ SM b' ∧ Q (.bl (decide (t * b' < t' * b))) H
end

section
variable {P : Program} {w : World} {K : PySem.W.Frag} {mg : Str → Option Value} {base : Heap}
theorem ok_plus (T : Txt K mg) : FnOk P w K mg base CX0 2 T.f_plus T.d_plus ["_law_one", "_law_two"] spPlus := by
  have G_low : FnOk P w K mg base CX0 1 T.f_low T.d_low ["_law_up", "_law_down"] spLow := ok_low T
  refine T.F_plus.ok sc_plus (fun vs H Q E h => ?_) (fun cdv A outer s H vs Q E hr h => ?_)
  · obtain ⟨q, q', t, b, t', b', rfl, _⟩ := h
    rfl
  · obtain ⟨q, q', t, b, t', b', rfl, hq, hq', ht, hb, ht', hb', h0, h0', k⟩ := h
    refine ⟨_, (pss_one (ps_ret (pe_call G_low (hr.mono (by decide)) rfl T.m_low T.F_low.kp T.b_low .nil pass0 (pa_cons (pe_op op_add (pe_op op_mulW (pe_ix ix_tup (pv 0) pe_int (fun _ _ => rfl)) (pe_ix ix_tup (pv 1) pe_int (fun _ _ => rfl))) (pe_op op_mulW (pe_ix ix_tup (pv 1) pe_int (fun _ _ => rfl)) (pe_ix ix_tup (pv 0) pe_int (fun _ _ => rfl)))) (pa_cons (pe_op op_mulW (pe_ix ix_tup (pv 0) pe_int (fun _ _ => rfl)) (pe_ix ix_tup (pv 1) pe_int (fun _ _ => rfl))) pa_nil))))), ?_⟩
    refine ⟨_, rfl, q, _, 0, .int t, rfl, rfl, SqT.of hq, rfl, _, rfl, q', _, 1, .int b', rfl, rfl, SqT.of hq', rfl, _, _, rfl, rfl, sm_mul ht hb', ?_⟩
    refine ⟨_, rfl, q', _, 0, .int t', rfl, rfl, SqT.of hq', rfl, _, rfl, q, _, 1, .int b, rfl, rfl, SqT.of hq, rfl, _, _, rfl, rfl, sm_mul ht' hb, _, _, rfl, rfl, ?_⟩
    refine ⟨_, rfl, q, _, 1, .int b, rfl, rfl, SqT.of hq, rfl, _, rfl, q', _, 1, .int b', rfl, rfl, SqT.of hq', rfl, _, _, rfl, rfl, sm_mul hb hb', ?_⟩
    exact ⟨_, _, rfl, Int.mul_ne_zero h0 h0', big_mul hb hb', k⟩
end

section
variable {P : Program} {w : World} {K : PySem.W.Frag} {mg : Str → Option Value} {base : Heap}
theorem ok_times (T : Txt K mg) : FnOk P w K mg base CX0 2 T.f_times T.d_times ["_law_one", "_law_two"] spTimes := by
  have G_low : FnOk P w K mg base CX0 1 T.f_low T.d_low ["_law_up", "_law_down"] spLow := ok_low T
  refine T.F_times.ok sc_times (fun vs H Q E h => ?_) (fun cdv A outer s H vs Q E hr h => ?_)
  · obtain ⟨q, q', t, b, t', b', rfl, _⟩ := h
    rfl
  · obtain ⟨q, q', t, b, t', b', rfl, hq, hq', ht, hb, ht', hb', h0, h0', k⟩ := h
    refine ⟨_, (pss_one (ps_ret (pe_call G_low (hr.mono (by decide)) rfl T.m_low T.F_low.kp T.b_low .nil pass0 (pa_cons (pe_op op_mulW (pe_ix ix_tup (pv 0) pe_int (fun _ _ => rfl)) (pe_ix ix_tup (pv 1) pe_int (fun _ _ => rfl))) (pa_cons (pe_op op_mulW (pe_ix ix_tup (pv 0) pe_int (fun _ _ => rfl)) (pe_ix ix_tup (pv 1) pe_int (fun _ _ => rfl))) pa_nil))))), ?_⟩
    refine ⟨_, rfl, q, _, 0, .int t, rfl, rfl, SqT.of hq, rfl, _, rfl, q', _, 0, .int t', rfl, rfl, SqT.of hq', rfl, _, _, rfl, rfl, sm_mul ht ht', ?_⟩
    refine ⟨_, rfl, q, _, 1, .int b, rfl, rfl, SqT.of hq, rfl, _, rfl, q', _, 1, .int b', rfl, rfl, SqT.of hq', rfl, _, _, rfl, rfl, sm_mul hb hb', ?_⟩
    exact ⟨_, _, rfl, Int.mul_ne_zero h0 h0', big_mul hb hb', k⟩
end

section
variable {P : Program} {w : World} {K : PySem.W.Frag} {mg : Str → Option Value} {base : Heap}
theorem ok_less (T : Txt K mg) : FnOk P w K mg base CX0 1 T.f_less T.d_less ["_law_one", "_law_two"] spLess := by
  refine T.F_less.ok sc_less (fun vs H Q E h => ?_) (fun cdv A outer s H vs Q E hr h => ?_)
  · obtain ⟨q, q', t, b, t', b', rfl, _⟩ := h
    rfl
  · obtain ⟨q, q', t, b, t', b', rfl, hq, hq', ht, hb, ht', hb', k⟩ := h
    refine ⟨_, (pss_one (ps_ret (pe_cmpR op_lt (pe_op op_mulW (pe_ix ix_tup (pv 0) pe_int (fun _ _ => rfl)) (pe_ix ix_tup (pv 1) pe_int (fun _ _ => rfl))) (pe_op op_mulW (pe_ix ix_tup (pv 1) pe_int (fun _ _ => rfl)) (pe_ix ix_tup (pv 0) pe_int (fun _ _ => rfl))) (nomark _)))), ?_⟩
    refine ⟨_, rfl, q, _, 0, .int t, rfl, rfl, SqT.of hq, rfl, _, rfl, q', _, 1, .int b', rfl, rfl, SqT.of hq', rfl, _, _, rfl, rfl, sm_mul ht hb', ?_⟩
    exact ⟨_, rfl, q', _, 0, .int t', rfl, rfl, SqT.of hq', rfl, _, rfl, q, _, 1, .int b, rfl, rfl, SqT.of hq, rfl, _, _, rfl, rfl, sm_mul ht' hb, _, _, rfl, rfl, k⟩
end

section
variable {P : Program} {w : World} {K : PySem.W.Frag} {mg : Str → Option Value} {base : Heap}
def spMinus : Sp := fun vs H Q _ => ∃ (q q' : Addr) (t b t' b' : Int), vs = [.ref q, .ref q'] ∧ PairAt H q t b ∧ PairAt H q' t' b' ∧ SM t ∧ SM b ∧ SM t' ∧ SM b' ∧ b ≠ 0 ∧ b' ≠ 0 ∧ ResP H (t * b' + -t' * b) (b * b') Q
theorem ok_minus (T : Txt K mg) : FnOk P w K mg base CX0 3 T.f_minus T.d_minus ["_law_one", "_law_two"] spMinus := by
  have G_plus : FnOk P w K mg base CX0 2 T.f_plus T.d_plus ["_law_one", "_law_two"] spPlus := ok_plus T
  refine T.F_minus.ok sc_minus (fun vs H Q E h => ?_) (fun cdv A outer s H vs Q E hr h => ?_)
  · obtain ⟨q, q', t, b, t', b', rfl, _⟩ := h
    rfl
  · obtain ⟨q, q', t, b, t', b', rfl, hq, hq', ht, hb, ht', hb', h0, h0', k⟩ := h
    refine ⟨_, (pss_one (ps_ret (pe_call G_plus (hr.mono (by decide)) rfl T.m_plus T.F_plus.kp T.b_plus .nil pass0 (pa_cons (pv 0) (pa_cons (pe_tup (pa_cons (pe_un un_neg (pe_ix ix_tup (pv 1) pe_int (fun _ _ => rfl))) (pa_cons (pe_ix ix_tup (pv 1) pe_int (fun _ _ => rfl)) pa_nil))) pa_nil))))), ?_⟩
    refine ⟨_, rfl, _, rfl, q', _, 0, .int t', rfl, rfl, SqT.of hq', rfl, t', rfl, _, rfl, q', _, 1, .int b', rfl, rfl, SqT.of hq', rfl, (by show 2 ≤ sizeLine; decide), fun o ho => ?_⟩
    exact ⟨q, o, t, b, -t', b', rfl, same_upd ho _ _ hq, upd_same, ht, hb, ht'.neg, hb', h0, h0', fun y H' ny s py => k y H' ((same_upd ho).free ny) ((same_upd ho).trans s) py⟩
end

/-! ### ratios by their values -/
section
variable {P : Program} {w : World} {K : PySem.W.Frag} {mg : Str → Option Value} {base : Heap}
def vq (t b : Int) : Rat := (t : Rat) / (b : Rat)
theorem rat_ne {b : Int} (h : b ≠ 0) : (b : Rat) ≠ 0 := fun e => h (by exact_mod_cast e)
theorem rat_pos {b : Int} (h : 0 < b) : (0 : Rat) < (b : Rat) := by exact_mod_cast h
theorem vq_low {t b : Int} (h : b ≠ 0) : vq (lowT t b) (lowB t b) = vq t b := by
  have e1 : ((lowT t b : Int) : Rat) * (dvs t b : Rat) = (t : Rat) := by exact_mod_cast congrArg (fun z : Int => (z : Rat)) (lowT_mul t b)
  have e2 : ((lowB t b : Int) : Rat) * (dvs t b : Rat) = (b : Rat) := by exact_mod_cast congrArg (fun z : Int => (z : Rat)) (lowB_mul t b)
  have h1 := rat_ne h
  have h2 := rat_ne (dvs_ne (t := t) h)
  have h3 : ((lowB t b : Int) : Rat) ≠ 0 := rat_ne (by have := lowB_pos (t := t) h; omega)
  unfold vq
  generalize ((lowT t b : Int) : Rat) = x at *
  generalize ((lowB t b : Int) : Rat) = y at *
  generalize ((dvs t b : Int) : Rat) = d at *
  rw [← e1, ← e2]
  grind
theorem cross {t b t' b' : Int} (hb : b ≠ 0) (hb' : b' ≠ 0) (h : vq t b = vq t' b') : t * b' = t' * b := by
  have h1 := rat_ne hb
  have h2 := rat_ne hb'
  unfold vq at h
  have : (t : Rat) * (b' : Rat) = (t' : Rat) * (b : Rat) := by grind
  exact_mod_cast this
theorem low_unique {t b t' b' : Int} (h : Low t b) (h' : Low t' b') (e : vq t b = vq t' b') : t = t' ∧ b = b' := by
  have c := cross h.ne h'.ne e
  have l1 := low_scale (k := b') (t := t) (b := b) h'.ne h.ne
  have l2 := low_scale (k := b) (t := t') (b := b') h.ne h'.ne
  have e1 : b' * t = b * t' := by rw [Int.mul_comm b' t, c, Int.mul_comm]
  have e2 : b' * b = b * b' := Int.mul_comm _ _
  rw [e1, e2] at l1
  rw [h.tt, h.bb] at l1
  rw [h'.tt, h'.bb] at l2
  exact ⟨l1.1.symm.trans l2.1, l1.2.symm.trans l2.2⟩
theorem vq_add {t b t' b' : Int} (hb : b ≠ 0) (hb' : b' ≠ 0) : vq (t * b' + t' * b) (b * b') = vq t b + vq t' b' := by
  have h1 := rat_ne hb
  have h2 := rat_ne hb'
  unfold vq
  push_cast
  grind
theorem vq_mul {t b t' b' : Int} (hb : b ≠ 0) (hb' : b' ≠ 0) : vq (t * t') (b * b') = vq t b * vq t' b' := by
  have h1 := rat_ne hb
  have h2 := rat_ne hb'
  unfold vq
  push_cast
  grind
theorem vq_neg {t b : Int} : vq (-t) b = - vq t b := by
  unfold vq
  push_cast
  grind
theorem vq_over {t b t' b' : Int} (hb : b ≠ 0) (hb' : b' ≠ 0) (ht' : t' ≠ 0) : vq (t * b') (b * t') = vq t b / vq t' b' := by
  have h1 := rat_ne hb
  have h2 := rat_ne hb'
  have h3 := rat_ne ht'
  unfold vq
  push_cast
  grind
theorem vq_lt {t b t' b' : Int} (hb : 0 < b) (hb' : 0 < b') : t * b' < t' * b ↔ vq t b < vq t' b' := by
  have h1 := rat_pos hb
  have h2 := rat_pos hb'
  have e1 : vq t b * ((b : Rat) * (b' : Rat)) = (t : Rat) * (b' : Rat) := by unfold vq; have := rat_ne (show b ≠ 0 by omega); grind
  have e2 : vq t' b' * ((b : Rat) * (b' : Rat)) = (t' : Rat) * (b : Rat) := by unfold vq; have := rat_ne (show b' ≠ 0 by omega); grind
  have hp : (0 : Rat) < (b : Rat) * (b' : Rat) := Rat.mul_pos h1 h2
  constructor
  · intro h
    have h' : (t : Rat) * (b' : Rat) < (t' : Rat) * (b : Rat) := by exact_mod_cast h
    rw [← e1, ← e2] at h'
    refine Classical.byContradiction fun q => ?_
    have q' := Rat.mul_le_mul_of_nonneg_right (Rat.not_lt.mp q) (Rat.le_of_lt hp)
    exact absurd h' (Rat.not_lt.mpr q')
  · intro h
    have h' := Rat.mul_lt_mul_of_pos_right h hp
    rw [e1, e2] at h'
    exact_mod_cast h'
theorem vq_zero {b : Int} (hb : b ≠ 0) {t : Int} : vq t b = 0 ↔ t = 0 := by
  have h1 := rat_ne hb
  constructor
  · intro h
    have : (t : Rat) = 0 := by unfold vq at h; grind
    exact_mod_cast this
  · rintro rfl
    unfold vq
    push_cast
    grind
end

/-! ### promises by values -/
section
variable {P : Program} {w : World} {K : PySem.W.Frag} {mg : Str → Option Value} {base : Heap}
theorem at1 {α : Type} {x y : α} {xs : List α} : atI (x :: y :: xs) 1 = some y := atI_nat (j := 1) rfl
/-- fewer than n bits -/
def Sz (n : Nat) (t b : Int) : Prop := t.natAbs < 2 ^ n ∧ b.natAbs < 2 ^ n
theorem Sz.mono {n m : Nat} {t b : Int} (h : Sz n t b) (hn : n ≤ m) : Sz m t b := ⟨Nat.lt_of_lt_of_le h.1 (Nat.pow_le_pow_right (by decide) hn), Nat.lt_of_lt_of_le h.2 (Nat.pow_le_pow_right (by decide) hn)⟩
theorem Sz.sm {n : Nat} {t b : Int} (h : Sz n t b) (hn : n ≤ 3900) : SM t ∧ SM b := h.mono hn
theorem lt_mul {a b n m : Nat} (ha : a < 2 ^ n) (hb : b < 2 ^ m) : a * b < 2 ^ (n + m) := by
  rw [Nat.pow_add]
  exact Nat.mul_lt_mul'' ha hb
theorem Sz.mul {n m : Nat} {t b t' b' : Int} (h : Sz n t b) (h' : Sz m t' b') : Sz (n + m) (t * t') (b * b') := ⟨by rw [Int.natAbs_mul]; exact lt_mul h.1 h'.1, by rw [Int.natAbs_mul]; exact lt_mul h.2 h'.2⟩
theorem Sz.over {n m : Nat} {t b t' b' : Int} (h : Sz n t b) (h' : Sz m t' b') : Sz (n + m) (t * b') (b * t') := ⟨by rw [Int.natAbs_mul]; exact lt_mul h.1 h'.2, by rw [Int.natAbs_mul]; exact lt_mul h.2 h'.1⟩
theorem Sz.add {n m : Nat} {t b t' b' : Int} (h : Sz n t b) (h' : Sz m t' b') : Sz (n + m + 1) (t * b' + t' * b) (b * b') := by
  have h1 := lt_mul h.1 h'.2
  have h2 := lt_mul h'.1 h.2
  rw [Nat.add_comm m n] at h2
  have h3 := Int.natAbs_add_le (t * b') (t' * b)
  rw [Int.natAbs_mul, Int.natAbs_mul] at h3
  refine ⟨by rw [Nat.pow_succ]; omega, ?_⟩
  rw [Int.natAbs_mul]
  exact Nat.lt_of_lt_of_le (lt_mul h.2 h'.2) (Nat.pow_le_pow_right (by decide) (Nat.le_succ _))
theorem Sz.neg {n : Nat} {t b : Int} (h : Sz n t b) : Sz n (-t) b := ⟨by rw [Int.natAbs_neg]; exact h.1, h.2⟩
theorem Sz.low {n : Nat} {t b : Int} (h : Sz n t b) (hb : b ≠ 0) : Sz n (lowT t b) (lowB t b) := ⟨Nat.lt_of_le_of_lt (lowT_le hb) h.1, Nat.lt_of_le_of_lt (lowB_le hb) h.2⟩
/-- the ratio of this value stands at p -/
def RV (C : Addr) (H : Hp) (p : Addr) (x : Rat) (n : Nat) : Prop := ∃ t b, RatAt C H p t b ∧ Low t b ∧ vq t b = x ∧ Sz n t b
/-- a ratio or an int of this value -/
def NV (C : Addr) (H : Hp) (v : V) (x : Rat) (n : Nat) : Prop := ∃ t b, Num C H v t b ∧ Low t b ∧ vq t b = x ∧ Sz n t b
/-- the law's pair of this value -/
def PV (H : Hp) (q : Addr) (x : Rat) (n : Nat) : Prop := ∃ t b, PairAt H q t b ∧ Low t b ∧ vq t b = x ∧ Sz n t b
theorem PairAt.on' {H H' : Hp} {q : Addr} {t b : Int} (p : PairAt H q t b) (s : Same H H') : PairAt H' q t b := s _ _ p
theorem RV.on {C : Addr} {H H' : Hp} {p : Addr} {x : Rat} {n : Nat} (r : RV C H p x n) (s : Same H H') : RV C H' p x n := let ⟨t, b, h1, h2⟩ := r; ⟨t, b, h1.on s, h2⟩
theorem NV.on {C : Addr} {H H' : Hp} {p : V} {x : Rat} {n : Nat} (r : NV C H p x n) (s : Same H H') : NV C H' p x n := let ⟨t, b, h1, h2⟩ := r; ⟨t, b, h1.on s, h2⟩
theorem PV.on {H H' : Hp} {p : Addr} {x : Rat} {n : Nat} (r : PV H p x n) (s : Same H H') : PV H' p x n := let ⟨t, b, h1, h2⟩ := r; ⟨t, b, h1.on' s, h2⟩
theorem RV.mono {C : Addr} {H : Hp} {p : Addr} {x : Rat} {n m : Nat} (r : RV C H p x n) (h : n ≤ m) : RV C H p x m := let ⟨t, b, h1, h2, h3, h4⟩ := r; ⟨t, b, h1, h2, h3, h4.mono h⟩
theorem NV.mono {C : Addr} {H : Hp} {p : V} {x : Rat} {n m : Nat} (r : NV C H p x n) (h : n ≤ m) : NV C H p x m := let ⟨t, b, h1, h2, h3, h4⟩ := r; ⟨t, b, h1, h2, h3, h4.mono h⟩
theorem PV.mono {H : Hp} {p : Addr} {x : Rat} {n m : Nat} (r : PV H p x n) (h : n ≤ m) : PV H p x m := let ⟨t, b, h1, h2, h3, h4⟩ := r; ⟨t, b, h1, h2, h3, h4.mono h⟩
theorem RV.num {C : Addr} {H : Hp} {p : Addr} {x : Rat} {n : Nat} (r : RV C H p x n) : NV C H (.ref p) x n := let ⟨t, b, h1, h2⟩ := r; ⟨t, b, .inr ⟨p, rfl, h1⟩, h2⟩
theorem vq_one (t : Int) : vq t 1 = (t : Rat) := by
  unfold vq
  push_cast
  grind
theorem NV.int {C : Addr} {H : Hp} {n : Nat} (t : Int) (h : t.natAbs < 2 ^ n) (hn : 1 ≤ n) : NV C H (.int t) (t : Rat) n := ⟨t, 1, .inl ⟨rfl, rfl⟩, Low.one t, vq_one t, h, Nat.lt_of_lt_of_le (show 1 < 2 ^ 1 by decide) (Nat.pow_le_pow_right (by decide) hn)⟩
theorem RV.ins {C : Addr} {H : Hp} {p : Addr} {x : Rat} {n : Nat} (r : RV C H p x n) : ∃ dx fs, H p = some (.ins C dx fs) ∧ fs.lookup ("below" : Str) = none ∧ fs.lookup ("over" : Str) = none := by
  obtain ⟨t, b, ⟨dx, h⟩, _⟩ := r
  exact ⟨dx, _, h, rf_below _ _, rf_over _ _⟩
/-- both are ratios -/
theorem oo_of {C : Addr} {H : Hp} {p q : Addr} {x y : Rat} {n m : Nat} {sp : Sp} {E : XK} {Q : VK} (a : RV C H p x n) (b : RV C H q y m) (k : sp [.ref p, .ref q] H Q E) : rOO C sp E (.ref p) (.ref q) H Q := by
  obtain ⟨dx, fs, h, _⟩ := a.ins
  obtain ⟨dy, gs, h', _⟩ := b.ins
  exact ⟨p, dx, fs, q, dy, gs, rfl, rfl, h, h', k⟩
def ResV (C : Addr) (H : Hp) (x : Rat) (n : Nat) (Q : VK) : Prop := ∀ q H', H q = none → Same H H' → RV C H' q x n → Q (.ref q) H'
def ResPV (H : Hp) (x : Rat) (n : Nat) (Q : VK) : Prop := ∀ q H', H q = none → Same H H' → PV H' q x n → Q (.ref q) H'
def spAddV (C : Addr) : Sp := fun vs H Q _ => ∃ (p : Addr) (y : V) (x x' : Rat) (n n' : Nat), vs = [.ref p, y] ∧ RV C H p x n ∧ NV C H y x' n' ∧ n ≤ 3900 ∧ n' ≤ 3900 ∧ ResV C H (x + x') (n + n' + 1) Q
def spSubV (C : Addr) : Sp := fun vs H Q _ => ∃ (p : Addr) (y : V) (x x' : Rat) (n n' : Nat), vs = [.ref p, y] ∧ RV C H p x n ∧ NV C H y x' n' ∧ n ≤ 3900 ∧ n' ≤ 3900 ∧ ResV C H (x - x') (n + n' + 1) Q
def spMulV (C : Addr) : Sp := fun vs H Q _ => ∃ (p : Addr) (y : V) (x x' : Rat) (n n' : Nat), vs = [.ref p, y] ∧ RV C H p x n ∧ NV C H y x' n' ∧ n ≤ 3900 ∧ n' ≤ 3900 ∧ ResV C H (x * x') (n + n') Q
def spOverV (C : Addr) : Sp := fun vs H Q _ => ∃ (p : Addr) (y : V) (x x' : Rat) (n n' : Nat), vs = [.ref p, y] ∧ RV C H p x n ∧ NV C H y x' n' ∧ n ≤ 3900 ∧ n' ≤ 3900 ∧ x' ≠ 0 ∧ ResV C H (x / x') (n + n') Q
def spBelowV (C : Addr) : Sp := fun vs H Q _ => ∃ (p : Addr) (y : V) (x x' : Rat) (n n' : Nat), vs = [.ref p, y] ∧ RV C H p x n ∧ NV C H y x' n' ∧ n ≤ 3900 ∧ n' ≤ 3900 ∧ ∀ H', Same H H' → Q (.bl (decide (x < x'))) H'
def spAsV (C : Addr) : Sp := fun vs H Q _ => ∃ (v : V) (x : Rat) (n : Nat), vs = [v] ∧ NV C H v x n ∧ ∀ p H', Same H H' → RV C H' p x n → Q (.ref p) H'
def spEqV (C : Addr) : Sp := fun vs H Q _ => ∃ (p q : Addr) (x y : Rat) (n m : Nat), vs = [.ref p, .ref q] ∧ RV C H p x n ∧ RV C H q y m ∧ Q (.bl (decide (x = y))) H
theorem okv_add (T : Txt K mg) : FnOk P w K mg base CX0 4 T.f_Ratio_add T.d_Ratio_add ["self", "other"] (spAddV T.f_Ratio) := (ok_add T).imp fun vs H Q E ⟨p, y, x, x', n, n', e, ⟨t, b, r, l, ev, sz⟩, ⟨t', b', nm, l', ev', sz'⟩, hn, hn', k⟩ =>
  ⟨p, y, t, b, t', b', e, r, nm, (sz.sm hn).1, (sz.sm hn).2, (sz'.sm hn').1, (sz'.sm hn').2, l.ne, l'.ne, fun q H' nq s rq => k q H' nq s ⟨_, _, rq, Low.of (Int.mul_ne_zero l.ne l'.ne), by rw [vq_low (Int.mul_ne_zero l.ne l'.ne), vq_add l.ne l'.ne, ev, ev'], (sz.add sz').low (Int.mul_ne_zero l.ne l'.ne)⟩⟩
theorem okv_mul (T : Txt K mg) : FnOk P w K mg base CX0 4 T.f_Ratio_mul T.d_Ratio_mul ["self", "other"] (spMulV T.f_Ratio) := (ok_mul T).imp fun vs H Q E ⟨p, y, x, x', n, n', e, ⟨t, b, r, l, ev, sz⟩, ⟨t', b', nm, l', ev', sz'⟩, hn, hn', k⟩ =>
  ⟨p, y, t, b, t', b', e, r, nm, (sz.sm hn).1, (sz.sm hn).2, (sz'.sm hn').1, (sz'.sm hn').2, l.ne, l'.ne, fun q H' nq s rq => k q H' nq s ⟨_, _, rq, Low.of (Int.mul_ne_zero l.ne l'.ne), by rw [vq_low (Int.mul_ne_zero l.ne l'.ne), vq_mul l.ne l'.ne, ev, ev'], (sz.mul sz').low (Int.mul_ne_zero l.ne l'.ne)⟩⟩
theorem okv_sub (T : Txt K mg) : FnOk P w K mg base CX0 5 T.f_Ratio_sub T.d_Ratio_sub ["self", "other"] (spSubV T.f_Ratio) := (ok_sub T).imp fun vs H Q E ⟨p, y, x, x', n, n', e, ⟨t, b, r, l, ev, sz⟩, ⟨t', b', nm, l', ev', sz'⟩, hn, hn', k⟩ =>
  ⟨p, y, t, b, t', b', e, r, nm, (sz.sm hn).1, (sz.sm hn).2, (sz'.sm hn').1, (sz'.sm hn').2, l.ne, l', fun q H' nq s rq => k q H' nq s ⟨_, _, rq, Low.of (Int.mul_ne_zero l.ne l'.ne), by rw [vq_low (Int.mul_ne_zero l.ne l'.ne), vq_add l.ne l'.ne, vq_neg, ev, ev']; grind, (sz.add sz'.neg).low (Int.mul_ne_zero l.ne l'.ne)⟩⟩
theorem okv_over (T : Txt K mg) : FnOk P w K mg base CX0 4 T.f_Ratio_over T.d_Ratio_over ["self", "value"] (spOverV T.f_Ratio) := (ok_over T).imp fun vs H Q E ⟨p, y, x, x', n, n', e, ⟨t, b, r, l, ev, sz⟩, ⟨t', b', nm, l', ev', sz'⟩, hn, hn', h0, k⟩ => by
  have ht : t' ≠ 0 := fun z => h0 (by rw [← ev']; exact (vq_zero l'.ne).mpr z)
  exact ⟨p, y, t, b, t', b', e, r, nm, (sz.sm hn).1, (sz.sm hn).2, (sz'.sm hn').1, (sz'.sm hn').2, l.ne, ht, fun q H' nq s rq => k q H' nq s ⟨_, _, rq, Low.of (Int.mul_ne_zero l.ne ht), by rw [vq_low (Int.mul_ne_zero l.ne ht), vq_over l.ne l'.ne ht, ev, ev'], (sz.over sz').low (Int.mul_ne_zero l.ne ht)⟩⟩
theorem okv_below (T : Txt K mg) : FnOk P w K mg base CX0 4 T.f_Ratio_below T.d_Ratio_below ["self", "value"] (spBelowV T.f_Ratio) := (ok_below T).imp fun vs H Q E ⟨p, y, x, x', n, n', e, ⟨t, b, r, l, ev, sz⟩, ⟨t', b', nm, l', ev', sz'⟩, hn, hn', k⟩ =>
  ⟨p, y, t, b, t', b', e, r, nm, (sz.sm hn).1, (sz.sm hn).2, (sz'.sm hn').1, (sz'.sm hn').2, fun H' s => by
    have := k H' s
    rw [← ev, ← ev'] at this
    rw [decide_eq_decide.mpr (vq_lt l.1 l'.1)]
    exact this⟩
theorem okv_as (T : Txt K mg) : FnOk P w K mg base CX0 3 T.f_as_ratio T.d_as_ratio ["value"] (spAsV T.f_Ratio) := (ok_asN T).imp fun vs H Q E ⟨v, x, n, e, ⟨t, b, nm, l, ev, sz⟩, k⟩ =>
  ⟨v, t, b, e, nm, fun p H' s r => k p H' s ⟨t, b, r, l, ev, sz⟩⟩
theorem okv_eq (T : Txt K mg) : FnOk P w K mg base CX0 1 T.f_Ratio_eq T.d_Ratio_eq ["self", "other"] (spEqV T.f_Ratio) := (ok_eqB T).imp fun vs H Q E ⟨p, q, x, y, n, m, e, ⟨t, b, r, l, ev, sz⟩, ⟨t', b', r', l', ev', sz'⟩, k⟩ =>
  ⟨p, q, t, b, t', b', e, r, r', by
    have hd : decide (t = t' ∧ b = b') = decide (x = y) := decide_eq_decide.mpr ⟨fun ⟨h1, h2⟩ => by rw [← ev, ← ev', h1, h2], fun h => low_unique l l' (by rw [ev, ev', h])⟩
    rw [hd]
    exact k⟩
/-! the law's pairs -/
def spPlusV : Sp := fun vs H Q _ => ∃ (q q' : Addr) (x x' : Rat) (n n' : Nat), vs = [.ref q, .ref q'] ∧ PV H q x n ∧ PV H q' x' n' ∧ n ≤ 3900 ∧ n' ≤ 3900 ∧ ResPV H (x + x') (n + n' + 1) Q
def spTimesV : Sp := fun vs H Q _ => ∃ (q q' : Addr) (x x' : Rat) (n n' : Nat), vs = [.ref q, .ref q'] ∧ PV H q x n ∧ PV H q' x' n' ∧ n ≤ 3900 ∧ n' ≤ 3900 ∧ ResPV H (x * x') (n + n') Q
def spMinusV : Sp := fun vs H Q _ => ∃ (q q' : Addr) (x x' : Rat) (n n' : Nat), vs = [.ref q, .ref q'] ∧ PV H q x n ∧ PV H q' x' n' ∧ n ≤ 3900 ∧ n' ≤ 3900 ∧ ResPV H (x - x') (n + n' + 1) Q
def spLessV : Sp := fun vs H Q _ => ∃ (q q' : Addr) (x x' : Rat) (n n' : Nat), vs = [.ref q, .ref q'] ∧ PV H q x n ∧ PV H q' x' n' ∧ n ≤ 3900 ∧ n' ≤ 3900 ∧ Q (.bl (decide (x < x'))) H
def spLowV : Sp := fun vs H Q _ => ∃ (t b : Int) (n : Nat), vs = [.int t, .int b] ∧ b ≠ 0 ∧ Sz n t b ∧ n ≤ 7900 ∧ ResPV H (vq t b) n Q
def spIsV (C : Addr) : Sp := fun vs H Q _ => ∃ (p q : Addr) (x : Rat) (n m : Nat), vs = [.ref p, .ref q] ∧ RV C H p x n ∧ PV H q x m ∧ ∀ H', Same H H' → Q (.bl true) H'
theorem okv_plus (T : Txt K mg) : FnOk P w K mg base CX0 2 T.f_plus T.d_plus ["_law_one", "_law_two"] spPlusV := (ok_plus T).imp fun vs H Q E ⟨p, y, x, x', n, n', e, ⟨t, b, r, l, ev, sz⟩, ⟨t', b', nm, l', ev', sz'⟩, hn, hn', k⟩ =>
  ⟨p, y, t, b, t', b', e, r, nm, (sz.sm hn).1, (sz.sm hn).2, (sz'.sm hn').1, (sz'.sm hn').2, l.ne, l'.ne, fun q H' nq s rq => k q H' nq s ⟨_, _, rq, Low.of (Int.mul_ne_zero l.ne l'.ne), by rw [vq_low (Int.mul_ne_zero l.ne l'.ne), vq_add l.ne l'.ne, ev, ev'], (sz.add sz').low (Int.mul_ne_zero l.ne l'.ne)⟩⟩
theorem okv_times (T : Txt K mg) : FnOk P w K mg base CX0 2 T.f_times T.d_times ["_law_one", "_law_two"] spTimesV := (ok_times T).imp fun vs H Q E ⟨p, y, x, x', n, n', e, ⟨t, b, r, l, ev, sz⟩, ⟨t', b', nm, l', ev', sz'⟩, hn, hn', k⟩ =>
  ⟨p, y, t, b, t', b', e, r, nm, (sz.sm hn).1, (sz.sm hn).2, (sz'.sm hn').1, (sz'.sm hn').2, l.ne, l'.ne, fun q H' nq s rq => k q H' nq s ⟨_, _, rq, Low.of (Int.mul_ne_zero l.ne l'.ne), by rw [vq_low (Int.mul_ne_zero l.ne l'.ne), vq_mul l.ne l'.ne, ev, ev'], (sz.mul sz').low (Int.mul_ne_zero l.ne l'.ne)⟩⟩
theorem okv_minus (T : Txt K mg) : FnOk P w K mg base CX0 3 T.f_minus T.d_minus ["_law_one", "_law_two"] spMinusV := (ok_minus T).imp fun vs H Q E ⟨p, y, x, x', n, n', e, ⟨t, b, r, l, ev, sz⟩, ⟨t', b', nm, l', ev', sz'⟩, hn, hn', k⟩ =>
  ⟨p, y, t, b, t', b', e, r, nm, (sz.sm hn).1, (sz.sm hn).2, (sz'.sm hn').1, (sz'.sm hn').2, l.ne, l'.ne, fun q H' nq s rq => k q H' nq s ⟨_, _, rq, Low.of (Int.mul_ne_zero l.ne l'.ne), by rw [vq_low (Int.mul_ne_zero l.ne l'.ne), vq_add l.ne l'.ne, vq_neg, ev, ev']; grind, (sz.add sz'.neg).low (Int.mul_ne_zero l.ne l'.ne)⟩⟩
theorem okv_less (T : Txt K mg) : FnOk P w K mg base CX0 1 T.f_less T.d_less ["_law_one", "_law_two"] spLessV := (ok_less T).imp fun vs H Q E ⟨p, y, x, x', n, n', e, ⟨t, b, r, l, ev, sz⟩, ⟨t', b', nm, l', ev', sz'⟩, hn, hn', k⟩ =>
  ⟨p, y, t, b, t', b', e, r, nm, (sz.sm hn).1, (sz.sm hn).2, (sz'.sm hn').1, (sz'.sm hn').2, by
    rw [← ev, ← ev'] at k
    rw [decide_eq_decide.mpr (vq_lt l.1 l'.1)]
    exact k⟩
theorem okv_low (T : Txt K mg) : FnOk P w K mg base CX0 1 T.f_low T.d_low ["_law_up", "_law_down"] spLowV := (ok_low T).imp fun vs H Q E ⟨t, b, n, e, hb, sz, hn, k⟩ =>
  ⟨t, b, e, hb, Nat.lt_of_lt_of_le sz.2 (Nat.pow_le_pow_right (by decide) (by omega)), fun p H' np s hp => k p H' np s ⟨_, _, hp, Low.of hb, vq_low hb, sz.low hb⟩⟩
end

section
variable {P : Program} {w : World} {K : PySem.W.Frag} {mg : Str → Option Value} {base : Heap}
theorem okv_is (T : Txt K mg) : FnOk P w K mg base CX0 3 T.f_is T.d_is ["_law_actual", "_law_pair"] (spIsV T.f_Ratio) := (ok_is T).imp fun vs H Q E ⟨p, q, x, n, m, e, ⟨t, b, r, l, ev, sz⟩, ⟨t', b', r', l', ev', sz'⟩, k⟩ => by
  obtain ⟨h1, h2⟩ := low_unique l l' (ev.trans ev'.symm)
  exact ⟨p, q, t, b, e, r, by rw [h1, h2]; exact r', k⟩
end

/-! ### piecewise straight lines -/
structure Seg where
  x : Rat
  t : Rat
  r : Rat
def Seg.at (s : Seg) (z : Rat) : Rat := s.t + s.r * (z - s.x)
/-- the time at z -/
def ev : List Seg → Rat → Rat
  | [], _ => 0
  | [s], z => s.at z
  | s :: u :: rest, z => if z < u.x then s.at z else ev (u :: rest) z
/-- each corner with the rise behind it -/
def segs : List (Rat × Rat) → Rat → List Seg
  | [], _ => []
  | [c], s => [⟨c.1, c.2, s⟩]
  | c :: d :: rest, s => ⟨c.1, c.2, (d.2 - c.2) / (d.1 - c.1)⟩ :: segs (d :: rest) s
def keep : Rat → List Seg → List Seg
  | _, [] => []
  | p, s :: r => if s.r = p then keep s.r r else s :: keep s.r r
def bends : List Seg → List Seg
  | [] => []
  | s :: r => s :: keep s.r r
/-- the corners rise from left to right, the pieces meet -/
def Chn : List Seg → Prop
  | [] => True
  | [_] => True
  | s :: u :: rest => s.x < u.x ∧ u.t = s.at u.x ∧ Chn (u :: rest)
theorem at_same {s u : Seg} (h : u.t = s.at u.x) (e : u.r = s.r) (z : Rat) : u.at z = s.at z := by
  unfold Seg.at at *
  rw [h, e]
  grind
theorem ev_low {s : Seg} {l : List Seg} {z : Rat} (h : Chn (s :: l)) (hz : z < s.x) : ev (s :: l) z = s.at z := by
  cases l with
  | nil => rfl
  | cons u r =>
    show (if z < u.x then s.at z else ev (u :: r) z) = s.at z
    rw [if_pos (by have := h.1; grind)]
theorem ev_keep : ∀ (r : List Seg) (s : Seg), Chn (s :: r) → ∀ z, ev (s :: keep s.r r) z = ev (s :: r) z
  | [], _, _, _ => rfl
  | u :: r, s, h, z => by
    have ih := ev_keep r u h.2.2 z
    by_cases e : u.r = s.r
    · have hk : keep s.r (u :: r) = keep u.r r := by
        show (if u.r = s.r then keep u.r r else u :: keep u.r r) = _
        rw [if_pos e]
      rw [hk]
      have same := at_same h.2.1 e z
      have step : ev (s :: keep u.r r) z = ev (u :: keep u.r r) z := by
        cases keep u.r r with
        | nil => exact same.symm
        | cons v k =>
          show (if z < v.x then s.at z else ev (v :: k) z) = (if z < v.x then u.at z else ev (v :: k) z)
          rw [same]
      rw [step, ih]
      show _ = (if z < u.x then s.at z else ev (u :: r) z)
      by_cases hz : z < u.x
      · rw [if_pos hz, ev_low h.2.2 hz, same]
      · rw [if_neg hz]
    · have hk : keep s.r (u :: r) = u :: keep u.r r := by
        show (if u.r = s.r then keep u.r r else u :: keep u.r r) = _
        rw [if_neg e]
      rw [hk]
      show (if z < u.x then s.at z else ev (u :: keep u.r r) z) = (if z < u.x then s.at z else ev (u :: r) z)
      rw [ih]
theorem ev_bends {l : List Seg} (h : Chn l) (z : Rat) : ev (bends l) z = ev l z := by
  cases l with
  | nil => rfl
  | cons s r => exact ev_keep r s h z
/-- loads rise -/
def Srt (l : List Seg) : Prop := l.Pairwise fun a b => a.x < b.x
theorem chn_lt : ∀ (r : List Seg) (s : Seg), Chn (s :: r) → ∀ u ∈ r, s.x < u.x
  | [], _, _, u, h => by cases h
  | v :: r, s, h, u, hu => by
    rcases List.mem_cons.mp hu with hu | hu
    · rw [hu]; exact h.1
    · have := chn_lt r v h.2.2 u hu
      have := h.1
      grind
theorem chn_srt : ∀ (l : List Seg), Chn l → Srt l
  | [], _ => .nil
  | [s], _ => .cons (fun _ h => by cases h) .nil
  | s :: u :: r, h => .cons (chn_lt _ _ h) (chn_srt (u :: r) h.2.2)
theorem keep_sub : ∀ (l : List Seg) (p : Rat), (keep p l).Sublist l
  | [], _ => .slnil
  | s :: r, p => by
    show (if s.r = p then keep s.r r else s :: keep s.r r).Sublist (s :: r)
    split
    · exact (keep_sub r _).cons _
    · exact (keep_sub r _).cons_cons _
theorem bends_sub (l : List Seg) : (bends l).Sublist l := by
  cases l with
  | nil => exact .slnil
  | cons s r => exact (keep_sub r _).cons_cons _
theorem bends_srt {l : List Seg} (h : Srt l) : Srt (bends l) := List.Pairwise.sublist (bends_sub l) h
theorem bends_head {s : Seg} {r : List Seg} : ∃ k, bends (s :: r) = s :: k := ⟨_, rfl⟩
/-- the piece at z -/
theorem ev_at : ∀ (l : List Seg), Srt l → ∀ (z : Rat) (c : Nat), c < l.length → (∀ i s, l[i]? = some s → i ≤ c → s.x ≤ z) → (∀ i s, l[i]? = some s → c < i → z < s.x) → ∃ s, l[c]? = some s ∧ ev l z = s.at z
  | [], _, _, c, hc, _, _ => by simp at hc
  | [s], _, z, c, hc, _, _ => by
    have : c = 0 := by simp at hc; omega
    subst this
    exact ⟨s, rfl, rfl⟩
  | s :: u :: r, h, z, 0, hc, h1, h2 => by
    refine ⟨s, rfl, ?_⟩
    show (if z < u.x then s.at z else ev (u :: r) z) = s.at z
    rw [if_pos (h2 1 u rfl (by decide))]
  | s :: u :: r, h, z, c + 1, hc, h1, h2 => by
    obtain ⟨v, hv, e⟩ := ev_at (u :: r) (List.Pairwise.of_cons h) z c (by simpa using hc) (fun i s' hs hi => h1 (i + 1) s' hs (by omega)) (fun i s' hs hi => h2 (i + 1) s' hs (by omega))
    refine ⟨v, hv, ?_⟩
    show (if z < u.x then s.at z else ev (u :: r) z) = v.at z
    rw [if_neg (by have := h1 1 u rfl (by omega); grind)]
    exact e
theorem segs_len : ∀ (cs : List (Rat × Rat)) (s : Rat), (segs cs s).length = cs.length
  | [], _ => rfl
  | [_], _ => rfl
  | c :: d :: r, s => by show (segs (d :: r) s).length + 1 = _; rw [segs_len (d :: r) s]; rfl
theorem segs_x : ∀ (cs : List (Rat × Rat)) (s : Rat), (segs cs s).map Seg.x = cs.map (·.1)
  | [], _ => rfl
  | [_], _ => rfl
  | c :: d :: r, s => by show c.1 :: (segs (d :: r) s).map Seg.x = _; rw [segs_x (d :: r) s]; rfl
theorem segs_t : ∀ (cs : List (Rat × Rat)) (s : Rat), (segs cs s).map Seg.t = cs.map (·.2)
  | [], _ => rfl
  | [_], _ => rfl
  | c :: d :: r, s => by show c.2 :: (segs (d :: r) s).map Seg.t = _; rw [segs_t (d :: r) s]; rfl
/-- the loads of the corners rise, the times don't fall -/
def Cor (cs : List (Rat × Rat)) : Prop := cs ≠ [] ∧ (∀ c, cs[0]? = some c → c.1 = 0 ∧ 0 ≤ c.2) ∧ ∀ i c d, cs[i]? = some c → cs[i + 1]? = some d → c.1 < d.1 ∧ c.2 ≤ d.2
def Up (cs : List (Rat × Rat)) : Prop := ∀ i c d, cs[i]? = some c → cs[i + 1]? = some d → c.1 < d.1 ∧ c.2 ≤ d.2
theorem segs_chn : ∀ (cs : List (Rat × Rat)) (s : Rat), Up cs → Chn (segs cs s)
  | [], _, _ => trivial
  | [_], _, _ => trivial
  | [c, d], s, h => by
    have h1 := (h 0 c d rfl rfl).1
    refine ⟨h1, ?_, trivial⟩
    show d.2 = c.2 + (d.2 - c.2) / (d.1 - c.1) * (d.1 - c.1)
    have : d.1 - c.1 ≠ 0 := by grind
    grind
  | c :: d :: e :: r, s, h => by
    have ih := segs_chn (d :: e :: r) s fun i a b h1 h2 => h (i + 1) a b h1 h2
    have h1 := (h 0 c d rfl rfl).1
    refine ⟨h1, ?_, ih⟩
    show d.2 = c.2 + (d.2 - c.2) / (d.1 - c.1) * (d.1 - c.1)
    have : d.1 - c.1 ≠ 0 := by grind
    grind
/-- the rise at a place -/
theorem segs_r : ∀ (cs : List (Rat × Rat)) (s : Rat) (i : Nat) (c d : Rat × Rat), cs[i]? = some c → cs[i + 1]? = some d → ((segs cs s)[i]?).map Seg.r = some ((d.2 - c.2) / (d.1 - c.1))
  | [], _, _, _, _, h, _ => by simp at h
  | [_], _, i, _, _, _, h => by simp at h
  | a :: b :: r, s, 0, c, d, h1, h2 => by
    have e1 : a = c := Option.some.inj h1
    have e2 : b = d := Option.some.inj h2
    rw [e1, e2]
    rfl
  | a :: b :: r, s, i + 1, c, d, h1, h2 => segs_r (b :: r) s i c d h1 h2
theorem segs_last : ∀ (cs : List (Rat × Rat)) (s : Rat) (i : Nat), i + 1 = cs.length → ((segs cs s)[i]?).map Seg.r = some s
  | [], _, _, h => by simp at h
  | [c], s, i, h => by
    have : i = 0 := by simpa using h
    subst this
    rfl
  | a :: b :: r, s, 0, h => by simp at h
  | a :: b :: r, s, i + 1, h => segs_last (b :: r) s i (by simpa using h)
theorem keep_snoc : ∀ (l : List Seg) (p : Rat) (u : Seg), keep p (l ++ [u]) = keep p l ++ if u.r = (((l.map Seg.r).getLast?).getD p) then [] else [u]
  | [], p, u => by
    show (if u.r = p then keep u.r [] else u :: keep u.r []) = [] ++ if u.r = p then [] else [u]
    split <;> rfl
  | s :: r, p, u => by
    have ih := keep_snoc r s.r u
    have e : (((s :: r).map Seg.r).getLast?).getD p = ((r.map Seg.r).getLast?).getD s.r := by
      cases r with
      | nil => rfl
      | cons a b => simp [List.getLast?_cons]
    rw [e]
    show (if s.r = p then keep s.r (r ++ [u]) else s :: keep s.r (r ++ [u])) = (if s.r = p then keep s.r r else s :: keep s.r r) ++ _
    rw [ih]
    split
    · rfl
    · rfl
theorem bends_snoc {l : List Seg} {u v : Seg} (hl : l.getLast? = some v) : bends (l ++ [u]) = bends l ++ if u.r = v.r then [] else [u] := by
  cases l with
  | nil => cases hl
  | cons s r =>
    show s :: keep s.r (r ++ [u]) = s :: keep s.r r ++ _
    rw [keep_snoc]
    have e : ((r.map Seg.r).getLast?).getD s.r = v.r := by
      cases r with
      | nil =>
        have : s = v := Option.some.inj hl
        rw [this]
        rfl
      | cons a b =>
        rw [List.getLast?_cons_cons] at hl
        rw [List.getLast?_map, hl]
        rfl
    rw [e]
    rfl

/-! ### rows of ratios -/
section
variable {P : Program} {w : World} {K : PySem.W.Frag} {mg : Str → Option Value} {base : Heap}
/-- these ratios stand at these places -/
def RVs (C : Addr) (H : Hp) (ps : List Addr) (xs : List Rat) (n : Nat) : Prop := ps.length = xs.length ∧ ∀ (i : Nat) p x, ps[i]? = some p → xs[i]? = some x → RV C H p x n
theorem RVs.on {C : Addr} {H H' : Hp} {ps : List Addr} {xs : List Rat} {n : Nat} (r : RVs C H ps xs n) (s : Same H H') : RVs C H' ps xs n := ⟨r.1, fun i p x h1 h2 => (r.2 i p x h1 h2).on s⟩
theorem RVs.mono {C : Addr} {H : Hp} {ps : List Addr} {xs : List Rat} {n m : Nat} (r : RVs C H ps xs n) (h : n ≤ m) : RVs C H ps xs m := ⟨r.1, fun i p x h1 h2 => (r.2 i p x h1 h2).mono h⟩
theorem RVs.nil {C : Addr} {H : Hp} {n : Nat} : RVs C H [] [] n := ⟨rfl, fun i p x h => by simp at h⟩
theorem RVs.snoc {C : Addr} {H : Hp} {ps : List Addr} {xs : List Rat} {n : Nat} {p : Addr} {x : Rat} (r : RVs C H ps xs n) (h : RV C H p x n) : RVs C H (ps ++ [p]) (xs ++ [x]) n := by
  refine ⟨by rw [List.length_append, List.length_append, r.1]; rfl, fun i q y h1 h2 => ?_⟩
  by_cases hi : i < ps.length
  · rw [List.getElem?_append_left hi] at h1
    rw [List.getElem?_append_left (by rw [← r.1]; exact hi)] at h2
    exact r.2 i q y h1 h2
  · have hi' : i < (ps ++ [p]).length := (List.getElem?_eq_some_iff.mp h1).1
    rw [List.length_append, List.length_singleton] at hi'
    have e : i = ps.length := by omega
    subst e
    rw [List.getElem?_append_right (Nat.le_refl _), Nat.sub_self] at h1
    rw [List.getElem?_append_right (by rw [r.1]; exact Nat.le_refl _), r.1, Nat.sub_self] at h2
    have e1 : p = q := Option.some.inj h1
    have e2 : x = y := Option.some.inj h2
    rw [← e1, ← e2]
    exact h
theorem RVs.get {C : Addr} {H : Hp} {ps : List Addr} {xs : List Rat} {n : Nat} (r : RVs C H ps xs n) {i : Nat} (hi : i < xs.length) : ∃ p, atI (ps.map V.ref) (i : Int) = some (.ref p) ∧ ps[i]? = some p ∧ RV C H p xs[i] n := by
  have hp : i < ps.length := by rw [r.1]; exact hi
  exact ⟨ps[i], atI_nat (by rw [List.getElem?_map, List.getElem?_eq_getElem hp]; rfl), List.getElem?_eq_getElem hp, r.2 i _ _ (List.getElem?_eq_getElem hp) (List.getElem?_eq_getElem hi)⟩
theorem RVs.at {C : Addr} {H : Hp} {ps : List Addr} {xs : List Rat} {n : Nat} (r : RVs C H ps xs n) {i : Nat} {x : Rat} (hx : xs[i]? = some x) : ∃ p, atI (ps.map V.ref) (i : Int) = some (.ref p) ∧ ps[i]? = some p ∧ RV C H p x n := by
  obtain ⟨hi, e⟩ := List.getElem?_eq_some_iff.mp hx
  obtain ⟨p, h1, h2, h3⟩ := r.get hi
  exact ⟨p, h1, h2, by rw [← e]; exact h3⟩
/-- how many are at most y -/
def spUpto (K : PySem.W.Frag) (C : Addr) : Sp := fun vs H Q _ => ∃ (a q : Addr) (ps : List Addr) (xs : List Rat) (y : Rat) (n m : Nat), vs = [.ref a, .ref q] ∧ SqT K H a (ps.map V.ref) ∧ RVs C H ps xs n ∧ RV C H q y m ∧ n ≤ 3900 ∧ m ≤ 3900 ∧ xs.length ≤ 1000 ∧ xs.Pairwise (· < ·) ∧
  ∀ (c : Nat) H', Same H H' → c ≤ xs.length → (∀ i x, xs[i]? = some x → i < c → x ≤ y) → (∀ i x, xs[i]? = some x → c ≤ i → y < x) → Q (.int (c : Int)) H'
theorem pw_lt {xs : List Rat} (h : xs.Pairwise (· < ·)) {i j : Nat} {x y : Rat} (hx : xs[i]? = some x) (hy : xs[j]? = some y) (hij : i < j) : x < y := by
  obtain ⟨hi, e1⟩ := List.getElem?_eq_some_iff.mp hx
  obtain ⟨hj, e2⟩ := List.getElem?_eq_some_iff.mp hy
  rw [← e1, ← e2]
  exact List.pairwise_iff_getElem.mp h i j hi hj hij
theorem ok_upto (T : Txt K mg) : FnOk P w K mg base CX0 5 T.f_many_upto T.d_many_upto ["values", "value"] (spUpto K T.f_Ratio) := by
  have G_Ratio_below : FnOk P w K mg base CX0 4 T.f_Ratio_below T.d_Ratio_below ["self", "value"] (spBelowV T.f_Ratio) := okv_below T
  refine T.F_many_upto.ok sc_many_upto (fun vs H Q E h => ?_) (fun cdv A outer s H vs Q E hr h => ?_)
  · obtain ⟨a, q, ps, xs, y, n, m, rfl, _⟩ := h
    rfl
  · obtain ⟨a, q, ps, xs, y, n, m, rfl, ha, hx, hy, hn, hm, hl, hp, k⟩ := h
    refine ⟨_, (pss_cons (ps_set (i := 2) sc_many_upto.nd rfl (Or.inl rfl) pe_int)
    (pss_cons (ps_set (i := 3) sc_many_upto.nd rfl (Or.inl rfl) (pe_callB call_len_seq (by rfl) T.n_len (by decide +kernel) (pa_cons (pv 0) pa_nil)))
    (C8.pss_cut (ps_while PassesOwn.never (pt_cmpR op_lt (pv 2) (pv 3) (nomark _))
      (pss_cons (ps_set (i := 4) sc_many_upto.nd rfl (Or.inl rfl) (pe_op op_fdivZ (pe_op op_add (pv 2) (pv 3)) pe_int))
    (pss_one (ps_if (pt_val (pe_meth (pv 1) T.cl_Ratio T.me_Ratio_below G_Ratio_below (hr.mono (by decide)) T.b_Ratio_below .nil pass0 (pa_cons (pe_ix ix_tup (pv 0) (pv 4) (fun _ _ => rfl)) pa_nil)))
      (pss_one (ps_set (i := 3) sc_many_upto.nd rfl (Or.inl rfl) (pv 4)))
      (pss_one (ps_set (i := 2) sc_many_upto.nd rfl (Or.inl rfl) (pe_op op_add (pv 4) pe_int)))))))
    (pss_one (ps_ret (pv 2)))))), ?_⟩
    refine ⟨_, rfl, a, _, rfl, .inr ha, ?_⟩
    rw [List.length_map, hx.1]
    refine ⟨fun σ H' => ∃ (c : Nat) (x4 : Option V), σ = [some (.ref a), some (.ref q), some (.int (c : Int)), some (.int (c : Int)), x4] ∧ Same H H' ∧ c ≤ xs.length ∧ (∀ i x, xs[i]? = some x → i < c → x ≤ y) ∧ (∀ i x, xs[i]? = some x → c ≤ i → y < x), ?_, ?_⟩
    · refine ⟨fun j σ H' => ∃ (lo hi : Nat) (x4 : Option V), σ = [some (.ref a), some (.ref q), some (.int (lo : Int)), some (.int (hi : Int)), x4] ∧ Same H H' ∧ lo ≤ hi ∧ hi ≤ xs.length ∧ hi - lo = j ∧ (∀ i x, xs[i]? = some x → i < lo → x ≤ y) ∧ (∀ i x, xs[i]? = some x → hi ≤ i → y < x), ⟨xs.length, 0, xs.length, none, rfl, Same.refl H, Nat.zero_le _, Nat.le_refl _, rfl, fun i x _ h => absurd h (Nat.not_lt_zero _), fun i x h1 h2 => absurd (List.getElem?_eq_some_iff.mp h1).1 (by omega)⟩, ?_⟩
      rintro j σ H' ⟨lo, hi, x4, rfl, s1, h1, h2, rfl, hA, hB⟩
      refine ⟨_, rfl, _, rfl, _, _, rfl, rfl, _, rfl, ite2 (fun hlt => ?_) fun hlt => ?_⟩
      · have hlt' : (lo : Int) < (hi : Int) := of_decide_eq_true hlt
        obtain ⟨mid, hmid⟩ : ∃ mid : Nat, ((lo : Int) + (hi : Int)).fdiv 2 = (mid : Int) := ⟨(lo + hi) / 2, by rw [Int.fdiv_eq_ediv_of_nonneg _ (by decide)]; omega⟩
        have hm1 : lo ≤ mid ∧ mid < hi := by
          have e := Int.fdiv_eq_ediv_of_nonneg ((lo : Int) + (hi : Int)) (show (0 : Int) ≤ 2 by decide)
          rw [e] at hmid
          omega
        refine ⟨fun σ' H2 => ∃ (lo' hi' : Nat) (x4 : Option V), σ' = [some (.ref a), some (.ref q), some (.int (lo' : Int)), some (.int (hi' : Int)), x4] ∧ Same H H2 ∧ lo' ≤ hi' ∧ hi' ≤ xs.length ∧ hi' - lo' < hi - lo ∧ (∀ i x, xs[i]? = some x → i < lo' → x ≤ y) ∧ (∀ i x, xs[i]? = some x → hi' ≤ i → y < x),
          fun σ' H2 ⟨lo', hi', x4', e1, e2, e3, e4, e5, e6, e7⟩ => ⟨hi' - lo', e5, lo', hi', x4', e1, e2, e3, e4, rfl, e6, e7⟩, ?_⟩
        refine ⟨_, rfl, _, rfl, _, _, rfl, rfl, _, _, rfl, rfl, cdivZ (by decide) (by decide +kernel), ?_⟩
        obtain ⟨p, ep, _, rp⟩ := (hx.on s1).get (i := mid) (by omega)
        have hy' := hy.on s1
        obtain ⟨dx, fs, hq, lb, _⟩ := hy'.ins
        refine ⟨_, rfl, q, dx, fs, rfl, hq, lb, _, rfl, _, rfl, a, _, _, _, rfl, rfl, ha.ext s1, by rw [hmid]; exact ep, ?_⟩
        refine ⟨q, .ref p, y, xs[mid]'(by omega), m, n, rfl, hy', rp.num, hm, hn, fun H2 s2 => ⟨_, rfl, ite2 (fun hc => ?_) fun hc => ?_⟩⟩
        · have hc' : y < xs[mid]'(by omega) := of_decide_eq_true hc
          refine ⟨_, rfl, lo, mid, some (.int (mid : Int)), by rw [← hmid]; rfl, s1.trans s2, hm1.1, by omega, by omega, hA, fun i x hi1 hi2 => ?_⟩
          by_cases e : i = mid
          · subst e
            rw [List.getElem?_eq_getElem (by omega)] at hi1
            rw [← Option.some.inj hi1]
            exact hc'
          · have := pw_lt hp (List.getElem?_eq_getElem (show mid < xs.length by omega)) hi1 (by omega)
            grind
        · have hc' : ¬ y < xs[mid]'(by omega) := fun z => hc (decide_eq_true z)
          refine ⟨_, rfl, _, _, rfl, rfl, mid + 1, hi, some (.int (mid : Int)), by rw [Int.natCast_add, ← hmid]; rfl, s1.trans s2, by omega, h2, by omega, fun i x hi1 hi2 => ?_, hB⟩
          by_cases e : i = mid
          · subst e
            rw [List.getElem?_eq_getElem (by omega)] at hi1
            rw [← Option.some.inj hi1]
            grind
          · have := pw_lt hp hi1 (List.getElem?_eq_getElem (show mid < xs.length by omega)) (by omega)
            grind
      · have hlt' : ¬ (lo : Int) < (hi : Int) := fun z => hlt (decide_eq_true z)
        have e : lo = hi := by omega
        subst e
        exact ⟨lo, x4, rfl, s1, h2, hA, hB⟩
    rintro σ H' ⟨c, x4, rfl, s1, hc, hA, hB⟩
    exact ⟨_, rfl, k c H' s1 hc hA hB⟩
end

/-! ### lines -/
section
variable {P : Program} {w : World} {K : PySem.W.Frag} {mg : Str → Option Value} {base : Heap}
def lf (a b c : Addr) : List (Str × V) := [("_loads", .ref a), ("_times", .ref b), ("_rises", .ref c)]
theorem nLT : (("_times" : Str) == ("_loads" : Str)) = false := by decide +kernel
theorem nLR : (("_rises" : Str) == ("_loads" : Str)) = false := by decide +kernel
theorem nTR : (("_rises" : Str) == ("_times" : Str)) = false := by decide +kernel
theorem lf_loads (a b c : Addr) : (lf a b c).lookup ("_loads" : Str) = some (.ref a) := by simp [lf, List.lookup]
theorem lf_times (a b c : Addr) : (lf a b c).lookup ("_times" : Str) = some (.ref b) := by simp [lf, List.lookup, nLT]
theorem lf_rises (a b c : Addr) : (lf a b c).lookup ("_rises" : Str) = some (.ref c) := by simp [lf, List.lookup, nLR, nTR]
/-- a line's three rows -/
structure Rows (RC : Addr) (H : Hp) (a b c : Addr) (l : List Seg) (n : Nat) : Prop where
  ls : ∃ ps : List Addr, H a = some (.tup (ps.map V.ref)) ∧ RVs RC H ps (l.map Seg.x) n
  ts : ∃ ps : List Addr, H b = some (.tup (ps.map V.ref)) ∧ RVs RC H ps (l.map Seg.t) n
  rs : ∃ ps : List Addr, H c = some (.tup (ps.map V.ref)) ∧ RVs RC H ps (l.map Seg.r) n
def LineAt (LC RC : Addr) (H : Hp) (p : Addr) (l : List Seg) (n : Nat) : Prop := ∃ dx a b c, H p = some (.ins LC dx (lf a b c)) ∧ Rows RC H a b c l n
theorem Rows.on {RC : Addr} {H H' : Hp} {a b c : Addr} {l : List Seg} {n : Nat} (r : Rows RC H a b c l n) (s : Same H H') : Rows RC H' a b c l n :=
  ⟨let ⟨ps, h1, h2⟩ := r.ls; ⟨ps, s _ _ h1, h2.on s⟩, let ⟨ps, h1, h2⟩ := r.ts; ⟨ps, s _ _ h1, h2.on s⟩, let ⟨ps, h1, h2⟩ := r.rs; ⟨ps, s _ _ h1, h2.on s⟩⟩
theorem LineAt.on {LC RC : Addr} {H H' : Hp} {p : Addr} {l : List Seg} {n : Nat} (r : LineAt LC RC H p l n) (s : Same H H') : LineAt LC RC H' p l n := let ⟨dx, a, b, c, h1, h2⟩ := r; ⟨dx, a, b, c, s _ _ h1, h2.on s⟩
/-- what a line keeps -/
structure Gd (l : List Seg) : Prop where
  ne : l ≠ []
  h0 : ∀ s, l[0]? = some s → s.x = 0
  srt : Srt l
  few : l.length ≤ 1000
theorem Gd.pw {l : List Seg} (g : Gd l) : (l.map Seg.x).Pairwise (· < ·) := List.pairwise_map.mpr g.srt
/-- the time at a load -/
def spTimeAt (LC RC : Addr) : Sp := fun vs H Q _ => ∃ (p q : Addr) (l : List Seg) (z : Rat) (n m : Nat), vs = [.ref p, .ref q] ∧ LineAt LC RC H p l n ∧ Gd l ∧ RV RC H q z m ∧ 0 ≤ z ∧ n + m ≤ 1200 ∧ ∀ o H', Same H H' → RV RC H' o (ev l z) (3 * n + m + 2) → Q (.ref o) H'
theorem ok_timeat (T : Txt K mg) : FnOk P w K mg base CX0 6 T.f_Line_time_at T.d_Line_time_at ["self", "load"] (spTimeAt T.f_Line T.f_Ratio) := by
  have G_Ratio_add : FnOk P w K mg base CX0 4 T.f_Ratio_add T.d_Ratio_add ["self", "other"] (spAddV T.f_Ratio) := okv_add T
  have G_Ratio_mul : FnOk P w K mg base CX0 4 T.f_Ratio_mul T.d_Ratio_mul ["self", "other"] (spMulV T.f_Ratio) := okv_mul T
  have G_Ratio_sub : FnOk P w K mg base CX0 5 T.f_Ratio_sub T.d_Ratio_sub ["self", "other"] (spSubV T.f_Ratio) := okv_sub T
  have G_many_upto : FnOk P w K mg base CX0 5 T.f_many_upto T.d_many_upto ["values", "value"] (spUpto K T.f_Ratio) := ok_upto T
  refine T.F_Line_time_at.ok sc_Line_time_at (fun vs H Q E h => ?_) (fun cdv A outer s H vs Q E hr h => ?_)
  · obtain ⟨p, q, l, z, n, m, rfl, _⟩ := h
    rfl
  · obtain ⟨p, q, l, z, n, m, rfl, ⟨dx, a, b, c, hp, R⟩, g, hq, hz, hn, k⟩ := h
    refine ⟨_, (pss_cons (ps_set (i := 2) sc_Line_time_at.nd rfl (Or.inl rfl) (pe_op op_sub (pe_call G_many_upto (hr.mono (by decide)) rfl T.m_many_upto T.F_many_upto.kp T.b_many_upto .nil pass0 (pa_cons (pe_fld (pv 0) rfl) (pa_cons (pv 1) pa_nil))) pe_int))
    (pss_one (ps_ret (pe_op (op_oo (nm := "add") rfl T.op_Ratio_add G_Ratio_add (hr.mono (by decide)) T.b_Ratio_add pass0) (pe_ix ix_tup (pe_fld (pv 0) rfl) (pv 2) (fun _ _ => rfl)) (pe_op (op_oo (nm := "mul") rfl T.op_Ratio_mul G_Ratio_mul (hr.mono (by decide)) T.b_Ratio_mul pass0) (pe_ix ix_tup (pe_fld (pv 0) rfl) (pv 2) (fun _ _ => rfl)) (pe_op (op_oo (nm := "sub") rfl T.op_Ratio_sub G_Ratio_sub (hr.mono (by decide)) T.b_Ratio_sub pass0) (pv 1) (pe_ix ix_tup (pe_fld (pv 0) rfl) (pv 2) (fun _ _ => rfl)))))))), ?_⟩
    obtain ⟨p1, e1, r1⟩ := R.ls
    refine ⟨_, rfl, p, T.f_Line, dx, _, _, rfl, hp, T.cl_Line, T.na_Line_loads, lf_loads _ _ _, _, rfl, a, q, p1, l.map Seg.x, z, n, m, rfl, SqT.of e1, r1, hq, by omega, by omega, by rw [List.length_map]; exact g.few, g.pw, fun i H1 s1 hi hA hB => ?_⟩
    rw [List.length_map] at hi
    -- at least the first
    have hl0 : 0 < l.length := List.length_pos_iff.mpr g.ne
    have hi0 : i ≠ 0 := fun e => by
      have h0 : l[0]? = some l[0] := List.getElem?_eq_getElem hl0
      have := hB 0 l[0].x (by rw [List.getElem?_map, h0]; rfl) (by omega)
      rw [g.h0 _ h0] at this
      grind
    obtain ⟨j, rfl⟩ : ∃ j, i = j + 1 := ⟨i - 1, by omega⟩
    obtain ⟨sg, esg, eev⟩ := ev_at l g.srt z j (by omega) (fun i s hs hi => hA i s.x (by rw [List.getElem?_map, hs]; rfl) (by omega)) (fun i s hs hi => hB i s.x (by rw [List.getElem?_map, hs]; rfl) (by omega))
    have ej : ((j + 1 : Nat) : Int) - 1 = (j : Int) := by omega
    refine ⟨_, _, rfl, rfl, ?_⟩
    have R1 := R.on s1
    have hp1 := s1 _ _ hp
    obtain ⟨p2, e2, r2⟩ := R1.ls
    obtain ⟨p3, e3, r3⟩ := R1.ts
    obtain ⟨p4, e4, r4⟩ := R1.rs
    obtain ⟨qx, ax, _, vx⟩ := r2.at (i := j) (x := sg.x) (by rw [List.getElem?_map, esg]; rfl)
    obtain ⟨qt, at_, _, vt⟩ := r3.at (i := j) (x := sg.t) (by rw [List.getElem?_map, esg]; rfl)
    obtain ⟨qr, ar, _, vr⟩ := r4.at (i := j) (x := sg.r) (by rw [List.getElem?_map, esg]; rfl)
    refine ⟨_, rfl, p, T.f_Line, dx, _, _, rfl, hp1, T.cl_Line, T.na_Line_times, lf_times _ _ _, _, rfl, b, _, _, _, rfl, rfl, SqT.of e3, by rw [ej]; exact at_, ?_⟩
    refine ⟨_, rfl, p, T.f_Line, dx, _, _, rfl, hp1, T.cl_Line, T.na_Line_rises, lf_rises _ _ _, _, rfl, c, _, _, _, rfl, rfl, SqT.of e4, by rw [ej]; exact ar, ?_⟩
    refine ⟨_, rfl, _, rfl, p, T.f_Line, dx, _, _, rfl, hp1, T.cl_Line, T.na_Line_loads, lf_loads _ _ _, _, rfl, a, _, _, _, rfl, rfl, SqT.of e2, by rw [ej]; exact ax, ?_⟩
    refine oo_of (hq.on s1) vx ⟨q, .ref qx, z, sg.x, m, n, rfl, hq.on s1, vx.num, by omega, by omega, fun o1 H2 n1 s2 w1 => ?_⟩
    refine oo_of (vr.on s2) w1 ⟨qr, .ref o1, sg.r, z - sg.x, n, m + n + 1, rfl, vr.on s2, w1.num, by omega, by omega, fun o2 H3 n2 s3 w2 => ?_⟩
    refine oo_of ((vt.on s2).on s3) w2 ⟨qt, .ref o2, sg.t, sg.r * (z - sg.x), n, n + (m + n + 1), rfl, (vt.on s2).on s3, w2.num, by omega, by omega, fun o3 H4 n3 s4 w3 => ?_⟩
    refine k o3 H4 (((s1.trans s2).trans s3).trans s4) ?_
    rw [eev]
    exact w3.mono (by omega)
/-! the corners that are passed -/
def CorAt (K : PySem.W.Frag) (RC : Addr) (H : Hp) (c : Addr) (cs : List (Rat × Rat)) (n : Nat) : Prop := ∃ ts : List Addr, SqL K H c (ts.map V.ref) ∧ ts.length = cs.length ∧ ∀ (i : Nat) t d, ts[i]? = some t → cs[i]? = some d → ∃ u v, H t = some (.tup [u, v]) ∧ NV RC H u d.1 n ∧ NV RC H v d.2 n
theorem CorAt.on {RC : Addr} {H H' : Hp} {c : Addr} {cs : List (Rat × Rat)} {n : Nat} (r : CorAt K RC H c cs n) (s : Same H H') : CorAt K RC H' c cs n := by
  obtain ⟨ts, h1, h2, h3⟩ := r
  refine ⟨ts, s.seq h1, h2, fun i t d ht hd => ?_⟩
  obtain ⟨u, v, e, a, b⟩ := h3 i t d ht hd
  exact ⟨u, v, s _ _ e, a.on s, b.on s⟩
def spCheck (K : PySem.W.Frag) (RC : Addr) : Sp := fun vs H Q _ => ∃ (c : Addr) (cs : List (Rat × Rat)) (n : Nat), vs = [.ref c] ∧ CorAt K RC H c cs n ∧ Cor cs ∧ n ≤ 3900 ∧ ∀ H', Same H H' → Q .non H'
theorem sign_zero {t b : Int} (l : Low t b) (h : vq t b = 0) : sgnI t = 0 := by
  have := (vq_zero l.ne).mp h
  rw [this]
  rfl
theorem ok_check (T : Txt K mg) : FnOk P w K mg base CX0 5 T.f_check_corners T.d_check_corners ["corners"] (spCheck K T.f_Ratio) := by
  have G_Ratio_below : FnOk P w K mg base CX0 4 T.f_Ratio_below T.d_Ratio_below ["self", "value"] (spBelowV T.f_Ratio) := okv_below T
  have G_as_ratio : FnOk P w K mg base CX0 3 T.f_as_ratio T.d_as_ratio ["value"] (spAsV T.f_Ratio) := okv_as T
  have G_Ratio_sign : FnOk P w K mg base CX0 1 T.f_Ratio_sign T.d_Ratio_sign ["self"] (spSign T.f_Ratio) := ok_sign T
  refine T.F_check_corners.ok sc_check_corners (fun vs H Q E h => ?_) (fun cdv A outer s H vs Q E hr h => ?_)
  · obtain ⟨c, cs, n, rfl, _⟩ := h
    rfl
  · obtain ⟨c, cs, n, rfl, hc, ⟨hne, h0, hup⟩, hn, k⟩ := h
    refine ⟨_, (pss_cons (ps_if (pt_cmpR op_eq (pe_callB call_len_seq (by rfl) T.n_len (by decide +kernel) (pa_cons (pv 0) pa_nil)) pe_int (nomark _))
      (pss_one ps_never)
      pss_nil)
    (pss_cons (ps_asg (pe_ix ix_list (pv 0) pe_int (fun _ _ => rfl)) (pg_tup rfl (pgs_cons (pg_name (i := 1) sc_check_corners.nd rfl (Or.inl rfl)) (pgs_cons (pg_name (i := 2) sc_check_corners.nd rfl (Or.inl rfl)) pgs_nil))))
    (pss_cons (ps_if (pt_cmpR op_ne (pe_prop (pe_call G_as_ratio (hr.mono (by decide)) rfl T.m_as_ratio T.F_as_ratio.kp T.b_as_ratio .nil pass0 (pa_cons (pv 1) pa_nil)) T.cl_Ratio T.p_Ratio_sign G_Ratio_sign (hr.mono (by decide)) T.b_Ratio_sign .nil pass0 rfl) pe_int (nomark _))
      (pss_one ps_never)
      pss_nil)
    (pss_cons (ps_if (pt_val (pe_meth (pe_call G_as_ratio (hr.mono (by decide)) rfl T.m_as_ratio T.F_as_ratio.kp T.b_as_ratio .nil pass0 (pa_cons (pv 2) pa_nil)) T.cl_Ratio T.me_Ratio_below G_Ratio_below (hr.mono (by decide)) T.b_Ratio_below .nil pass0 (pa_cons pe_int pa_nil)))
      (pss_one ps_never)
      pss_nil)
    (pss_one (ps_for PassesOwn.never rfl (pi_zip (by rfl) T.n_zip (pa_cons (pv 0) (pa_cons (pe_slice sl_list (pv 0) (po_some pe_int) po_none) pa_nil))) (pg_tup rfl (pgs_cons (pg_name (i := 3) sc_check_corners.nd rfl (Or.inl rfl)) (pgs_cons (pg_name (i := 4) sc_check_corners.nd rfl (Or.inl rfl)) pgs_nil)))
      (pss_cons (ps_if (pt_not (pt_val (pe_meth (pe_call G_as_ratio (hr.mono (by decide)) rfl T.m_as_ratio T.F_as_ratio.kp T.b_as_ratio .nil pass0 (pa_cons (pe_ix ix_tup (pv 3) pe_int (fun _ _ => rfl)) pa_nil)) T.cl_Ratio T.me_Ratio_below G_Ratio_below (hr.mono (by decide)) T.b_Ratio_below .nil pass0 (pa_cons (pe_ix ix_tup (pv 4) pe_int (fun _ _ => rfl)) pa_nil))))
      (pss_one ps_never)
      pss_nil)
    (pss_one (ps_if (pt_val (pe_meth (pe_call G_as_ratio (hr.mono (by decide)) rfl T.m_as_ratio T.F_as_ratio.kp T.b_as_ratio .nil pass0 (pa_cons (pe_ix ix_tup (pv 4) pe_int (fun _ _ => rfl)) pa_nil)) T.cl_Ratio T.me_Ratio_below G_Ratio_below (hr.mono (by decide)) T.b_Ratio_below .nil pass0 (pa_cons (pe_ix ix_tup (pv 3) pe_int (fun _ _ => rfl)) pa_nil)))
      (pss_one ps_never)
      pss_nil))))))))), ?_⟩
    obtain ⟨ts, e1, e2, e3⟩ := id hc
    have hl : 0 < cs.length := List.length_pos_iff.mpr hne
    have hlt : 0 < ts.length := by omega
    refine ⟨_, rfl, c, _, rfl, .inl e1, rfl, _, rfl, ?_⟩
    rw [decide_eq_false (fun z => by injection z with z; rw [List.length_map] at z; omega)]
    refine iteF ?_
    -- the first
    obtain ⟨u, v, et, nu, nv⟩ := e3 0 ts[0] cs[0] (List.getElem?_eq_getElem hlt) (List.getElem?_eq_getElem hl)
    obtain ⟨f1, f2⟩ := h0 cs[0] (List.getElem?_eq_getElem hl)
    refine ⟨_, rfl, c, _, 0, _, rfl, rfl, e1, atI_nat (j := 0) (by rw [List.getElem?_map, List.getElem?_eq_getElem hlt]; rfl), ?_⟩
    refine ⟨ts[0], _, rfl, SqT.of et, rfl, _, _, rfl, _, _, rfl, rfl, ?_⟩
    refine ⟨_, rfl, u, _, n, rfl, nu, fun p1 H1 s1 r1 => ?_⟩
    rw [f1] at r1
    obtain ⟨t1, b1, ra1, l1, v1, z1⟩ := r1
    obtain ⟨dx1, hp1⟩ := id ra1
    refine ⟨p1, dx1, _, rfl, hp1, p1, t1, b1, rfl, ra1, rfl, _, rfl, ?_⟩
    rw [sign_zero l1 v1]
    refine iteNS rfl ?_
    refine ⟨_, rfl, v, _, n, rfl, nv.on s1, fun p2 H2 s2 r2 => ?_⟩
    obtain ⟨dx2, fs2, hp2, lb2, _⟩ := r2.ins
    refine ⟨p2, dx2, fs2, rfl, hp2, lb2, p2, .int 0, _, 0, n, 1, rfl, r2, NV.int 0 (by decide) (by decide), hn, by decide, fun H3 s3 => ⟨_, rfl, ?_⟩⟩
    rw [decide_eq_false (by grind)]
    refine iteF ?_
    -- the others
    have s03 := (s1.trans s2).trans s3
    refine ⟨_, rfl, _, rfl, 1, rfl, c, _, rfl, s03.seq e1, fun p3 np3 => ?_⟩
    rw [cut1]
    have s04 := s03.trans (same_upd (o := .lst ((ts.map V.ref).drop 1)) np3)
    refine ⟨c, p3, _, _, rfl, s04.seq e1, SqL.of upd_same, ?_⟩
    refine for_it (walk_zip (K := K) (a := c) (b := p3) (xs := ts.map V.ref) (ys := (ts.map V.ref).drop 1) rfl) (fun i σ H' => ∃ x y : Option V, σ = [some (.ref c), some u, some v, x, y] ∧ Same H H' ∧ SqL K H' p3 ((ts.map V.ref).drop 1)) ⟨_, _, rfl, s04, SqL.of upd_same⟩ (fun i σ H' _ ⟨_, _, _, s, q⟩ => ⟨s.seq e1, q⟩) ?_ (fun σ H' ⟨_, _, _, s, _⟩ => k H' s)
    rintro i x σ H5 H6 hi ⟨x4, x5, rfl, s5, q5⟩ ⟨Tt, xa, ya, rfl, nT, rfl, ga, gb⟩
    have gb : ((ts.map V.ref).drop 1)[i]? = some ya := gb
    have ga : (ts.map V.ref)[i]? = some xa := ga
    rw [List.getElem?_drop, Nat.add_comm 1 i] at gb
    have hi1 : i + 1 < cs.length := by
      have := (List.getElem?_eq_some_iff.mp gb).1
      rw [List.length_map] at this
      omega
    have ta : ts[i]? = some (ts[i]'(by omega)) := List.getElem?_eq_getElem (by omega)
    have tb : ts[i + 1]? = some (ts[i + 1]'(by omega)) := List.getElem?_eq_getElem (by omega)
    rw [List.getElem?_map, ta] at ga
    rw [List.getElem?_map, tb] at gb
    obtain rfl := Option.some.inj ga
    obtain rfl := Option.some.inj gb
    have ca : cs[i]? = some (cs[i]'(by omega)) := List.getElem?_eq_getElem (by omega)
    have cb : cs[i + 1]? = some cs[i + 1] := List.getElem?_eq_getElem hi1
    obtain ⟨u1, v1', et1, nu1, nv1⟩ := e3 i _ _ ta ca
    obtain ⟨u2, v2, et2, nu2, nv2⟩ := e3 (i + 1) _ _ tb cb
    obtain ⟨up1, up2⟩ := hup i _ _ ca cb
    have s6 := s5.trans (same_upd (o := .tup [V.ref (ts[i]'(by omega)), .ref (ts[i + 1]'(by omega))]) nT)
    refine ⟨Tt, _, rfl, SqT.of upd_same, rfl, _, _, rfl, _, _, rfl, rfl, ?_⟩
    refine ⟨_, rfl, _, _, 0, u1, rfl, rfl, SqT.of (s6 _ _ et1), at0, u1, _, n, rfl, nu1.on s6, fun p7 H7 s7 r7 => ?_⟩
    obtain ⟨dx7, fs7, hp7, lb7, _⟩ := r7.ins
    have s07 := s6.trans s7
    refine ⟨p7, dx7, fs7, rfl, hp7, lb7, _, rfl, _, _, 0, u2, rfl, rfl, SqT.of (s07 _ _ et2), at0, p7, u2, _, _, n, n, rfl, r7, nu2.on s07, hn, hn, fun H8 s8 => ⟨_, rfl, ?_⟩⟩
    rw [decide_eq_true up1]
    refine iteF ?_
    have s08 := s07.trans s8
    refine ⟨_, rfl, _, _, 1, v2, rfl, rfl, SqT.of (s08 _ _ et2), at1, v2, _, n, rfl, nv2.on s08, fun p9 H9 s9 r9 => ?_⟩
    obtain ⟨dx9, fs9, hp9, lb9, _⟩ := r9.ins
    have s09 := s08.trans s9
    refine ⟨p9, dx9, fs9, rfl, hp9, lb9, _, rfl, _, _, 1, v1', rfl, rfl, SqT.of (s09 _ _ et1), at1, p9, v1', _, _, n, n, rfl, r9, nv1.on s09, hn, hn, fun H10 s10 => ⟨_, rfl, ?_⟩⟩
    rw [decide_eq_false (by grind)]
    refine iteF ⟨_, _, rfl, s09.trans s10, ?_⟩
    exact Same.seq ((((same_upd (o := .tup [V.ref (ts[i]'(by omega)), .ref (ts[i + 1]'(by omega))]) nT).trans s7).trans s8).trans (s9.trans s10)) q5
end

/-! ### the constructor -/
section
variable {P : Program} {w : World} {K : PySem.W.Frag} {mg : Str → Option Value} {base : Heap}
theorem atI_end {α : Type} {xs : List α} {j : Nat} {v : α} (h : xs[j]? = some v) (hl : j + 1 = xs.length) : atI xs (-1) = some v := by
  rcases List.eq_nil_or_concat xs with rfl | ⟨l, a, rfl⟩
  · simp at hl
  · rw [List.concat_eq_append] at *
    rw [List.length_append, List.length_singleton] at hl
    have e : j = l.length := by omega
    subst e
    rw [List.getElem?_append_right (Nat.le_refl _), Nat.sub_self] at h
    rw [← Option.some.inj (show some a = some v from h)]
    exact atI_last l a
def rs (cs : List (Rat × Rat)) (s : Rat) : List Rat := (segs cs s).map Seg.r
theorem rs_len (cs : List (Rat × Rat)) (s : Rat) : (rs cs s).length = cs.length := by unfold rs; rw [List.length_map, segs_len]
theorem rs_at {cs : List (Rat × Rat)} {s : Rat} {i : Nat} {c d : Rat × Rat} (h1 : cs[i]? = some c) (h2 : cs[i + 1]? = some d) : (rs cs s)[i]? = some ((d.2 - c.2) / (d.1 - c.1)) := by
  unfold rs
  rw [List.getElem?_map]
  exact segs_r cs s i c d h1 h2
theorem rs_last {cs : List (Rat × Rat)} {s : Rat} {i : Nat} (h : i + 1 = cs.length) : (rs cs s)[i]? = some s := by
  unfold rs
  rw [List.getElem?_map]
  exact segs_last cs s i h
def spRises (K : PySem.W.Frag) (RC : Addr) : Sp := fun vs H Q _ => ∃ (a b : Addr) (pl pt : List Addr) (cs : List (Rat × Rat)) (s : Rat) (n : Nat), vs = [.ref a, .ref b] ∧ SqL K H a (pl.map V.ref) ∧ SqL K H b (pt.map V.ref) ∧ RVs RC H pl (cs.map (·.1)) n ∧ RVs RC H pt (cs.map (·.2)) n ∧ Up cs ∧ cs ≠ [] ∧ cs.length ≤ 1000 ∧ n ≤ 1900 ∧
  ∀ (p : Addr) (ps : List Addr) H', H p = none → Same H H' → H' p = some (.lst (ps.map V.ref)) → RVs RC H' ps ((rs cs s).take (cs.length - 1)) (4 * n + 2) → Q (.ref p) H'
theorem ok_rises (T : Txt K mg) : FnOk P w K mg base CX0 6 T.f_rises_between T.d_rises_between ["loads", "times"] (spRises K T.f_Ratio) := by
  have G_Ratio_sub : FnOk P w K mg base CX0 5 T.f_Ratio_sub T.d_Ratio_sub ["self", "other"] (spSubV T.f_Ratio) := okv_sub T
  have G_Ratio_over : FnOk P w K mg base CX0 4 T.f_Ratio_over T.d_Ratio_over ["self", "value"] (spOverV T.f_Ratio) := okv_over T
  refine T.F_rises_between.ok sc_rises_between (fun vs H Q E h => ?_) (fun cdv A outer s H vs Q E hr h => ?_)
  · obtain ⟨a, b, pl, pt, cs, s, n, rfl, _⟩ := h
    rfl
  · obtain ⟨a, b, pl, pt, cs, sl, n, rfl, ha, hb, hl, ht, hup, hne, h1000, hn, k⟩ := h
    refine ⟨_, (pss_one (ps_ret (pe_lc (own := [("at", 2)]) (g := gName 2) (tt := tYes) rfl sc_rises_between.nd (pi_range1 rfl T.n_range (pa_cons (pe_op op_sub (pe_callB call_len_seq (by rfl) T.n_len (by decide +kernel) (pa_cons (pv 0) pa_nil)) pe_int) pa_nil)) (blkOk_by (N := ["loads", "times", "at"]) (sc := defScope s_rises_between) (by decide +kernel)) (fun _ _ _ _ _ => pg_name (i := 2) sc_rises_between.nd rfl (Or.inl rfl)) (fun _ _ _ _ _ => pts_nil) (fun _ _ _ _ _ => (pe_meth (pe_op (op_oo (nm := "sub") rfl T.op_Ratio_sub G_Ratio_sub (hr.mono (by decide)) T.b_Ratio_sub pass0) (pe_ix (show IxR _ (rIxL K) from ix_list) (pv 1) (pe_op op_add (pv 2) pe_int) (fun _ _ => rfl)) (pe_ix (show IxR _ (rIxL K) from ix_list) (pv 1) (pv 2) (fun _ _ => rfl))) T.cl_Ratio T.me_Ratio_over G_Ratio_over (hr.mono (by decide)) T.b_Ratio_over .nil pass0 (pa_cons (pe_op (op_oo (nm := "sub") rfl T.op_Ratio_sub G_Ratio_sub (hr.mono (by decide)) T.b_Ratio_sub pass0) (pe_ix (show IxR _ (rIxL K) from ix_list) (pv 0) (pe_op op_add (pv 2) pe_int) (fun _ _ => rfl)) (pe_ix (show IxR _ (rIxL K) from ix_list) (pv 0) (pv 2) (fun _ _ => rfl))) pa_nil)))))), ?_⟩
    have hl0 : 0 < cs.length := List.length_pos_iff.mpr hne
    have hpl : pl.length = cs.length := by rw [hl.1, List.length_map]
    refine ⟨_, rfl, a, _, rfl, .inl ha, _, _, rfl, rfl, ?_⟩
    obtain ⟨j, hj⟩ : ∃ j, j + 1 = cs.length := ⟨cs.length - 1, by omega⟩
    have ej : (((pl.map V.ref).length : Nat) : Int) - 1 = (j : Int) := by rw [List.length_map, hpl]; omega
    refine ⟨(j : Int), congrArg (fun z : Int => [V.int z]) ej, by omega, by omega, fun D hD => ?_⟩
    refine lc_range (lo := 0) (n := j) (fun i H1 => ∃ ps : List Addr, H1 D = some (.lst (ps.map V.ref)) ∧ RVs T.f_Ratio H1 ps ((rs cs sl).take i) (4 * n + 2) ∧ Same H H1) ⟨[], upd_same, .nil, same_upd hD⟩ ?_ ?_
    · intro i H1 hi ⟨ps, eD, hR, s1⟩
      have h1 : i < cs.length := by omega
      have h2 : i + 1 < cs.length := by omega
      have c1 : cs[i]? = some cs[i] := List.getElem?_eq_getElem h1
      have c2 : cs[i + 1]? = some cs[i + 1] := List.getElem?_eq_getElem h2
      have e0 : (0 : Int) + (i : Int) = (i : Int) := Int.zero_add _
      have e1 : (0 : Int) + (i : Int) + 1 = ((i + 1 : Nat) : Int) := by omega
      obtain ⟨x1, ax1, _, vx1⟩ := (hl.on s1).at (i := i) (x := cs[i].1) (by rw [List.getElem?_map, c1]; rfl)
      obtain ⟨x2, ax2, _, vx2⟩ := (hl.on s1).at (i := i + 1) (x := cs[i + 1].1) (by rw [List.getElem?_map, c2]; rfl)
      obtain ⟨t1, at1', _, vt1⟩ := (ht.on s1).at (i := i) (x := cs[i].2) (by rw [List.getElem?_map, c1]; rfl)
      obtain ⟨t2, at2', _, vt2⟩ := (ht.on s1).at (i := i + 1) (x := cs[i + 1].2) (by rw [List.getElem?_map, c2]; rfl)
      refine ⟨rfl, _, rfl, _, rfl, _, _, rfl, rfl, b, _, _, _, rfl, rfl, s1.seq hb, by rw [e1]; exact at2', ?_⟩
      refine ⟨_, rfl, _, rfl, b, _, _, _, rfl, rfl, s1.seq hb, by rw [e0]; exact at1', ?_⟩
      refine oo_of vt2 vt1 ⟨t2, .ref t1, cs[i + 1].2, cs[i].2, n, n, rfl, vt2, vt1.num, by omega, by omega, fun o1 H2 n1 s2 w1 => ?_⟩
      obtain ⟨dx, fs, ho1, _, lo1⟩ := w1.ins
      have s12 := s1.trans s2
      refine ⟨o1, dx, fs, rfl, ho1, lo1, ?_⟩
      refine ⟨_, rfl, _, rfl, _, _, rfl, rfl, a, _, _, _, rfl, rfl, s12.seq ha, by rw [e1]; exact ax2, ?_⟩
      refine ⟨_, rfl, _, rfl, a, _, _, _, rfl, rfl, s12.seq ha, by rw [e0]; exact ax1, ?_⟩
      refine oo_of (vx2.on s2) (vx1.on s2) ⟨x2, .ref x1, cs[i + 1].1, cs[i].1, n, n, rfl, vx2.on s2, (vx1.on s2).num, by omega, by omega, fun o2 H3 n2 s3 w2 => ?_⟩
      have hlt := (hup i _ _ c1 c2).1
      refine ⟨o1, .ref o2, _, _, n + n + 1, n + n + 1, rfl, w1.on s3, w2.num, by omega, by omega, by grind, fun o3 H4 n3 s4 w3 => ?_⟩
      have s24 := (s2.trans s3).trans s4
      have hD4 : H4 D = some (.lst (ps.map V.ref)) := s24 _ _ eD
      have hdl : ps.length = ((rs cs sl).take i).length := hR.1
      refine ⟨ps.map V.ref, hD4, small1000 (by rw [List.length_map, hdl, List.length_take]; omega), ps ++ [o3], ?_, ?_, ?_⟩
      · rw [upd_same, List.map_append]
        rfl
      · have nD : ∀ (q : Addr) (x : Rat) (m : Nat), RV T.f_Ratio H4 q x m → RV T.f_Ratio (upd H4 D (.lst (ps.map V.ref ++ [V.ref o3]))) q x m := fun q x m ⟨t, bb, ⟨dq, hq⟩, h⟩ => ⟨t, bb, ⟨dq, by rw [upd_ne (fun e => by rw [e, hD4] at hq; cases hq)]; exact hq⟩, h⟩
        rw [take_more (rs_at c1 c2)]
        have hR4 := (hR.on s24).snoc (w3.mono (m := 4 * n + 2) (by omega))
        exact ⟨hR4.1, fun i p x h1 h2 => nD p x _ (hR4.2 i p x h1 h2)⟩
      · exact same_mut (s1.trans s24) hD
    · rintro H1 ⟨ps, eD, hR, s1⟩
      have e : cs.length - 1 = j := by omega
      exact k D ps H1 hD s1 eD (by rw [e]; exact hR)
theorem RV.put {C : Addr} {H : Hp} {D : Addr} {xs ys : List V} {p : Addr} {x : Rat} {n : Nat} (hD : H D = some (.lst xs)) (r : RV C H p x n) : RV C (upd H D (.lst ys)) p x n :=
  let ⟨t, b, ⟨dq, hq⟩, h⟩ := r; ⟨t, b, ⟨dq, by rw [upd_ne (fun e => by rw [e, hD] at hq; cases hq)]; exact hq⟩, h⟩
theorem RVs.put {C : Addr} {H : Hp} {D : Addr} {xs ys : List V} {ps : List Addr} {zs : List Rat} {n : Nat} (hD : H D = some (.lst xs)) (r : RVs C H ps zs n) : RVs C (upd H D (.lst ys)) ps zs n := ⟨r.1, fun i p x h1 h2 => (r.2 i p x h1 h2).put hD⟩
theorem RVs.take {C : Addr} {H : Hp} {ps : List Addr} {xs : List Rat} {n : Nat} (r : RVs C H ps xs n) (h : ps.length = xs.length := by exact r.1) : RVs C H ps xs n := r
/-- the places of the bends -/
def Idx (l : List Seg) (idx : List Nat) (i : Nat) : Prop := idx.map (fun j => l[j]?) = (bends (l.take i)).map some
theorem Idx.zero (l : List Seg) : Idx l [] 0 := rfl
theorem Idx.first {l : List Seg} {s : Seg} (h : l[0]? = some s) : Idx l [0] 1 := by
  cases l with
  | nil => cases h
  | cons a r => rfl
theorem Idx.step {l : List Seg} {idx : List Nat} {i : Nat} {u v : Seg} (h : Idx l idx (i + 1)) (hv : l[i]? = some v) (hu : l[i + 1]? = some u) : Idx l (if u.r = v.r then idx else idx ++ [i + 1]) (i + 2) := by
  unfold Idx at *
  have hl : (l.take (i + 1)).getLast? = some v := by
    rw [take_more hv]
    simp
  rw [take_more (i := i + 1) hu, bends_snoc hl]
  by_cases e : u.r = v.r
  · rw [if_pos e, if_pos e, List.append_nil]
    exact h
  · rw [if_neg e, if_neg e, List.map_append, List.map_append, h]
    show _ ++ [l[i + 1]?] = _ ++ [some u]
    rw [hu]
theorem Idx.at {l : List Seg} {idx : List Nat} {n : Nat} (h : Idx l idx n) {k j : Nat} (hk : idx[k]? = some j) : ∃ s, l[j]? = some s ∧ (bends (l.take n))[k]? = some s := by
  have e := congrArg (fun m : List (Option Seg) => m[k]?) h
  simp only [List.getElem?_map] at e
  rw [hk] at e
  cases hb : (bends (l.take n))[k]? with
  | none => rw [hb] at e; cases e
  | some s =>
    rw [hb] at e
    exact ⟨s, Option.some.inj e, rfl⟩
theorem Idx.len {l : List Seg} {idx : List Nat} {n : Nat} (h : Idx l idx n) : idx.length = (bends (l.take n)).length := by
  have e := congrArg List.length h
  rwa [List.length_map, List.length_map] at e
def spLineInit (K : PySem.W.Frag) (LC RC : Addr) : Sp := fun vs H Q _ => ∃ (p dx c : Addr) (y : V) (cs : List (Rat × Rat)) (s : Rat) (n m : Nat), vs = [.ref p, .ref c, y] ∧ H p = some (.ins LC dx []) ∧ CorAt K RC H c cs n ∧ Cor cs ∧ cs.length ≤ 900 ∧ NV RC H y s m ∧ 0 ≤ s ∧ n ≤ 900 ∧ m ≤ 4 * n + 2 ∧
  ∀ H', LineAt LC RC H' p (bends (segs cs s)) (4 * n + 2) → (∀ a o, H a = some o → a ≠ p → H' a = some o) → Q .non H'
end

section
variable {P : Program} {w : World} {K : PySem.W.Frag} {mg : Str → Option Value} {base : Heap}
theorem put3 (a b c : Addr) : putF "_rises" (.ref c) (putF "_times" (.ref b) (putF "_loads" (.ref a) [])) = lf a b c := by
  have h1 : ("_loads" : Str) ≠ "_times" := by decide +kernel
  have h2 : ("_loads" : Str) ≠ "_rises" := by decide +kernel
  have h3 : ("_times" : Str) ≠ "_rises" := by decide +kernel
  simp [putF, lf, h1, h2, h3]
def KP (p : Addr) (H H' : Hp) : Prop := ∀ a o, H a = some o → a ≠ p → H' a = some o
theorem KP.refl (p : Addr) (H : Hp) : KP p H H := fun _ _ h _ => h
theorem KP.trans {p : Addr} {H H1 H2 : Hp} (a : KP p H H1) (b : KP p H1 H2) : KP p H H2 := fun q o h n => b q o (a q o h n) n
theorem KP.same {p : Addr} {H H1 H2 : Hp} (a : KP p H H1) (b : Same H1 H2) : KP p H H2 := fun q o h n => b q o (a q o h n)
theorem KP.put {p : Addr} {H : Hp} {o : HO} : KP p H (upd H p o) := fun q o' h n => by rw [upd_ne n]; exact h
/-- what stands at p is no ratio -/
def NoR (H : Hp) (p : Addr) : Prop := ∀ C dx fs, H p = some (.ins C dx fs) → fs.lookup ("_top" : Str) = none
theorem NoR.of {H : Hp} {p : Addr} {C dx : Addr} {fs : List (Str × V)} (h : H p = some (.ins C dx fs)) (k : fs.lookup ("_top" : Str) = none) : NoR H p := fun C' dx' fs' h' => by
  rw [h] at h'
  injection h' with h'
  injection h' with _ _ h'
  rw [← h']
  exact k
theorem RV.kp {C : Addr} {H H' : Hp} {p q : Addr} {x : Rat} {n : Nat} (hp : NoR H p) (k : KP p H H') (r : RV C H q x n) : RV C H' q x n :=
  let ⟨t, b, ⟨dq, hq⟩, h⟩ := r; ⟨t, b, ⟨dq, k _ _ hq (fun e => by rw [e] at hq; have := hp _ _ _ hq; rw [rf_top] at this; cases this)⟩, h⟩
theorem RVs.kp {C : Addr} {H H' : Hp} {p : Addr} {ps : List Addr} {zs : List Rat} {n : Nat} (hp : NoR H p) (k : KP p H H') (r : RVs C H ps zs n) : RVs C H' ps zs n := ⟨r.1, fun i q x h1 h2 => (r.2 i q x h1 h2).kp hp k⟩
def lf1 (a : Addr) : List (Str × V) := [("_loads", .ref a)]
def lf2 (a b : Addr) : List (Str × V) := [("_loads", .ref a), ("_times", .ref b)]
theorem put1 (a : Addr) : putF "_loads" (.ref a) [] = lf1 a := by simp [putF, lf1]
theorem put2 (a b : Addr) : putF "_times" (.ref b) (lf1 a) = lf2 a b := by
  have h1 : ("_loads" : Str) ≠ "_times" := by decide +kernel
  simp [putF, h1, lf1, lf2]
theorem put3' (a b c : Addr) : putF "_rises" (.ref c) (lf2 a b) = lf a b c := by rw [← put2, ← put1, put3]
theorem nt1 : (("_top" : Str) == ("_loads" : Str)) = false := by decide +kernel
theorem nt2 : (("_top" : Str) == ("_times" : Str)) = false := by decide +kernel
theorem nt3 : (("_top" : Str) == ("_rises" : Str)) = false := by decide +kernel
theorem ntop1 (a : Addr) : (lf1 a).lookup ("_top" : Str) = none := by simp [lf1, List.lookup, nt1]
theorem ntop2 (a b : Addr) : (lf2 a b).lookup ("_top" : Str) = none := by simp [lf2, List.lookup, nt1, nt2]
theorem ntop3 (a b c : Addr) : (lf a b c).lookup ("_top" : Str) = none := by simp [lf, List.lookup, nt1, nt2, nt3]
theorem cor_up {cs : List (Rat × Rat)} (h : Cor cs) : Up cs := h.2.2
theorem ok_lineinit (T : Txt K mg) : FnOk P w K mg base CX0 7 T.f_Line_init T.d_Line_init ["self", "corners", "slope"] (spLineInit K T.f_Line T.f_Ratio) := by
  have G_check_corners : FnOk P w K mg base CX0 5 T.f_check_corners T.d_check_corners ["corners"] (spCheck K T.f_Ratio) := ok_check T
  have G_as_ratio : FnOk P w K mg base CX0 3 T.f_as_ratio T.d_as_ratio ["value"] (spAsV T.f_Ratio) := okv_as T
  have G_Ratio_below : FnOk P w K mg base CX0 4 T.f_Ratio_below T.d_Ratio_below ["self", "value"] (spBelowV T.f_Ratio) := okv_below T
  have G_rises_between : FnOk P w K mg base CX0 6 T.f_rises_between T.d_rises_between ["loads", "times"] (spRises K T.f_Ratio) := ok_rises T
  have G_Ratio_eq : FnOk P w K mg base CX0 1 T.f_Ratio_eq T.d_Ratio_eq ["self", "other"] (spEqV T.f_Ratio) := okv_eq T
  refine T.F_Line_init.ok sc_Line_init (fun vs H Q E h => ?_) (fun cdv A outer s H vs Q E hr h => ?_)
  · obtain ⟨p, dx, c, y, cs, s, n, m, rfl, _⟩ := h
    rfl
  · obtain ⟨p, dx, c, y, cs, sl, n, m, rfl, hp, hc, hcor, h900, hy, hs, hn, hm, k⟩ := h
    refine ⟨_, (pss_cons (ps_expr (pe_call G_check_corners (hr.mono (by decide)) rfl T.m_check_corners T.F_check_corners.kp T.b_check_corners .nil pass0 (pa_cons (pv 1) pa_nil)))
    (pss_cons (ps_if (pt_val (pe_meth (pe_call G_as_ratio (hr.mono (by decide)) rfl T.m_as_ratio T.F_as_ratio.kp T.b_as_ratio .nil pass0 (pa_cons (pv 2) pa_nil)) T.cl_Ratio T.me_Ratio_below G_Ratio_below (hr.mono (by decide)) T.b_Ratio_below .nil pass0 (pa_cons pe_int pa_nil)))
      (pss_one ps_never)
      pss_nil)
    (pss_cons (ps_set (i := 3) sc_Line_init.nd rfl (Or.inr rfl) (pe_lc (own := [("corner", 7)]) (g := gName 7) (tt := tYes) rfl sc_Line_init.nd (pi_list (pv 1)) (blkOk_by (N := ["self", "corners", "slope", "loads", "times", "rises", "bends", "corner", "at"]) (sc := defScope s_Line_init) (by decide +kernel)) (fun _ _ _ _ _ => pg_name (i := 7) sc_Line_init.nd rfl (Or.inl rfl)) (fun _ _ _ _ _ => pts_nil) (fun _ _ _ _ _ => (pe_call G_as_ratio (hr.mono (by decide)) rfl T.m_as_ratio T.F_as_ratio.kp T.b_as_ratio .nil pass0 (pa_cons (pe_ix (show IxR _ (rIxT K) from ix_tup) (pv 7) pe_int (fun _ _ => rfl)) pa_nil)))))
    (pss_cons (ps_set (i := 4) sc_Line_init.nd rfl (Or.inr rfl) (pe_lc (own := [("corner", 7)]) (g := gName 7) (tt := tYes) rfl sc_Line_init.nd (pi_list (pv 1)) (blkOk_by (N := ["self", "corners", "slope", "loads", "times", "rises", "bends", "corner", "at"]) (sc := defScope s_Line_init) (by decide +kernel)) (fun _ _ _ _ _ => pg_name (i := 7) sc_Line_init.nd rfl (Or.inl rfl)) (fun _ _ _ _ _ => pts_nil) (fun _ _ _ _ _ => (pe_call G_as_ratio (hr.mono (by decide)) rfl T.m_as_ratio T.F_as_ratio.kp T.b_as_ratio .nil pass0 (pa_cons (pe_ix (show IxR _ (rIxT K) from ix_tup) (pv 7) pe_int (fun _ _ => rfl)) pa_nil)))))
    (pss_cons (ps_set (i := 5) sc_Line_init.nd rfl (Or.inr rfl) (pe_op op_cat (pe_call G_rises_between (hr.mono (by decide)) rfl T.m_rises_between T.F_rises_between.kp T.b_rises_between .nil pass0 (pa_cons (pv 3) (pa_cons (pv 4) pa_nil))) (pe_lst (pa_cons (pe_call G_as_ratio (hr.mono (by decide)) rfl T.m_as_ratio T.F_as_ratio.kp T.b_as_ratio .nil pass0 (pa_cons (pv 2) pa_nil)) pa_nil))))
    (pss_cons (ps_setLc (i := 6) (own := [("at", 8)]) (g := gName 8) rfl sc_Line_init.nd rfl rfl (sw_true rfl rfl rfl (by decide +kernel)) (pi_range1 rfl T.n_range (pa_cons (pe_callB call_len_seq (by rfl) T.n_len (by decide +kernel) (pa_cons (pv 3) pa_nil)) pa_nil)) (blkOk_by (N := ["self", "corners", "slope", "loads", "times", "rises", "bends", "corner", "at"]) (sc := defScope s_Line_init) (by decide +kernel)) (fun _ _ _ _ _ => pg_name (i := 8) sc_Line_init.nd rfl (Or.inl rfl)) (fun _ _ _ _ _ => pts_one (PW.pt (pw_or (pt_cmpR op_eq (pv 8) pe_int (nomark _)) (pw_or1 (pt_cmpR (ne_own T.none_Ratio G_Ratio_eq (hr.mono (by decide)) T.b_Ratio_eq pass0) (pe_ix (show IxR _ (rIxL K) from ix_list) (pv 5) (pv 8) (fun _ _ => rfl)) (pe_ix (show IxR _ (rIxL K) from ix_list) (pv 5) (pe_op op_sub (pv 8) pe_int) (fun _ _ => rfl)) (nomark _)))))) (fun _ _ _ _ _ => (pv 8)))
    (pss_cons (ps_fld (pv 0) (pe_callTy call_tuple_of (by rfl) T.n_tuple (by decide +kernel) (pa_cons (pe_lc (own := [("at", 8)]) (g := gName 8) (tt := tYes) rfl sc_Line_init.nd (pi_list (pv 6)) (blkOk_by (N := ["self", "corners", "slope", "loads", "times", "rises", "bends", "corner", "at"]) (sc := defScope s_Line_init) (by decide +kernel)) (fun _ _ _ _ _ => pg_name (i := 8) sc_Line_init.nd rfl (Or.inl rfl)) (fun _ _ _ _ _ => pts_nil) (fun _ _ _ _ _ => (pe_ix (show IxR _ (rIxL K) from ix_list) (pv 3) (pv 8) (fun _ _ => rfl)))) pa_nil)) rfl)
    (pss_cons (ps_fld (pv 0) (pe_callTy call_tuple_of (by rfl) T.n_tuple (by decide +kernel) (pa_cons (pe_lc (own := [("at", 8)]) (g := gName 8) (tt := tYes) rfl sc_Line_init.nd (pi_list (pv 6)) (blkOk_by (N := ["self", "corners", "slope", "loads", "times", "rises", "bends", "corner", "at"]) (sc := defScope s_Line_init) (by decide +kernel)) (fun _ _ _ _ _ => pg_name (i := 8) sc_Line_init.nd rfl (Or.inl rfl)) (fun _ _ _ _ _ => pts_nil) (fun _ _ _ _ _ => (pe_ix (show IxR _ (rIxL K) from ix_list) (pv 4) (pv 8) (fun _ _ => rfl)))) pa_nil)) rfl)
    (pss_one (ps_fld (pv 0) (pe_callTy call_tuple_of (by rfl) T.n_tuple (by decide +kernel) (pa_cons (pe_lc (own := [("at", 8)]) (g := gName 8) (tt := tYes) rfl sc_Line_init.nd (pi_list (pv 6)) (blkOk_by (N := ["self", "corners", "slope", "loads", "times", "rises", "bends", "corner", "at"]) (sc := defScope s_Line_init) (by decide +kernel)) (fun _ _ _ _ _ => pg_name (i := 8) sc_Line_init.nd rfl (Or.inl rfl)) (fun _ _ _ _ _ => pts_nil) (fun _ _ _ _ _ => (pe_ix (show IxR _ (rIxL K) from ix_list) (pv 5) (pv 8) (fun _ _ => rfl)))) pa_nil)) rfl)))))))))), ?_⟩
    obtain ⟨ts, e1, e2, e3⟩ := id hc
    have hup := cor_up hcor
    refine ⟨_, rfl, c, cs, n, rfl, hc, hcor, by omega, fun H1 s1 => ?_⟩
    refine ⟨_, rfl, y, sl, m, rfl, hy.on s1, fun q2 H2 s2 r2 => ?_⟩
    obtain ⟨dx2, fs2, hq2, lb2, _⟩ := r2.ins
    refine ⟨q2, dx2, fs2, rfl, hq2, lb2, q2, .int 0, sl, 0, m, 1, rfl, r2, NV.int 0 (by decide) (by decide), by omega, by decide, fun H3 s3 => ⟨_, rfl, ?_⟩⟩
    rw [decide_eq_false (by grind)]
    refine iteF ?_
    have t3 := (s1.trans s2).trans s3
    -- loads, times
    have row : ∀ (f : Rat × Rat → Rat) (j : Nat) (H3 : Hp) (t3 : Same H H3), (∀ (i : Nat) t d, ts[i]? = some t → cs[i]? = some d → ∃ u v z, H t = some (.tup [u, v]) ∧ atI [u, v] (j : Int) = some z ∧ NV T.f_Ratio H z (f d) n) → True := fun _ _ _ _ _ => trivial
    refine ⟨_, rfl, c, rfl, ⟨_, t3.seq e1⟩, fun D1 nD1 => ?_⟩
    refine lc_list (K := K) (a := c) (xs := ts.map V.ref) (fun i H4 => ∃ ps : List Addr, H4 D1 = some (.lst (ps.map V.ref)) ∧ RVs T.f_Ratio H4 ps ((cs.map (·.1)).take i) n ∧ Same H3 H4) ⟨[], upd_same, .nil, same_upd nD1⟩ (fun i H4 _ ⟨_, _, _, sm⟩ => (t3.trans sm).seq e1) ?_ ?_
    · intro i x H4 hi ⟨ps, eD, hR, s4⟩
      have hi' : i < cs.length := by
        have := (List.getElem?_eq_some_iff.mp hi).1
        rw [List.length_map, e2] at this
        exact this
      have ta : ts[i]? = some (ts[i]'(by omega)) := List.getElem?_eq_getElem (by omega)
      rw [List.getElem?_map, ta] at hi
      obtain rfl := Option.some.inj hi
      have ca : cs[i]? = some cs[i] := List.getElem?_eq_getElem hi'
      obtain ⟨u, v, et, nu, nv⟩ := e3 i _ _ ta ca
      have t4 := t3.trans s4
      refine ⟨rfl, _, rfl, _, _, 0, u, rfl, rfl, SqT.of (t4 _ _ et), at0, u, _, n, rfl, nu.on t4, fun q H5 s5 r5 => ?_⟩
      have eD5 := s5 _ _ eD
      refine ⟨ps.map V.ref, eD5, small1000 (by rw [List.length_map, hR.1, List.length_take]; omega), ps ++ [q], ?_, ?_, ?_⟩
      · rw [upd_same, List.map_append]; rfl
      · rw [take_more (by rw [List.getElem?_map, ca]; rfl)]
        exact ((hR.on s5).snoc r5).put eD5
      · exact same_mut (s4.trans s5) nD1
    rintro H4 ⟨pl, eD1, hR1, s4⟩
    rw [List.take_of_length_le (by rw [List.length_map, List.length_map, e2]; exact Nat.le_refl _)] at hR1
    have t4 := t3.trans s4
    refine ⟨_, rfl, c, rfl, ⟨_, t4.seq e1⟩, fun D2 nD2 => ?_⟩
    refine lc_list (K := K) (a := c) (xs := ts.map V.ref) (fun i H5 => ∃ ps : List Addr, H5 D2 = some (.lst (ps.map V.ref)) ∧ RVs T.f_Ratio H5 ps ((cs.map (·.2)).take i) n ∧ Same H4 H5) ⟨[], upd_same, .nil, same_upd nD2⟩ (fun i H5 _ ⟨_, _, _, sm⟩ => (t4.trans sm).seq e1) ?_ ?_
    · intro i x H5 hi ⟨ps, eD, hR, s5⟩
      have hi' : i < cs.length := by
        have := (List.getElem?_eq_some_iff.mp hi).1
        rw [List.length_map, e2] at this
        exact this
      have ta : ts[i]? = some (ts[i]'(by omega)) := List.getElem?_eq_getElem (by omega)
      rw [List.getElem?_map, ta] at hi
      obtain rfl := Option.some.inj hi
      have ca : cs[i]? = some cs[i] := List.getElem?_eq_getElem hi'
      obtain ⟨u, v, et, nu, nv⟩ := e3 i _ _ ta ca
      have t5 := t4.trans s5
      refine ⟨rfl, _, rfl, _, _, 1, v, rfl, rfl, SqT.of (t5 _ _ et), at1, v, _, n, rfl, nv.on t5, fun q H6 s6 r6 => ?_⟩
      have eD6 := s6 _ _ eD
      refine ⟨ps.map V.ref, eD6, small1000 (by rw [List.length_map, hR.1, List.length_take]; omega), ps ++ [q], ?_, ?_, ?_⟩
      · rw [upd_same, List.map_append]; rfl
      · rw [take_more (by rw [List.getElem?_map, ca]; rfl)]
        exact ((hR.on s6).snoc r6).put eD6
      · exact same_mut (s5.trans s6) nD2
    rintro H5 ⟨pt, eD2, hR2, s5⟩
    rw [List.take_of_length_le (by rw [List.length_map, List.length_map, e2]; exact Nat.le_refl _)] at hR2
    have t5 := t4.trans s5
    have hR1' := hR1.on s5
    have eD1' := s5 _ _ eD1
    -- rises
    refine ⟨_, rfl, _, rfl, D1, D2, pl, pt, cs, sl, n, rfl, SqL.of eD1', SqL.of eD2, hR1', hR2, hup, hcor.1, by omega, by omega, fun p3 pr H6 np3 s6 ep3 hR3 => ?_⟩
    have t6 := t5.trans s6
    refine ⟨_, rfl, y, sl, m, rfl, hy.on t6, fun q4 H7 s7 r7 => ?_⟩
    refine ⟨by show 1 ≤ sizeLine; decide, fun l4 nl4 => ?_⟩
    have u7 := same_upd (o := .lst [V.ref q4]) nl4
    have hprl : pr.length = cs.length - 1 := by rw [hR3.1, List.length_take, rs_len]; omega
    refine ⟨p3, l4, _, _, rfl, rfl, u7 _ _ (s7 _ _ ep3), upd_same, ?_, fun R nR => ?_⟩
    · rw [List.length_map, hprl]
      exact Nat.le_trans (show _ ≤ 1000 by simp; omega) (by decide)
    have u8 := same_upd (o := .lst (pr.map V.ref ++ [V.ref q4])) nR
    have hcl : 0 < cs.length := List.length_pos_iff.mpr hcor.1
    have hR4 : RVs T.f_Ratio (upd (upd H7 l4 (.lst [V.ref q4])) R (.lst (pr.map V.ref ++ [V.ref q4]))) (pr ++ [q4]) (rs cs sl) (4 * n + 2) := by
      have h1 := (((hR3.on s7).on u7).on u8).snoc (((r7.on u7).on u8).mono hm)
      have h2 : (rs cs sl).take (cs.length - 1) ++ [sl] = rs cs sl := by
        rw [← take_more (rs_last (show cs.length - 1 + 1 = cs.length by omega)), List.take_of_length_le]
        rw [rs_len]
        omega
      rw [h2] at h1
      exact h1
    have eR : (upd (upd H7 l4 (.lst [V.ref q4])) R (.lst (pr.map V.ref ++ [V.ref q4]))) R = some (.lst ((pr ++ [q4]).map V.ref)) := by
      rw [upd_same, List.map_append]; rfl
    have t8 : Same H (upd (upd H7 l4 (.lst [V.ref q4])) R (.lst (pr.map V.ref ++ [V.ref q4]))) := ((t6.trans s7).trans u7).trans u8
    have s58 : Same H5 (upd (upd H7 l4 (.lst [V.ref q4])) R (.lst (pr.map V.ref ++ [V.ref q4]))) := ((s6.trans s7).trans u7).trans u8
    revert hR4 eR t8 s58
    generalize upd (upd H7 l4 (.lst [V.ref q4])) R (.lst (pr.map V.ref ++ [V.ref q4])) = H8
    generalize pr ++ [q4] = pr'
    intro hR4 eR t8 s58
    have hL1 := hR1'.on s58
    have hL2 := hR2.on s58
    have eL1 := s58 _ _ eD1'
    have eL2 := s58 _ _ eD2
    have hpl : pl.length = cs.length := by rw [hL1.1, List.length_map]
    have hsl := segs_len cs sl
    -- the bends
    refine ⟨_, rfl, D1, _, rfl, .inl (SqL.of eL1), (cs.length : Int), by rw [List.length_map, hpl], by omega, by omega, fun B nB => ?_⟩
    refine lc_range (lo := 0) (n := cs.length) (fun i H9 => ∃ idx : List Nat, H9 B = some (.lst (idx.map fun j : Nat => V.int (j : Int))) ∧ Idx (segs cs sl) idx i ∧ idx.length ≤ i ∧ Same H8 H9) ⟨[], upd_same, .zero _, Nat.le_refl _, same_upd nB⟩ ?_ ?_
    · intro i H9 hi ⟨idx, eB, hI, hli, s9⟩
      have e0 : (0 : Int) + (i : Int) = (i : Int) := Int.zero_add _
      obtain ⟨u, hu⟩ : ∃ u, (segs cs sl)[i]? = some u := ⟨(segs cs sl)[i]'(by omega), List.getElem?_eq_getElem _⟩
      refine ⟨rfl, _, rfl, rfl, _, rfl, ?_⟩
      cases i with
      | zero =>
        refine iteT ⟨_, rfl, _, eB, small1000 (by rw [List.length_map]; omega), idx ++ [0], ?_, ?_, by rw [List.length_append, List.length_singleton]; omega, same_mut s9 nB⟩
        · rw [upd_same, List.map_append]; rfl
        · have : idx = [] := List.eq_nil_of_length_eq_zero (by omega)
          rw [this]
          exact .first hu
      | succ i =>
        rw [decide_eq_false (fun z => by injection z with z; omega)]
        refine iteF ?_
        obtain ⟨v, hv⟩ : ∃ v, (segs cs sl)[i]? = some v := ⟨(segs cs sl)[i]'(by omega), List.getElem?_eq_getElem _⟩
        have e1' : (0 : Int) + ((i + 1 : Nat) : Int) - 1 = (i : Int) := by omega
        have hR9 := hR4.on s9
        obtain ⟨qu, au, _, ru⟩ := hR9.at (i := i + 1) (x := u.r) (by unfold rs; rw [List.getElem?_map, hu]; rfl)
        obtain ⟨qv, av, _, rv⟩ := hR9.at (i := i) (x := v.r) (by unfold rs; rw [List.getElem?_map, hv]; rfl)
        refine ⟨_, rfl, _, rfl, R, _, _, _, rfl, rfl, SqL.of (s9 _ _ eR), by rw [e0]; exact au, ?_⟩
        refine ⟨_, rfl, _, rfl, _, _, rfl, rfl, R, _, _, _, rfl, rfl, SqL.of (s9 _ _ eR), by rw [e1']; exact av, ?_⟩
        refine oo_of ru rv ⟨qu, qv, u.r, v.r, _, _, rfl, ru, rv, _, rfl, _, rfl, ?_⟩
        have st := hI.step hv hu
        by_cases e : u.r = v.r
        · rw [decide_eq_true e]
          rw [if_pos e] at st
          exact iteF ⟨idx, eB, st, by omega, s9⟩
        · rw [decide_eq_false e]
          rw [if_neg e] at st
          refine iteT ⟨_, rfl, _, eB, small1000 (by rw [List.length_map]; omega), idx ++ [i + 1], ?_, st, by rw [List.length_append, List.length_singleton]; omega, same_mut s9 nB⟩
          rw [upd_same, List.map_append, e0]
          rfl
    rintro H9 ⟨idx, eB, hI, hli, s9⟩
    have hI' : idx.map (fun j => (segs cs sl)[j]?) = (bends (segs cs sl)).map some := by
      have := hI
      unfold Idx at this
      rw [List.take_of_length_le (by omega)] at this
      exact this
    have hbt : (bends (segs cs sl)).take (bends (segs cs sl)).length = bends (segs cs sl) := List.take_length
    have hlb := hI.len
    rw [List.take_of_length_le (by omega)] at hlb
    have t9 := t8.trans s9
    have hp9 := t9 _ _ hp
    have no9 : NoR H9 p := .of hp9 rfl
    have kp0 : KP p H9 H9 := .refl p H9
    have nB9 : B ≠ p := fun e => by rw [e, hp9] at eB; cases eB
    have eL1 := s9 _ _ eL1
    have eL2 := s9 _ _ eL2
    have eL3 := s9 _ _ eR
    have hL1 := hL1.on s9
    have hL2 := hL2.on s9
    have hL3 := hR4.on s9
    have nL1 : D1 ≠ p := fun e => by rw [e, hp9] at eL1; cases eL1
    have nL2 : D2 ≠ p := fun e => by rw [e, hp9] at eL2; cases eL2
    have nL3 : R ≠ p := fun e => by rw [e, hp9] at eL3; cases eL3
    refine ⟨_, rfl, B, rfl, ⟨_, SqL.of (kp0 _ _ eB nB9)⟩, fun D31 nD31 => ?_⟩
    refine lc_list (K := K) (a := B) (xs := idx.map fun j : Nat => V.int (j : Int)) (fun i H' => ∃ ps : List Addr, H' D31 = some (.lst (ps.map V.ref)) ∧ RVs T.f_Ratio H' ps (((bends (segs cs sl)).take i).map Seg.x) (4 * n + 2) ∧ Same H9 H') ⟨[], upd_same, .nil, same_upd nD31⟩ (fun i H' _ ⟨_, _, _, sm⟩ => SqL.of (sm _ _ (kp0 _ _ eB nB9))) ?_ ?_
    · intro i x H' hi ⟨ps, eD, hR, sm⟩
      rw [List.getElem?_map] at hi
      cases hj : idx[i]? with
      | none => rw [hj] at hi; cases hi
      | some j =>
        rw [hj] at hi
        obtain rfl := Option.some.inj hi
        obtain ⟨sg, h1, h2⟩ := hI.at hj
        rw [List.take_of_length_le (by omega)] at h2
        obtain ⟨pj, aj, _, rj⟩ := ((hL1.kp no9 kp0).on sm).at (i := j) (x := sg.x) (by rw [← segs_x cs sl, List.getElem?_map, h1]; rfl)
        refine ⟨rfl, _, rfl, _, rfl, D1, _, _, _, rfl, rfl, SqL.of (sm _ _ (kp0 _ _ eL1 nL1)), aj, ps.map V.ref, eD, small1000 (by rw [List.length_map, hR.1, List.length_map, List.length_take]; omega), ps ++ [pj], ?_, ?_, same_mut sm nD31⟩
        · rw [upd_same, List.map_append]; rfl
        · have h3 : ((bends (segs cs sl)).take (i + 1)).map Seg.x = ((bends (segs cs sl)).take i).map Seg.x ++ [sg.x] := by
            rw [take_more h2, List.map_append]; rfl
          rw [h3]
          exact (hR.snoc (rj.mono (by omega))).put eD
    rintro H31 ⟨p31, eD31, hR31, s31⟩
    rw [List.take_of_length_le (by rw [List.length_map]; omega)] at hR31
    refine ⟨D31, _, rfl, .inl ⟨SqL.of eD31, fun A31 nA31 => ?_⟩⟩
    have u31 := same_upd (o := .tup (p31.map V.ref)) nA31
    have hq31 := u31 _ _ (s31 _ _ hp9)
    have hn31 : A31 ≠ p := fun e => by rw [e] at nA31; rw [s31 _ _ hp9] at nA31; cases nA31
    have hg31 : upd H31 A31 (.tup (p31.map V.ref)) A31 = some (.tup (p31.map V.ref)) := upd_same
    have hS31 := hR31.on u31
    have kpa31 : KP p H9 (upd (upd H31 A31 (.tup (p31.map V.ref))) p (.ins T.f_Line dx (lf1 A31))) := ((KP.refl p H9).same (s31.trans u31)).trans .put
    have hT31 := hS31.kp (.of hq31 rfl) (.put (o := .ins T.f_Line dx (lf1 A31)))
    have hg'31 : upd (upd H31 A31 (.tup (p31.map V.ref))) p (.ins T.f_Line dx (lf1 A31)) A31 = some (.tup (p31.map V.ref)) := by rw [upd_ne hn31]; exact hg31
    have hp31 : upd (upd H31 A31 (.tup (p31.map V.ref))) p (.ins T.f_Line dx (lf1 A31)) p = some (.ins T.f_Line dx (lf1 A31)) := upd_same
    refine ⟨_, rfl, p, T.f_Line, dx, _, rfl, hq31, T.cl_Line, T.na_Line_loads, by decide, ?_⟩
    rw [put1]
    revert kpa31 hT31 hg'31 hp31
    generalize upd (upd H31 A31 (.tup (p31.map V.ref))) p (.ins T.f_Line dx (lf1 A31)) = G31
    intro kpa31 hT31 hg'31 hp31
    have kp1 := kp0.trans kpa31
    refine ⟨_, rfl, B, rfl, ⟨_, SqL.of (kp1 _ _ eB nB9)⟩, fun D32 nD32 => ?_⟩
    refine lc_list (K := K) (a := B) (xs := idx.map fun j : Nat => V.int (j : Int)) (fun i H' => ∃ ps : List Addr, H' D32 = some (.lst (ps.map V.ref)) ∧ RVs T.f_Ratio H' ps (((bends (segs cs sl)).take i).map Seg.t) (4 * n + 2) ∧ Same G31 H') ⟨[], upd_same, .nil, same_upd nD32⟩ (fun i H' _ ⟨_, _, _, sm⟩ => SqL.of (sm _ _ (kp1 _ _ eB nB9))) ?_ ?_
    · intro i x H' hi ⟨ps, eD, hR, sm⟩
      rw [List.getElem?_map] at hi
      cases hj : idx[i]? with
      | none => rw [hj] at hi; cases hi
      | some j =>
        rw [hj] at hi
        obtain rfl := Option.some.inj hi
        obtain ⟨sg, h1, h2⟩ := hI.at hj
        rw [List.take_of_length_le (by omega)] at h2
        obtain ⟨pj, aj, _, rj⟩ := ((hL2.kp no9 kp1).on sm).at (i := j) (x := sg.t) (by rw [← segs_t cs sl, List.getElem?_map, h1]; rfl)
        refine ⟨rfl, _, rfl, _, rfl, D2, _, _, _, rfl, rfl, SqL.of (sm _ _ (kp1 _ _ eL2 nL2)), aj, ps.map V.ref, eD, small1000 (by rw [List.length_map, hR.1, List.length_map, List.length_take]; omega), ps ++ [pj], ?_, ?_, same_mut sm nD32⟩
        · rw [upd_same, List.map_append]; rfl
        · have h3 : ((bends (segs cs sl)).take (i + 1)).map Seg.t = ((bends (segs cs sl)).take i).map Seg.t ++ [sg.t] := by
            rw [take_more h2, List.map_append]; rfl
          rw [h3]
          exact (hR.snoc (rj.mono (by omega))).put eD
    rintro H32 ⟨p32, eD32, hR32, s32⟩
    rw [List.take_of_length_le (by rw [List.length_map]; omega)] at hR32
    refine ⟨D32, _, rfl, .inl ⟨SqL.of eD32, fun A32 nA32 => ?_⟩⟩
    have u32 := same_upd (o := .tup (p32.map V.ref)) nA32
    have hq32 := u32 _ _ (s32 _ _ hp31)
    have hn32 : A32 ≠ p := fun e => by rw [e] at nA32; rw [s32 _ _ hp31] at nA32; cases nA32
    have hg32 : upd H32 A32 (.tup (p32.map V.ref)) A32 = some (.tup (p32.map V.ref)) := upd_same
    have hS32 := hR32.on u32
    have kpa32 : KP p G31 (upd (upd H32 A32 (.tup (p32.map V.ref))) p (.ins T.f_Line dx (lf2 A31 A32))) := ((KP.refl p G31).same (s32.trans u32)).trans .put
    have hT32 := hS32.kp (.of hq32 (ntop1 _)) (.put (o := .ins T.f_Line dx (lf2 A31 A32)))
    have hg'32 : upd (upd H32 A32 (.tup (p32.map V.ref))) p (.ins T.f_Line dx (lf2 A31 A32)) A32 = some (.tup (p32.map V.ref)) := by rw [upd_ne hn32]; exact hg32
    have hp32 : upd (upd H32 A32 (.tup (p32.map V.ref))) p (.ins T.f_Line dx (lf2 A31 A32)) p = some (.ins T.f_Line dx (lf2 A31 A32)) := upd_same
    refine ⟨_, rfl, p, T.f_Line, dx, _, rfl, hq32, T.cl_Line, T.na_Line_times, (show (1 : Nat) < 1000 by decide), ?_⟩
    rw [put2]
    revert kpa32 hT32 hg'32 hp32
    generalize upd (upd H32 A32 (.tup (p32.map V.ref))) p (.ins T.f_Line dx (lf2 A31 A32)) = G32
    intro kpa32 hT32 hg'32 hp32
    have kp2 := kp1.trans kpa32
    refine ⟨_, rfl, B, rfl, ⟨_, SqL.of (kp2 _ _ eB nB9)⟩, fun D33 nD33 => ?_⟩
    refine lc_list (K := K) (a := B) (xs := idx.map fun j : Nat => V.int (j : Int)) (fun i H' => ∃ ps : List Addr, H' D33 = some (.lst (ps.map V.ref)) ∧ RVs T.f_Ratio H' ps (((bends (segs cs sl)).take i).map Seg.r) (4 * n + 2) ∧ Same G32 H') ⟨[], upd_same, .nil, same_upd nD33⟩ (fun i H' _ ⟨_, _, _, sm⟩ => SqL.of (sm _ _ (kp2 _ _ eB nB9))) ?_ ?_
    · intro i x H' hi ⟨ps, eD, hR, sm⟩
      rw [List.getElem?_map] at hi
      cases hj : idx[i]? with
      | none => rw [hj] at hi; cases hi
      | some j =>
        rw [hj] at hi
        obtain rfl := Option.some.inj hi
        obtain ⟨sg, h1, h2⟩ := hI.at hj
        rw [List.take_of_length_le (by omega)] at h2
        obtain ⟨pj, aj, _, rj⟩ := ((hL3.kp no9 kp2).on sm).at (i := j) (x := sg.r) (by unfold rs; rw [List.getElem?_map, h1]; rfl)
        refine ⟨rfl, _, rfl, _, rfl, R, _, _, _, rfl, rfl, SqL.of (sm _ _ (kp2 _ _ eL3 nL3)), aj, ps.map V.ref, eD, small1000 (by rw [List.length_map, hR.1, List.length_map, List.length_take]; omega), ps ++ [pj], ?_, ?_, same_mut sm nD33⟩
        · rw [upd_same, List.map_append]; rfl
        · have h3 : ((bends (segs cs sl)).take (i + 1)).map Seg.r = ((bends (segs cs sl)).take i).map Seg.r ++ [sg.r] := by
            rw [take_more h2, List.map_append]; rfl
          rw [h3]
          exact (hR.snoc (rj.mono (by omega))).put eD
    rintro H33 ⟨p33, eD33, hR33, s33⟩
    rw [List.take_of_length_le (by rw [List.length_map]; omega)] at hR33
    refine ⟨D33, _, rfl, .inl ⟨SqL.of eD33, fun A33 nA33 => ?_⟩⟩
    have u33 := same_upd (o := .tup (p33.map V.ref)) nA33
    have hq33 := u33 _ _ (s33 _ _ hp32)
    have hn33 : A33 ≠ p := fun e => by rw [e] at nA33; rw [s33 _ _ hp32] at nA33; cases nA33
    have hg33 : upd H33 A33 (.tup (p33.map V.ref)) A33 = some (.tup (p33.map V.ref)) := upd_same
    have hS33 := hR33.on u33
    have kpa33 : KP p G32 (upd (upd H33 A33 (.tup (p33.map V.ref))) p (.ins T.f_Line dx (lf A31 A32 A33))) := ((KP.refl p G32).same (s33.trans u33)).trans .put
    have hT33 := hS33.kp (.of hq33 (ntop2 _ _)) (.put (o := .ins T.f_Line dx (lf A31 A32 A33)))
    have hg'33 : upd (upd H33 A33 (.tup (p33.map V.ref))) p (.ins T.f_Line dx (lf A31 A32 A33)) A33 = some (.tup (p33.map V.ref)) := by rw [upd_ne hn33]; exact hg33
    have hp33 : upd (upd H33 A33 (.tup (p33.map V.ref))) p (.ins T.f_Line dx (lf A31 A32 A33)) p = some (.ins T.f_Line dx (lf A31 A32 A33)) := upd_same
    refine ⟨_, rfl, p, T.f_Line, dx, _, rfl, hq33, T.cl_Line, T.na_Line_rises, (show (2 : Nat) < 1000 by decide), ?_⟩
    rw [put3']
    revert kpa33 hT33 hg'33 hp33
    generalize upd (upd H33 A33 (.tup (p33.map V.ref))) p (.ins T.f_Line dx (lf A31 A32 A33)) = G33
    intro kpa33 hT33 hg'33 hp33
    have kp3 := kp2.trans kpa33
    have no31 : NoR G31 p := .of hp31 (ntop1 _)
    have no32 : NoR G32 p := .of hp32 (ntop2 _ _)
    have k13 := kpa32.trans kpa33
    refine k G33 ⟨dx, A31, A32, A33, hp33, ⟨⟨p31, k13 _ _ hg'31 hn31, hT31.kp no31 k13⟩, ⟨p32, kpa33 _ _ hg'32 hn32, hT32.kp no32 kpa33⟩, ⟨p33, hg'33, hT33⟩⟩⟩ (fun a o h n => kp3 _ _ (t9 _ _ h) n)
end

/-! ### lines as they are made and asked -/
section
variable {P : Program} {w : World} {K : PySem.W.Frag} {mg : Str → Option Value} {base : Heap}
theorem nlt1 : (("time_at" : Str) == ("_loads" : Str)) = false := by decide +kernel
theorem nlt2 : (("time_at" : Str) == ("_times" : Str)) = false := by decide +kernel
theorem nlt3 : (("time_at" : Str) == ("_rises" : Str)) = false := by decide +kernel
theorem lf_time_at (a b c : Addr) : (lf a b c).lookup ("time_at" : Str) = none := by simp [lf, List.lookup, nlt1, nlt2, nlt3]
def spStraight (K : PySem.W.Frag) (LC RC : Addr) : Sp := fun vs H Q _ => ∃ (c v y : V) (z s : Rat) (n m : Nat), vs = [.ref LC, v, y] ∧ NV RC H v z n ∧ NV RC H y s m ∧ 0 ≤ z ∧ 0 ≤ s ∧ n ≤ 900 ∧ 1 ≤ n ∧ m ≤ 4 * n + 2 ∧ ∀ o H', H o = none → Same H H' → LineAt LC RC H' o [⟨0, z, s⟩] (4 * n + 2) → Q (.ref o) H'
theorem ok_straight (T : Txt K mg) : FnOk P w K mg base CX0 9 T.f_Line_straight T.d_Line_straight ["cls", "base", "slope"] (spStraight K T.f_Line T.f_Ratio) := by
  have G_Line_init : FnOk P w K mg base CX0 7 T.f_Line_init T.d_Line_init ["self", "corners", "slope"] (spLineInit K T.f_Line T.f_Ratio) := ok_lineinit T
  refine T.F_Line_straight.ok sc_Line_straight (fun vs H Q E h => ?_) (fun cdv A outer s H vs Q E hr h => ?_)
  · obtain ⟨c, v, y, z, s, n, m, rfl, _⟩ := h
    rfl
  · obtain ⟨c, v, y, z, s, n, m, rfl, hv, hy, hz, hs, hn, hn1, hm, k⟩ := h
    refine ⟨_, (pss_one (ps_ret (pe_makeL (i := 0) T.mk_Line G_Line_init (hr.mono (by decide)) rfl (Or.inl rfl) T.b_Line_init .nil pass0 (pa_cons (pe_lst (pa_cons (pe_tup (pa_cons pe_int (pa_cons (pv 1) pa_nil))) pa_nil)) (pa_cons (pv 2) pa_nil))))), ?_⟩
    refine ⟨rfl, _, rfl, by show 2 ≤ sizeLine; decide, fun t nt => ⟨by show 1 ≤ sizeLine; decide, fun l nl => ⟨_, rfl, fun x dx nx ndx ne => ?_⟩⟩⟩
    have u1 := same_upd (o := .tup [V.int 0, v]) nt
    have u2 := same_upd (o := .lst [V.ref t]) nl
    have u3 : Same (upd (upd H t (.tup [V.int 0, v])) l (.lst [V.ref t])) (upd (upd (upd (upd H t (.tup [V.int 0, v])) l (.lst [V.ref t])) dx (.own x)) x (.ins T.f_Line dx [])) := (same_upd ndx).trans (same_upd (by rw [upd_ne (Ne.symm ne)]; exact nx))
    have u13 := (u1.trans u2).trans u3
    refine ⟨x, dx, l, y, [(0, z)], s, n, m, rfl, upd_same, ⟨[t], SqL.of (u3 _ _ upd_same), rfl, fun i t' d h1 h2 => ?_⟩, ⟨by simp, fun c h => ?_, fun i c d _ h => ?_⟩, by simp, hy.on u13, hs, hn, hm, fun H3 r3 e3 => ⟨rfl, k x H3 ((u1.trans u2).free nx) ((u1.trans u2).trans (Same.made nx ndx e3)) r3⟩⟩
    · cases i with
      | succ i => simp at h1
      | zero =>
        obtain rfl := Option.some.inj h1
        obtain rfl := Option.some.inj h2
        exact ⟨_, _, u3 _ _ (u2 _ _ upd_same), NV.int 0 (Nat.two_pow_pos n) hn1, hv.on u13⟩
    · obtain rfl := Option.some.inj h
      exact ⟨rfl, hz⟩
    · simp at h
end

section
variable {P : Program} {w : World} {K : PySem.W.Frag} {mg : Str → Option Value} {base : Heap}
def spLineCall (LC RC : Addr) : Sp := fun vs H Q _ => ∃ (p : Addr) (y : V) (l : List Seg) (z : Rat) (n m : Nat), vs = [.ref p, y] ∧ LineAt LC RC H p l n ∧ Gd l ∧ NV RC H y z m ∧ 0 ≤ z ∧ n + m ≤ 1200 ∧ ∀ o H', Same H H' → RV RC H' o (ev l z) (3 * n + m + 2) → Q (.ref o) H'
theorem ok_linecall (T : Txt K mg) : FnOk P w K mg base CX0 7 T.f_Line_call T.d_Line_call ["self", "load"] (spLineCall T.f_Line T.f_Ratio) := by
  have G_as_ratio : FnOk P w K mg base CX0 3 T.f_as_ratio T.d_as_ratio ["value"] (spAsV T.f_Ratio) := okv_as T
  have G_Ratio_below : FnOk P w K mg base CX0 4 T.f_Ratio_below T.d_Ratio_below ["self", "value"] (spBelowV T.f_Ratio) := okv_below T
  have G_Line_time_at : FnOk P w K mg base CX0 6 T.f_Line_time_at T.d_Line_time_at ["self", "load"] (spTimeAt T.f_Line T.f_Ratio) := ok_timeat T
  refine T.F_Line_call.ok sc_Line_call (fun vs H Q E h => ?_) (fun cdv A outer s H vs Q E hr h => ?_)
  · obtain ⟨p, y, l, z, n, m, rfl, _⟩ := h
    rfl
  · obtain ⟨p, y, l, z, n, m, rfl, hp, g, hy, hz, hn, k⟩ := h
    refine ⟨_, (pss_cons (ps_if (pt_val (pe_meth (pe_call G_as_ratio (hr.mono (by decide)) rfl T.m_as_ratio T.F_as_ratio.kp T.b_as_ratio .nil pass0 (pa_cons (pv 1) pa_nil)) T.cl_Ratio T.me_Ratio_below G_Ratio_below (hr.mono (by decide)) T.b_Ratio_below .nil pass0 (pa_cons pe_int pa_nil)))
      (pss_one ps_never)
      pss_nil)
    (pss_one (ps_ret (pe_meth (pv 0) T.cl_Line T.me_Line_time_at G_Line_time_at (hr.mono (by decide)) T.b_Line_time_at .nil pass0 (pa_cons (pe_call G_as_ratio (hr.mono (by decide)) rfl T.m_as_ratio T.F_as_ratio.kp T.b_as_ratio .nil pass0 (pa_cons (pv 1) pa_nil)) pa_nil))))), ?_⟩
    refine ⟨_, rfl, y, z, m, rfl, hy, fun q1 H1 s1 r1 => ?_⟩
    obtain ⟨dx1, fs1, h1, lb1, _⟩ := r1.ins
    refine ⟨q1, dx1, fs1, rfl, h1, lb1, q1, .int 0, z, 0, m, 1, rfl, r1, NV.int 0 (by decide) (by decide), by omega, by decide, fun H2 s2 => ⟨_, rfl, ?_⟩⟩
    rw [decide_eq_false (by grind)]
    refine iteF ?_
    have s12 := s1.trans s2
    obtain ⟨dx, a, b, c, hp', R⟩ := id hp
    refine ⟨_, rfl, p, dx, _, rfl, s12 _ _ hp', lf_time_at _ _ _, _, rfl, y, z, m, rfl, hy.on s12, fun q3 H3 s3 r3 => ?_⟩
    refine ⟨p, q3, l, z, n, m, rfl, (hp.on s12).on s3, g, r3, hz, hn, fun o H4 s4 r4 => k o H4 ((s12.trans s3).trans s4) r4⟩
end

/-! ### == of lines, both answers -/
section
variable {P : Program} {w : World} {K : PySem.W.Frag} {mg : Str → Option Value} {base : Heap}
theorem tyRL {C p dx : Addr} {fs : List (Str × V)} {H : Hp} (ic : C8.InsC K C) (hp : H p = some (.ins C dx fs)) : TyX K H (.ref p) (.ref C) := .base (.ins hp ic.cl ic.ha ic.hn ic.htk ic.hm)
theorem tupB_of {C : Addr} {H : Hp} {a b : Addr} {ps qs : List Addr} {xs ys : List Rat} {n m : Nat} {E : XK} {Q : VK} (ha : SqT K H a (ps.map V.ref)) (hb : SqT K H b (qs.map V.ref)) (r : RVs C H ps xs n) (r' : RVs C H qs ys m) (q : Q (.bl (decide (xs = ys))) H) : rTupB K C (spEqV C) E (.ref a) (.ref b) H Q := by
  refine ⟨a, b, _, _, fun i => decide (xs[i]? = ys[i]?), decide (xs = ys), rfl, rfl, ha, hb, fun i u v h1 h2 => ?_, ?_, q⟩
  · rw [List.getElem?_map] at h1 h2
    cases e1 : ps[i]? with
    | none => rw [e1] at h1; cases h1
    | some p =>
      cases e2 : qs[i]? with
      | none => rw [e2] at h2; cases h2
      | some q' =>
        rw [e1] at h1
        rw [e2] at h2
        have hi : i < xs.length := by rw [← r.1]; exact (List.getElem?_eq_some_iff.mp e1).1
        have hi' : i < ys.length := by rw [← r'.1]; exact (List.getElem?_eq_some_iff.mp e2).1
        have g1 : xs[i]? = some xs[i] := List.getElem?_eq_getElem hi
        have g2 : ys[i]? = some ys[i] := List.getElem?_eq_getElem hi'
        have ra := r.2 i p _ e1 g1
        have rb := r'.2 i q' _ e2 g2
        obtain ⟨dx, fs, hp, _⟩ := ra.ins
        obtain ⟨dy, gs, hq, _⟩ := rb.ins
        have ed : decide (xs[i]? = ys[i]?) = decide (xs[i] = ys[i]) := by rw [g1, g2]; exact decide_eq_decide.mpr ⟨fun e => Option.some.inj e, fun e => congrArg some e⟩
        refine ⟨p, q', dx, dy, fs, gs, (Option.some.inj h1).symm, (Option.some.inj h2).symm, hp, hq, fun e => ?_, p, q', _, _, n, m, rfl, ra, rb, congrArg V.bl ed.symm, rfl⟩
        show decide (xs[i]? = ys[i]?) = true
        rw [ed]
        subst e
        obtain ⟨t, b, ⟨dx, h1⟩, l, v, _⟩ := ra
        obtain ⟨t', b', ⟨dy, h2⟩, l', v', _⟩ := rb
        rw [h1] at h2
        injection h2 with h2
        injection h2 with _ _ h2
        have e1 : rf t b = rf t' b' := h2
        have et : (rf t b).lookup ("_top" : Str) = (rf t' b').lookup ("_top" : Str) := by rw [e1]
        have eb : (rf t b).lookup ("_bottom" : Str) = (rf t' b').lookup ("_bottom" : Str) := by rw [e1]
        rw [rf_top, rf_top] at et
        rw [rf_bottom, rf_bottom] at eb
        injection et with et
        injection et with et
        injection eb with eb
        injection eb with eb
        exact decide_eq_true (by rw [← v, ← v', et, eb])
  · rw [List.length_map, List.length_map, r.1, r'.1]
    constructor
    · intro h
      have h := of_decide_eq_true h
      exact ⟨by rw [h], fun i _ _ => decide_eq_true (by rw [h])⟩
    · rintro ⟨h1, h2⟩
      refine decide_eq_true (List.ext_getElem? fun i => ?_)
      by_cases hi : i < xs.length
      · exact of_decide_eq_true (h2 i hi (by omega))
      · rw [List.getElem?_eq_none (by omega), List.getElem?_eq_none (by omega)]
instance segDec : DecidableEq Seg := fun a b => if h : a.x = b.x ∧ a.t = b.t ∧ a.r = b.r then isTrue (by cases a; cases b; obtain ⟨h1, h2, h3⟩ := h; cases h1; cases h2; cases h3; rfl) else isFalse (fun e => h (by rw [e]; exact ⟨rfl, rfl, rfl⟩))
def spLineEqB (LC RC : Addr) : Sp := fun vs H Q _ => ∃ (p q : Addr) (l l' : List Seg) (n m : Nat), vs = [.ref p, .ref q] ∧ LineAt LC RC H p l n ∧ LineAt LC RC H q l' m ∧ Q (.bl (decide (l = l'))) H
theorem seg_ext {l l' : List Seg} (h1 : l.map Seg.x = l'.map Seg.x) (h2 : l.map Seg.t = l'.map Seg.t) (h3 : l.map Seg.r = l'.map Seg.r) : l = l' := by
  induction l generalizing l' with
  | nil =>
    cases l' with
    | nil => rfl
    | cons => cases h1
  | cons a r ih =>
    cases l' with
    | nil => cases h1
    | cons b r' =>
      injection h1 with a1 b1
      injection h2 with a2 b2
      injection h3 with a3 b3
      have e : a = b := by cases a; cases b; simp only at a1 a2 a3; rw [a1, a2, a3]
      rw [e, ih b1 b2 b3]
theorem ok_lineeqB (T : Txt K mg) : FnOk P w K mg base CX0 3 T.f_Line_eq T.d_Line_eq ["self", "other"] (spLineEqB T.f_Line T.f_Ratio) := by
  have G_Ratio_eq : FnOk P w K mg base CX0 1 T.f_Ratio_eq T.d_Ratio_eq ["self", "other"] (spEqV T.f_Ratio) := okv_eq T
  refine T.F_Line_eq.ok sc_Line_eq (fun vs H Q E h => ?_) (fun cdv A outer s H vs Q E hr h => ?_)
  · obtain ⟨p, q, l, l', n, m, rfl, _⟩ := h
    rfl
  · obtain ⟨p, q, l, l', n, m, rfl, hp, hq, k⟩ := h
    refine ⟨_, (pss_cons (ps_if (pt_not (pt_val (pe_callB call_isi (by rfl) T.n_isinstance (by decide +kernel) (pa_cons (pv 1) (pa_cons (pe_glob (v := .ref T.f_Line) rfl T.m_Line rfl) pa_nil)))))
      (pss_one (ps_ret pe_bl))
      pss_nil)
    (pss_one (ps_ret (pe_and (pe_cmpR (op_tupB T.a_Ratio_eq T.i_Ratio_eq G_Ratio_eq (hr.mono (by decide)) T.b_Ratio_eq pass0) (pe_fld (pv 0) rfl) (pe_fld (pv 1) rfl) (nomark _)) (pe_and (pe_cmpR (op_tupB T.a_Ratio_eq T.i_Ratio_eq G_Ratio_eq (hr.mono (by decide)) T.b_Ratio_eq pass0) (pe_fld (pv 0) rfl) (pe_fld (pv 1) rfl) (nomark _)) (pe_one (pe_cmpR (op_tupB T.a_Ratio_eq T.i_Ratio_eq G_Ratio_eq (hr.mono (by decide)) T.b_Ratio_eq pass0) (pe_fld (pv 0) rfl) (pe_fld (pv 1) rfl) (nomark _)))))))), ?_⟩
    obtain ⟨dx, a, b, c, ep, ⟨pl, el, rl⟩, ⟨pt, et, rt⟩, ⟨pr, er, rr⟩⟩ := id hp
    obtain ⟨dx', a', b', c', ep', ⟨pl', el', rl'⟩, ⟨pt', et', rt'⟩, ⟨pr', er', rr'⟩⟩ := id hq
    refine ⟨_, rfl, .ref q, .ref T.f_Line, .ref T.f_Line, .ref T.f_Line, true, rfl, .own _, tyRL T.ic_Line ep', kit_self, true, rfl, iteF ?_⟩
    refine ⟨_, rfl, p, T.f_Line, dx, _, _, rfl, ep, T.cl_Line, T.na_Line_loads, lf_loads _ _ _, _, rfl, q, T.f_Line, dx', _, _, rfl, ep', T.cl_Line, T.na_Line_loads, lf_loads _ _ _, tupB_of (SqT.of el) (SqT.of el') rl rl' ⟨_, rfl, ite2 (fun h1 => ?_) fun h1 => ?_⟩⟩
    · have h1 := of_decide_eq_true h1
      refine ⟨_, rfl, p, T.f_Line, dx, _, _, rfl, ep, T.cl_Line, T.na_Line_times, lf_times _ _ _, _, rfl, q, T.f_Line, dx', _, _, rfl, ep', T.cl_Line, T.na_Line_times, lf_times _ _ _, tupB_of (SqT.of et) (SqT.of et') rt rt' ⟨_, rfl, ite2 (fun h2 => ?_) fun h2 => ?_⟩⟩
      · have h2 := of_decide_eq_true h2
        refine ⟨_, rfl, p, T.f_Line, dx, _, _, rfl, ep, T.cl_Line, T.na_Line_rises, lf_rises _ _ _, _, rfl, q, T.f_Line, dx', _, _, rfl, ep', T.cl_Line, T.na_Line_rises, lf_rises _ _ _, tupB_of (SqT.of er) (SqT.of er') rr rr' ?_⟩
        rw [show decide (l.map Seg.r = l'.map Seg.r) = decide (l = l') from decide_eq_decide.mpr ⟨fun h3 => seg_ext h1 h2 h3, fun e => by rw [e]⟩]
        exact k
      · rw [show decide (l = l') = false from decide_eq_false fun e => h2 (decide_eq_true (by rw [e]))] at k
        exact k
    · rw [show decide (l = l') = false from decide_eq_false fun e => h1 (decide_eq_true (by rw [e]))] at k
      exact k
end

/-! ### two rows of loads become one -/
section
variable {P : Program} {w : World} {K : PySem.W.Frag} {mg : Str → Option Value} {base : Heap}
/-- all of both, ascending, none twice -/
def spAsc (K : PySem.W.Frag) (RC : Addr) : Sp := fun vs H Q _ => ∃ (a b : Addr) (ps qs : List Addr) (xs ys : List Rat) (n : Nat), vs = [.ref a, .ref b] ∧ SqT K H a (ps.map V.ref) ∧ SqT K H b (qs.map V.ref) ∧ RVs RC H ps xs n ∧ RVs RC H qs ys n ∧ xs.Pairwise (· < ·) ∧ ys.Pairwise (· < ·) ∧ n ≤ 3900 ∧ xs.length + ys.length ≤ 1000 ∧
  ∀ (p : Addr) (rs : List Addr) (zs : List Rat) H', H p = none → Same H H' → H' p = some (.lst (rs.map V.ref)) → RVs RC H' rs zs n → zs.Pairwise (· < ·) → (∀ z, z ∈ zs ↔ z ∈ xs ∨ z ∈ ys) → zs.length ≤ xs.length + ys.length → Q (.ref p) H'
theorem asc_first {xs ys zs : List Rat} {i j : Nat} {v : Rat} (h : xs[i]? = some v) (sx : xs.Pairwise (· < ·)) (hB : ∀ z, z ∈ zs → (∀ x, xs[i]? = some x → z ≤ x) ∧ (∀ y, ys[j]? = some y → z ≤ y)) (hlt : ∀ y, ys[j]? = some y → v ≤ y) :
    (∀ z ∈ zs, z ≤ v) ∧ (∀ x, xs[i + 1]? = some x → v ≤ x) ∧ (∀ y, ys[j]? = some y → v ≤ y) ∧ (∀ z, (z ∈ xs.take (i + 1) ∨ z ∈ ys.take j) ↔ (z ∈ xs.take i ∨ z ∈ ys.take j) ∨ z = v) := by
  refine ⟨fun z hz => (hB z hz).1 v h, fun x hx => ?_, hlt, fun z => ?_⟩
  · have := pw_lt sx h hx (Nat.lt_succ_self i)
    grind
  · rw [take_more h, List.mem_append, List.mem_singleton]
    grind
theorem asc_second {xs ys zs : List Rat} {i j : Nat} {v : Rat} (h : ys[j]? = some v) (sy : ys.Pairwise (· < ·)) (hB : ∀ z, z ∈ zs → (∀ x, xs[i]? = some x → z ≤ x) ∧ (∀ y, ys[j]? = some y → z ≤ y)) (hlt : ∀ x, xs[i]? = some x → v ≤ x) :
    (∀ z ∈ zs, z ≤ v) ∧ (∀ x, xs[i]? = some x → v ≤ x) ∧ (∀ y, ys[j + 1]? = some y → v ≤ y) ∧ (∀ z, (z ∈ xs.take i ∨ z ∈ ys.take (j + 1)) ↔ (z ∈ xs.take i ∨ z ∈ ys.take j) ∨ z = v) := by
  refine ⟨fun z hz => (hB z hz).2 v h, hlt, fun y hy => ?_, fun z => ?_⟩
  · have := pw_lt sy h hy (Nat.lt_succ_self j)
    grind
  · rw [take_more h, List.mem_append, List.mem_singleton]
    grind
theorem ok_asc (T : Txt K mg) : FnOk P w K mg base CX0 5 T.f_ascending T.d_ascending ["first", "second"] (spAsc K T.f_Ratio) := by
  have G_Ratio_below : FnOk P w K mg base CX0 4 T.f_Ratio_below T.d_Ratio_below ["self", "value"] (spBelowV T.f_Ratio) := okv_below T
  refine T.F_ascending.ok sc_ascending (fun vs H Q E h => ?_) (fun cdv A outer s H vs Q E hr h => ?_)
  · obtain ⟨a, b, ps, qs, xs, ys, n, rfl, _⟩ := h
    rfl
  · obtain ⟨a, b, ps, qs, xs, ys, n, rfl, ha, hb, hx, hy, sx, sy, hn, hl, k⟩ := h
    refine ⟨_, (pss_cons (ps_set (i := 2) sc_ascending.nd rfl (Or.inl rfl) (pe_lst pa_nil))
    (pss_cons (ps_set (i := 3) sc_ascending.nd rfl (Or.inl rfl) pe_int)
    (pss_cons (ps_set (i := 4) sc_ascending.nd rfl (Or.inl rfl) pe_int)
    (C8.pss_cut (ps_while PassesOwn.never (PW.pt (pw_or (pt_cmpR op_lt (pv 3) (pe_callB call_len_seq (by rfl) T.n_len (by decide +kernel) (pa_cons (pv 0) pa_nil)) (nomark _)) (pw_or1 (pt_cmpR op_lt (pv 4) (pe_callB call_len_seq (by rfl) T.n_len (by decide +kernel) (pa_cons (pv 1) pa_nil)) (nomark _)))))
      (C8.pss_cut (ps_if (PW.pt (pw_or (pt_cmpR op_eq (pv 4) (pe_callB call_len_seq (by rfl) T.n_len (by decide +kernel) (pa_cons (pv 1) pa_nil)) (nomark _)) (pw_or1 (PW.pt (pw_and (pt_cmpR op_lt (pv 3) (pe_callB call_len_seq (by rfl) T.n_len (by decide +kernel) (pa_cons (pv 0) pa_nil)) (nomark _)) (pw_and1 (pt_val (pe_meth (pe_ix ix_tup (pv 0) (pv 3) (fun _ _ => rfl)) T.cl_Ratio T.me_Ratio_below G_Ratio_below (hr.mono (by decide)) T.b_Ratio_below .nil pass0 (pa_cons (pe_ix ix_tup (pv 1) (pv 4) (fun _ _ => rfl)) pa_nil)))))))))
      (pss_cons (ps_set (i := 5) sc_ascending.nd rfl (Or.inl rfl) (pe_ix ix_tup (pv 0) (pv 3) (fun _ _ => rfl)))
    (pss_one (ps_aug (i := 3) sc_ascending.nd rfl (Or.inl rfl) pe_int ip_add)))
      (pss_cons (ps_set (i := 5) sc_ascending.nd rfl (Or.inl rfl) (pe_ix ix_tup (pv 1) (pv 4) (fun _ _ => rfl)))
    (pss_one (ps_aug (i := 4) sc_ascending.nd rfl (Or.inl rfl) pe_int ip_add))))
    (pss_one (ps_if (PW.pt (pw_or (pt_cmpR op_eq (pe_callB call_len_seq (by rfl) T.n_len (by decide +kernel) (pa_cons (pv 2) pa_nil)) pe_int (nomark _)) (pw_or1 (pt_val (pe_meth (pe_ix ix_list (pv 2) (pe_un un_neg pe_int) (fun _ _ => rfl)) T.cl_Ratio T.me_Ratio_below G_Ratio_below (hr.mono (by decide)) T.b_Ratio_below .nil pass0 (pa_cons (pv 5) pa_nil))))))
      (pss_one (ps_expr (pe_bm PySem.F.plainAttrs_list PySem.F.slot_list_append PySem.F.type_list_append mt_append (pv 2) (pa_cons (pv 5) pa_nil))))
      pss_nil))))
    (pss_one (ps_ret (pv 2))))))), ?_⟩
    refine ⟨Nat.zero_le _, fun D nD => ?_⟩
    have hxl : (ps.map V.ref).length = xs.length := by rw [List.length_map, hx.1]
    have hyl : (qs.map V.ref).length = ys.length := by rw [List.length_map, hy.1]
    have pwl : ∀ (zs : List Rat), zs.Pairwise (· < ·) → ∀ (i j : Nat) (u v : Rat), zs[i]? = some u → zs[j]? = some v → i < j → u < v := fun zs hz i j u v h1 h2 hij => pw_lt hz h1 h2 hij
    refine ⟨fun σ H' => ∃ (x5 : Option V) (rs : List Addr) (zs : List Rat), σ = [some (.ref a), some (.ref b), some (.ref D), some (.int (xs.length : Int)), some (.int (ys.length : Int)), x5] ∧ Same H H' ∧ H' D = some (.lst (rs.map V.ref)) ∧ RVs T.f_Ratio H' rs zs n ∧ zs.Pairwise (· < ·) ∧ (∀ z, z ∈ zs ↔ z ∈ xs ∨ z ∈ ys) ∧ zs.length ≤ xs.length + ys.length, ?_, ?_⟩
    · refine ⟨fun w σ H' => ∃ (i j : Nat) (x5 : Option V) (rs : List Addr) (zs : List Rat), σ = [some (.ref a), some (.ref b), some (.ref D), some (.int (i : Int)), some (.int (j : Int)), x5] ∧ Same H H' ∧ H' D = some (.lst (rs.map V.ref)) ∧ RVs T.f_Ratio H' rs zs n ∧ zs.Pairwise (· < ·) ∧ (∀ z, z ∈ zs ↔ z ∈ xs.take i ∨ z ∈ ys.take j) ∧ zs.length ≤ i + j ∧ i ≤ xs.length ∧ j ≤ ys.length ∧ (∀ z, z ∈ zs → (∀ x, xs[i]? = some x → z ≤ x) ∧ (∀ y, ys[j]? = some y → z ≤ y)) ∧ w = xs.length - i + (ys.length - j), ⟨_, 0, 0, none, [], [], rfl, same_upd nD, upd_same, .nil, List.Pairwise.nil, fun z => by simp, Nat.le_refl _, Nat.zero_le _, Nat.zero_le _, fun z h => by simp at h, rfl⟩, ?_⟩
      rintro w σ H' ⟨i, j, x5, rs, zs, rfl, sm, eD, hR, hS, hM, hzl, hi, hj, hB, rfl⟩
      have ha' := ha.ext sm
      have hb' := hb.ext sm
      have hx' := hx.on sm
      have hy' := hy.on sm
      refine ⟨_, rfl, _, rfl, a, _, rfl, .inr ha', _, _, rfl, rfl, _, rfl, ?_⟩
      rw [hxl]
      by_cases hix : i < xs.length
      · rw [decide_eq_true (show (i : Int) < (xs.length : Int) by omega)]
        refine iteT (iteT ⟨(fun σ H2 => ∃ (w : Nat), w < xs.length - i + (ys.length - j) ∧ ∃ (i j : Nat) (x5 : Option V) (rs : List Addr) (zs : List Rat), σ = [some (.ref a), some (.ref b), some (.ref D), some (.int (i : Int)), some (.int (j : Int)), x5] ∧ Same H H2 ∧ H2 D = some (.lst (rs.map V.ref)) ∧ RVs T.f_Ratio H2 rs zs n ∧ zs.Pairwise (· < ·) ∧ (∀ z, z ∈ zs ↔ z ∈ xs.take i ∨ z ∈ ys.take j) ∧ zs.length ≤ i + j ∧ i ≤ xs.length ∧ j ≤ ys.length ∧ (∀ z, z ∈ zs → (∀ x, xs[i]? = some x → z ≤ x) ∧ (∀ y, ys[j]? = some y → z ≤ y)) ∧ w = xs.length - i + (ys.length - j)), fun σ' H2 h => h, (fun σ H2 => ∃ (i' j' : Nat) (q : Addr) (v : Rat), σ = [some (.ref a), some (.ref b), some (.ref D), some (.int (i' : Int)), some (.int (j' : Int)), some (.ref q)] ∧ Same H' H2 ∧ RV T.f_Ratio H2 q v n ∧ i' ≤ xs.length ∧ j' ≤ ys.length ∧ i' + j' = i + j + 1 ∧ (∀ z ∈ zs, z ≤ v) ∧ (∀ x, xs[i']? = some x → v ≤ x) ∧ (∀ y, ys[j']? = some y → v ≤ y) ∧ (∀ z, (z ∈ xs.take i' ∨ z ∈ ys.take j') ↔ (z ∈ xs.take i ∨ z ∈ ys.take j) ∨ z = v)), ?_, ?_⟩)
        · have hxi : xs[i]? = some xs[i] := List.getElem?_eq_getElem hix
          obtain ⟨qx, ax, _, rx⟩ := hx'.at (i := i) hxi
          refine ⟨_, rfl, _, rfl, b, _, rfl, .inr hb', rfl, _, rfl, ?_⟩
          rw [hyl]
          by_cases hjy : j = ys.length
          · rw [decide_eq_true (congrArg (fun z : Nat => V.int (z : Int)) hjy)]
            refine iteT (iteT ⟨_, rfl, _, rfl, a, _, _, _, rfl, rfl, ha', ax, ?_⟩)
            exact ⟨_, rfl, (i : Int), 1, rfl, rfl, i + 1, j, qx, xs[i], rfl, Same.refl H', rx, by omega, hj, by omega, asc_first hxi sx hB (fun y h => by rw [List.getElem?_eq_none (by omega)] at h; cases h)⟩
          · rw [decide_eq_false (fun e => hjy (by injection e with e; omega))]
            have hyj : ys[j]? = some (ys[j]'(by omega)) := List.getElem?_eq_getElem (by omega)
            obtain ⟨qy, ay, _, ry⟩ := hy'.at (i := j) hyj
            refine iteF ⟨_, rfl, _, rfl, a, _, rfl, .inr ha', _, _, rfl, rfl, _, rfl, ?_⟩
            rw [hxl, decide_eq_true (show (i : Int) < (xs.length : Int) by omega)]
            obtain ⟨dxq, fsq, hq, lb, _⟩ := rx.ins
            refine iteT ⟨_, rfl, _, rfl, a, _, _, _, rfl, rfl, ha', ax, qx, dxq, fsq, rfl, hq, lb, _, rfl, _, rfl, b, _, _, _, rfl, rfl, hb', ay, qx, .ref qy, _, _, n, n, rfl, rx, ry.num, hn, hn, fun H2 s2 => ⟨_, rfl, ite2 (fun hlt => ?_) fun hlt => ?_⟩⟩
            · have hlt' := of_decide_eq_true hlt
              refine ⟨_, rfl, _, rfl, a, _, _, _, rfl, rfl, ha'.ext s2, ax, ?_⟩
              exact ⟨_, rfl, (i : Int), 1, rfl, rfl, i + 1, j, qx, xs[i], rfl, s2, rx.on s2, by omega, hj, by omega, asc_first hxi sx hB (fun y h => by rw [hyj] at h; rw [← Option.some.inj h]; grind)⟩
            · have hlt' : ¬ _ := fun e => hlt (decide_eq_true e)
              refine ⟨_, rfl, _, rfl, b, _, _, _, rfl, rfl, hb'.ext s2, ay, ?_⟩
              exact ⟨_, rfl, (j : Int), 1, rfl, rfl, i, j + 1, qy, ys[j]'(by omega), rfl, s2, ry.on s2, by omega, by omega, by omega, asc_second hyj sy hB (fun x h => by rw [hxi] at h; rw [← Option.some.inj h]; grind)⟩
        rintro σ H2 ⟨i', j', q, v, rfl, s2, rq, hi', hj', hij, n1, n2, n3, n4⟩
        have sm2 := sm.trans s2
        have eD2 := s2 _ _ eD
        have hR2 := hR.on s2
        have memN : ∀ z, z ∈ zs ∨ z = v ↔ z ∈ xs.take i' ∨ z ∈ ys.take j' := fun z => by rw [n4, hM]
        have addD : ∀ (H3 : Hp), Same H2 H3 → ∀ (hlt : ∀ z ∈ zs, z < v), ∃ (i j : Nat) (x5 : Option V) (rs' : List Addr) (zs' : List Rat), [some (V.ref a), some (.ref b), some (.ref D), some (.int (i' : Int)), some (.int (j' : Int)), some (.ref q)] = [some (V.ref a), some (.ref b), some (.ref D), some (.int (i : Int)), some (.int (j : Int)), x5] ∧ Same H (upd H3 D (.lst (rs.map V.ref ++ [V.ref q]))) ∧ (upd H3 D (.lst (rs.map V.ref ++ [V.ref q]))) D = some (.lst (rs'.map V.ref)) ∧ RVs T.f_Ratio (upd H3 D (.lst (rs.map V.ref ++ [V.ref q]))) rs' zs' n ∧ zs'.Pairwise (· < ·) ∧ (∀ z, z ∈ zs' ↔ z ∈ xs.take i ∨ z ∈ ys.take j) ∧ zs'.length ≤ i + j ∧ i ≤ xs.length ∧ j ≤ ys.length ∧ (∀ z, z ∈ zs' → (∀ x, xs[i]? = some x → z ≤ x) ∧ (∀ y, ys[j]? = some y → z ≤ y)) ∧ xs.length - i' + (ys.length - j') = xs.length - i + (ys.length - j) := fun H3 s3 hlt => by
          refine ⟨i', j', _, rs ++ [q], zs ++ [v], rfl, same_mut (sm2.trans s3) nD, by rw [upd_same, List.map_append]; rfl, ((hR2.on s3).snoc (rq.on s3)).put (s3 _ _ eD2), List.pairwise_append.mpr ⟨hS, List.pairwise_singleton _ _, fun z hz w hw => by rw [List.mem_singleton.mp hw]; exact hlt z hz⟩, fun z => by rw [List.mem_append, List.mem_singleton]; exact memN z, by rw [List.length_append, List.length_singleton]; omega, hi', hj', fun z hz => ?_, rfl⟩
          rw [List.mem_append, List.mem_singleton] at hz
          rcases hz with hz | rfl
          · have := n1 z hz
            exact ⟨fun x hx => by have := n2 x hx; grind, fun y hy => by have := n3 y hy; grind⟩
          · exact ⟨n2, n3⟩
        refine ⟨_, rfl, D, _, rfl, .inl (SqL.of eD2), rfl, _, rfl, ?_⟩
        rw [List.length_map, hR2.1]
        by_cases hz0 : zs.length = 0
        · rw [decide_eq_true (show V.int ((zs.length : Nat) : Int) = V.int 0 by rw [hz0]; rfl)]
          refine iteT (iteT ⟨_, rfl, .inl ⟨rfl, _, SqL.of eD2⟩, _, rfl, D, _, _, rfl, rfl, eD2, small1000 (by rw [List.length_map, hR2.1]; omega), ?_⟩)
          exact ⟨_, by omega, addD H2 (Same.refl H2) (fun z hz => by rw [List.eq_nil_of_length_eq_zero hz0] at hz; cases hz)⟩
        · rw [decide_eq_false (fun e => hz0 (by injection e with e; omega))]
          obtain ⟨m, hm⟩ : ∃ m, m + 1 = zs.length := ⟨zs.length - 1, by omega⟩
          have hlast : zs[m]? = some (zs[m]'(by omega)) := List.getElem?_eq_getElem (by omega)
          obtain ⟨ql, _, el, rl⟩ := hR2.at (i := m) hlast
          obtain ⟨dxl, fsl, hql, lbl, _⟩ := rl.ins
          have hle : ∀ z ∈ zs, z ≤ zs[m]'(by omega) := fun z hz => by
            obtain ⟨t, ht⟩ := List.mem_iff_getElem?.mp hz
            have htl := (List.getElem?_eq_some_iff.mp ht).1
            by_cases e : t = m
            · subst e
              rw [hlast] at ht
              rw [Option.some.inj ht]
              exact Rat.le_refl
            · have := pw_lt hS ht hlast (by omega)
              grind
          refine iteF ⟨_, rfl, 1, rfl, D, _, _, .ref ql, rfl, rfl, SqL.of eD2, atI_end (j := m) (by rw [List.getElem?_map, el]; rfl) (by rw [List.length_map, hR2.1]; exact hm), ql, dxl, fsl, rfl, hql, lbl, _, rfl, ql, .ref q, _, v, n, n, rfl, rl, rq.num, hn, hn, fun H3 s3 => ⟨_, rfl, ite2 (fun hlt => ?_) fun hlt => ?_⟩⟩
          · have hlt' := of_decide_eq_true hlt
            refine ⟨_, rfl, .inl ⟨rfl, _, SqL.of (s3 _ _ eD2)⟩, _, rfl, D, _, _, rfl, rfl, s3 _ _ eD2, small1000 (by rw [List.length_map, hR2.1]; omega), ?_⟩
            exact ⟨_, by omega, addD H3 s3 (fun z hz => by have := hle z hz; grind)⟩
          · have hlt' : ¬ _ := fun e => hlt (decide_eq_true e)
            have hv : v ∈ zs := by
              have h1 := n1 _ (List.mem_of_getElem? hlast)
              have e : v = zs[m]'(by omega) := by grind
              rw [e]
              exact List.mem_of_getElem? hlast
            exact ⟨_, by omega, i', j', _, rs, zs, rfl, sm2.trans s3, s3 _ _ eD2, hR2.on s3, hS, fun z => by rw [← memN z]; exact ⟨.inl, fun h => h.elim id fun e => by rw [e]; exact hv⟩, by omega, hi', hj', fun z hz => ⟨fun x hx => by have := n1 z hz; have := n2 x hx; grind, fun y hy => by have := n1 z hz; have := n3 y hy; grind⟩, rfl⟩
      · rw [decide_eq_false (show ¬ (i : Int) < (xs.length : Int) by omega)]
        refine iteF ⟨_, rfl, _, rfl, b, _, rfl, .inr hb', _, _, rfl, rfl, _, rfl, ?_⟩
        rw [hyl]
        by_cases hjy : j < ys.length
        · rw [decide_eq_true (show (j : Int) < (ys.length : Int) by omega)]
          obtain ⟨qy, ay, _, ry⟩ := hy'.at (i := j) (List.getElem?_eq_getElem hjy)
          refine iteT ⟨(fun σ H2 => ∃ (w : Nat), w < xs.length - i + (ys.length - j) ∧ ∃ (i j : Nat) (x5 : Option V) (rs : List Addr) (zs : List Rat), σ = [some (.ref a), some (.ref b), some (.ref D), some (.int (i : Int)), some (.int (j : Int)), x5] ∧ Same H H2 ∧ H2 D = some (.lst (rs.map V.ref)) ∧ RVs T.f_Ratio H2 rs zs n ∧ zs.Pairwise (· < ·) ∧ (∀ z, z ∈ zs ↔ z ∈ xs.take i ∨ z ∈ ys.take j) ∧ zs.length ≤ i + j ∧ i ≤ xs.length ∧ j ≤ ys.length ∧ (∀ z, z ∈ zs → (∀ x, xs[i]? = some x → z ≤ x) ∧ (∀ y, ys[j]? = some y → z ≤ y)) ∧ w = xs.length - i + (ys.length - j)), fun σ' H2 h => h, (fun σ H2 => ∃ (i' j' : Nat) (q : Addr) (v : Rat), σ = [some (.ref a), some (.ref b), some (.ref D), some (.int (i' : Int)), some (.int (j' : Int)), some (.ref q)] ∧ Same H' H2 ∧ RV T.f_Ratio H2 q v n ∧ i' ≤ xs.length ∧ j' ≤ ys.length ∧ i' + j' = i + j + 1 ∧ (∀ z ∈ zs, z ≤ v) ∧ (∀ x, xs[i']? = some x → v ≤ x) ∧ (∀ y, ys[j']? = some y → v ≤ y) ∧ (∀ z, (z ∈ xs.take i' ∨ z ∈ ys.take j') ↔ (z ∈ xs.take i ∨ z ∈ ys.take j) ∨ z = v)), ?_, ?_⟩
          · refine ⟨_, rfl, _, rfl, b, _, rfl, .inr hb', rfl, _, rfl, ?_⟩
            rw [hyl, decide_eq_false (fun e => by injection e with e; omega)]
            refine iteF ⟨_, rfl, _, rfl, a, _, rfl, .inr ha', _, _, rfl, rfl, _, rfl, ?_⟩
            rw [hxl, decide_eq_false (show ¬ (i : Int) < (xs.length : Int) by omega)]
            refine iteF (iteF ⟨_, rfl, _, rfl, b, _, _, _, rfl, rfl, hb', ay, ?_⟩)
            exact ⟨_, rfl, (j : Int), 1, rfl, rfl, i, j + 1, qy, ys[j], rfl, Same.refl H', ry, by omega, by omega, by omega, asc_second (List.getElem?_eq_getElem hjy) sy hB (fun x h => by rw [List.getElem?_eq_none (by omega)] at h; cases h)⟩
          · rintro σ H2 ⟨i', j', q, v, rfl, s2, rq, hi', hj', hij, n1, n2, n3, n4⟩
            have sm2 := sm.trans s2
            have eD2 := s2 _ _ eD
            have hR2 := hR.on s2
            have memN : ∀ z, z ∈ zs ∨ z = v ↔ z ∈ xs.take i' ∨ z ∈ ys.take j' := fun z => by rw [n4, hM]
            have addD : ∀ (H3 : Hp), Same H2 H3 → ∀ (hlt : ∀ z ∈ zs, z < v), ∃ (i j : Nat) (x5 : Option V) (rs' : List Addr) (zs' : List Rat), [some (V.ref a), some (.ref b), some (.ref D), some (.int (i' : Int)), some (.int (j' : Int)), some (.ref q)] = [some (V.ref a), some (.ref b), some (.ref D), some (.int (i : Int)), some (.int (j : Int)), x5] ∧ Same H (upd H3 D (.lst (rs.map V.ref ++ [V.ref q]))) ∧ (upd H3 D (.lst (rs.map V.ref ++ [V.ref q]))) D = some (.lst (rs'.map V.ref)) ∧ RVs T.f_Ratio (upd H3 D (.lst (rs.map V.ref ++ [V.ref q]))) rs' zs' n ∧ zs'.Pairwise (· < ·) ∧ (∀ z, z ∈ zs' ↔ z ∈ xs.take i ∨ z ∈ ys.take j) ∧ zs'.length ≤ i + j ∧ i ≤ xs.length ∧ j ≤ ys.length ∧ (∀ z, z ∈ zs' → (∀ x, xs[i]? = some x → z ≤ x) ∧ (∀ y, ys[j]? = some y → z ≤ y)) ∧ xs.length - i' + (ys.length - j') = xs.length - i + (ys.length - j) := fun H3 s3 hlt => by
              refine ⟨i', j', _, rs ++ [q], zs ++ [v], rfl, same_mut (sm2.trans s3) nD, by rw [upd_same, List.map_append]; rfl, ((hR2.on s3).snoc (rq.on s3)).put (s3 _ _ eD2), List.pairwise_append.mpr ⟨hS, List.pairwise_singleton _ _, fun z hz w hw => by rw [List.mem_singleton.mp hw]; exact hlt z hz⟩, fun z => by rw [List.mem_append, List.mem_singleton]; exact memN z, by rw [List.length_append, List.length_singleton]; omega, hi', hj', fun z hz => ?_, rfl⟩
              rw [List.mem_append, List.mem_singleton] at hz
              rcases hz with hz | rfl
              · have := n1 z hz
                exact ⟨fun x hx => by have := n2 x hx; grind, fun y hy => by have := n3 y hy; grind⟩
              · exact ⟨n2, n3⟩
            refine ⟨_, rfl, D, _, rfl, .inl (SqL.of eD2), rfl, _, rfl, ?_⟩
            rw [List.length_map, hR2.1]
            by_cases hz0 : zs.length = 0
            · rw [decide_eq_true (show V.int ((zs.length : Nat) : Int) = V.int 0 by rw [hz0]; rfl)]
              refine iteT (iteT ⟨_, rfl, .inl ⟨rfl, _, SqL.of eD2⟩, _, rfl, D, _, _, rfl, rfl, eD2, small1000 (by rw [List.length_map, hR2.1]; omega), ?_⟩)
              exact ⟨_, by omega, addD H2 (Same.refl H2) (fun z hz => by rw [List.eq_nil_of_length_eq_zero hz0] at hz; cases hz)⟩
            · rw [decide_eq_false (fun e => hz0 (by injection e with e; omega))]
              obtain ⟨m, hm⟩ : ∃ m, m + 1 = zs.length := ⟨zs.length - 1, by omega⟩
              have hlast : zs[m]? = some (zs[m]'(by omega)) := List.getElem?_eq_getElem (by omega)
              obtain ⟨ql, _, el, rl⟩ := hR2.at (i := m) hlast
              obtain ⟨dxl, fsl, hql, lbl, _⟩ := rl.ins
              have hle : ∀ z ∈ zs, z ≤ zs[m]'(by omega) := fun z hz => by
                obtain ⟨t, ht⟩ := List.mem_iff_getElem?.mp hz
                have htl := (List.getElem?_eq_some_iff.mp ht).1
                by_cases e : t = m
                · subst e
                  rw [hlast] at ht
                  rw [Option.some.inj ht]
                  exact Rat.le_refl
                · have := pw_lt hS ht hlast (by omega)
                  grind
              refine iteF ⟨_, rfl, 1, rfl, D, _, _, .ref ql, rfl, rfl, SqL.of eD2, atI_end (j := m) (by rw [List.getElem?_map, el]; rfl) (by rw [List.length_map, hR2.1]; exact hm), ql, dxl, fsl, rfl, hql, lbl, _, rfl, ql, .ref q, _, v, n, n, rfl, rl, rq.num, hn, hn, fun H3 s3 => ⟨_, rfl, ite2 (fun hlt => ?_) fun hlt => ?_⟩⟩
              · have hlt' := of_decide_eq_true hlt
                refine ⟨_, rfl, .inl ⟨rfl, _, SqL.of (s3 _ _ eD2)⟩, _, rfl, D, _, _, rfl, rfl, s3 _ _ eD2, small1000 (by rw [List.length_map, hR2.1]; omega), ?_⟩
                exact ⟨_, by omega, addD H3 s3 (fun z hz => by have := hle z hz; grind)⟩
              · have hlt' : ¬ _ := fun e => hlt (decide_eq_true e)
                have hv : v ∈ zs := by
                  have h1 := n1 _ (List.mem_of_getElem? hlast)
                  have e : v = zs[m]'(by omega) := by grind
                  rw [e]
                  exact List.mem_of_getElem? hlast
                exact ⟨_, by omega, i', j', _, rs, zs, rfl, sm2.trans s3, s3 _ _ eD2, hR2.on s3, hS, fun z => by rw [← memN z]; exact ⟨.inl, fun h => h.elim id fun e => by rw [e]; exact hv⟩, by omega, hi', hj', fun z hz => ⟨fun x hx => by have := n1 z hz; have := n2 x hx; grind, fun y hy => by have := n1 z hz; have := n3 y hy; grind⟩, rfl⟩
        · rw [decide_eq_false (show ¬ (j : Int) < (ys.length : Int) by omega)]
          refine iteF ?_
          obtain rfl : i = xs.length := by omega
          obtain rfl : j = ys.length := by omega
          rw [List.take_length, List.take_length] at hM
          exact ⟨_, rs, zs, rfl, sm, eD, hR, hS, hM, hzl⟩
    rintro σ H' ⟨x5, rs, zs, rfl, sm, eD, hR, hS, hM, hzl⟩
    exact ⟨_, rfl, k D rs zs H' nD sm eD hR hS hM hzl⟩
end

/-! ### slope, covers -/
section
variable {P : Program} {w : World} {K : PySem.W.Frag} {mg : Str → Option Value} {base : Heap}
theorem lf_below (a b c : Addr) : (lf a b c).lookup ("below" : Str) = none := by
  have h1 : (("below" : Str) == ("_loads" : Str)) = false := by decide +kernel
  have h2 : (("below" : Str) == ("_times" : Str)) = false := by decide +kernel
  have h3 : (("below" : Str) == ("_rises" : Str)) = false := by decide +kernel
  simp [lf, List.lookup, h1, h2, h3]
def lastr (l : List Seg) : Rat := ((l.getLast?).map Seg.r).getD 0
theorem lastr_at {l : List Seg} {i : Nat} (h : i + 1 = l.length) : (l.map Seg.r)[i]? = some (lastr l) := by
  rw [List.getElem?_map]
  unfold lastr
  rw [List.getLast?_eq_getElem?, show l.length - 1 = i by omega, List.getElem?_eq_getElem (by omega)]
  rfl
def spSlope (LC RC : Addr) : Sp := fun vs H Q _ => ∃ (p : Addr) (l : List Seg) (n : Nat), vs = [.ref p] ∧ LineAt LC RC H p l n ∧ l ≠ [] ∧ ∀ q, RV RC H q (lastr l) n → Q (.ref q) H
theorem ok_slope (T : Txt K mg) : FnOk P w K mg base CX0 1 T.f_Line_slope T.d_Line_slope ["self"] (spSlope T.f_Line T.f_Ratio) := by
  refine T.F_Line_slope.ok sc_Line_slope (fun vs H Q E h => ?_) (fun cdv A outer s H vs Q E hr h => ?_)
  · obtain ⟨p, l, n, rfl, _⟩ := h
    rfl
  · obtain ⟨p, l, n, rfl, hp, hne, k⟩ := h
    refine ⟨_, (pss_one (ps_ret (pe_ix ix_tup (pe_fld (pv 0) rfl) (pe_un un_neg pe_int) (fun _ _ => rfl)))), ?_⟩
    obtain ⟨dx, a, b, c, ep, ⟨pl, el, rl⟩, ⟨pt, et, rt⟩, ⟨pr, er, rr⟩⟩ := id hp
    have hl0 : 0 < l.length := List.length_pos_iff.mpr hne
    obtain ⟨m, hm⟩ : ∃ m, m + 1 = l.length := ⟨l.length - 1, by omega⟩
    obtain ⟨q, _, eq, rq⟩ := rr.at (i := m) (lastr_at hm)
    exact ⟨_, rfl, p, T.f_Line, dx, _, _, rfl, ep, T.cl_Line, T.na_Line_rises, lf_rises _ _ _, 1, rfl, c, _, _, _, rfl, rfl, SqT.of er, atI_end (j := m) (by rw [List.getElem?_map, eq]; rfl) (by rw [List.length_map, rr.1, List.length_map]; exact hm), k q rq⟩
theorem Gd.nonneg {l : List Seg} (g : Gd l) {z : Rat} (h : z ∈ l.map Seg.x) : 0 ≤ z := by
  obtain ⟨i, hi⟩ := List.mem_iff_getElem?.mp h
  have hl0 : 0 < l.length := List.length_pos_iff.mpr g.ne
  have h0 : l[0]? = some l[0] := List.getElem?_eq_getElem hl0
  have e0 := g.h0 _ h0
  have e1 : (l.map Seg.x)[0]? = some 0 := by rw [List.getElem?_map, h0, ← e0]; rfl
  by_cases e : i = 0
  · subst e
    rw [e1] at hi
    rw [← Option.some.inj hi]
    exact Rat.le_refl
  · have := pw_lt g.pw e1 hi (by omega)
    grind
/-- nowhere below -/
def Cov (l l' : List Seg) : Prop := lastr l' ≤ lastr l ∧ ∀ z, (z ∈ l.map Seg.x ∨ z ∈ l'.map Seg.x) → ev l' z ≤ ev l z
def spCovers (LC RC : Addr) : Sp := fun vs H Q _ => ∃ (p q : Addr) (l l' : List Seg) (n : Nat), vs = [.ref p, .ref q] ∧ LineAt LC RC H p l n ∧ LineAt LC RC H q l' n ∧ Gd l ∧ Gd l' ∧ l.length + l'.length ≤ 1000 ∧ n ≤ 600 ∧ ∀ (b : Bool) H', (b = true ↔ Cov l l') → Same H H' → Q (.bl b) H'
theorem ok_covers (T : Txt K mg) : FnOk P w K mg base CX0 7 T.f_Line_covers T.d_Line_covers ["self", "other"] (spCovers T.f_Line T.f_Ratio) := by
  have G_Ratio_below : FnOk P w K mg base CX0 4 T.f_Ratio_below T.d_Ratio_below ["self", "value"] (spBelowV T.f_Ratio) := okv_below T
  have G_ascending : FnOk P w K mg base CX0 5 T.f_ascending T.d_ascending ["first", "second"] (spAsc K T.f_Ratio) := ok_asc T
  have G_Line_slope : FnOk P w K mg base CX0 1 T.f_Line_slope T.d_Line_slope ["self"] (spSlope T.f_Line T.f_Ratio) := ok_slope T
  have G_Line_time_at : FnOk P w K mg base CX0 6 T.f_Line_time_at T.d_Line_time_at ["self", "load"] (spTimeAt T.f_Line T.f_Ratio) := ok_timeat T
  refine T.F_Line_covers.ok sc_Line_covers (fun vs H Q E h => ?_) (fun cdv A outer s H vs Q E hr h => ?_)
  · obtain ⟨p, q, l, l', n, rfl, _⟩ := h
    rfl
  · obtain ⟨p, q, l, l', n, rfl, hp, hq, gl, gl', hlen, hn, k⟩ := h
    refine ⟨_, (pss_cons (ps_if (pt_val (pe_meth (pe_prop (pv 0) T.cl_Line T.p_Line_slope G_Line_slope (hr.mono (by decide)) T.b_Line_slope .nil pass0 rfl) T.cl_Ratio T.me_Ratio_below G_Ratio_below (hr.mono (by decide)) T.b_Ratio_below .nil pass0 (pa_cons (pe_prop (pv 1) T.cl_Line T.p_Line_slope G_Line_slope (hr.mono (by decide)) T.b_Line_slope .nil pass0 rfl) pa_nil)))
      (pss_one (ps_ret pe_bl))
      pss_nil)
    (pss_cons (ps_set (i := 2) sc_Line_covers.nd rfl (Or.inl rfl) (pe_call G_ascending (hr.mono (by decide)) rfl T.m_ascending T.F_ascending.kp T.b_ascending .nil pass0 (pa_cons (pe_fld (pv 0) rfl) (pa_cons (pe_fld (pv 1) rfl) pa_nil))))
    (pss_one (ps_ret (pe_not (pe_callB (cr_any rfl) (by rfl) T.n_any (by decide +kernel) (pa_cons (pe_lc (own := [("load", 3)]) (g := gName 3) (tt := tYes) rfl sc_Line_covers.nd (pi_list (pv 2)) (blkOk_by (N := ["self", "other", "loads", "load"]) (sc := defScope s_Line_covers) (by decide +kernel)) (fun _ _ _ _ _ => pg_name (i := 3) sc_Line_covers.nd rfl (Or.inl rfl)) (fun _ _ _ _ _ => pts_nil) (fun _ _ _ _ _ => (pe_meth (pe_meth (pv 0) T.cl_Line T.me_Line_time_at G_Line_time_at (hr.mono (by decide)) T.b_Line_time_at .nil pass0 (pa_cons (pv 3) pa_nil)) T.cl_Ratio T.me_Ratio_below G_Ratio_below (hr.mono (by decide)) T.b_Ratio_below .nil pass0 (pa_cons (pe_meth (pv 1) T.cl_Line T.me_Line_time_at G_Line_time_at (hr.mono (by decide)) T.b_Line_time_at .nil pass0 (pa_cons (pv 3) pa_nil)) pa_nil)))) pa_nil))))))), ?_⟩
    obtain ⟨dx, a, b, c, ep, ⟨pl, el, rl⟩, _, _⟩ := id hp
    obtain ⟨dx', a', b', c', ep', ⟨pl', el', rl'⟩, _, _⟩ := id hq
    refine ⟨_, rfl, p, dx, _, rfl, ep, p, l, n, rfl, hp, gl.ne, fun q1 r1 => ?_⟩
    obtain ⟨dx1, fs1, h1, lb1, _⟩ := r1.ins
    refine ⟨q1, dx1, fs1, rfl, h1, lb1, _, rfl, q, dx', _, rfl, ep', q, l', n, rfl, hq, gl'.ne, fun q2 r2 => ?_⟩
    refine ⟨q1, .ref q2, _, _, n, n, rfl, r1, r2.num, by omega, by omega, fun H1 s1 => ⟨_, rfl, ite2 (fun hlt => ?_) fun hlt => ?_⟩⟩
    · have hlt' := of_decide_eq_true hlt
      exact k false H1 ⟨(fun e => nomatch e), fun ⟨e, _⟩ => absurd hlt' (Rat.not_lt.mpr e)⟩ s1
    have hle : lastr l' ≤ lastr l := Rat.not_lt.mp fun e => hlt (decide_eq_true e)
    refine ⟨_, rfl, p, T.f_Line, dx, _, _, rfl, s1 _ _ ep, T.cl_Line, T.na_Line_loads, lf_loads _ _ _, _, rfl, q, T.f_Line, dx', _, _, rfl, s1 _ _ ep', T.cl_Line, T.na_Line_loads, lf_loads _ _ _, ?_⟩
    refine ⟨a, a', _, _, _, _, n, rfl, SqT.of (s1 _ _ el), SqT.of (s1 _ _ el'), rl.on s1, rl'.on s1, gl.pw, gl'.pw, by omega, by rw [List.length_map, List.length_map]; exact hlen, fun F rs zs H2 nF s2 eF rF sz mz zl => ?_⟩
    rw [List.length_map, List.length_map] at zl
    have s12 := s1.trans s2
    refine ⟨_, rfl, F, rfl, ⟨_, SqL.of eF⟩, fun D nD => ?_⟩
    refine lc_list (K := K) (a := F) (xs := rs.map V.ref) (fun i H' => H' D = some (.lst (((zs.take i).map fun z => decide (ev l z < ev l' z)).map V.bl)) ∧ Same H2 H') ⟨upd_same, same_upd nD⟩ (fun i H' _ ⟨_, sm⟩ => SqL.of (sm _ _ eF)) ?_ ?_
    · intro i x H3 hi ⟨eD, s3⟩
      have hi' : i < rs.length := by
        have := (List.getElem?_eq_some_iff.mp hi).1
        rw [List.length_map] at this
        exact this
      have hz' : i < zs.length := by rw [← rF.1]; exact hi'
      have ez : zs[i]? = some zs[i] := List.getElem?_eq_getElem hz'
      rw [List.getElem?_map, List.getElem?_eq_getElem hi'] at hi
      obtain rfl := Option.some.inj hi
      have rz := (rF.2 i _ _ (List.getElem?_eq_getElem hi') ez).on s3
      have s03 := s12.trans s3
      have hz0 : 0 ≤ zs[i] := by
        rcases (mz _).mp (List.mem_of_getElem? ez) with h | h
        · exact gl.nonneg h
        · exact gl'.nonneg h
      refine ⟨rfl, _, rfl, p, dx, _, rfl, s03 _ _ ep, lf_time_at _ _ _, _, rfl, p, rs[i], l, zs[i], n, n, rfl, hp.on s03, gl, rz, hz0, by omega, fun o1 H4 s4 w4 => ?_⟩
      obtain ⟨dx4, fs4, h4, lb4, _⟩ := w4.ins
      have s04 := s03.trans s4
      refine ⟨o1, dx4, fs4, rfl, h4, lb4, _, rfl, q, dx', _, rfl, s04 _ _ ep', lf_time_at _ _ _, _, rfl, q, rs[i], l', zs[i], n, n, rfl, hq.on s04, gl', rz.on s4, hz0, by omega, fun o2 H5 s5 w5 => ?_⟩
      refine ⟨o1, .ref o2, _, _, 3 * n + n + 2, 3 * n + n + 2, rfl, w4.on s5, w5.num, by omega, by omega, fun H6 s6 => ?_⟩
      have s46 := (s4.trans s5).trans s6
      refine ⟨_, s46 _ _ eD, small1000 (by rw [List.length_map, List.length_map, List.length_take]; omega), ?_, same_mut (s3.trans s46) nD⟩
      rw [upd_same, take_more ez, List.map_append, List.map_append]
      rfl
    rintro H3 ⟨eD, s3⟩
    rw [List.length_map, rF.1, List.take_length] at eD
    refine ⟨D, _, rfl, SqL.of eD, _, rfl, k _ H3 ?_ (s12.trans s3)⟩
    rw [Bool.not_eq_true', List.any_eq_false]
    refine ⟨fun h => ⟨hle, fun z hz => ?_⟩, fun ⟨_, h⟩ b hb => ?_⟩
    · have hm := (mz z).mpr hz
      have := h _ (List.mem_map.mpr ⟨z, hm, rfl⟩)
      exact Rat.not_lt.mp fun e => this (decide_eq_true e)
    · obtain ⟨z, hz, rfl⟩ := List.mem_map.mp hb
      have := h z ((mz z).mp hz)
      exact fun e => absurd (of_decide_eq_true e) (Rat.not_lt.mpr this)
end

/-! ### pieces: what is kept, one form only, comparing -/
section
theorem at_eq (s : Seg) (z : Rat) : s.at z = s.t + s.r * (z - s.x) := rfl
theorem chn_skip {s u : Seg} {r : List Seg} (h : Chn (s :: u :: r)) (e : u.r = s.r) : Chn (s :: r) := by
  cases r with
  | nil => trivial
  | cons v r =>
    obtain ⟨h1, h2, h3, h4, h5⟩ := h
    refine ⟨by grind, ?_, h5⟩
    rw [h4]
    exact at_same h2 e v.x
theorem chn_keep : ∀ (r : List Seg) (s : Seg), Chn (s :: r) → Chn (s :: keep s.r r)
  | [], _, _ => trivial
  | u :: r, s, h => by
    show Chn (s :: if u.r = s.r then keep u.r r else u :: keep u.r r)
    by_cases e : u.r = s.r
    · rw [if_pos e, e]
      exact chn_keep r s (chn_skip h e)
    · rw [if_neg e]
      exact ⟨h.1, h.2.1, chn_keep r u h.2.2⟩
theorem chn_bends {l : List Seg} (h : Chn l) : Chn (bends l) := by
  cases l with
  | nil => trivial
  | cons s r => exact chn_keep r s h
/-- no two neighbours rise alike -/
def Can : List Seg → Prop
  | [] => True
  | [_] => True
  | s :: u :: r => u.r ≠ s.r ∧ Can (u :: r)
theorem can_keep : ∀ (r : List Seg) (p : Rat), (∀ u, (keep p r).head? = some u → u.r ≠ p) ∧ Can (keep p r)
  | [], p => ⟨(fun u h => by cases h), trivial⟩
  | s :: r, p => by
    obtain ⟨h1, h2⟩ := can_keep r s.r
    show (∀ u, (if s.r = p then keep s.r r else s :: keep s.r r).head? = some u → u.r ≠ p) ∧ Can (if s.r = p then keep s.r r else s :: keep s.r r)
    by_cases e : s.r = p
    · rw [if_pos e]
      exact ⟨fun u h => by have := h1 u h; rw [e] at this; exact this, h2⟩
    · rw [if_neg e]
      refine ⟨fun u h => by obtain rfl := Option.some.inj h; exact e, ?_⟩
      generalize hk : keep s.r r = k at h1 h2
      cases k with
      | nil => trivial
      | cons v k => exact ⟨h1 v rfl, h2⟩
theorem can_bends (l : List Seg) : Can (bends l) := by
  cases l with
  | nil => trivial
  | cons s r =>
    obtain ⟨h1, h2⟩ := can_keep r s.r
    show Can (s :: keep s.r r)
    generalize hk : keep s.r r = k at h1 h2
    cases k with
    | nil => trivial
    | cons v k => exact ⟨h1 v rfl, h2⟩
/-- where the first piece ends, or a place behind it -/
def nxt (s : Seg) : List Seg → Rat
  | [] => s.x + 1
  | u :: _ => u.x
theorem nxt_gt {s : Seg} {r : List Seg} (h : Chn (s :: r)) : s.x < nxt s r := by
  cases r with
  | nil => show s.x < s.x + 1; grind
  | cons u r => exact h.1
theorem ev_hd {s : Seg} {r : List Seg} {z : Rat} (hz : z < nxt s r) : ev (s :: r) z = s.at z := by
  cases r with
  | nil => rfl
  | cons u r => exact if_pos hz
theorem ev_tl {s u : Seg} {r : List Seg} {z : Rat} (hz : u.x ≤ z) : ev (s :: u :: r) z = ev (u :: r) z := if_neg (Rat.not_lt.mpr hz)
theorem line_eq {x t r r' z : Rat} (hz : x < z) (h : t + r * (z - x) = t + r' * (z - x)) : r = r' := by
  have h1 : (r - r') * (z - x) = 0 := by grind
  have h2 : z - x ≠ 0 := by grind
  grind
theorem mid_lt {a b : Rat} (h : a < b) : a < (a + b) / 2 ∧ (a + b) / 2 < b := by
  constructor <;> grind
theorem min_two {x a b : Rat} (h1 : x < a) (h2 : x < b) : ∃ z, x < z ∧ z < a ∧ z < b := by
  by_cases h : a ≤ b
  · have := mid_lt h1
    exact ⟨_, this.1, this.2, by grind⟩
  · have := mid_lt h2
    exact ⟨_, this.1, by grind, this.2⟩
theorem uniq_head {s s' : Seg} {r q : List Seg} (h : Chn (s :: r)) (h' : Chn (s' :: q)) (hx : s.x = s'.x) (he : ∀ z, s.x ≤ z → ev (s :: r) z = ev (s' :: q) z) : s = s' := by
  have n1 := nxt_gt h
  have n2 := nxt_gt h'
  have h0 := he s.x Rat.le_refl
  rw [ev_hd n1, ev_hd (by rw [hx]; exact n2), at_eq, at_eq] at h0
  have ht : s.t = s'.t := by rw [hx] at h0; grind
  obtain ⟨z, z1, z2, z3⟩ := min_two n1 (by rw [hx]; exact n2)
  have h1 := he z (by grind)
  rw [ev_hd z2, ev_hd z3, at_eq, at_eq, ht, ← hx] at h1
  have hr := line_eq z1 h1
  cases s
  cases s'
  simp only at hx ht hr
  rw [hx, ht, hr]
/-- a piece begins where the other goes on: the two differ -/
theorem uniq_step {s u : Seg} {r q : List Seg} {N : Rat} (h : Chn (s :: u :: r)) (hc : u.r ≠ s.r) (hN : u.x < N) (hq : ∀ z, s.x ≤ z → z < N → ev (s :: q) z = s.at z) (he : ∀ z, s.x ≤ z → ev (s :: u :: r) z = ev (s :: q) z) : False := by
  obtain ⟨z, z1, z2, z3⟩ := min_two (nxt_gt h.2.2) hN
  have hz : s.x ≤ z := by have := h.1; grind
  have h1 := he z hz
  rw [ev_tl (by grind), ev_hd z2, hq z hz z3, at_eq, h.2.1, at_eq, at_eq] at h1
  have h2 : (u.r - s.r) * (z - u.x) = 0 := by grind
  have h3 : z - u.x ≠ 0 := by grind
  grind
theorem uniq : ∀ (r q : List Seg) (s s' : Seg), Chn (s :: r) → Chn (s' :: q) → Can (s :: r) → Can (s' :: q) → s.x = s'.x → (∀ z, s.x ≤ z → ev (s :: r) z = ev (s' :: q) z) → s :: r = s' :: q := by
  intro r
  induction r with
  | nil =>
    intro q s s' h h' c c' hx he
    have es : s = s' := uniq_head h h' hx he
    subst es
    cases q with
    | nil => rfl
    | cons u q => exact (uniq_step (N := u.x + 1) h' c'.1 (by grind) (fun z _ _ => rfl) (fun z hz => (he z hz).symm)).elim
  | cons u r ih =>
    intro q s s' h h' c c' hx he
    have es : s = s' := uniq_head h h' hx he
    subst es
    cases q with
    | nil => exact (uniq_step (N := u.x + 1) h c.1 (by grind) (fun z _ _ => rfl) he).elim
    | cons v q =>
      by_cases h1 : u.x < v.x
      · exact (uniq_step (q := v :: q) h c.1 h1 (fun z _ hz => if_pos hz) he).elim
      · by_cases h2 : v.x < u.x
        · exact (uniq_step (q := u :: r) h' c'.1 h2 (fun z _ hz => if_pos hz) (fun z hz => (he z hz).symm)).elim
        · have e : u.x = v.x := by grind
          have hs := h.1
          rw [ih q u v h.2.2 h'.2.2 c.2 c'.2 e fun z hz => by
            have := he z (by grind)
            rw [ev_tl hz, ev_tl (by rw [← e]; exact hz)] at this
            exact this]
theorem uniq_bends {l l' : List Seg} (h : Chn l) (h' : Chn l') (n : l ≠ []) (n' : l' ≠ []) (h0 : ∀ s, l[0]? = some s → s.x = 0) (h0' : ∀ s, l'[0]? = some s → s.x = 0) (he : ∀ z, 0 ≤ z → ev l z = ev l' z) : bends l = bends l' := by
  cases l with
  | nil => exact absurd rfl n
  | cons s r =>
    cases l' with
    | nil => exact absurd rfl n'
    | cons s' q =>
      have e1 := h0 s rfl
      have e2 := h0' s' rfl
      have hb := chn_bends h
      have hb' := chn_bends h'
      have cb := can_bends (s :: r)
      have cb' := can_bends (s' :: q)
      exact uniq _ _ _ _ hb hb' cb cb' (by rw [e1, e2]) (fun z hz => by
        have z0 : 0 ≤ z := by rw [← e1]; exact hz
        have := he z z0
        rw [← ev_bends h, ← ev_bends h'] at this
        exact this)
/-- the piece at a load -/
def PieceAt (l : List Seg) (z : Rat) (s : Seg) : Prop := s ∈ l ∧ s.x ≤ z ∧ ((∃ u ∈ l, z < u.x ∧ ∀ w, s.x ≤ w → w ≤ u.x → ev l w = s.at w) ∨ ∀ w, s.x ≤ w → ev l w = s.at w ∧ s.r = lastr l)
theorem ev_at_x {s : Seg} {r : List Seg} (h : Chn (s :: r)) : ev (s :: r) s.x = s.t := by
  rw [ev_hd (nxt_gt h), at_eq]
  grind
theorem lastr_cons {s u : Seg} {r : List Seg} : lastr (s :: u :: r) = lastr (u :: r) := by
  unfold lastr
  rw [List.getLast?_cons_cons]
theorem piece : ∀ (r : List Seg) (s : Seg), Chn (s :: r) → ∀ z, s.x ≤ z → ∃ p, PieceAt (s :: r) z p
  | [], s, _, z, hz => ⟨s, List.mem_cons_self, hz, .inr fun w _ => ⟨rfl, rfl⟩⟩
  | u :: r, s, h, z, hz => by
    by_cases hu : z < u.x
    · refine ⟨s, List.mem_cons_self, hz, .inl ⟨u, List.mem_cons_of_mem _ List.mem_cons_self, hu, fun w h1 h2 => ?_⟩⟩
      by_cases e : w < u.x
      · exact ev_hd e
      · have e : w = u.x := by grind
        rw [e, ev_tl Rat.le_refl, ev_at_x h.2.2]
        exact h.2.1
    · obtain ⟨p, h1, h2, h3⟩ := piece r u h.2.2 z (Rat.not_lt.mp hu)
      have hp : u.x ≤ p.x := by
        rcases List.mem_cons.mp h1 with e | e
        · rw [e]; exact Rat.le_refl
        · have := chn_lt r u h.2.2 p e
          grind
      refine ⟨p, List.mem_cons_of_mem _ h1, h2, ?_⟩
      rcases h3 with ⟨v, hv, hz', hw⟩ | hw
      · exact .inl ⟨v, List.mem_cons_of_mem _ hv, hz', fun w w1 w2 => by rw [ev_tl (by grind)]; exact hw w w1 w2⟩
      · exact .inr fun w w1 => by rw [ev_tl (by grind), lastr_cons]; exact hw w w1
theorem two_ends {a b m M z : Rat} (h1 : 0 ≤ a + b * m) (h2 : 0 ≤ a + b * M) (hm : m ≤ z) (hM : z ≤ M) : 0 ≤ a + b * z := by
  by_cases hb : 0 ≤ b
  · have h3 := Rat.mul_nonneg hb (show 0 ≤ z - m by grind)
    grind
  · have h3 := Rat.mul_nonneg (show 0 ≤ -b by grind) (show 0 ≤ M - z by grind)
    grind
theorem one_end {a b m z : Rat} (h1 : 0 ≤ a + b * m) (hb : 0 ≤ b) (hm : m ≤ z) : 0 ≤ a + b * z := by
  have h3 := Rat.mul_nonneg hb (show 0 ≤ z - m by grind)
  grind
theorem cov_all {s s' : Seg} {r q : List Seg} (h : Chn (s :: r)) (h' : Chn (s' :: q)) (hx : s.x = s'.x) (hc : Cov (s :: r) (s' :: q)) (z : Rat) (hz : s.x ≤ z) : ev (s' :: q) z ≤ ev (s :: r) z := by
  obtain ⟨p, p1, p2, p3⟩ := piece r s h z hz
  obtain ⟨p', p1', p2', p3'⟩ := piece q s' h' z (by rw [← hx]; exact hz)
  -- the later of the two beginnings
  obtain ⟨m, hm, m1, m2, m3⟩ : ∃ m, (m ∈ (s :: r).map Seg.x ∨ m ∈ (s' :: q).map Seg.x) ∧ p.x ≤ m ∧ p'.x ≤ m ∧ m ≤ z := by
    by_cases e : p.x ≤ p'.x
    · exact ⟨p'.x, .inr (List.mem_map.mpr ⟨p', p1', rfl⟩), e, Rat.le_refl, p2'⟩
    · exact ⟨p.x, .inl (List.mem_map.mpr ⟨p, p1, rfl⟩), Rat.le_refl, by grind, p2⟩
  have lin : ∀ w, p.at w - p'.at w = ((p.t - p.r * p.x) - (p'.t - p'.r * p'.x)) + (p.r - p'.r) * w := fun w => by
    rw [at_eq, at_eq]
    grind
  have goal : (0 ≤ ((p.t - p.r * p.x) - (p'.t - p'.r * p'.x)) + (p.r - p'.r) * z) → ev (s :: r) z = p.at z → ev (s' :: q) z = p'.at z → ev (s' :: q) z ≤ ev (s :: r) z := fun g e1 e2 => by
    rw [← lin] at g
    rw [e1, e2]
    grind
  have hcm := hc.2 m hm
  rcases p3 with ⟨u, hu, zu, wu⟩ | wu
  · rcases p3' with ⟨v, hv, zv, wv⟩ | wv
    · -- both end
      have e1 := wu m m1 (by grind)
      have e2 := wv m m2 (by grind)
      rw [e1, e2] at hcm
      obtain ⟨M, hM, M1, M2, M3⟩ : ∃ M, (M ∈ (s :: r).map Seg.x ∨ M ∈ (s' :: q).map Seg.x) ∧ M ≤ u.x ∧ M ≤ v.x ∧ z < M := by
        by_cases e : u.x ≤ v.x
        · exact ⟨u.x, .inl (List.mem_map.mpr ⟨u, hu, rfl⟩), Rat.le_refl, e, zu⟩
        · exact ⟨v.x, .inr (List.mem_map.mpr ⟨v, hv, rfl⟩), by grind, Rat.le_refl, zv⟩
      have hcM := hc.2 M hM
      rw [wu M (by grind) M1, wv M (by grind) M2] at hcM
      exact goal (two_ends (m := m) (M := M) (by rw [← lin]; grind) (by rw [← lin]; grind) m3 (by grind)) (wu z p2 (by grind)) (wv z p2' (by grind))
    · have e1 := wu m m1 (by grind)
      have e2 := (wv m m2).1
      rw [e1, e2] at hcm
      have hcM := hc.2 u.x (.inl (List.mem_map.mpr ⟨u, hu, rfl⟩))
      rw [wu u.x (by grind) Rat.le_refl, (wv u.x (by grind)).1] at hcM
      exact goal (two_ends (m := m) (M := u.x) (by rw [← lin]; grind) (by rw [← lin]; grind) m3 (by grind)) (wu z p2 (by grind)) (wv z p2').1
  · rcases p3' with ⟨v, hv, zv, wv⟩ | wv
    · have e1 := (wu m m1).1
      have e2 := wv m m2 (by grind)
      rw [e1, e2] at hcm
      have hcM := hc.2 v.x (.inr (List.mem_map.mpr ⟨v, hv, rfl⟩))
      rw [(wu v.x (by grind)).1, wv v.x (by grind) Rat.le_refl] at hcM
      exact goal (two_ends (m := m) (M := v.x) (by rw [← lin]; grind) (by rw [← lin]; grind) m3 (by grind)) (wu z p2).1 (wv z p2' (by grind))
    · obtain ⟨e1, f1⟩ := wu m m1
      obtain ⟨e2, f2⟩ := wv m m2
      rw [e1, e2] at hcm
      have hr := hc.1
      rw [← f1, ← f2] at hr
      exact goal (one_end (m := m) (by rw [← lin]; grind) (by grind) m3) (wu z p2).1 (wv z p2').1
end

/-! ### how many bits a value needs -/
section
variable {P : Program} {w : World} {K : PySem.W.Frag} {mg : Str → Option Value} {base : Heap}
def Fit (m : Nat) (x : Rat) : Prop := ∃ k D : Int, D ≠ 0 ∧ x = vq k D ∧ Sz m k D
theorem Fit.sz {m : Nat} {x : Rat} {t b : Int} (f : Fit m x) (l : Low t b) (e : vq t b = x) : Sz m t b := by
  obtain ⟨k, D, hD, ek, s⟩ := f
  obtain ⟨rfl, rfl⟩ := low_unique l (Low.of (t := k) hD) (by rw [e, ek, vq_low hD])
  exact s.low hD
theorem PV.fit {H : Hp} {q : Addr} {x : Rat} {n m : Nat} (r : PV H q x n) (f : Fit m x) : PV H q x m := let ⟨t, b, h1, l, e, _⟩ := r; ⟨t, b, h1, l, e, f.sz l e⟩
theorem RV.fit {C : Addr} {H : Hp} {p : Addr} {x : Rat} {n m : Nat} (r : RV C H p x n) (f : Fit m x) : RV C H p x m := let ⟨t, b, h1, l, e, _⟩ := r; ⟨t, b, h1, l, e, f.sz l e⟩
theorem NV.fit {C : Addr} {H : Hp} {v : V} {x : Rat} {n m : Nat} (r : NV C H v x n) (f : Fit m x) : NV C H v x m := let ⟨t, b, h1, l, e, _⟩ := r; ⟨t, b, h1, l, e, f.sz l e⟩
theorem RVs.fit {C : Addr} {H : Hp} {ps : List Addr} {xs : List Rat} {n m : Nat} (r : RVs C H ps xs n) (f : ∀ x ∈ xs, Fit m x) : RVs C H ps xs m := ⟨r.1, fun i p x h1 h2 => (r.2 i p x h1 h2).fit (f x (List.mem_of_getElem? h2))⟩
theorem LineAt.fit {LC RC : Addr} {H : Hp} {p : Addr} {l : List Seg} {n m : Nat} (r : LineAt LC RC H p l n) (f : ∀ s ∈ l, Fit m s.x ∧ Fit m s.t ∧ Fit m s.r) : LineAt LC RC H p l m := by
  obtain ⟨dx, a, b, c, e, ⟨p1, e1, r1⟩, ⟨p2, e2, r2⟩, ⟨p3, e3, r3⟩⟩ := r
  refine ⟨dx, a, b, c, e, ⟨p1, e1, r1.fit fun x hx => ?_⟩, ⟨p2, e2, r2.fit fun x hx => ?_⟩, ⟨p3, e3, r3.fit fun x hx => ?_⟩⟩
  · obtain ⟨s, hs, rfl⟩ := List.mem_map.mp hx
    exact (f s hs).1
  · obtain ⟨s, hs, rfl⟩ := List.mem_map.mp hx
    exact (f s hs).2.1
  · obtain ⟨s, hs, rfl⟩ := List.mem_map.mp hx
    exact (f s hs).2.2
theorem Fit.mono {m n : Nat} {x : Rat} (f : Fit m x) (h : m ≤ n) : Fit n x := let ⟨k, D, hD, e, s⟩ := f; ⟨k, D, hD, e, s.mono h⟩
theorem PV.to {H : Hp} {q : Addr} {x : Rat} {n : Nat} (r : PV H q x n) : Fit n x := let ⟨t, b, _, l, e, s⟩ := r; ⟨t, b, l.ne, e.symm, s⟩
theorem Fit.add {m n : Nat} {x y : Rat} (f : Fit m x) (g : Fit n y) : Fit (m + n + 1) (x + y) := by
  obtain ⟨k, D, hD, rfl, s⟩ := f
  obtain ⟨k', D', hD', rfl, s'⟩ := g
  exact ⟨_, _, Int.mul_ne_zero hD hD', (vq_add hD hD').symm, s.add s'⟩
theorem vq_scale {t b c : Int} (hb : b ≠ 0) (hc : c ≠ 0) : vq (t * c) (b * c) = vq t b := by
  have h1 := rat_ne hb
  have h2 := rat_ne hc
  unfold vq
  push_cast
  grind
/-- a multiple of one small part -/
def DD : Int := 166320
def Fx (b : Int) (x : Rat) : Prop := ∃ k : Int, 0 ≤ k ∧ k ≤ b ∧ x = vq k DD
theorem DD_ne : DD ≠ 0 := by decide
theorem Fx.mono {b c : Int} {x : Rat} (f : Fx b x) (h : b ≤ c) : Fx c x := let ⟨k, h0, h1, e⟩ := f; ⟨k, h0, by omega, e⟩
theorem Fx.zero {b : Int} (h : 0 ≤ b) : Fx b 0 := ⟨0, Int.le_refl _, h, ((vq_zero DD_ne).mpr rfl).symm⟩
theorem Fx.add {b c : Int} {x y : Rat} (f : Fx b x) (g : Fx c y) : Fx (b + c) (x + y) := by
  obtain ⟨k, h0, h1, rfl⟩ := f
  obtain ⟨k', h0', h1', rfl⟩ := g
  refine ⟨k + k', by omega, by omega, ?_⟩
  have h1 := rat_ne DD_ne
  unfold vq
  push_cast
  grind
theorem Fx.of {r u c : Int} (h0 : 0 ≤ r) (hu : u ≠ 0) (hc : 0 < c) (e : u * c = DD) : Fx (r * c) (vq r u) := ⟨r * c, Int.mul_nonneg h0 (by omega), Int.le_refl _, by rw [← e, vq_scale hu (by omega)]⟩
theorem Fx.draw {r u b : Int} (h0 : 0 ≤ r) (hb : r ≤ b) (hu : 0 < u) (hu2 : u ≤ 12) : Fx (b * DD) (vq r u) := by
  have key : ∀ c : Int, 0 < c → c ≤ DD → u * c = DD → Fx (b * DD) (vq r u) := fun c hc hc2 e => (Fx.of h0 (by omega) hc e).mono (Int.le_trans (Int.mul_le_mul_of_nonneg_right hb (by omega)) (Int.mul_le_mul_of_nonneg_left hc2 (by omega)))
  have hcs : u = 1 ∨ u = 2 ∨ u = 3 ∨ u = 4 ∨ u = 5 ∨ u = 6 ∨ u = 7 ∨ u = 8 ∨ u = 9 ∨ u = 10 ∨ u = 11 ∨ u = 12 := by omega
  rcases hcs with rfl | rfl | rfl | rfl | rfl | rfl | rfl | rfl | rfl | rfl | rfl | rfl
  · exact key 166320 (by decide) (by decide) (by decide)
  · exact key 83160 (by decide) (by decide) (by decide)
  · exact key 55440 (by decide) (by decide) (by decide)
  · exact key 41580 (by decide) (by decide) (by decide)
  · exact key 33264 (by decide) (by decide) (by decide)
  · exact key 27720 (by decide) (by decide) (by decide)
  · exact key 23760 (by decide) (by decide) (by decide)
  · exact key 20790 (by decide) (by decide) (by decide)
  · exact key 18480 (by decide) (by decide) (by decide)
  · exact key 16632 (by decide) (by decide) (by decide)
  · exact key 15120 (by decide) (by decide) (by decide)
  · exact key 13860 (by decide) (by decide) (by decide)
theorem Fx.fit {b : Int} {x : Rat} {m : Nat} (f : Fx b x) (hb : b < 2 ^ m) (hm : 18 ≤ m) : Fit m x := by
  obtain ⟨k, h0, h1, e⟩ := f
  refine ⟨k, DD, DD_ne, e, ?_, Nat.lt_of_lt_of_le (show DD.natAbs < 2 ^ 18 by decide) (Nat.pow_le_pow_right (by decide) hm)⟩
  have h : ((k.natAbs : Nat) : Int) < ((2 ^ m : Nat) : Int) := by
    have e : ((2 ^ m : Nat) : Int) = (2 : Int) ^ m := by exact_mod_cast rfl
    rw [e]
    omega
  exact_mod_cast h
theorem div_both {a c d : Rat} (hc : c ≠ 0) (hd : d ≠ 0) : a / d / (c / d) = a / c := by
  have h : c / d ≠ 0 := by grind
  grind
/-- a rise between such corners -/
theorem Fx.rise {b : Int} {x y x' y' : Rat} {m : Nat} (fx : Fx b x) (fy : Fx b y) (fx' : Fx b x') (fy' : Fx b y') (hne : x' - y' ≠ 0) (hb : b < 2 ^ m) : Fit m ((x - y) / (x' - y')) := by
  obtain ⟨k, h0, h1, rfl⟩ := fx
  obtain ⟨j, h2, h3, rfl⟩ := fy
  obtain ⟨k', h4, h5, rfl⟩ := fx'
  obtain ⟨j', h6, h7, rfl⟩ := fy'
  have hd := rat_ne DD_ne
  have hsub : ∀ a b : Int, vq a DD - vq b DD = vq (a - b) DD := fun a b => by
    unfold vq
    push_cast
    grind
  rw [hsub] at hne
  rw [hsub, hsub]
  have hz : k' - j' ≠ 0 := fun e => hne ((vq_zero DD_ne).mpr e)
  have hlt : ∀ a c : Int, 0 ≤ a → a ≤ b → 0 ≤ c → c ≤ b → (a - c).natAbs < 2 ^ m := fun a c a0 a1 c0 c1 => by
    have h : (((a - c).natAbs : Nat) : Int) < ((2 ^ m : Nat) : Int) := by
      have e : ((2 ^ m : Nat) : Int) = (2 : Int) ^ m := by exact_mod_cast rfl
      rw [e]
      omega
    exact_mod_cast h
  refine ⟨k - j, k' - j', hz, ?_, hlt k j h0 h1 h2 h3, hlt k' j' h4 h5 h6 h7⟩
  exact div_both (rat_ne hz) hd
end

/-! ### the sum of two lines -/
section
/-- what a line promises -/
structure Nice (l : List Seg) : Prop where
  gd : Gd l
  chn : Chn l
  up : ∀ s ∈ l, 0 ≤ s.r
  t0 : ∀ s, l[0]? = some s → 0 ≤ s.t
theorem ev_mono : ∀ (r : List Seg) (s : Seg), Chn (s :: r) → (∀ u ∈ s :: r, 0 ≤ u.r) → ∀ z w, s.x ≤ z → z ≤ w → ev (s :: r) z ≤ ev (s :: r) w
  | [], s, _, hr, z, w, _, hw => by
    show s.at z ≤ s.at w
    have h1 := hr s List.mem_cons_self
    have h2 := Rat.mul_nonneg h1 (show 0 ≤ w - z by grind)
    rw [at_eq, at_eq]
    grind
  | u :: r, s, h, hr, z, w, hz, hw => by
    have h1 := hr s List.mem_cons_self
    by_cases e : w < u.x
    · rw [ev_hd (show z < nxt s (u :: r) by show z < u.x; grind), ev_hd (show w < nxt s (u :: r) from e), at_eq, at_eq]
      have h2 := Rat.mul_nonneg h1 (show 0 ≤ w - z by grind)
      grind
    · have hw' := Rat.not_lt.mp e
      have ih := ev_mono r u h.2.2 fun v hv => hr v (List.mem_cons_of_mem _ hv)
      rw [ev_tl hw']
      by_cases e2 : z < u.x
      · rw [ev_hd (show z < nxt s (u :: r) from e2)]
        have h3 := ih u.x w Rat.le_refl hw'
        rw [ev_at_x h.2.2, h.2.1] at h3
        have h2 := Rat.mul_nonneg h1 (show 0 ≤ u.x - z by grind)
        rw [at_eq] at h3 ⊢
        grind
      · rw [ev_tl (Rat.not_lt.mp e2)]
        exact ih z w (Rat.not_lt.mp e2) hw
theorem Nice.cons {l : List Seg} (h : Nice l) : ∃ s r, l = s :: r ∧ s.x = 0 ∧ 0 ≤ s.t := by
  cases l with
  | nil => exact absurd rfl h.gd.ne
  | cons s r => exact ⟨s, r, rfl, h.gd.h0 s rfl, h.t0 s rfl⟩
theorem Nice.mono {l : List Seg} (h : Nice l) {z w : Rat} (hz : 0 ≤ z) (hw : z ≤ w) : ev l z ≤ ev l w := by
  obtain ⟨s, r, rfl, h0, _⟩ := h.cons
  exact ev_mono r s h.chn h.up z w (by rw [h0]; exact hz) hw
theorem Nice.nonneg {l : List Seg} (h : Nice l) {z : Rat} (hz : 0 ≤ z) : 0 ≤ ev l z := by
  obtain ⟨s, r, e, h0, h1⟩ := h.cons
  have h2 := h.mono (Rat.le_refl (a := 0)) hz
  rw [e] at h2 ⊢
  have h3 := ev_at_x (by rw [← e]; exact h.chn : Chn (s :: r))
  rw [h0] at h3
  rw [h3] at h2
  grind
theorem Nice.piece {l : List Seg} (h : Nice l) {z : Rat} (hz : 0 ≤ z) : ∃ p, PieceAt l z p := by
  obtain ⟨s, r, rfl, h0, _⟩ := h.cons
  exact My.piece r s h.chn z (by rw [h0]; exact hz)
/-- the loads of both, in order -/
structure Both (l l' : List Seg) (zs : List Rat) : Prop where
  srt : zs.Pairwise (· < ·)
  mem : ∀ z, z ∈ zs ↔ z ∈ l.map Seg.x ∨ z ∈ l'.map Seg.x
theorem Both.nonneg {l l' : List Seg} {zs : List Rat} (b : Both l l' zs) (h : Nice l) (h' : Nice l') {z : Rat} (hz : z ∈ zs) : 0 ≤ z := ((b.mem z).mp hz).elim h.gd.nonneg h'.gd.nonneg
theorem Both.next {l l' : List Seg} {zs : List Rat} (b : Both l l' zs) {i : Nat} {z u : Rat} (hi : zs[i]? = some z) (hu : u ∈ zs) (hz : z < u) : ∃ z1, zs[i + 1]? = some z1 ∧ z1 ≤ u := by
  obtain ⟨j, hj⟩ := List.mem_iff_getElem?.mp hu
  have hij : i < j := by
    rcases Nat.lt_trichotomy i j with e | e | e
    · exact e
    · subst e
      rw [hi] at hj
      rw [Option.some.inj hj] at hz
      exact absurd hz (by grind)
    · have := pw_lt b.srt hj hi e
      grind
  have hjl := (List.getElem?_eq_some_iff.mp hj).1
  have h1 : zs[i + 1]? = some (zs[i + 1]'(by omega)) := List.getElem?_eq_getElem (by omega)
  refine ⟨_, h1, ?_⟩
  by_cases e : i + 1 = j
  · subst e
    rw [h1] at hj
    rw [Option.some.inj hj]
    exact Rat.le_refl
  · have := pw_lt b.srt h1 hj (by omega)
    grind
theorem Both.seg {l l' : List Seg} {zs : List Rat} (b : Both l l' zs) (h : Nice l) (h' : Nice l') {i : Nat} {z0 : Rat} (hi : zs[i]? = some z0) : ∃ p ∈ l, ∃ p' ∈ l', (∀ w, z0 ≤ w → (∀ z1, zs[i + 1]? = some z1 → w ≤ z1) → ev l w = p.at w ∧ ev l' w = p'.at w) ∧ (zs[i + 1]? = none → p.r = lastr l ∧ p'.r = lastr l') := by
  have z0n := b.nonneg h h' (List.mem_of_getElem? hi)
  have one : ∀ (m : List Seg), (∀ u ∈ m, u.x ∈ zs) → ∀ p, PieceAt m z0 p → (∀ w, z0 ≤ w → (∀ z1, zs[i + 1]? = some z1 → w ≤ z1) → ev m w = p.at w) ∧ (zs[i + 1]? = none → p.r = lastr m) := fun m hm p ⟨_, h2, h3⟩ => by
    rcases h3 with ⟨u, hu, zu, wu⟩ | wu
    · obtain ⟨z1, e1, e2⟩ := b.next hi (hm u hu) zu
      refine ⟨fun w w1 w2 => wu w (by grind) (by have := w2 z1 e1; grind), fun e => by rw [e1] at e; cases e⟩
    · exact ⟨fun w w1 _ => (wu w (by grind)).1, fun _ => (wu z0 h2).2⟩
  obtain ⟨p, hp⟩ := h.piece z0n
  obtain ⟨p', hp'⟩ := h'.piece z0n
  obtain ⟨a1, a2⟩ := one l (fun u hu => (b.mem _).mpr (.inl (List.mem_map.mpr ⟨u, hu, rfl⟩))) p hp
  obtain ⟨b1, b2⟩ := one l' (fun u hu => (b.mem _).mpr (.inr (List.mem_map.mpr ⟨u, hu, rfl⟩))) p' hp'
  exact ⟨p, hp.1, p', hp'.1, fun w w1 w2 => ⟨a1 w w1 w2, b1 w w1 w2⟩, fun e => ⟨a2 e, b2 e⟩⟩
/-- the corners of the sum -/
def sumC (l l' : List Seg) (zs : List Rat) : List (Rat × Rat) := zs.map fun z => (z, ev l z + ev l' z)
theorem sumC_at {l l' : List Seg} {zs : List Rat} {i : Nat} {z : Rat} (h : zs[i]? = some z) : (sumC l l' zs)[i]? = some (z, ev l z + ev l' z) := by unfold sumC; rw [List.getElem?_map, h]; rfl
theorem Both.zero {l l' : List Seg} {zs : List Rat} (b : Both l l' zs) (h : Nice l) (h' : Nice l') : zs[0]? = some 0 := by
  obtain ⟨s, r, e, h0, _⟩ := h.cons
  have hm : (0 : Rat) ∈ zs := (b.mem 0).mpr (.inl (by rw [e]; exact List.mem_map.mpr ⟨s, List.mem_cons_self, h0⟩))
  obtain ⟨i, hi⟩ := List.mem_iff_getElem?.mp hm
  have hil := (List.getElem?_eq_some_iff.mp hi).1
  have h0' : zs[0]? = some (zs[0]'(by omega)) := List.getElem?_eq_getElem (by omega)
  have hn := b.nonneg h h' (List.mem_of_getElem? h0')
  by_cases e0 : i = 0
  · subst e0; exact hi
  · have := pw_lt b.srt h0' hi (by omega)
    grind
theorem Both.cor {l l' : List Seg} {zs : List Rat} (b : Both l l' zs) (h : Nice l) (h' : Nice l') : Cor (sumC l l' zs) := by
  have hz := b.zero h h'
  refine ⟨fun e => ?_, fun c hc => ?_, fun i c d hc hd => ?_⟩
  · have := sumC_at (l := l) (l' := l') hz
    rw [e] at this
    cases this
  · rw [sumC_at hz] at hc
    rw [← Option.some.inj hc]
    have h1 := h.nonneg (Rat.le_refl (a := 0))
    have h2 := h'.nonneg (Rat.le_refl (a := 0))
    exact ⟨rfl, by show 0 ≤ ev l 0 + ev l' 0; grind⟩
  · unfold sumC at hc hd
    rw [List.getElem?_map] at hc hd
    cases e1 : zs[i]? with
    | none => rw [e1] at hc; cases hc
    | some z =>
      cases e2 : zs[i + 1]? with
      | none => rw [e2] at hd; cases hd
      | some z1 =>
        rw [e1] at hc
        rw [e2] at hd
        rw [← Option.some.inj hc, ← Option.some.inj hd]
        have hlt := pw_lt b.srt e1 e2 (Nat.lt_succ_self i)
        have hn := b.nonneg h h' (List.mem_of_getElem? e1)
        have h1 := h.mono hn (Rat.le_of_lt hlt)
        have h2 := h'.mono hn (Rat.le_of_lt hlt)
        exact ⟨hlt, by show ev l z + ev l' z ≤ ev l z1 + ev l' z1; grind⟩
theorem sum_rise {p p' : Seg} {z z1 : Rat} (h : z < z1) : (p.at z1 + p'.at z1 - (p.at z + p'.at z)) / (z1 - z) = p.r + p'.r := by
  have h1 : p.at z1 + p'.at z1 - (p.at z + p'.at z) = (p.r + p'.r) * (z1 - z) := by
    rw [at_eq, at_eq, at_eq, at_eq]
    grind
  rw [h1]
  have h2 : z1 - z ≠ 0 := by grind
  grind
theorem Both.segs {l l' : List Seg} {zs : List Rat} (b : Both l l' zs) (h : Nice l) (h' : Nice l') {i : Nat} {sg : Seg} (hi : (segs (sumC l l' zs) (lastr l + lastr l'))[i]? = some sg) : ∃ z0, zs[i]? = some z0 ∧ sg.x = z0 ∧ sg.t = ev l z0 + ev l' z0 ∧ ∃ p ∈ l, ∃ p' ∈ l', sg.r = p.r + p'.r ∧ ∀ w, z0 ≤ w → (∀ z1, zs[i + 1]? = some z1 → w ≤ z1) → ev l w = p.at w ∧ ev l' w = p'.at w := by
  have hil := (List.getElem?_eq_some_iff.mp hi).1
  rw [segs_len] at hil
  have hzl : i < zs.length := by unfold sumC at hil; rw [List.length_map] at hil; exact hil
  have hz : zs[i]? = some zs[i] := List.getElem?_eq_getElem hzl
  have hc := sumC_at (l := l) (l' := l') hz
  obtain ⟨p, hp, p', hp', hw, hn⟩ := b.seg h h' hz
  have e1 := congrArg (fun m : List Rat => m[i]?) (segs_x (sumC l l' zs) (lastr l + lastr l'))
  have e2 := congrArg (fun m : List Rat => m[i]?) (segs_t (sumC l l' zs) (lastr l + lastr l'))
  simp only [List.getElem?_map] at e1 e2
  rw [hi, hc] at e1 e2
  refine ⟨zs[i], hz, Option.some.inj e1, Option.some.inj e2, p, hp, p', hp', ?_, hw⟩
  cases hz1 : zs[i + 1]? with
  | none =>
    have hl : i + 1 = (sumC l l' zs).length := by
      unfold sumC
      rw [List.length_map]
      have := List.getElem?_eq_none_iff.mp hz1
      omega
    have e3 := segs_last (sumC l l' zs) (lastr l + lastr l') i hl
    rw [hi] at e3
    obtain ⟨f1, f2⟩ := hn hz1
    rw [f1, f2]
    exact Option.some.inj e3
  | some z1 =>
    have hc1 := sumC_at (l := l) (l' := l') hz1
    have e3 := segs_r (sumC l l' zs) (lastr l + lastr l') i _ _ hc hc1
    rw [hi] at e3
    have e3 := Option.some.inj e3
    have hlt := pw_lt b.srt hz hz1 (Nat.lt_succ_self i)
    obtain ⟨a1, a2⟩ := hw zs[i] Rat.le_refl (fun w hw' => by rw [hz1] at hw'; rw [← Option.some.inj hw']; exact Rat.le_of_lt hlt)
    obtain ⟨b1, b2⟩ := hw z1 (Rat.le_of_lt hlt) (fun w hw' => by rw [hz1] at hw'; rw [← Option.some.inj hw']; exact Rat.le_refl)
    rw [e3]
    show (ev l z1 + ev l' z1 - (ev l zs[i] + ev l' zs[i])) / (z1 - zs[i]) = _
    rw [a1, a2, b1, b2]
    exact sum_rise hlt
theorem last_le {z : Rat} : ∀ (zs : List Rat) (a : Rat), zs[0]? = some a → a ≤ z → ∃ i z1, zs[i]? = some z1 ∧ z1 ≤ z ∧ ∀ w, zs[i + 1]? = some w → z < w
  | [], _, h, _ => by cases h
  | [b], a, h, ha => ⟨0, a, h, ha, fun w hw => by cases hw⟩
  | b :: c :: r, a, h, ha => by
    by_cases e : c ≤ z
    · obtain ⟨i, z1, h1, h2, h3⟩ := last_le (c :: r) c rfl e
      exact ⟨i + 1, z1, h1, h2, h3⟩
    · exact ⟨0, a, h, ha, fun w hw => by
        have hw : some c = some w := hw
        rw [← Option.some.inj hw]
        exact Rat.not_le.mp e⟩
theorem Both.ev {l l' : List Seg} {zs : List Rat} (b : Both l l' zs) (h : Nice l) (h' : Nice l') {z : Rat} (hz : 0 ≤ z) : ev (My.segs (sumC l l' zs) (lastr l + lastr l')) z = ev l z + ev l' z := by
  have hcor := b.cor h h'
  have hsr := chn_srt _ (segs_chn (sumC l l' zs) (lastr l + lastr l') hcor.2.2)
  have hlen : (My.segs (sumC l l' zs) (lastr l + lastr l')).length = zs.length := by rw [segs_len]; unfold sumC; rw [List.length_map]
  obtain ⟨i, z1, hz1, hle, hnx⟩ := last_le zs 0 (b.zero h h') hz
  have hil := (List.getElem?_eq_some_iff.mp hz1).1
  obtain ⟨sg, hsg, hev⟩ := ev_at (My.segs (sumC l l' zs) (lastr l + lastr l')) hsr z i (by omega) (fun j s hs hj => by
    obtain ⟨y, hy, ex, _⟩ := b.segs h h' hs
    rw [ex]
    by_cases e : j = i
    · subst e
      rw [hz1] at hy
      rw [← Option.some.inj hy]
      exact hle
    · have := pw_lt b.srt hy hz1 (by omega)
      grind) (fun j s hs hj => by
    obtain ⟨y, hy, ex, _⟩ := b.segs h h' hs
    rw [ex]
    have hjl := (List.getElem?_eq_some_iff.mp hy).1
    have hn : zs[i + 1]? = some (zs[i + 1]'(by omega)) := List.getElem?_eq_getElem (by omega)
    have h1 := hnx _ hn
    by_cases e : j = i + 1
    · subst e
      rw [hn] at hy
      rw [← Option.some.inj hy]
      exact h1
    · have := pw_lt b.srt hn hy (by omega)
      grind)
  obtain ⟨y, hy, f1, f2, p, hp, p', hp', f3, f4⟩ := b.segs h h' hsg
  rw [hz1] at hy
  have hy := Option.some.inj hy
  subst hy
  obtain ⟨a1, a2⟩ := f4 z hle (fun w hw => Rat.le_of_lt (hnx w hw))
  obtain ⟨c1, c2⟩ := f4 z1 Rat.le_refl (fun w hw => Rat.le_of_lt (pw_lt b.srt hz1 hw (Nat.lt_succ_self i)))
  rw [hev, a1, a2, at_eq, f1, f2, f3, c1, c2, at_eq, at_eq, at_eq, at_eq]
  grind
end

section
variable {P : Program} {w : World} {K : PySem.W.Frag} {mg : Str → Option Value} {base : Heap}
theorem NV.put {C : Addr} {H : Hp} {D : Addr} {xs ys : List V} {v : V} {x : Rat} {n : Nat} (hD : H D = some (.lst xs)) (r : NV C H v x n) : NV C (upd H D (.lst ys)) v x n := by
  obtain ⟨t, b, nm, h2⟩ := r
  refine ⟨t, b, ?_, h2⟩
  rcases nm with e | ⟨p, e, dx, hp⟩
  · exact .inl e
  · exact .inr ⟨p, e, dx, by rw [upd_ne (fun z => by rw [z, hD] at hp; cases hp)]; exact hp⟩
theorem PV.put {H : Hp} {D : Addr} {xs ys : List V} {q : Addr} {x : Rat} {n : Nat} (hD : H D = some (.lst xs)) (r : PV H q x n) : PV (upd H D (.lst ys)) q x n := let ⟨t, b, e, h2⟩ := r; ⟨t, b, by
  have e' : H q = some _ := e
  show upd H D (.lst ys) q = _
  rw [upd_ne (fun z => by rw [z, hD] at e'; cases e')]; exact e', h2⟩
/-- pairs of values in tuples -/
def TupsN (C : Addr) (G : Hp) (ts : List Addr) (cs : List (Rat × Rat)) (n : Nat) : Prop := ∀ (i : Nat) t d, ts[i]? = some t → cs[i]? = some d → ∃ u v, G t = some (.tup [u, v]) ∧ NV C G u d.1 n ∧ NV C G v d.2 n
theorem TupsN.on {C : Addr} {H H' : Hp} {ts : List Addr} {cs : List (Rat × Rat)} {n : Nat} (r : TupsN C H ts cs n) (s : Same H H') : TupsN C H' ts cs n := fun i t d h1 h2 => let ⟨u, v, e, a, b⟩ := r i t d h1 h2; ⟨u, v, s _ _ e, a.on s, b.on s⟩
theorem TupsN.put {C : Addr} {H : Hp} {D : Addr} {xs ys : List V} {ts : List Addr} {cs : List (Rat × Rat)} {n : Nat} (hD : H D = some (.lst xs)) (r : TupsN C H ts cs n) : TupsN C (upd H D (.lst ys)) ts cs n := fun i t d h1 h2 => by
  obtain ⟨u, v, e, a, b⟩ := r i t d h1 h2
  exact ⟨u, v, by rw [upd_ne (fun z => by rw [z, hD] at e; cases e)]; exact e, a.put hD, b.put hD⟩
theorem TupsN.snoc {C : Addr} {G : Hp} {ts : List Addr} {cs : List (Rat × Rat)} {n i : Nat} {t : Addr} {d : Rat × Rat} {u v : V} (r : TupsN C G ts cs n) (h : ts.length = i) (ci : cs[i]? = some d) (e : G t = some (.tup [u, v])) (a : NV C G u d.1 n) (b : NV C G v d.2 n) : TupsN C G (ts ++ [t]) cs n := fun j t' d' h1 h2 => by
  by_cases hj : j < ts.length
  · rw [List.getElem?_append_left hj] at h1
    exact r j t' d' h1 h2
  · have hj' := (List.getElem?_eq_some_iff.mp h1).1
    rw [List.length_append, List.length_singleton] at hj'
    have e1 : j = ts.length := by omega
    subst e1
    rw [List.getElem?_append_right (Nat.le_refl _), Nat.sub_self] at h1
    rw [h, ci] at h2
    have e2 : t = t' := Option.some.inj h1
    have e3 : d = d' := Option.some.inj h2
    rw [← e2, ← e3]
    exact ⟨u, v, e, a, b⟩
end

/-! ### + of two lines, with sizes by values -/
section
variable {P : Program} {w : World} {K : PySem.W.Frag} {mg : Str → Option Value} {base : Heap}
theorem Nice.last {l : List Seg} (h : Nice l) : 0 ≤ lastr l := by
  obtain ⟨m, hm⟩ : ∃ m, m + 1 = l.length := ⟨l.length - 1, by have := List.length_pos_iff.mpr h.gd.ne; omega⟩
  have e := lastr_at hm
  rw [List.getElem?_map, List.getElem?_eq_getElem (by omega)] at e
  rw [← Option.some.inj e]
  exact h.up _ (List.getElem_mem _)
def spAddM (LC RC : Addr) : Sp := fun vs H Q _ => ∃ (p q : Addr) (l l' : List Seg) (n m : Nat), vs = [.ref p, .ref q] ∧ LineAt LC RC H p l n ∧ LineAt LC RC H q l' n ∧ Nice l ∧ Nice l' ∧ l.length + l'.length ≤ 800 ∧ n ≤ 480 ∧ n ≤ m ∧ m ≤ 900 ∧ (∀ z, (z ∈ l.map Seg.x ∨ z ∈ l'.map Seg.x) → Fit m (ev l z + ev l' z)) ∧ Fit m (lastr l + lastr l') ∧
  ∀ (o : Addr) (zs : List Rat) H', Same H H' → Both l l' zs → zs.length ≤ l.length + l'.length → LineAt LC RC H' o (bends (segs (sumC l l' zs) (lastr l + lastr l'))) (4 * m + 2) → Q (.ref o) H'
theorem ok_addm (T : Txt K mg) : FnOk P w K mg base CX0 9 T.f_Line_add T.d_Line_add ["self", "other"] (spAddM T.f_Line T.f_Ratio) := by
  have G_Ratio_add : FnOk P w K mg base CX0 4 T.f_Ratio_add T.d_Ratio_add ["self", "other"] (spAddV T.f_Ratio) := okv_add T
  have G_ascending : FnOk P w K mg base CX0 5 T.f_ascending T.d_ascending ["first", "second"] (spAsc K T.f_Ratio) := ok_asc T
  have G_Line_slope : FnOk P w K mg base CX0 1 T.f_Line_slope T.d_Line_slope ["self"] (spSlope T.f_Line T.f_Ratio) := ok_slope T
  have G_Line_time_at : FnOk P w K mg base CX0 6 T.f_Line_time_at T.d_Line_time_at ["self", "load"] (spTimeAt T.f_Line T.f_Ratio) := ok_timeat T
  have G_Line_init : FnOk P w K mg base CX0 7 T.f_Line_init T.d_Line_init ["self", "corners", "slope"] (spLineInit K T.f_Line T.f_Ratio) := ok_lineinit T
  refine T.F_Line_add.ok sc_Line_add (fun vs H Q E h => ?_) (fun cdv A outer s H vs Q E hr h => ?_)
  · obtain ⟨p, q, l, l', n, m, rfl, _⟩ := h
    rfl
  · obtain ⟨p, q, l, l', n, m, rfl, hp, hq, nl, nl', hlen, hn, hnm, hm, fv, fs, k⟩ := h
    refine ⟨_, (pss_cons (ps_set (i := 2) sc_Line_add.nd rfl (Or.inl rfl) (pe_call G_ascending (hr.mono (by decide)) rfl T.m_ascending T.F_ascending.kp T.b_ascending .nil pass0 (pa_cons (pe_fld (pv 0) rfl) (pa_cons (pe_fld (pv 1) rfl) pa_nil))))
    (pss_cons (ps_setLc (i := 3) (own := [("load", 4)]) (g := gName 4) (tt := tYes) rfl sc_Line_add.nd rfl rfl (sw_true rfl rfl rfl (by decide +kernel)) (pi_list (pv 2)) (blkOk_by (N := ["self", "other", "loads", "corners", "load"]) (sc := defScope s_Line_add) (by decide +kernel)) (fun _ _ _ _ _ => pg_name (i := 4) sc_Line_add.nd rfl (Or.inl rfl)) (fun _ _ _ _ _ => pts_nil) (fun _ _ _ _ _ => (pe_tup (pa_cons (pv 4) (pa_cons (pe_op (op_oo (nm := "add") rfl T.op_Ratio_add G_Ratio_add (hr.mono (by decide)) T.b_Ratio_add pass0) (pe_meth (pv 0) T.cl_Line T.me_Line_time_at G_Line_time_at (hr.mono (by decide)) T.b_Line_time_at .nil pass0 (pa_cons (pv 4) pa_nil)) (pe_meth (pv 1) T.cl_Line T.me_Line_time_at G_Line_time_at (hr.mono (by decide)) T.b_Line_time_at .nil pass0 (pa_cons (pv 4) pa_nil))) pa_nil)))))
    (pss_one (ps_ret (pe_make T.mk_Line G_Line_init (hr.mono (by decide)) rfl T.m_Line T.b_Line_init .nil pass0 (pa_cons (pv 3) (pa_cons (pe_op (op_oo (nm := "add") rfl T.op_Ratio_add G_Ratio_add (hr.mono (by decide)) T.b_Ratio_add pass0) (pe_prop (pv 0) T.cl_Line T.p_Line_slope G_Line_slope (hr.mono (by decide)) T.b_Line_slope .nil pass0 rfl) (pe_prop (pv 1) T.cl_Line T.p_Line_slope G_Line_slope (hr.mono (by decide)) T.b_Line_slope .nil pass0 rfl)) pa_nil))))))), ?_⟩
    have gl := nl.gd
    have gl' := nl'.gd
    obtain ⟨dx, a, b, c, ep, ⟨pl, el, rl⟩, _, _⟩ := id hp
    obtain ⟨dx', a', b', c', ep', ⟨pl', el', rl'⟩, _, _⟩ := id hq
    refine ⟨_, rfl, p, T.f_Line, dx, _, _, rfl, ep, T.cl_Line, T.na_Line_loads, lf_loads _ _ _, _, rfl, q, T.f_Line, dx', _, _, rfl, ep', T.cl_Line, T.na_Line_loads, lf_loads _ _ _, ?_⟩
    refine ⟨a, a', _, _, _, _, n, rfl, SqT.of el, SqT.of el', rl, rl', gl.pw, gl'.pw, by omega, by rw [List.length_map, List.length_map]; omega, fun F rs zs H2 nF s2 eF rF sz mz zl => ?_⟩
    rw [List.length_map, List.length_map] at zl
    have B : Both l l' zs := ⟨sz, mz⟩
    refine ⟨_, rfl, F, rfl, ⟨_, SqL.of eF⟩, fun D nD => ?_⟩
    refine lc_list (K := K) (a := F) (xs := rs.map V.ref) (fun i H' => ∃ ts : List Addr, H' D = some (.lst (ts.map V.ref)) ∧ ts.length = i ∧ Same H2 H' ∧ TupsN T.f_Ratio H' ts (sumC l l' zs) m) ⟨[], upd_same, rfl, same_upd nD, fun j t d h => by simp at h⟩ (fun i H' _ ⟨_, _, _, sm, _⟩ => SqL.of (sm _ _ eF)) ?_ ?_
    · intro i x H3 hi ⟨ts, eD, htl, s3, hT⟩
      have hi' : i < rs.length := by
        have := (List.getElem?_eq_some_iff.mp hi).1
        rw [List.length_map] at this
        exact this
      have hz' : i < zs.length := by rw [← rF.1]; exact hi'
      have ez : zs[i]? = some zs[i] := List.getElem?_eq_getElem hz'
      rw [List.getElem?_map, List.getElem?_eq_getElem hi'] at hi
      obtain rfl := Option.some.inj hi
      have rz := (rF.2 i _ _ (List.getElem?_eq_getElem hi') ez).on s3
      have s03 := s2.trans s3
      have hz0 := B.nonneg nl nl' (List.mem_of_getElem? ez)
      refine ⟨rfl, _, rfl, _, rfl, p, dx, _, rfl, s03 _ _ ep, lf_time_at _ _ _, _, rfl, p, rs[i], l, zs[i], n, n, rfl, hp.on s03, gl, rz, hz0, by omega, fun o1 H4 s4 w4 => ?_⟩
      have s04 := s03.trans s4
      refine ⟨_, rfl, q, dx', _, rfl, s04 _ _ ep', lf_time_at _ _ _, _, rfl, q, rs[i], l', zs[i], n, n, rfl, hq.on s04, gl', rz.on s4, hz0, by omega, fun o2 H5 s5 w5 => ?_⟩
      refine oo_of (w4.on s5) w5 ⟨o1, .ref o2, _, _, 3 * n + n + 2, 3 * n + n + 2, rfl, w4.on s5, w5.num, by omega, by omega, fun o3 H6 n6 s6 w6 => ?_⟩
      refine ⟨by show 2 ≤ sizeLine; decide, fun Tt nT => ?_⟩
      have s47 := ((s4.trans s5).trans s6).trans (same_upd (o := .tup [V.ref rs[i], .ref o3]) nT)
      have eD7 := s47 _ _ eD
      have s7 := same_upd (o := .tup [V.ref rs[i], .ref o3]) nT
      have hT7 := (hT.on s47).snoc htl (sumC_at ez) upd_same (((rz.on s47).num).mono (m := m) hnm) (((w6.on s7).num).fit (fv _ ((mz _).mp (List.mem_of_getElem? ez))))
      refine ⟨_, eD7, small1000 (by rw [List.length_map]; omega), ts ++ [Tt], ?_, by rw [List.length_append, htl]; rfl, same_mut (s3.trans s47) nD, hT7.put eD7⟩
      rw [upd_same, List.map_append]
      rfl
    rintro H3 ⟨ts, eD, htl, s3, hT⟩
    rw [List.length_map] at htl
    have s03 := s2.trans s3
    refine ⟨_, rfl, _, rfl, p, dx, _, rfl, s03 _ _ ep, p, l, n, rfl, hp.on s03, gl.ne, fun q1 r1 => ?_⟩
    refine ⟨_, rfl, q, dx', _, rfl, s03 _ _ ep', q, l', n, rfl, hq.on s03, gl'.ne, fun q2 r2 => ?_⟩
    refine oo_of r1 r2 ⟨q1, .ref q2, _, _, n, n, rfl, r1, r2.num, by omega, by omega, fun q3 H4 n4 s4 r3 => ?_⟩
    refine fun x dx4 nx ndx ne => ?_
    have u3 : Same H4 (upd (upd H4 dx4 (.own x)) x (.ins T.f_Line dx4 [])) := (same_upd ndx).trans (same_upd (by rw [upd_ne (Ne.symm ne)]; exact nx))
    have sH := s4.trans u3
    have hcl : (sumC l l' zs).length = zs.length := by unfold sumC; rw [List.length_map]
    have hup : 0 ≤ lastr l + lastr l' := by
      have h1 := nl.last
      have h2 := nl'.last
      grind
    refine ⟨x, dx4, D, .ref q3, sumC l l' zs, _, m, m, rfl, upd_same, ⟨ts, SqL.of (sH _ _ eD), by rw [htl, rF.1, hcl], hT.on sH⟩, B.cor nl nl', by omega, ((r3.on u3).num).fit fs, hup, by omega, by omega, fun H5 r5 e5 => ⟨rfl, ?_⟩⟩
    exact k x zs H5 (((s03.trans s4).trans (Same.made nx ndx e5))) B zl r5
end

/-! ### the law's own line -/
section
variable {P : Program} {w : World} {K : PySem.W.Frag} {mg : Str → Option Value} {base : Heap}
/-- the law's corners -/
def CorP (H : Hp) (L : Addr) (cs : List (Rat × Rat)) (n : Nat) : Prop := ∃ qs : List Addr, H L = some (.lst (qs.map V.ref)) ∧ qs.length = cs.length ∧ ∀ (i : Nat) t d, qs[i]? = some t → cs[i]? = some d → ∃ u v, H t = some (.tup [.ref u, .ref v]) ∧ PV H u d.1 n ∧ PV H v d.2 n
theorem CorP.on {H H' : Hp} {L : Addr} {cs : List (Rat × Rat)} {n : Nat} (r : CorP H L cs n) (s : Same H H') : CorP H' L cs n := by
  obtain ⟨qs, h1, h2, h3⟩ := r
  refine ⟨qs, s _ _ h1, h2, fun i t d ht hd => ?_⟩
  obtain ⟨u, v, e, a, b⟩ := h3 i t d ht hd
  exact ⟨u, v, s _ _ e, a.on s, b.on s⟩
theorem CorP.at {H : Hp} {L : Addr} {cs : List (Rat × Rat)} {n : Nat} (r : CorP H L cs n) {i : Nat} {d : Rat × Rat} (hd : cs[i]? = some d) : ∃ xs t u v, SqL K H L xs ∧ xs.length = cs.length ∧ atI xs (i : Int) = some (.ref t) ∧ SqT K H t [.ref u, .ref v] ∧ PV H u d.1 n ∧ PV H v d.2 n := by
  obtain ⟨qs, h1, h2, h3⟩ := r
  have hi := (List.getElem?_eq_some_iff.mp hd).1
  have ht : qs[i]? = some (qs[i]'(by omega)) := List.getElem?_eq_getElem (by omega)
  obtain ⟨u, v, e, a, b⟩ := h3 i _ _ ht hd
  exact ⟨_, _, u, v, SqL.of h1, by rw [List.length_map, h2], atI_nat (by rw [List.getElem?_map, ht]; rfl), SqT.of e, a, b⟩
def spLOverV : Sp := fun vs H Q _ => ∃ (q q' : Addr) (x x' : Rat) (n n' : Nat), vs = [.ref q, .ref q'] ∧ PV H q x n ∧ PV H q' x' n' ∧ n ≤ 3900 ∧ n' ≤ 3900 ∧ x' ≠ 0 ∧ ResPV H (x / x') (n + n') Q
theorem ok_lover (T : Txt K mg) : FnOk P w K mg base CX0 3 T.f_over T.d_over ["_law_one", "_law_two"] spLOverV := by
  have G_low : FnOk P w K mg base CX0 1 T.f_low T.d_low ["_law_up", "_law_down"] spLowV := okv_low T
  have G_times : FnOk P w K mg base CX0 2 T.f_times T.d_times ["_law_one", "_law_two"] spTimesV := okv_times T
  refine T.F_over.ok sc_over (fun vs H Q E h => ?_) (fun cdv A outer s H vs Q E hr h => ?_)
  · obtain ⟨q, q', x, x', n, n', rfl, _⟩ := h
    rfl
  · obtain ⟨q, q', x, x', n, n', rfl, hq, hq', hn, hn', h0, k⟩ := h
    refine ⟨_, (pss_one (ps_ret (pe_call G_times (hr.mono (by decide)) rfl T.m_times T.F_times.kp T.b_times .nil pass0 (pa_cons (pv 0) (pa_cons (pe_call G_low (hr.mono (by decide)) rfl T.m_low T.F_low.kp T.b_low .nil pass0 (pa_cons (pe_ix ix_tup (pv 1) pe_int (fun _ _ => rfl)) (pa_cons (pe_ix ix_tup (pv 1) pe_int (fun _ _ => rfl)) pa_nil))) pa_nil))))), ?_⟩
    obtain ⟨t, b, e, lo, ev, sz⟩ := id hq'
    have ht : t ≠ 0 := fun z => h0 (by rw [← ev]; exact (vq_zero lo.ne).mpr z)
    refine ⟨_, rfl, _, rfl, q', _, 1, .int b, rfl, rfl, SqT.of e, rfl, _, rfl, q', _, 0, .int t, rfl, rfl, SqT.of e, rfl, b, t, n', rfl, ht, ⟨sz.2, sz.1⟩, by omega, fun o H1 no s1 po => ?_⟩
    refine ⟨q, o, x, vq b t, n, n', rfl, hq.on s1, po, hn, hn', fun o2 H2 no2 s2 po2 => k o2 H2 (s1.free no2) (s1.trans s2) ?_⟩
    have e2 : x * vq b t = x / x' := by
      rw [← ev]
      unfold vq
      have h1 := rat_ne lo.ne
      have h2 := rat_ne ht
      grind
    rw [← e2]
    exact po2
def spSteep (K : PySem.W.Frag) : Sp := fun vs H Q _ => ∃ (L r : Addr) (cs : List (Rat × Rat)) (s : Rat) (k n : Nat) (sg : Seg), vs = [.ref L, .ref r, .int (k : Int)] ∧ CorP H L cs n ∧ PV H r s n ∧ Up cs ∧ (segs cs s)[k]? = some sg ∧ n ≤ 900 ∧ cs.length ≤ 900 ∧ ∀ q H', Same H H' → PV H' q sg.r (4 * n + 2) → Q (.ref q) H'
theorem ok_steep (T : Txt K mg) : FnOk P w K mg base CX0 4 T.f_steep T.d_steep ["_law_corners_here", "_law_slope", "_law_k"] (spSteep K) := by
  have G_over : FnOk P w K mg base CX0 3 T.f_over T.d_over ["_law_one", "_law_two"] spLOverV := ok_lover T
  have G_minus : FnOk P w K mg base CX0 3 T.f_minus T.d_minus ["_law_one", "_law_two"] spMinusV := okv_minus T
  refine T.F_steep.ok sc_steep (fun vs H Q E h => ?_) (fun cdv A outer s H vs Q E hr h => ?_)
  · obtain ⟨L, r, cs, s, k, n, sg, rfl, _⟩ := h
    rfl
  · obtain ⟨L, r, cs, s, j, n, sg, rfl, hc, hr', hup, hsg, hn, hl, k⟩ := h
    refine ⟨_, (pss_cons (ps_if (pt_cmpR op_eq (pe_op op_add (pv 2) pe_int) (pe_callB call_len_seq (by rfl) T.n_len (by decide +kernel) (pa_cons (pv 0) pa_nil)) (nomark _))
      (pss_one (ps_ret (pv 1)))
      pss_nil)
    (pss_one (ps_ret (pe_call G_over (hr.mono (by decide)) rfl T.m_over T.F_over.kp T.b_over .nil pass0 (pa_cons (pe_call G_minus (hr.mono (by decide)) rfl T.m_minus T.F_minus.kp T.b_minus .nil pass0 (pa_cons (pe_ix ix_tup (pe_ix ix_list (pv 0) (pe_op op_add (pv 2) pe_int) (fun _ _ => rfl)) pe_int (fun _ _ => rfl)) (pa_cons (pe_ix ix_tup (pe_ix ix_list (pv 0) (pv 2) (fun _ _ => rfl)) pe_int (fun _ _ => rfl)) pa_nil))) (pa_cons (pe_call G_minus (hr.mono (by decide)) rfl T.m_minus T.F_minus.kp T.b_minus .nil pass0 (pa_cons (pe_ix ix_tup (pe_ix ix_list (pv 0) (pe_op op_add (pv 2) pe_int) (fun _ _ => rfl)) pe_int (fun _ _ => rfl)) (pa_cons (pe_ix ix_tup (pe_ix ix_list (pv 0) (pv 2) (fun _ _ => rfl)) pe_int (fun _ _ => rfl)) pa_nil))) pa_nil)))))), ?_⟩
    have hj : j < cs.length := by
      have := (List.getElem?_eq_some_iff.mp hsg).1
      rw [segs_len] at this
      exact this
    have c1 : cs[j]? = some cs[j] := List.getElem?_eq_getElem hj
    obtain ⟨xs, t1, u1, v1, hL, hxl, a1, ht1, pu1, pv1⟩ := CorP.at (K := K) hc c1
    refine ⟨_, rfl, _, _, rfl, rfl, _, rfl, L, xs, rfl, .inl hL, rfl, _, rfl, ite2 (fun he => ?_) fun he => ?_⟩
    · have he' : j + 1 = cs.length := by
        have e := of_decide_eq_true he
        injection e with e
        omega
      have e := segs_last cs s j he'
      rw [hsg] at e
      have e' : sg.r = s := Option.some.inj e
      refine ⟨_, rfl, k r H (Same.refl H) ?_⟩
      rw [e']
      exact hr'.mono (by omega)
    · have hj1 : j + 1 < cs.length := by
        have e : ¬ j + 1 = cs.length := fun e => he (decide_eq_true (congrArg V.int (by omega)))
        omega
      have c2 : cs[j + 1]? = some cs[j + 1] := List.getElem?_eq_getElem hj1
      have e := segs_r cs s j _ _ c1 c2
      rw [hsg] at e
      have e' : sg.r = (cs[j + 1].2 - cs[j].2) / (cs[j + 1].1 - cs[j].1) := Option.some.inj e
      obtain ⟨xs2, t2, u2, v2, hL2, hxl2, a2, ht2, pu2, pv2⟩ := CorP.at (K := K) hc c2
      have ej : (j : Int) + 1 = ((j + 1 : Nat) : Int) := by omega
      refine ⟨_, rfl, _, rfl, _, _, rfl, rfl, L, _, _, _, rfl, rfl, hL2, by rw [ej]; exact a2, t2, _, 1, .ref v2, rfl, rfl, ht2, rfl, ?_⟩
      refine ⟨_, rfl, _, rfl, L, _, _, _, rfl, rfl, hL, a1, t1, _, 1, .ref v1, rfl, rfl, ht1, rfl, ?_⟩
      refine ⟨v2, v1, _, _, n, n, rfl, pv2, pv1, by omega, by omega, fun o1 H1 n1 s1 w1 => ?_⟩
      have hlt := (hup j _ _ c1 c2).1
      refine ⟨_, rfl, _, rfl, _, _, rfl, rfl, L, _, _, _, rfl, rfl, s1.seq hL2, by rw [ej]; exact a2, t2, _, 0, .ref u2, rfl, rfl, ht2.ext s1, rfl, ?_⟩
      refine ⟨_, rfl, _, rfl, L, _, _, _, rfl, rfl, s1.seq hL, a1, t1, _, 0, .ref u1, rfl, rfl, ht1.ext s1, rfl, ?_⟩
      refine ⟨u2, u1, _, _, n, n, rfl, pu2.on s1, pu1.on s1, by omega, by omega, fun o2 H2 n2 s2 w2 => ?_⟩
      refine ⟨o1, o2, _, _, n + n + 1, n + n + 1, rfl, w1.on s2, w2, by omega, by omega, by grind, fun o3 H3 n3 s3 w3 => k o3 H3 ((s1.trans s2).trans s3) ?_⟩
      rw [e']
      exact w3.mono (by omega)
def spTime (K : PySem.W.Frag) : Sp := fun vs H Q _ => ∃ (L r q : Addr) (cs : List (Rat × Rat)) (s z : Rat) (n m : Nat), vs = [.ref L, .ref r, .ref q] ∧ CorP H L cs n ∧ PV H r s n ∧ PV H q z m ∧ Cor cs ∧ 0 ≤ z ∧ n ≤ 400 ∧ m ≤ 400 ∧ cs.length ≤ 900 ∧ ∀ q H', Same H H' → PV H' q (ev (segs cs s) z) 3900 → Q (.ref q) H'
theorem ok_time (T : Txt K mg) : FnOk P w K mg base CX0 5 T.f_time T.d_time ["_law_corners_here", "_law_slope", "_law_load"] (spTime K) := by
  have G_less : FnOk P w K mg base CX0 1 T.f_less T.d_less ["_law_one", "_law_two"] spLessV := okv_less T
  have G_plus : FnOk P w K mg base CX0 2 T.f_plus T.d_plus ["_law_one", "_law_two"] spPlusV := okv_plus T
  have G_minus : FnOk P w K mg base CX0 3 T.f_minus T.d_minus ["_law_one", "_law_two"] spMinusV := okv_minus T
  have G_times : FnOk P w K mg base CX0 2 T.f_times T.d_times ["_law_one", "_law_two"] spTimesV := okv_times T
  have G_steep : FnOk P w K mg base CX0 4 T.f_steep T.d_steep ["_law_corners_here", "_law_slope", "_law_k"] (spSteep K) := ok_steep T
  refine T.F_time.ok sc_time (fun vs H Q E h => ?_) (fun cdv A outer s H vs Q E hr h => ?_)
  · obtain ⟨L, r, q, cs, s, z, n, m, rfl, _⟩ := h
    rfl
  · obtain ⟨L, r, q, cs, s, z, n, m, rfl, hc, hr', hq, hcor, hz, hn, hm, hl, k⟩ := h
    refine ⟨_, (pss_cons (ps_set (i := 3) sc_time.nd rfl (Or.inl rfl) (pe_op op_sub (pe_callB call_len_seq (by rfl) T.n_len (by decide +kernel) (pa_cons (pv 0) pa_nil)) pe_int))
    (C8.pss_cut (ps_while PassesOwn.never (pt_val (pe_call G_less (hr.mono (by decide)) rfl T.m_less T.F_less.kp T.b_less .nil pass0 (pa_cons (pv 2) (pa_cons (pe_ix ix_tup (pe_ix ix_list (pv 0) (pv 3) (fun _ _ => rfl)) pe_int (fun _ _ => rfl)) pa_nil))))
      (pss_one (ps_set (i := 3) sc_time.nd rfl (Or.inl rfl) (pe_op op_sub (pv 3) pe_int))))
    (pss_one (ps_ret (pe_call G_plus (hr.mono (by decide)) rfl T.m_plus T.F_plus.kp T.b_plus .nil pass0 (pa_cons (pe_ix ix_tup (pe_ix ix_list (pv 0) (pv 3) (fun _ _ => rfl)) pe_int (fun _ _ => rfl)) (pa_cons (pe_call G_times (hr.mono (by decide)) rfl T.m_times T.F_times.kp T.b_times .nil pass0 (pa_cons (pe_call G_steep (hr.mono (by decide)) rfl T.m_steep T.F_steep.kp T.b_steep .nil pass0 (pa_cons (pv 0) (pa_cons (pv 1) (pa_cons (pv 3) pa_nil)))) (pa_cons (pe_call G_minus (hr.mono (by decide)) rfl T.m_minus T.F_minus.kp T.b_minus .nil pass0 (pa_cons (pv 2) (pa_cons (pe_ix ix_tup (pe_ix ix_list (pv 0) (pv 3) (fun _ _ => rfl)) pe_int (fun _ _ => rfl)) pa_nil))) pa_nil))) pa_nil))))))), ?_⟩
    have hl0 : 0 < cs.length := List.length_pos_iff.mpr hcor.1
    have hup : Up cs := hcor.2.2
    have hsl := segs_len cs s
    have hsrt := chn_srt _ (segs_chn cs s hup)
    obtain ⟨qs, hL, hql, hqs⟩ := id hc
    refine ⟨_, rfl, L, _, rfl, .inl (SqL.of hL), _, _, rfl, rfl, ?_⟩
    refine ⟨fun σ H' => ∃ j : Nat, σ = [some (.ref L), some (.ref r), some (.ref q), some (.int (j : Int))] ∧ H' = H ∧ j < cs.length ∧ (∀ c, cs[j]? = some c → c.1 ≤ z) ∧ (∀ i c, cs[i]? = some c → j < i → z < c.1), ?_, ?_⟩
    · refine ⟨fun v σ H' => ∃ j : Nat, σ = [some (.ref L), some (.ref r), some (.ref q), some (.int (j : Int))] ∧ H' = H ∧ j < cs.length ∧ v = j ∧ (∀ i c, cs[i]? = some c → j < i → z < c.1), ⟨cs.length - 1, cs.length - 1, ?_, rfl, by omega, rfl, fun i c h1 h2 => ?_⟩, ?_⟩
      · have e : (((qs.map V.ref).length : Nat) : Int) - 1 = ((cs.length - 1 : Nat) : Int) := by rw [List.length_map, hql]; omega
        exact congrArg (fun w : Int => [some (V.ref L), some (.ref r), some (.ref q), some (.int w)]) e
      · have := (List.getElem?_eq_some_iff.mp h1).1
        omega
      · rintro v σ H' ⟨j, rfl, rfl, hj, rfl, hB⟩
        have c1 : cs[v]? = some cs[v] := List.getElem?_eq_getElem hj
        obtain ⟨xs, t1, u1, v1, hL1, hxl, a1, ht1, pu1, pv1⟩ := CorP.at (K := K) hc c1
        refine ⟨_, rfl, _, rfl, _, rfl, L, _, _, _, rfl, rfl, hL1, a1, t1, _, 0, .ref u1, rfl, rfl, ht1, rfl, q, u1, _, _, m, n, rfl, hq, pu1, by omega, by omega, _, rfl, ite2 (fun hlt => ?_) fun hlt => ?_⟩
        · have hlt' : z < cs[v].1 := of_decide_eq_true hlt
          have hv0 : v ≠ 0 := fun e => by
            subst e
            have := (hcor.2.1 _ c1).1
            grind
          refine ⟨fun σ' H2 => ∃ j : Nat, σ' = [some (.ref L), some (.ref r), some (.ref q), some (.int (j : Int))] ∧ H2 = H' ∧ j < v ∧ (∀ i c, cs[i]? = some c → j < i → z < c.1), fun σ' H2 ⟨j, e1, e2, e3, e4⟩ => ⟨j, e3, j, e1, e2, by omega, rfl, e4⟩, ?_⟩
          refine ⟨_, rfl, _, _, rfl, rfl, v - 1, congrArg (fun w : Int => [some (V.ref L), some (.ref r), some (.ref q), some (.int w)]) (by omega), rfl, by omega, fun i c h1 h2 => ?_⟩
          by_cases e : i = v
          · subst e
            rw [c1] at h1
            rw [← Option.some.inj h1]
            exact hlt'
          · exact hB i c h1 (by omega)
        · have hlt' : ¬ z < cs[v].1 := fun e => hlt (decide_eq_true e)
          exact ⟨v, rfl, rfl, hj, fun c h => by rw [c1] at h; rw [← Option.some.inj h]; grind, hB⟩
    rintro σ H' ⟨j, rfl, rfl, hj, hA, hB⟩
    have c1 : cs[j]? = some cs[j] := List.getElem?_eq_getElem hj
    obtain ⟨xs, t1, u1, v1, hL1, hxl, a1, ht1, pu1, pv1⟩ := CorP.at (K := K) hc c1
    have hx := segs_x cs s
    have ht := segs_t cs s
    have getx : ∀ (i : Nat) (sg : Seg), (segs cs s)[i]? = some sg → ∃ c, cs[i]? = some c ∧ sg.x = c.1 ∧ sg.t = c.2 := fun i sg hi => by
      have hi' := (List.getElem?_eq_some_iff.mp hi).1
      have ci : cs[i]? = some (cs[i]'(by omega)) := List.getElem?_eq_getElem (by omega)
      refine ⟨_, ci, ?_, ?_⟩
      · have e := congrArg (fun l : List Rat => l[i]?) hx
        simp only [List.getElem?_map] at e
        rw [hi, ci] at e
        exact Option.some.inj e
      · have e := congrArg (fun l : List Rat => l[i]?) ht
        simp only [List.getElem?_map] at e
        rw [hi, ci] at e
        exact Option.some.inj e
    have pw : ∀ (i i' : Nat) (a b : Rat × Rat), cs[i]? = some a → cs[i']? = some b → i ≤ i' → a.1 ≤ b.1 := fun i i' a b h1 h2 hle => by
      by_cases e : i = i'
      · subst e
        rw [h1] at h2
        rw [Option.some.inj h2]
        exact Rat.le_refl
      · have l1 : (segs cs s)[i]? = some ((segs cs s)[i]'(by have := (List.getElem?_eq_some_iff.mp h1).1; omega)) := List.getElem?_eq_getElem _
        have l2 : (segs cs s)[i']? = some ((segs cs s)[i']'(by have := (List.getElem?_eq_some_iff.mp h2).1; omega)) := List.getElem?_eq_getElem _
        obtain ⟨a', ha, ea, _⟩ := getx _ _ l1
        obtain ⟨b', hb, eb, _⟩ := getx _ _ l2
        rw [h1] at ha
        rw [h2] at hb
        have := List.pairwise_iff_getElem.mp hsrt i i' (by have := (List.getElem?_eq_some_iff.mp h1).1; omega) (by have := (List.getElem?_eq_some_iff.mp h2).1; omega) (by omega)
        rw [Option.some.inj ha, Option.some.inj hb, ← ea, ← eb]
        grind
    obtain ⟨sg, hsg, hev⟩ := ev_at (segs cs s) hsrt z j (by omega) (fun i u hu hi => by
      obtain ⟨c, hc1, e, _⟩ := getx i u hu
      rw [e]
      have := pw i j _ _ hc1 c1 hi
      have := hA _ c1
      grind) (fun i u hu hi => by
      obtain ⟨c, hc1, e, _⟩ := getx i u hu
      rw [e]
      exact hB i c hc1 hi)
    obtain ⟨c', hc', ex, et⟩ := getx _ _ hsg
    rw [c1] at hc'
    have hc' := Option.some.inj hc'
    subst hc'
    refine ⟨_, rfl, _, rfl, L, _, _, _, rfl, rfl, hL1, a1, t1, _, 1, .ref v1, rfl, rfl, ht1, rfl, ?_⟩
    refine ⟨_, rfl, _, rfl, _, rfl, L, r, cs, s, j, n, sg, rfl, hc, hr', hup, hsg, by omega, hl, fun o1 H1 s1 w1 => ?_⟩
    refine ⟨_, rfl, _, rfl, _, rfl, L, _, _, _, rfl, rfl, s1.seq hL1, a1, t1, _, 0, .ref u1, rfl, rfl, ht1.ext s1, rfl, q, u1, z, _, m, n, rfl, hq.on s1, pu1.on s1, by omega, by omega, fun o2 H2 n2 s2 w2 => ?_⟩
    refine ⟨o1, o2, _, _, 4 * n + 2, m + n + 1, rfl, w1.on s2, w2, by omega, by omega, fun o3 H3 n3 s3 w3 => ?_⟩
    refine ⟨v1, o3, _, _, n, 4 * n + 2 + (m + n + 1), rfl, ((pv1.on s1).on s2).on s3, w3, by omega, by omega, fun o4 H4 n4 s4 w4 => k o4 H4 (((s1.trans s2).trans s3).trans s4) ?_⟩
    rw [hev]
    unfold Seg.at
    rw [ex, et]
    exact w4.mono (by omega)
end

section
variable {P : Program} {w : World} {K : PySem.W.Frag} {mg : Str → Option Value} {base : Heap}
/-- what stands behind and is no list is known from then on -/
theorem DSt.grow {G H : Hp} {s : Addr} {m : Nat} (d : DSt G H s m) : ∃ G', DSt G' H s m ∧ Same G G' ∧ ∀ a o, H a = some o → (∀ xs, o ≠ .lst xs) → G' a = some o := by
  obtain ⟨b, c, gs, cs, n, d, hn⟩ := d
  have gl : ∀ a xs, G a = none → H a = some (.lst xs) → (match G a with | some o => some o | none => match H a with | some (.lst _) => none | x => x) = none := fun a xs e1 e2 => by rw [e1, e2]
  refine ⟨fun a => match G a with | some o => some o | none => match H a with | some (.lst _) => none | x => x, ⟨b, c, gs, cs, n, ⟨fun a o e => ?_, gl _ _ d.fs d.hs, gl _ _ d.fb d.hb, gl _ _ d.fc d.hc, d.hs, d.hb, d.hc, d.ne, d.pos⟩, hn⟩, fun a o e => ?_, fun a o e ne => ?_⟩
  · cases eg : G a with
    | some o' =>
      simp only [eg] at e
      rw [← e]
      exact d.same a _ eg
    | none =>
      simp only [eg] at e
      cases eh : H a with
      | none => rw [eh] at e; cases e
      | some o' =>
        rw [eh] at e
        cases o' <;> first | exact e | cases e
  · show (match G a with | some o => some o | none => match H a with | some (.lst _) => none | x => x) = some o
    rw [e]
  · show (match G a with | some o => some o | none => match H a with | some (.lst _) => none | x => x) = some o
    cases eg : G a with
    | some o' =>
      have := d.same a _ eg
      rw [e] at this
      exact this.symm
    | none =>
      simp only
      rw [e]
      cases o with
      | lst xs => exact absurd rfl (ne xs)
      | _ => rfl
end

/-! ### values -/
section
variable {P : Program} {w : World} {K : PySem.W.Frag} {mg : Str → Option Value} {base : Heap}
theorem PairAt.on {H H' : Hp} {q : Addr} {t b : Int} (p : PairAt H q t b) (s : Same H H') : PairAt H' q t b := s _ _ p
theorem int_eq {a b : Int} (h : decide (V.int a = V.int b) = true) : a = b := by
  have := of_decide_eq_true h
  injection this
def spValue (C : Addr) : Sp := fun vs H Q _ => ∃ (st q : Addr) (t b : Int) (G : Hp) (m : Nat), vs = [.ref st, .ref q] ∧ PairAt G q t b ∧ Fine (t, b) ∧ DSt G H st m ∧ m + 2 < 1000000 ∧ ∀ v H', Num C H' v t b → (∀ p, v = .ref p → ∀ xs, H' p ≠ some (.lst xs)) → DSt G H' st (m + 2) → Q v H'
theorem ok_value (T : Txt K mg) : FnOk P w K mg base CX0 3 T.f_value T.d_value ["_law_state", "_law_pair"] (spValue T.f_Ratio) := by
  have G_draw : FnOk P w K mg base CX0 1 T.f_draw T.d_draw ["_law_state", "_law_size"] spDraw := ok_draw T
  have G_Ratio_init : FnOk P w K mg base CX0 1 T.f_Ratio_init T.d_Ratio_init ["self", "top", "bottom"] (spInit T.f_Ratio) := ok_init T
  refine T.F_value.ok sc_value (fun vs H Q E h => ?_) (fun cdv A outer s H vs Q E hr h => ?_)
  · obtain ⟨st, q, t, b, G, m, rfl, _⟩ := h
    rfl
  · obtain ⟨st, q, t, b, G, m, rfl, pq, hf, d, hm, k⟩ := h
    refine ⟨_, (pss_cons (ps_if (PW.pt (pw_and (pt_cmpR op_eq (pe_ix ix_tup (pv 1) pe_int (fun _ _ => rfl)) pe_int (nomark _)) (pw_and1 (pt_cmpR op_eq (pe_call G_draw (hr.mono (by decide)) rfl T.m_draw T.F_draw.kp T.b_draw .nil pass0 (pa_cons (pv 0) (pa_cons pe_int pa_nil))) pe_int (nomark _)))))
      (pss_one (ps_ret (pe_ix ix_tup (pv 1) pe_int (fun _ _ => rfl))))
      pss_nil)
    (pss_cons (ps_set (i := 2) sc_value.nd rfl (Or.inl rfl) (pe_op op_add pe_int (pe_call G_draw (hr.mono (by decide)) rfl T.m_draw T.F_draw.kp T.b_draw .nil pass0 (pa_cons (pv 0) (pa_cons pe_int pa_nil)))))
    (pss_one (ps_ret (pe_make T.mk_Ratio G_Ratio_init (hr.mono (by decide)) rfl T.m_Ratio T.b2_Ratio_init T.v2_Ratio_init pass0 (pa_cons (pe_op op_mulW (pe_ix ix_tup (pv 1) pe_int (fun _ _ => rfl)) (pv 2)) (pa_cons (pe_op op_mulW (pe_ix ix_tup (pv 1) pe_int (fun _ _ => rfl)) (pv 2)) pa_nil))))))), ?_⟩
    refine ⟨_, rfl, q, _, 1, .int b, rfl, rfl, SqT.of (pq.on d.same), rfl, rfl, _, rfl, ite2 (fun hb => ?_) fun _ => ?_⟩
    · refine ⟨_, rfl, G, st, m, 2, rfl, d, by omega, by decide, by decide, fun r H1 _ _ d1 => ⟨rfl, _, rfl, ite2 (fun _ => ?_) fun _ => ?_⟩⟩
      · exact ⟨_, rfl, q, _, 0, .int t, rfl, rfl, SqT.of (pq.on d1.same), rfl, k _ _ (.inl ⟨rfl, int_eq hb⟩) (fun p z => nomatch z) (d1.mono (by omega))⟩
      · refine ⟨_, rfl, G, st, m + 1, 3, rfl, d1, by omega, by decide, by decide, fun r H2 r0 r1 d2 => ?_⟩
        refine ⟨_, _, rfl, rfl, ?_⟩
        have hr1 : SM (1 + r) := Nat.lt_of_lt_of_le (show (1 + r).natAbs < 100 by omega) (by decide +kernel)
        have hz : (1 + r) ≠ 0 := by omega
        have p2 := pq.on d2.same
        refine ⟨_, rfl, q, _, 0, .int t, rfl, rfl, SqT.of p2, rfl, _, rfl, _, _, rfl, rfl, sm_mul hf.2.1 hr1, ?_⟩
        refine ⟨_, rfl, q, _, 1, .int b, rfl, rfl, SqT.of p2, rfl, _, rfl, _, _, rfl, rfl, sm_mul hf.2.2 hr1, ?_⟩
        refine fun x dx nx ndx ne => ⟨x, dx, t * (1 + r), b * (1 + r), rfl, upd_same, Int.mul_ne_zero hf.1.ne hz, big_mul hf.2.2 hr1, fun H3 r3 e3 => ⟨rfl, ?_⟩⟩
        have s3 := Same.made nx ndx e3
        have ls := low_scale (k := 1 + r) (t := t) (b := b) hz hf.1.ne
        rw [Int.mul_comm (1 + r) t, Int.mul_comm (1 + r) b] at ls
        have ht : lowT t b = t := hf.1.tt
        have hb : lowB t b = b := hf.1.bb
        rw [ls.1, ls.2, ht, hb] at r3
        refine k _ _ (.inr ⟨x, rfl, r3⟩) (fun p z xs e => ?_) ((d2.on s3).mono (by omega))
        injection z with z
        obtain ⟨d0, h0⟩ := r3
        rw [← z, h0] at e
        cases e
    · have d1 : DSt G H st (m + 1) := d.mono (by omega)
      refine ⟨_, rfl, G, st, m + 1, 3, rfl, d1, by omega, by decide, by decide, fun r H2 r0 r1 d2 => ?_⟩
      refine ⟨_, _, rfl, rfl, ?_⟩
      have hr1 : SM (1 + r) := Nat.lt_of_lt_of_le (show (1 + r).natAbs < 100 by omega) (by decide +kernel)
      have hz : (1 + r) ≠ 0 := by omega
      have p2 := pq.on d2.same
      refine ⟨_, rfl, q, _, 0, .int t, rfl, rfl, SqT.of p2, rfl, _, rfl, _, _, rfl, rfl, sm_mul hf.2.1 hr1, ?_⟩
      refine ⟨_, rfl, q, _, 1, .int b, rfl, rfl, SqT.of p2, rfl, _, rfl, _, _, rfl, rfl, sm_mul hf.2.2 hr1, ?_⟩
      refine fun x dx nx ndx ne => ⟨x, dx, t * (1 + r), b * (1 + r), rfl, upd_same, Int.mul_ne_zero hf.1.ne hz, big_mul hf.2.2 hr1, fun H3 r3 e3 => ⟨rfl, ?_⟩⟩
      have s3 := Same.made nx ndx e3
      have ls := low_scale (k := 1 + r) (t := t) (b := b) hz hf.1.ne
      rw [Int.mul_comm (1 + r) t, Int.mul_comm (1 + r) b] at ls
      have ht : lowT t b = t := hf.1.tt
      have hb : lowB t b = b := hf.1.bb
      rw [ls.1, ls.2, ht, hb] at r3
      refine k _ _ (.inr ⟨x, rfl, r3⟩) (fun p z xs e => ?_) ((d2.on s3).mono (by omega))
      injection z with z
      obtain ⟨d0, h0⟩ := r3
      rw [← z, h0] at e
      cases e
end

/-! ### draws by values -/
section
variable {P : Program} {w : World} {K : PySem.W.Frag} {mg : Str → Option Value} {base : Heap}
def spValueV (C : Addr) : Sp := fun vs H Q _ => ∃ (st q : Addr) (x : Rat) (n : Nat) (G : Hp) (m : Nat), vs = [.ref st, .ref q] ∧ PV G q x n ∧ n ≤ 3900 ∧ DSt G H st m ∧ m + 2 < 1000000 ∧ ∀ v H', NV C H' v x n → (∀ p, v = .ref p → ∀ xs, H' p ≠ some (.lst xs)) → DSt G H' st (m + 2) → Q v H'
theorem okv_value (T : Txt K mg) : FnOk P w K mg base CX0 3 T.f_value T.d_value ["_law_state", "_law_pair"] (spValueV T.f_Ratio) := (ok_value T).imp fun vs H Q E ⟨st, q, x, n, G, m, e, ⟨t, b, pa, l, ev, sz⟩, hn, d, hm, k⟩ =>
  ⟨st, q, t, b, G, m, e, pa, ⟨l, (sz.sm hn).1, (sz.sm hn).2⟩, d, hm, fun v H' nu nl d' => k v H' ⟨t, b, nu, l, ev, sz⟩ nl d'⟩
/-- what is no list is known -/
def NL (H G : Hp) : Prop := ∀ a o, H a = some o → (∀ xs, o ≠ .lst xs) → G a = some o
theorem RV.nl {C : Addr} {H G : Hp} {p : Addr} {x : Rat} {n : Nat} (r : RV C H p x n) (h : NL H G) : RV C G p x n := let ⟨t, b, ⟨dx, e⟩, h2⟩ := r; ⟨t, b, ⟨dx, h _ _ e (fun _ z => nomatch z)⟩, h2⟩
theorem NV.nl {C : Addr} {H G : Hp} {v : V} {x : Rat} {n : Nat} (r : NV C H v x n) (h : NL H G) : NV C G v x n := by
  obtain ⟨t, b, nm, h2⟩ := r
  refine ⟨t, b, ?_, h2⟩
  rcases nm with e | ⟨p, e, dx, hp⟩
  · exact .inl e
  · exact .inr ⟨p, e, dx, h _ _ hp (fun _ z => nomatch z)⟩
theorem PV.nl {H G : Hp} {q : Addr} {x : Rat} {n : Nat} (r : PV H q x n) (h : NL H G) : PV G q x n := let ⟨t, b, e, h2⟩ := r; ⟨t, b, h _ _ e (fun _ z => nomatch z), h2⟩
theorem RVs.nl {C : Addr} {H G : Hp} {ps : List Addr} {xs : List Rat} {n : Nat} (r : RVs C H ps xs n) (h : NL H G) : RVs C G ps xs n := ⟨r.1, fun i p x h1 h2 => (r.2 i p x h1 h2).nl h⟩
theorem LineAt.nl {LC RC : Addr} {H G : Hp} {p : Addr} {l : List Seg} {n : Nat} (r : LineAt LC RC H p l n) (h : NL H G) : LineAt LC RC G p l n := by
  obtain ⟨dx, a, b, c, e, ⟨p1, e1, r1⟩, ⟨p2, e2, r2⟩, ⟨p3, e3, r3⟩⟩ := r
  exact ⟨dx, a, b, c, h _ _ e (fun _ z => nomatch z), ⟨p1, h _ _ e1 (fun _ z => nomatch z), r1.nl h⟩, ⟨p2, h _ _ e2 (fun _ z => nomatch z), r2.nl h⟩, ⟨p3, h _ _ e3 (fun _ z => nomatch z), r3.nl h⟩⟩
def spLLine (LC RC : Addr) : Sp := fun vs H Q _ => ∃ (st L r : Addr) (cs : List (Rat × Rat)) (s : Rat) (n m : Nat) (G : Hp), vs = [.ref st, .ref L, .ref r] ∧ DSt G H st m ∧ CorP G L cs n ∧ Cor cs ∧ PV G r s n ∧ 0 ≤ s ∧ cs.length ≤ 6 ∧ n ≤ 900 ∧ m + 30 < 1000000 ∧
  ∀ p H' G', Same G G' → DSt G' H' st (m + 30) → LineAt LC RC G' p (bends (segs cs s)) (4 * n + 2) → Q (.ref p) H'
theorem ok_lline (T : Txt K mg) : FnOk P w K mg base CX0 9 T.f_line T.d_line ["_law_state", "_law_corners_here", "_law_slope"] (spLLine T.f_Line T.f_Ratio) := by
  have G_value : FnOk P w K mg base CX0 3 T.f_value T.d_value ["_law_state", "_law_pair"] (spValueV T.f_Ratio) := okv_value T
  have G_Line_init : FnOk P w K mg base CX0 7 T.f_Line_init T.d_Line_init ["self", "corners", "slope"] (spLineInit K T.f_Line T.f_Ratio) := ok_lineinit T
  refine T.F_line.ok sc_line (fun vs H Q E h => ?_) (fun cdv A outer s H vs Q E hr h => ?_)
  · obtain ⟨st, L, r, cs, s, n, m, G, rfl, _⟩ := h
    rfl
  · obtain ⟨st, L, r, cs, s, n, m, G, rfl, d, hc, hcor, hr', hs, hl, hn, hm, k⟩ := h
    refine ⟨_, (pss_cons (ps_setLc (i := 3) (own := [("_law_corner", 4)]) (g := gName 4) (tt := tYes) rfl sc_line.nd rfl rfl (sw_true rfl rfl rfl (by decide +kernel)) (pi_list (pv 1)) (blkOk_by (N := ["_law_state", "_law_corners_here", "_law_slope", "_law_pairs", "_law_corner"]) (sc := defScope s_line) (by decide +kernel)) (fun _ _ _ _ _ => pg_name (i := 4) sc_line.nd rfl (Or.inl rfl)) (fun _ _ _ _ _ => pts_nil) (fun _ _ _ _ _ => (pe_tup (pa_cons (pe_call G_value (hr.mono (by decide)) rfl T.m_value T.F_value.kp T.b_value .nil pass0 (pa_cons (pv 0) (pa_cons (pe_ix (show IxR _ (rIxT K) from ix_tup) (pv 4) pe_int (fun _ _ => rfl)) pa_nil))) (pa_cons (pe_call G_value (hr.mono (by decide)) rfl T.m_value T.F_value.kp T.b_value .nil pass0 (pa_cons (pv 0) (pa_cons (pe_ix (show IxR _ (rIxT K) from ix_tup) (pv 4) pe_int (fun _ _ => rfl)) pa_nil))) pa_nil)))))
    (pss_one (ps_ret (pe_make T.mk_Line G_Line_init (hr.mono (by decide)) rfl T.m_Line T.b_Line_init .nil pass0 (pa_cons (pv 3) (pa_cons (pe_call G_value (hr.mono (by decide)) rfl T.m_value T.F_value.kp T.b_value .nil pass0 (pa_cons (pv 0) (pa_cons (pv 2) pa_nil))) pa_nil)))))), ?_⟩
    obtain ⟨qs, hL, hql, hqs⟩ := id hc
    refine ⟨_, rfl, L, rfl, ⟨_, SqL.of (d.same _ _ hL)⟩, fun D nD => ?_⟩
    have gD : G D = none := d.free nD
    refine lc_list (K := K) (a := L) (xs := qs.map V.ref) (fun i H' => ∃ (G' : Hp) (ts : List Addr), DSt G' H' st (m + 4 * i) ∧ Same G G' ∧ G' D = some (.lst (ts.map V.ref)) ∧ ts.length = i ∧ TupsN T.f_Ratio G' ts cs n) ⟨_, [], d.new nD, same_upd gD, upd_same, rfl, fun i t d h => by simp at h⟩ (fun i H' _ ⟨G', ts, d', sG, _⟩ => SqL.of (d'.same _ _ (sG _ _ hL))) ?_ ?_
    · intro i x H' hi ⟨G1, ts, d1, s1, eD, htl, hT⟩
      have hi' : i < qs.length := by
        have := (List.getElem?_eq_some_iff.mp hi).1
        rw [List.length_map] at this
        exact this
      rw [List.getElem?_map, List.getElem?_eq_getElem hi'] at hi
      obtain rfl := Option.some.inj hi
      have ci : cs[i]? = some (cs[i]'(by omega)) := List.getElem?_eq_getElem (by omega)
      obtain ⟨u0, v0, et, pu, pv⟩ := hqs i _ _ (List.getElem?_eq_getElem hi') ci
      have et1 := d1.same _ _ (s1 _ _ et)
      refine ⟨rfl, _, rfl, _, rfl, _, _, 0, .ref u0, rfl, rfl, SqT.of et1, at0, st, u0, _, n, G1, m + 4 * i, rfl, pu.on s1, by omega, d1, by omega, fun u H2 nu nlu d2 => ?_⟩
      obtain ⟨G2, d2', sG2, nl2⟩ := d2.grow
      have s2 := s1.trans sG2
      refine ⟨_, rfl, _, rfl, _, _, 1, .ref v0, rfl, rfl, SqT.of (d2'.same _ _ (s2 _ _ et)), at1, st, v0, _, n, G2, m + 4 * i + 2, rfl, pv.on s2, by omega, d2', by omega, fun v H3 nv nlv d3 => ?_⟩
      obtain ⟨G3, d3', sG3, nl3⟩ := d3.grow
      have s3 := s2.trans sG3
      refine ⟨by show 2 ≤ sizeLine; decide, fun Tt nT => ?_⟩
      have d4 := d3'.new (o := .tup [u, v]) nT
      have gT : G3 Tt = none := d3'.free nT
      have s4 := same_upd (o := .tup [u, v]) gT
      have eD4 : (upd G3 Tt (.tup [u, v])) D = some (.lst (ts.map V.ref)) := s4 _ _ (sG3 _ _ (sG2 _ _ eD))
      have hT4 : TupsN T.f_Ratio (upd G3 Tt (.tup [u, v])) (ts ++ [Tt]) cs n := (((hT.on sG2).on sG3).on s4).snoc htl ci upd_same (((NV.nl nu nl2).on sG3).on s4) ((NV.nl nv nl3).on s4)
      refine ⟨ts.map V.ref, d4.same _ _ eD4, small1000 (by rw [List.length_map]; omega), upd (upd G3 Tt (.tup [u, v])) D (.lst (ts.map V.ref ++ [V.ref Tt])), ts ++ [Tt], (d4.put eD4).mono (by omega), same_mut (s3.trans s4) gD, ?_, by rw [List.length_append, htl]; rfl, hT4.put eD4⟩
      rw [upd_same, List.map_append]
      rfl
    rintro H4 ⟨G1, ts, d1, s1, eD, htl, hT⟩
    rw [List.length_map] at htl d1
    refine ⟨_, rfl, _, rfl, _, rfl, st, r, s, n, G1, m + 4 * qs.length, rfl, hr'.on s1, by omega, d1, by omega, fun v H5 nv nlv d5 => ?_⟩
    obtain ⟨G5, d5', sG5, nl5⟩ := d5.grow
    refine fun x dx nx ndx ne => ?_
    have u3 : Same H5 (upd (upd H5 dx (.own x)) x (.ins T.f_Line dx [])) := (same_upd ndx).trans (same_upd (by rw [upd_ne (Ne.symm ne)]; exact nx))
    have sH := d5.same.trans u3
    have hT' := hT.on sH
    refine ⟨x, dx, D, v, cs, s, n, n, rfl, upd_same, ⟨ts, SqL.of (sH _ _ eD), by omega, hT'⟩, hcor, by omega, nv.on u3, hs, hn, by omega, fun H6 r6 e6 => ⟨rfl, ?_⟩⟩
    have s6 := Same.made nx ndx e6
    obtain ⟨G6, d6, sG6, nl6⟩ := (d5'.on s6).grow
    exact k x H6 G6 ((s1.trans sG5).trans sG6) (d6.mono (by omega)) (r6.nl nl6)
end

/-! ### draws of the law's pairs -/
section
variable {P : Program} {w : World} {K : PySem.W.Frag} {mg : Str → Option Value} {base : Heap}
def tDr (i : Nat) (a : TE) : TE := tCall spDraw [] E0 (tCons (tVar i) (tCons a tNil))
theorem tDr_run {σ : L2.St} {G H : Hp} {Q : VK} {st : Addr} {m : Nat} {i : Nat} {A : Int} {a : TE} (h0 : σ[i]? = some (some (.ref st))) (ha : ∀ H Q, Q (.int A) H → a σ H Q) (d : DSt G H st m) (hm : m < 1000000) (hA : 0 < A) (hA2 : A < 2 ^ 200) (k : ∀ (r : Int) (H' : Hp), 0 ≤ r → r < A → DSt G H' st (m + 1) → Q (.int r) H') : tDr i a σ H Q :=
  ⟨_, h0, ha _ _ ⟨G, st, m, A, rfl, d, hm, hA, hA2, k⟩⟩
theorem pow_le {n m : Nat} (h : n ≤ m) : (2 : Int) ^ n ≤ 2 ^ m := by
  have := Nat.pow_le_pow_right (n := 2) (by decide) h
  exact_mod_cast this
theorem abs_lt {r A : Int} {n : Nat} (h0 : 0 ≤ r) (h1 : r < A) (h2 : A ≤ 2 ^ n) : r.natAbs < 2 ^ n := by
  have h : ((r.natAbs : Nat) : Int) < ((2 ^ n : Nat) : Int) := by
    have e : ((2 ^ n : Nat) : Int) = (2 : Int) ^ n := by exact_mod_cast rfl
    rw [e]
    omega
  exact_mod_cast h
theorem vq_nonneg {t b : Int} (h : 0 ≤ t) (hb : 0 < b) : 0 ≤ vq t b := by
  have h1 : ¬ vq t b < vq 0 1 := fun e => by
    have := (vq_lt hb (show (0 : Int) < 1 by decide)).mpr e
    omega
  have h2 : vq 0 1 = 0 := (vq_zero (by decide)).mpr rfl
  rw [h2] at h1
  exact Rat.not_lt.mp h1
theorem vq_pos {t b : Int} (h : 0 < t) (hb : 0 < b) : 0 < vq t b := by
  have h1 := (vq_lt (t := 0) (b := 1) (t' := t) (b' := b) (by decide) hb).mp (by omega)
  rw [(vq_zero (by decide)).mpr rfl] at h1
  exact h1
def tOne (a : TE) : TE := tOp (rI0 fun i j => V.int (i + j)) (tC (V.int 1)) a
def tLw (a b : TE) : TE := tCall spLowV [] E0 (tCons a (tCons b tNil))
/-- low(draw, 1 + draw) -/
theorem tLow_run {σ : L2.St} {G H : Hp} {Q : VK} {st : Addr} {m n : Nat} {i : Nat} {A B : Int} {a b : TE} (h0 : σ[i]? = some (some (.ref st))) (ha : ∀ H Q, Q (.int A) H → a σ H Q) (hb : ∀ H Q, Q (.int B) H → b σ H Q) (d : DSt G H st m) (hm : m + 2 < 1000000) (hA : 0 < A) (hA2 : A ≤ 2 ^ n) (hB : 0 < B) (hB2 : B ≤ 2 ^ n - 1) (hn : n ≤ 199)
    (k : ∀ (q : Addr) (G' H' : Hp) (x : Rat), Same G G' → DSt G' H' st (m + 2) → PV G' q x n → 0 ≤ x → Q (.ref q) H') : tLw (tDr i a) (tOne (tDr i b)) σ H Q := by
  have hp := pow_le (n := n) (m := 199) hn
  have hq : (2 : Int) ^ 199 < 2 ^ 200 := by decide
  refine tDr_run h0 ha d (by omega) hA (by omega) fun r H1 r0 r1 d1 => ?_
  refine tDr_run h0 hb d1 (by omega) hB (by omega) fun u H2 u0 u1 d2 => ?_
  refine ⟨_, _, rfl, rfl, r, 1 + u, n, rfl, by omega, ⟨abs_lt r0 r1 hA2, abs_lt (A := 2 ^ n) (by omega) (by omega) (Int.le_refl _)⟩, by omega, fun q H3 nq s3 p3 => ?_⟩
  obtain ⟨G3, d3, sG, nl⟩ := (d2.on s3).grow
  exact k q G3 H3 _ sG d3 (p3.nl nl) (vq_nonneg r0 (by omega))
/-- low(1 + draw, 1 + draw) -/
theorem tLow1_run {σ : L2.St} {G H : Hp} {Q : VK} {st : Addr} {m n : Nat} {i : Nat} {A B : Int} {a b : TE} (h0 : σ[i]? = some (some (.ref st))) (ha : ∀ H Q, Q (.int A) H → a σ H Q) (hb : ∀ H Q, Q (.int B) H → b σ H Q) (d : DSt G H st m) (hm : m + 2 < 1000000) (hA : 0 < A) (hA2 : A ≤ 2 ^ n - 1) (hB : 0 < B) (hB2 : B ≤ 2 ^ n - 1) (hn : n ≤ 199)
    (k : ∀ (q : Addr) (G' H' : Hp) (x : Rat), Same G G' → DSt G' H' st (m + 2) → PV G' q x n → 0 < x → Q (.ref q) H') : tLw (tOne (tDr i a)) (tOne (tDr i b)) σ H Q := by
  have hp := pow_le (n := n) (m := 199) hn
  have hq : (2 : Int) ^ 199 < 2 ^ 200 := by decide
  refine tDr_run h0 ha d (by omega) hA (by omega) fun r H1 r0 r1 d1 => ?_
  refine ⟨_, _, rfl, rfl, tDr_run h0 hb d1 (by omega) hB (by omega) fun u H2 u0 u1 d2 => ?_⟩
  refine ⟨_, _, rfl, rfl, 1 + r, 1 + u, n, rfl, by omega, ⟨abs_lt (A := 2 ^ n) (by omega) (by omega) (Int.le_refl _), abs_lt (A := 2 ^ n) (by omega) (by omega) (Int.le_refl _)⟩, by omega, fun q H3 nq s3 p3 => ?_⟩
  obtain ⟨G3, d3, sG, nl⟩ := (d2.on s3).grow
  exact k q G3 H3 _ sG d3 (p3.nl nl) (vq_pos (by omega) (by omega))
end

/-! ### the law's corners -/
section
variable {P : Program} {w : World} {K : PySem.W.Frag} {mg : Str → Option Value} {base : Heap}
theorem pick6 {r : Int} (h0 : 0 ≤ r) (h1 : r < 6) : ∃ A : Int, atI [V.int 3, .int 10, .int 10, .int 1000, .int 1000, .int (10 ^ (8 : Int).toNat)] r = some (V.int A) ∧ 0 < A ∧ A ≤ 10 ^ 8 := by
  have : r = 0 ∨ r = 1 ∨ r = 2 ∨ r = 3 ∨ r = 4 ∨ r = 5 := by omega
  rcases this with rfl | rfl | rfl | rfl | rfl | rfl <;> exact ⟨_, rfl, by decide, by decide⟩
theorem pick4 {r : Int} (h0 : 0 ≤ r) (h1 : r < 4) : ∃ A : Int, atI [V.int 1, .int 1, .int 4, .int 12] r = some (V.int A) ∧ 0 < A ∧ A ≤ 12 := by
  have : r = 0 ∨ r = 1 ∨ r = 2 ∨ r = 3 := by omega
  rcases this with rfl | rfl | rfl | rfl <;> exact ⟨_, rfl, by decide, by decide⟩
theorem pick3 {r : Int} (h0 : 0 ≤ r) (h1 : r < 3) : ∃ A : Int, atI [V.int 6, .int 6, .int (10 ^ (6 : Int).toNat)] r = some (V.int A) ∧ 0 < A ∧ A ≤ 10 ^ 6 := by
  have : r = 0 ∨ r = 1 ∨ r = 2 := by omega
  rcases this with rfl | rfl | rfl <;> exact ⟨_, rfl, by decide, by decide⟩
theorem CorP.mono {H : Hp} {L : Addr} {cs : List (Rat × Rat)} {n m : Nat} (r : CorP H L cs n) (h : n ≤ m) : CorP H L cs m := by
  obtain ⟨qs, h1, h2, h3⟩ := r
  refine ⟨qs, h1, h2, fun i t d ht hd => ?_⟩
  obtain ⟨u, v, e, a, b⟩ := h3 i t d ht hd
  exact ⟨u, v, e, a.mono h, b.mono h⟩
theorem Cor.snoc {cs : List (Rat × Rat)} (h : Cor cs) {i : Nat} {c d : Rat × Rat} (hc : cs[i]? = some c) (hi : i + 1 = cs.length) (h1 : c.1 < d.1) (h2 : c.2 ≤ d.2) : Cor (cs ++ [d]) := by
  have h0 : 0 < cs.length := by omega
  refine ⟨by simp, fun a ha => ?_, fun j a b ha hb => ?_⟩
  · rw [List.getElem?_append_left h0] at ha
    exact h.2.1 a ha
  · have hj := (List.getElem?_eq_some_iff.mp hb).1
    rw [List.length_append, List.length_singleton] at hj
    rw [List.getElem?_append_left (by omega)] at ha
    by_cases e : j = i
    · subst e
      rw [hc] at ha
      rw [List.getElem?_append_right (by omega), show j + 1 - cs.length = 0 by omega] at hb
      rw [← Option.some.inj ha, ← Option.some.inj (show some d = some b from hb)]
      exact ⟨h1, h2⟩
    · rw [List.getElem?_append_left (by omega)] at hb
      exact h.2.2 j a b ha hb
theorem CorP.snoc {H : Hp} {L T u v : Addr} {qs : List Addr} {cs : List (Rat × Rat)} {d : Rat × Rat} {n : Nat} (hL : H L = some (.lst (qs.map V.ref))) (hl : qs.length = cs.length) (h3 : ∀ (i : Nat) t d, qs[i]? = some t → cs[i]? = some d → ∃ u v, H t = some (.tup [.ref u, .ref v]) ∧ PV H u d.1 n ∧ PV H v d.2 n)
    (eT : H T = some (.tup [.ref u, .ref v])) (pu : PV H u d.1 n) (pv : PV H v d.2 n) : CorP (upd H L (.lst (qs.map V.ref ++ [V.ref T]))) L (cs ++ [d]) n := by
  have tu : ∀ (t : Addr) (xs : List V), H t = some (.tup xs) → (upd H L (.lst (qs.map V.ref ++ [V.ref T]))) t = some (.tup xs) := fun t xs e => by
    rw [upd_ne (fun z => by rw [z, hL] at e; cases e)]
    exact e
  refine ⟨qs ++ [T], by rw [upd_same, List.map_append]; rfl, by rw [List.length_append, List.length_append, hl]; rfl, fun j t dd h1 h2 => ?_⟩
  by_cases hj : j < qs.length
  · rw [List.getElem?_append_left hj] at h1
    rw [List.getElem?_append_left (by omega)] at h2
    obtain ⟨u', v', e, a, b⟩ := h3 j t dd h1 h2
    exact ⟨u', v', tu _ _ e, a.put hL, b.put hL⟩
  · have hj' := (List.getElem?_eq_some_iff.mp h1).1
    rw [List.length_append, List.length_singleton] at hj'
    rw [List.getElem?_append_right (by omega), show j - qs.length = 0 by omega] at h1
    rw [List.getElem?_append_right (by omega), show j - cs.length = 0 by omega] at h2
    rw [← Option.some.inj (show some T = some t from h1), ← Option.some.inj (show some d = some dd from h2)]
    exact ⟨u, v, tu _ _ eT, pu.put hL, pv.put hL⟩
def EE : Int := 3 * 10 ^ 8 * DD
theorem Fx.drawn {r u : Int} (h0 : 0 ≤ r) (hb : r ≤ 10 ^ 8) (hu : 0 < u) (hu2 : u ≤ 12) : Fx EE (vq r u) := (Fx.draw h0 hb hu hu2).mono (by decide)
theorem Fx.steep {r u r2 u2 : Int} (h0 : 0 ≤ r) (hb : r ≤ 10 ^ 8) (hu : 0 < u) (hu2 : u ≤ 12) (g0 : 0 ≤ r2) (gb : r2 ≤ 3) (gu : 0 < u2) (gu2 : u2 ≤ 3) : Fx EE (vq r u * vq r2 u2) := by
  have hc : 0 < DD / (u * u2) ∧ DD / (u * u2) ≤ DD ∧ u * u2 * (DD / (u * u2)) = DD := by
    have h1 : u = 1 ∨ u = 2 ∨ u = 3 ∨ u = 4 ∨ u = 5 ∨ u = 6 ∨ u = 7 ∨ u = 8 ∨ u = 9 ∨ u = 10 ∨ u = 11 ∨ u = 12 := by omega
    have h2 : u2 = 1 ∨ u2 = 2 ∨ u2 = 3 := by omega
    rcases h1 with rfl | rfl | rfl | rfl | rfl | rfl | rfl | rfl | rfl | rfl | rfl | rfl <;> rcases h2 with rfl | rfl | rfl <;> decide
  rw [← vq_mul (by omega) (by omega)]
  refine (Fx.of (Int.mul_nonneg h0 g0) (Int.mul_ne_zero (by omega) (by omega)) hc.1 hc.2.2).mono ?_
  have e1 : r * r2 ≤ 10 ^ 8 * 3 := Int.mul_le_mul hb gb g0 (by decide)
  exact Int.le_trans (Int.mul_le_mul_of_nonneg_right e1 (by omega)) (Int.le_trans (Int.mul_le_mul_of_nonneg_left hc.2.1 (by decide)) (by decide))
/-- low(draw, 1 + draw), with its two numbers -/
theorem tLowF_run {σ : L2.St} {G H : Hp} {Q : VK} {st : Addr} {m n : Nat} {i : Nat} {A B : Int} {a b : TE} (h0 : σ[i]? = some (some (.ref st))) (ha : ∀ H Q, Q (.int A) H → a σ H Q) (hb : ∀ H Q, Q (.int B) H → b σ H Q) (d : DSt G H st m) (hm : m + 2 < 1000000) (hA : 0 < A) (hA2 : A ≤ 2 ^ n) (hB : 0 < B) (hB2 : B ≤ 2 ^ n - 1) (hn : n ≤ 199)
    (k : ∀ (q : Addr) (G' H' : Hp) (r u : Int), Same G G' → DSt G' H' st (m + 2) → PV G' q (vq r u) n → 0 ≤ r → r < A → 0 < u → u ≤ B → Q (.ref q) H') : tLw (tDr i a) (tOne (tDr i b)) σ H Q := by
  have hp := pow_le (n := n) (m := 199) hn
  have hq : (2 : Int) ^ 199 < 2 ^ 200 := by decide
  refine tDr_run h0 ha d (by omega) hA (by omega) fun r H1 r0 r1 d1 => ?_
  refine tDr_run h0 hb d1 (by omega) hB (by omega) fun u H2 u0 u1 d2 => ?_
  refine ⟨_, _, rfl, rfl, r, 1 + u, n, rfl, by omega, ⟨abs_lt r0 r1 hA2, abs_lt (A := 2 ^ n) (by omega) (by omega) (Int.le_refl _)⟩, by omega, fun q H3 nq s3 p3 => ?_⟩
  obtain ⟨G3, d3, sG, nl⟩ := (d2.on s3).grow
  exact k q G3 H3 r (1 + u) sG d3 (p3.nl nl) r0 r1 (by omega) (by omega)
theorem tLow1F_run {σ : L2.St} {G H : Hp} {Q : VK} {st : Addr} {m n : Nat} {i : Nat} {A B : Int} {a b : TE} (h0 : σ[i]? = some (some (.ref st))) (ha : ∀ H Q, Q (.int A) H → a σ H Q) (hb : ∀ H Q, Q (.int B) H → b σ H Q) (d : DSt G H st m) (hm : m + 2 < 1000000) (hA : 0 < A) (hA2 : A ≤ 2 ^ n - 1) (hB : 0 < B) (hB2 : B ≤ 2 ^ n - 1) (hn : n ≤ 199)
    (k : ∀ (q : Addr) (G' H' : Hp) (r u : Int), Same G G' → DSt G' H' st (m + 2) → PV G' q (vq r u) n → 0 < r → r ≤ A → 0 < u → u ≤ B → Q (.ref q) H') : tLw (tOne (tDr i a)) (tOne (tDr i b)) σ H Q := by
  have hp := pow_le (n := n) (m := 199) hn
  have hq : (2 : Int) ^ 199 < 2 ^ 200 := by decide
  refine tDr_run h0 ha d (by omega) hA (by omega) fun r H1 r0 r1 d1 => ?_
  refine ⟨_, _, rfl, rfl, tDr_run h0 hb d1 (by omega) hB (by omega) fun u H2 u0 u1 d2 => ?_⟩
  refine ⟨_, _, rfl, rfl, 1 + r, 1 + u, n, rfl, by omega, ⟨abs_lt (A := 2 ^ n) (by omega) (by omega) (Int.le_refl _), abs_lt (A := 2 ^ n) (by omega) (by omega) (Int.le_refl _)⟩, by omega, fun q H3 nq s3 p3 => ?_⟩
  obtain ⟨G3, d3, sG, nl⟩ := (d2.on s3).grow
  exact k q G3 H3 (1 + r) (1 + u) sG d3 (p3.nl nl) (by omega) (by omega) (by omega) (by omega)
theorem CorP.fit {H : Hp} {L : Addr} {cs : List (Rat × Rat)} {n m : Nat} (r : CorP H L cs n) (f : ∀ c ∈ cs, Fit m c.1 ∧ Fit m c.2) : CorP H L cs m := by
  obtain ⟨qs, h1, h2, h3⟩ := r
  refine ⟨qs, h1, h2, fun i t d ht hd => ?_⟩
  obtain ⟨u, v, e, a, b⟩ := h3 i t d ht hd
  obtain ⟨f1, f2⟩ := f d (List.mem_of_getElem? hd)
  exact ⟨u, v, e, a.fit f1, b.fit f2⟩
def FxC (b : Int) (cs : List (Rat × Rat)) : Prop := ∀ c ∈ cs, Fx b c.1 ∧ Fx b c.2
theorem FxC.mono {b c : Int} {cs : List (Rat × Rat)} (f : FxC b cs) (h : b ≤ c) : FxC c cs := fun d hd => ⟨(f d hd).1.mono h, (f d hd).2.mono h⟩
def spCorners : Sp := fun vs H Q _ => ∃ (st : Addr) (m : Nat) (G : Hp), vs = [.ref st] ∧ DSt G H st m ∧ m + 100 < 1000000 ∧
  ∀ (o L r : Addr) (cs : List (Rat × Rat)) (s : Rat) H' G', Same G G' → DSt G' H' st (m + 100) → G' o = some (.tup [.ref L, .ref r]) → CorP G' L cs 50 → Cor cs → cs.length ≤ 6 → FxC (6 * EE) cs → PV G' r s 50 → 0 ≤ s → Q (.ref o) H'
theorem ok_corners (T : Txt K mg) : FnOk P w K mg base CX0 3 T.f_corners T.d_corners ["_law_state"] spCorners := by
  have G_draw : FnOk P w K mg base CX0 1 T.f_draw T.d_draw ["_law_state", "_law_size"] spDraw := ok_draw T
  have G_low : FnOk P w K mg base CX0 1 T.f_low T.d_low ["_law_up", "_law_down"] spLowV := okv_low T
  have G_times : FnOk P w K mg base CX0 2 T.f_times T.d_times ["_law_one", "_law_two"] spTimesV := okv_times T
  have G_plus : FnOk P w K mg base CX0 2 T.f_plus T.d_plus ["_law_one", "_law_two"] spPlusV := okv_plus T
  refine T.F_corners.ok sc_corners (fun vs H Q E h => ?_) (fun cdv A outer s H vs Q E hr h => ?_)
  · obtain ⟨st, m, G, rfl, _⟩ := h
    rfl
  · obtain ⟨st, m, G, rfl, d, hm, k⟩ := h
    refine ⟨_, (pss_cons (ps_set (i := 1) sc_corners.nd rfl (Or.inl rfl) (pe_ix ix_list (pe_lst (pa_cons pe_int (pa_cons pe_int (pa_cons pe_int (pa_cons pe_int (pa_cons pe_int (pa_cons (pe_op op_pow pe_int pe_int) pa_nil))))))) (pe_call G_draw (hr.mono (by decide)) rfl T.m_draw T.F_draw.kp T.b_draw .nil pass0 (pa_cons (pv 0) (pa_cons pe_int pa_nil))) (fun _ _ => rfl)))
    (pss_cons (ps_set (i := 2) sc_corners.nd rfl (Or.inl rfl) (pe_ix ix_list (pe_lst (pa_cons pe_int (pa_cons pe_int (pa_cons pe_int (pa_cons pe_int pa_nil))))) (pe_call G_draw (hr.mono (by decide)) rfl T.m_draw T.F_draw.kp T.b_draw .nil pass0 (pa_cons (pv 0) (pa_cons pe_int pa_nil))) (fun _ _ => rfl)))
    (pss_cons (ps_set (i := 3) sc_corners.nd rfl (Or.inl rfl) (pe_lst (pa_cons (pe_tup (pa_cons (pe_tup (pa_cons pe_int (pa_cons pe_int pa_nil))) (pa_cons (pe_call G_low (hr.mono (by decide)) rfl T.m_low T.F_low.kp T.b_low .nil pass0 (pa_cons (pe_call G_draw (hr.mono (by decide)) rfl T.m_draw T.F_draw.kp T.b_draw .nil pass0 (pa_cons (pv 0) (pa_cons (pv 1) pa_nil))) (pa_cons (pe_op op_add pe_int (pe_call G_draw (hr.mono (by decide)) rfl T.m_draw T.F_draw.kp T.b_draw .nil pass0 (pa_cons (pv 0) (pa_cons (pv 2) pa_nil)))) pa_nil))) pa_nil))) pa_nil)))
    (pss_cons (ps_set (i := 4) sc_corners.nd rfl (Or.inl rfl) (pe_call G_low (hr.mono (by decide)) rfl T.m_low T.F_low.kp T.b_low .nil pass0 (pa_cons (pe_call G_draw (hr.mono (by decide)) rfl T.m_draw T.F_draw.kp T.b_draw .nil pass0 (pa_cons (pv 0) (pa_cons pe_int pa_nil))) (pa_cons (pe_op op_add pe_int (pe_call G_draw (hr.mono (by decide)) rfl T.m_draw T.F_draw.kp T.b_draw .nil pass0 (pa_cons (pv 0) (pa_cons pe_int pa_nil)))) pa_nil))))
    (C8.pss_cut (ps_for PassesOwn.never rfl (pi_range1 rfl T.n_range (pa_cons (pe_call G_draw (hr.mono (by decide)) rfl T.m_draw T.F_draw.kp T.b_draw .nil pass0 (pa_cons (pv 0) (pa_cons pe_int pa_nil))) pa_nil)) (pg_name (i := 5) sc_corners.nd rfl (Or.inl rfl))
      (pss_cons (ps_set (i := 6) sc_corners.nd rfl (Or.inl rfl) (pe_call G_low (hr.mono (by decide)) rfl T.m_low T.F_low.kp T.b_low .nil pass0 (pa_cons (pe_op op_add pe_int (pe_call G_draw (hr.mono (by decide)) rfl T.m_draw T.F_draw.kp T.b_draw .nil pass0 (pa_cons (pv 0) (pa_cons (pv 1) pa_nil)))) (pa_cons (pe_op op_add pe_int (pe_call G_draw (hr.mono (by decide)) rfl T.m_draw T.F_draw.kp T.b_draw .nil pass0 (pa_cons (pv 0) (pa_cons (pv 2) pa_nil)))) pa_nil))))
    (pss_cons (ps_set (i := 7) sc_corners.nd rfl (Or.inl rfl) (pe_call G_low (hr.mono (by decide)) rfl T.m_low T.F_low.kp T.b_low .nil pass0 (pa_cons (pe_call G_draw (hr.mono (by decide)) rfl T.m_draw T.F_draw.kp T.b_draw .nil pass0 (pa_cons (pv 0) (pa_cons (pv 1) pa_nil))) (pa_cons (pe_op op_add pe_int (pe_call G_draw (hr.mono (by decide)) rfl T.m_draw T.F_draw.kp T.b_draw .nil pass0 (pa_cons (pv 0) (pa_cons (pv 2) pa_nil)))) pa_nil))))
    (pss_cons (ps_set (i := 8) sc_corners.nd rfl (Or.inl rfl) (pe_call G_draw (hr.mono (by decide)) rfl T.m_draw T.F_draw.kp T.b_draw .nil pass0 (pa_cons (pv 0) (pa_cons pe_int pa_nil))))
    (C8.pss_cut (ps_if (pt_cmpR op_eq (pv 8) pe_int (nomark _))
      (pss_one (ps_set (i := 7) sc_corners.nd rfl (Or.inl rfl) (pe_tup (pa_cons pe_int (pa_cons pe_int pa_nil)))))
      pss_nil)
    (C8.pss_cut (ps_if (pt_cmpR op_eq (pv 8) pe_int (nomark _))
      (pss_one (ps_set (i := 7) sc_corners.nd rfl (Or.inl rfl) (pe_call G_times (hr.mono (by decide)) rfl T.m_times T.F_times.kp T.b_times .nil pass0 (pa_cons (pv 6) (pa_cons (pv 4) pa_nil)))))
      pss_nil)
    (pss_cons (ps_asg (pe_ix ix_list (pv 3) (pe_un un_neg pe_int) (fun _ _ => rfl)) (pg_tup rfl (pgs_cons (pg_name (i := 9) sc_corners.nd rfl (Or.inl rfl)) (pgs_cons (pg_name (i := 10) sc_corners.nd rfl (Or.inl rfl)) pgs_nil))))
    (pss_one (ps_expr (pe_bm PySem.F.plainAttrs_list PySem.F.slot_list_append PySem.F.type_list_append mt_append (pv 3) (pa_cons (pe_tup (pa_cons (pe_call G_plus (hr.mono (by decide)) rfl T.m_plus T.F_plus.kp T.b_plus .nil pass0 (pa_cons (pv 9) (pa_cons (pv 6) pa_nil))) (pa_cons (pe_call G_plus (hr.mono (by decide)) rfl T.m_plus T.F_plus.kp T.b_plus .nil pass0 (pa_cons (pv 10) (pa_cons (pv 7) pa_nil))) pa_nil))) pa_nil)))))))))))
    (pss_cons (ps_set (i := 11) sc_corners.nd rfl (Or.inl rfl) (pe_ix ix_list (pe_lst (pa_cons pe_int (pa_cons pe_int (pa_cons (pe_op op_pow pe_int pe_int) pa_nil)))) (pe_call G_draw (hr.mono (by decide)) rfl T.m_draw T.F_draw.kp T.b_draw .nil pass0 (pa_cons (pv 0) (pa_cons pe_int pa_nil))) (fun _ _ => rfl)))
    (pss_cons (ps_set (i := 12) sc_corners.nd rfl (Or.inl rfl) (pe_ix ix_list (pe_lst (pa_cons (pe_tup (pa_cons pe_int (pa_cons pe_int pa_nil))) (pa_cons (pe_tup (pa_cons pe_int (pa_cons pe_int pa_nil))) (pa_cons (pv 4) (pa_cons (pe_call G_low (hr.mono (by decide)) rfl T.m_low T.F_low.kp T.b_low .nil pass0 (pa_cons (pe_call G_draw (hr.mono (by decide)) rfl T.m_draw T.F_draw.kp T.b_draw .nil pass0 (pa_cons (pv 0) (pa_cons pe_int pa_nil))) (pa_cons (pe_op op_add pe_int (pe_call G_draw (hr.mono (by decide)) rfl T.m_draw T.F_draw.kp T.b_draw .nil pass0 (pa_cons (pv 0) (pa_cons (pv 11) pa_nil)))) pa_nil))) pa_nil))))) (pe_call G_draw (hr.mono (by decide)) rfl T.m_draw T.F_draw.kp T.b_draw .nil pass0 (pa_cons (pv 0) (pa_cons pe_int pa_nil))) (fun _ _ => rfl)))
    (pss_one (ps_ret (pe_tup (pa_cons (pv 3) (pa_cons (pv 12) pa_nil)))))))))))), ?_⟩
    have z2 : 2 ≤ sizeLine := by decide
    have z1 : 1 ≤ sizeLine := by decide
    -- the scale
    refine ⟨_, _, rfl, rfl, ⟨by decide, by decide, by decide⟩, by show 6 ≤ sizeLine; decide, fun l1 nl1 => ?_⟩
    refine ⟨_, rfl, _, st, m, 6, rfl, d.new nl1, by omega, by decide, by decide, fun r H1 r0 r1 d1 => ?_⟩
    obtain ⟨sc, esc, sc0, sc1⟩ := pick6 r0 r1
    refine ⟨l1, _, r, .int sc, rfl, rfl, SqL.of (d1.same _ _ upd_same), esc, ?_⟩
    have g1 := same_upd (o := .lst [V.int 3, .int 10, .int 10, .int 1000, .int 1000, .int (10 ^ (8 : Int).toNat)]) (d.free nl1)
    -- the most
    refine ⟨by show 4 ≤ sizeLine; decide, fun l2 nl2 => ?_⟩
    refine ⟨_, rfl, _, st, m + 1, 4, rfl, d1.new nl2, by omega, by decide, by decide, fun r2 H2 r20 r21 d2 => ?_⟩
    obtain ⟨mo, emo, mo0, mo1⟩ := pick4 r20 r21
    refine ⟨l2, _, r2, .int mo, rfl, rfl, SqL.of (d2.same _ _ upd_same), emo, ?_⟩
    have g2 := g1.trans (same_upd (o := .lst [V.int 1, .int 1, .int 4, .int 12]) (d1.free nl2))
    revert d2 g2
    generalize upd _ l2 _ = G2
    intro d2 g2
    -- the first corner
    refine ⟨z2, fun z nz => ?_⟩
    have d3 := d2.new (o := .tup [V.int 0, .int 1]) nz
    have g3 := g2.trans (same_upd (o := .tup [V.int 0, .int 1]) (d2.free nz))
    have pz : PV (upd G2 z (.tup [V.int 0, .int 1])) z 0 30 := ⟨0, 1, upd_same, Low.one 0, (vq_zero (by decide)).mpr rfl, by decide, by decide⟩
    revert d3 g3 pz
    generalize upd G2 z _ = G3
    intro d3 g3 pz
    refine tLowF_run (A := sc) (B := mo) (a := tVar 1) (b := tVar 2) (n := 27) rfl (fun _ _ q => ⟨_, rfl, q⟩) (fun _ _ q => ⟨_, rfl, q⟩) d3 (by omega) sc0 (by omega) mo0 (by omega) (by decide) fun q1 G4 H4 ra ua s4 d4 p1 ra0 ra1 ua0 ua1 => ?_
    have hx1 := vq_nonneg ra0 ua0
    have fx1 : Fx EE (vq ra ua) := Fx.drawn ra0 (by omega) ua0 (by omega)
    generalize vq ra ua = x1 at p1 hx1 fx1
    refine ⟨z2, fun t1 nt1 => ⟨z1, fun L nL => ?_⟩⟩
    have d5 := d4.new (o := .tup [V.ref z, .ref q1]) nt1
    have g5 := same_upd (o := .tup [V.ref z, .ref q1]) (d4.free nt1)
    have d6 := d5.new (o := .lst [V.ref t1]) nL
    have fL := d5.free nL
    have g6 := same_upd (o := .lst [V.ref t1]) fL
    have fLG : G L = none := ((g3.trans s4).trans g5).free fL
    have gb := ((g3.trans s4).trans g5).trans g6
    have hC : CorP (upd (upd G4 t1 (.tup [V.ref z, .ref q1])) L (.lst [V.ref t1])) L [(0, x1)] 30 := by
      refine ⟨[t1], upd_same, rfl, fun i t dd h1 h2 => ?_⟩
      cases i with
      | succ i => simp at h1
      | zero =>
        obtain rfl := Option.some.inj h1
        obtain rfl := Option.some.inj h2
        exact ⟨z, q1, g6 _ _ upd_same, ((pz.on s4).on g5).on g6, ((p1.on g5).on g6).mono (by decide)⟩
    have hC0 : Cor [(0, x1)] := ⟨by simp, fun c h => by obtain rfl := Option.some.inj h; exact ⟨rfl, hx1⟩, fun i c dd _ h => by simp at h⟩
    revert d6 gb hC
    generalize upd (upd G4 t1 _) L _ = G6
    intro d6 gb hC
    -- the slope
    refine tLowF_run (A := 4) (B := 3) (a := tC (.int 4)) (b := tC (.int 3)) (n := 2) rfl (fun _ _ q => q) (fun _ _ q => q) d6 (by omega) (by decide) (by decide) (by decide) (by decide) (by decide) fun q2 G7 H7 rb ub s7 d7 p2 rb0 rb1 ub0 ub1 => ?_
    have hx2 := vq_nonneg rb0 ub0
    obtain ⟨x2, ex2⟩ : ∃ x2, x2 = vq rb ub := ⟨_, rfl⟩
    rw [← ex2] at p2 hx2
    have fC0 : FxC EE [(0, x1)] := fun c hc => by rw [List.mem_singleton.mp hc]; exact ⟨Fx.zero (by decide), fx1⟩
    have gb7 := gb.trans s7
    have hC7 := hC.on s7
    refine ⟨fun σ H' => ∃ (x5 x6 x7 x8 x9 x10 : Option V) (G' : Hp) (cs : List (Rat × Rat)), σ = [some (.ref st), some (.int sc), some (.int mo), some (.ref L), some (.ref q2), x5, x6, x7, x8, x9, x10, none, none] ∧ DSt G' H' st (m + 60) ∧ Same G G' ∧ CorP G' L cs 180 ∧ Cor cs ∧ cs.length ≤ 6 ∧ FxC (6 * EE) cs ∧ PV G' q2 x2 2, ?_, ?_⟩
    · refine ⟨_, rfl, G7, st, m + 6, 6, rfl, d7, by omega, by decide, by decide, fun cnt H8 c0 c1 d8 => ⟨cnt, rfl, by omega, by omega, ?_⟩⟩
      refine for_range (lo := 0) (n := cnt.toNat) (fun i σ H' => ∃ (x5 x6 x7 x8 x9 x10 : Option V) (G' : Hp) (cs : List (Rat × Rat)), σ = [some (.ref st), some (.int sc), some (.int mo), some (.ref L), some (.ref q2), x5, x6, x7, x8, x9, x10, none, none] ∧ DSt G' H' st (m + 7 + i * 5) ∧ Same G G' ∧ CorP G' L cs (30 + 30 * i) ∧ Cor cs ∧ cs.length = i + 1 ∧ FxC (((i : Int) + 1) * EE) cs ∧ PV G' q2 x2 2) ⟨none, none, none, none, none, none, G7, _, rfl, d8.mono (by omega), gb7, hC7, hC0, rfl, fC0.mono (by decide), p2⟩ ?_ ?_
      · rintro i σ H9 hi ⟨x5, x6, x7, x8, x9, x10, G9, cs, rfl, d9, g9, hC9, hcor, hlen, fC9, p29⟩
        rw [Int.zero_add]
        have hi5 : i < 5 := by omega
        -- the step
        refine tLow1F_run (A := sc) (B := mo) (a := tVar 1) (b := tVar 2) (n := 27) rfl (fun _ _ q => ⟨_, rfl, q⟩) (fun _ _ q => ⟨_, rfl, q⟩) d9 (by omega) sc0 (by omega) mo0 (by omega) (by decide) fun q6 G10 H10 rc uc s10 d10 p6 rc0 rc1 uc0 uc1 => ?_
        have hxs := vq_pos rc0 uc0
        have fxs : Fx EE (vq rc uc) := Fx.drawn (by omega) (by omega) uc0 (by omega)
        have fxst : Fx EE (vq rc uc * x2) := by rw [ex2]; exact Fx.steep (by omega) (by omega) uc0 (by omega) rb0 (by omega) ub0 ub1
        generalize vq rc uc = xs at p6 hxs fxs fxst
        refine tLowF_run (A := sc) (B := mo) (a := tVar 1) (b := tVar 2) (n := 27) rfl (fun _ _ q => ⟨_, rfl, q⟩) (fun _ _ q => ⟨_, rfl, q⟩) d10 (by omega) sc0 (by omega) mo0 (by omega) (by decide) fun q7 G11 H11 re ue s11 d11 p7 re0 re1 ue0 ue1 => ?_
        have hxr := vq_nonneg re0 ue0
        have fxr : Fx EE (vq re ue) := Fx.drawn re0 (by omega) ue0 (by omega)
        generalize vq re ue = xr at p7 hxr fxr
        have p6' := p6.on s11
        have s911 := s10.trans s11
        refine ⟨_, rfl, G11, st, _, 4, rfl, d11, by omega, by decide, by decide, fun r8 H12 r80 r81 d12 => ?_⟩
        refine ⟨fun σ H' => ∃ (q7 : Addr) (xr : Rat) (G' : Hp), σ = [some (.ref st), some (.int sc), some (.int mo), some (.ref L), some (.ref q2), some (.int (i : Int)), some (.ref q6), some (.ref q7), some (.int r8), x9, x10, none, none] ∧ DSt G' H' st (m + 7 + i * 5 + 5) ∧ Same G11 G' ∧ PV G' q7 xr 29 ∧ 0 ≤ xr ∧ Fx EE xr, ?_, ?_⟩
        · refine ⟨_, rfl, rfl, _, rfl, ite2 (fun _ => ?_) fun _ => ?_⟩
          · refine ⟨z2, fun z nz => ?_⟩
            have dz := d12.new (o := .tup [V.int 0, .int 1]) nz
            exact ⟨z, 0, _, rfl, dz.mono (by omega), same_upd (d12.free nz), ⟨0, 1, upd_same, Low.one 0, (vq_zero (by decide)).mpr rfl, by decide, by decide⟩, Rat.le_refl, Fx.zero (by decide)⟩
          · exact ⟨q7, xr, G11, rfl, d12.mono (by omega), Same.refl _, p7.mono (by decide), hxr, fxr⟩
        rintro σ H13 ⟨q7', xr', G13, rfl, d13, s13, p13, hx13, f13⟩
        refine ⟨fun σ H' => ∃ (q7 : Addr) (xr : Rat) (G' : Hp), σ = [some (.ref st), some (.int sc), some (.int mo), some (.ref L), some (.ref q2), some (.int (i : Int)), some (.ref q6), some (.ref q7), some (.int r8), x9, x10, none, none] ∧ DSt G' H' st (m + 7 + i * 5 + 5) ∧ Same G11 G' ∧ PV G' q7 xr 29 ∧ 0 ≤ xr ∧ Fx EE xr, ?_, ?_⟩
        · refine ⟨_, rfl, rfl, _, rfl, ite2 (fun _ => ?_) fun _ => ?_⟩
          · refine ⟨_, rfl, _, rfl, q6, q2, xs, x2, 27, 2, rfl, (p6'.on s13).on d13.same, ((p29.on s911).on s13).on d13.same, by decide, by decide, fun o H14 no s14 w14 => ?_⟩
            obtain ⟨G14, d14, sg, nl⟩ := (d13.on s14).grow
            exact ⟨o, xs * x2, G14, rfl, d14, s13.trans sg, w14.nl nl, Rat.mul_nonneg (by grind) hx2, fxst⟩
          · exact ⟨q7', xr', G13, rfl, d13, s13, p13, hx13, f13⟩
        rintro σ H14 ⟨q8, xr8, G14, rfl, d14, s14, p14, hx14, f14⟩
        -- the last corner
        have sG := s911.trans s14
        obtain ⟨qs, hL, hql, hqs⟩ := hC9.on sG
        have hlast : cs[i]? = some (cs[i]'(by omega)) := List.getElem?_eq_getElem (by omega)
        have tlast : qs[i]? = some (qs[i]'(by omega)) := List.getElem?_eq_getElem (by omega)
        obtain ⟨u, v, et, pu, pv⟩ := hqs i _ _ tlast hlast
        refine ⟨_, rfl, 1, rfl, L, _, _, _, rfl, rfl, SqL.of (d14.same _ _ hL), atI_end (j := i) (by rw [List.getElem?_map, tlast]; rfl) (by rw [List.length_map]; omega), ?_⟩
        refine ⟨_, _, rfl, SqT.of (d14.same _ _ et), rfl, _, _, rfl, _, _, rfl, rfl, ?_⟩
        refine ⟨_, rfl, .inl ⟨rfl, _, SqL.of (d14.same _ _ hL)⟩, _, rfl, _, rfl, u, q6, _, xs, 30 + 30 * i, 27, rfl, pu.on d14.same, (p6'.on s14).on d14.same, by omega, by omega, fun o1 H15 n15 s15 w15 => ?_⟩
        obtain ⟨G15, d15, sg15, nl15⟩ := (d14.on s15).grow
        refine ⟨_, rfl, _, rfl, v, q8, _, xr8, 30 + 30 * i, 29, rfl, (pv.on sg15).on d15.same, (p14.on sg15).on d15.same, by omega, by omega, fun o2 H16 n16 s16 w16 => ?_⟩
        obtain ⟨G16, d16, sg16, nl16⟩ := (d15.on s16).grow
        refine ⟨z2, fun T nT => ?_⟩
        have d17 := d16.new (o := .tup [V.ref o1, .ref o2]) nT
        have s17 := same_upd (o := .tup [V.ref o1, .ref o2]) (d16.free nT)
        have sA := (sg15.trans sg16).trans s17
        have hL17 := sA _ _ hL
        refine ⟨L, _, _, rfl, rfl, d17.same _ _ hL17, small1000 (by rw [List.length_map]; omega), ?_⟩
        have dd := d17.put (o := .lst (qs.map V.ref ++ [V.ref T])) hL17
        have hpw := hcor.2.1
        refine ⟨_, _, _, _, _, _, _, cs ++ [(cs[i].1 + xs, cs[i].2 + xr8)], rfl, dd.mono (by omega), same_mut (((g9.trans sG).trans sA)) fLG, CorP.snoc hL17 hql (fun j t dd h1 h2 => ?_) upd_same ((((w15.nl nl15).on sg16).on s17).mono (by omega)) (((w16.nl nl16).on s17).mono (by omega)), hcor.snoc hlast (by omega) (by show cs[i].1 < cs[i].1 + xs; grind) (by show cs[i].2 ≤ cs[i].2 + xr8; grind), by rw [List.length_append, List.length_singleton]; omega, ?_, ?_⟩
        · obtain ⟨u', v', e', a', b'⟩ := hqs j t dd h1 h2
          exact ⟨u', v', sA _ _ e', (a'.on sA).mono (by omega), (b'.on sA).mono (by omega)⟩
        · intro c hc
          have em : ((i : Int) + 1) * EE + EE = (((i + 1 : Nat) : Int) + 1) * EE := by
            rw [show (((i + 1 : Nat) : Int) + 1) = ((i : Int) + 1) + 1 by omega, Int.add_mul ((i : Int) + 1) 1 EE, Int.one_mul]
          rcases List.mem_append.mp hc with hc | hc
          · have := fC9 c hc
            exact ⟨this.1.mono (by rw [← em]; exact Int.le_add_of_nonneg_right (by decide)), this.2.mono (by rw [← em]; exact Int.le_add_of_nonneg_right (by decide))⟩
          · rw [List.mem_singleton.mp hc]
            have := fC9 _ (List.mem_of_getElem? hlast)
            rw [← em]
            exact ⟨this.1.add fxs, this.2.add f14⟩
        · exact ((p29.on sG).on sA).put hL17
      · rintro σ H9 ⟨x5, x6, x7, x8, x9, x10, G9, cs, rfl, d9, g9, hC9, hcor, hlen, fC9, p29⟩
        exact ⟨x5, x6, x7, x8, x9, x10, G9, cs, rfl, d9.mono (by omega), g9, hC9.mono (by omega), hcor, by omega, fC9.mono (Int.mul_le_mul_of_nonneg_right (by omega) (by decide)), p29⟩
    rintro σ H9 ⟨x5, x6, x7, x8, x9, x10, G9, cs, rfl, d9, g9, hC9, hcor, hlen, fC9, p29⟩
    refine ⟨_, _, rfl, rfl, ⟨by decide, by decide, by decide⟩, by show 3 ≤ sizeLine; decide, fun l3 nl3 => ?_⟩
    refine ⟨_, rfl, _, st, m + 60, 3, rfl, d9.new nl3, by omega, by decide, by decide, fun r3 H10 r30 r31 d10 => ?_⟩
    obtain ⟨F, eF, F0, F1⟩ := pick3 r30 r31
    refine ⟨l3, _, r3, .int F, rfl, rfl, SqL.of (d10.same _ _ upd_same), eF, ?_⟩
    have s10 := same_upd (o := .lst [V.int 6, .int 6, .int (10 ^ (6 : Int).toNat)]) (d9.free nl3)
    revert d10 s10
    generalize upd G9 l3 _ = G10
    intro d10 s10
    refine ⟨z2, fun za nza => ⟨z2, fun zb nzb => ⟨_, rfl, ?_⟩⟩⟩
    have da := d10.new (o := .tup [V.int 0, .int 1]) nza
    have sa := same_upd (o := .tup [V.int 0, .int 1]) (d10.free nza)
    have db := da.new (o := .tup [V.int 1, .int 1]) nzb
    have sb := same_upd (o := .tup [V.int 1, .int 1]) (da.free nzb)
    have pa : PV (upd (upd G10 za (.tup [V.int 0, .int 1])) zb (.tup [V.int 1, .int 1])) za 0 30 := ⟨0, 1, sb _ _ upd_same, Low.one 0, (vq_zero (by decide)).mpr rfl, by decide, by decide⟩
    have pb : PV (upd (upd G10 za (.tup [V.int 0, .int 1])) zb (.tup [V.int 1, .int 1])) zb 1 30 := ⟨1, 1, upd_same, Low.one 1, by rw [vq_one]; rfl, by decide, by decide⟩
    have sab := (s10.trans sa).trans sb
    revert db sab pa pb
    generalize upd (upd G10 za _) zb _ = G11
    intro db pa pb sab
    refine tLow_run (A := 20) (B := F) (a := tC (.int 20)) (b := tVar 11) (n := 20) rfl (fun _ _ q => q) (fun _ _ q => ⟨_, rfl, q⟩) db (by omega) (by decide) (by decide) F0 (by omega) (by decide) fun q5 G12 H12 x12 s12 d12 p5 hx5 => ?_
    refine ⟨by show 4 ≤ sizeLine; decide, fun l4 nl4 => ?_⟩
    refine ⟨_, rfl, _, st, m + 63, 4, rfl, d12.new nl4, by omega, by decide, by decide, fun r4 H13 r40 r41 d13 => ?_⟩
    have s13 := same_upd (o := .lst [V.ref za, .ref zb, .ref q2, .ref q5]) (d12.free nl4)
    have sAll := (sab.trans s12).trans s13
    have s1213 := s12.trans s13
    obtain ⟨q, x, eq, pq, hx⟩ : ∃ (q : Addr) (x : Rat), atI [V.ref za, .ref zb, .ref q2, .ref q5] r4 = some (.ref q) ∧ PV (upd G12 l4 (.lst [V.ref za, .ref zb, .ref q2, .ref q5])) q x 50 ∧ 0 ≤ x := by
      have : r4 = 0 ∨ r4 = 1 ∨ r4 = 2 ∨ r4 = 3 := by omega
      rcases this with rfl | rfl | rfl | rfl
      · exact ⟨za, 0, rfl, (pa.on s1213).mono (by decide), Rat.le_refl⟩
      · exact ⟨zb, 1, rfl, (pb.on s1213).mono (by decide), by decide⟩
      · exact ⟨q2, x2, rfl, (p29.on sAll).mono (by decide), hx2⟩
      · exact ⟨q5, x12, rfl, (p5.on s13).mono (by decide), hx5⟩
    refine ⟨l4, _, r4, .ref q, rfl, rfl, SqL.of (d13.same _ _ upd_same), eq, ?_⟩
    refine ⟨_, rfl, _, rfl, z2, fun o no => ?_⟩
    have so := same_upd (o := .tup [V.ref L, .ref q]) (d13.free no)
    exact k o L q cs x _ _ ((g9.trans sAll).trans so) ((d13.new no).mono (by omega)) upd_same (((hC9.on sAll).on so).fit fun c hc => ⟨(fC9 c hc).1.fit (by decide) (by decide), (fC9 c hc).2.fit (by decide) (by decide)⟩) hcor hlen fC9 (pq.on so) hx
end

/-! ### the law's corners make lines that keep their promises -/
section
theorem segs_fit {b : Int} {m : Nat} : ∀ (cs : List (Rat × Rat)) (s : Rat), Up cs → FxC b cs → Fit m s → b < 2 ^ m → 18 ≤ m → ∀ u ∈ segs cs s, Fit m u.x ∧ Fit m u.t ∧ Fit m u.r
  | [], _, _, _, _, _, _, u, h => by cases h
  | [c], s, _, f, fs, hb, hm, u, h => by
    rw [List.mem_singleton.mp h]
    have := f c List.mem_cons_self
    exact ⟨this.1.fit hb hm, this.2.fit hb hm, fs⟩
  | c :: d :: r, s, hu, f, fs, hb, hm, u, h => by
    have h' : u = ⟨c.1, c.2, (d.2 - c.2) / (d.1 - c.1)⟩ ∨ u ∈ segs (d :: r) s := List.mem_cons.mp h
    have fc := f c List.mem_cons_self
    have fd := f d (List.mem_cons_of_mem _ List.mem_cons_self)
    rcases h' with e | h'
    · rw [e]
      have hlt := (hu 0 c d rfl rfl).1
      exact ⟨fc.1.fit hb hm, fc.2.fit hb hm, Fx.rise fd.2 fc.2 fd.1 fc.1 (by grind) hb⟩
    · exact segs_fit (d :: r) s (fun i a e h1 h2 => hu (i + 1) a e h1 h2) (fun e he => f e (List.mem_cons_of_mem _ he)) fs hb hm u h'
theorem div_nn {a d : Rat} (ha : 0 ≤ a) (hd : 0 < d) : 0 ≤ a / d := by
  refine Rat.not_lt.mp fun h => ?_
  have h1 := Rat.mul_lt_mul_of_pos_right h hd
  have h2 : a / d * d = a := by grind
  rw [h2] at h1
  grind
theorem segs_up : ∀ (cs : List (Rat × Rat)) (s : Rat), Up cs → 0 ≤ s → ∀ u ∈ segs cs s, 0 ≤ u.r
  | [], _, _, _, u, h => by cases h
  | [c], s, _, hs, u, h => by rw [List.mem_singleton.mp h]; exact hs
  | c :: d :: r, s, hu, hs, u, h => by
    have h' : u = ⟨c.1, c.2, (d.2 - c.2) / (d.1 - c.1)⟩ ∨ u ∈ segs (d :: r) s := List.mem_cons.mp h
    rcases h' with e | h'
    · rw [e]
      obtain ⟨h1, h2⟩ := hu 0 c d rfl rfl
      show 0 ≤ (d.2 - c.2) / (d.1 - c.1)
      exact div_nn (by grind) (by grind)
    · exact segs_up (d :: r) s (fun i a e h1 h2 => hu (i + 1) a e h1 h2) hs u h'
theorem gd_of {cs : List (Rat × Rat)} {s : Rat} (h : Cor cs) (hl : cs.length ≤ 900) : Gd (bends (segs cs s)) := by
  have hsub := bends_sub (segs cs s)
  have hlen := hsub.length_le
  rw [segs_len] at hlen
  refine ⟨?_, ?_, bends_srt (chn_srt _ (segs_chn cs s h.2.2)), by omega⟩
  · obtain ⟨h1, _⟩ := h
    match cs, h1 with
    | [c], _ => exact fun e => nomatch e
    | c :: d :: r, _ => exact fun e => nomatch e
  · intro u hu
    obtain ⟨h1, h2, _⟩ := h
    match cs, h1, h2, hu with
    | [c], _, h2, hu =>
      have e : (⟨c.1, c.2, s⟩ : Seg) = u := Option.some.inj hu
      rw [← e]
      exact (h2 c rfl).1
    | c :: d :: r, _, h2, hu =>
      have e : (⟨c.1, c.2, (d.2 - c.2) / (d.1 - c.1)⟩ : Seg) = u := Option.some.inj hu
      rw [← e]
      exact (h2 c rfl).1
theorem nice_of {cs : List (Rat × Rat)} {s : Rat} (h : Cor cs) (hs : 0 ≤ s) (hl : cs.length ≤ 900) : Nice (bends (segs cs s)) := by
  refine ⟨gd_of h hl, chn_bends (segs_chn cs s h.2.2), fun u hu => segs_up cs s h.2.2 hs u ((bends_sub _).subset hu), fun u hu => ?_⟩
  obtain ⟨h1, h2, _⟩ := h
  match cs, h1, h2, hu with
  | [c], _, h2, hu =>
    have e : (⟨c.1, c.2, s⟩ : Seg) = u := Option.some.inj hu
    rw [← e]
    exact (h2 c rfl).2
  | c :: d :: r, _, h2, hu =>
    have e : (⟨c.1, c.2, (d.2 - c.2) / (d.1 - c.1)⟩ : Seg) = u := Option.some.inj hu
    rw [← e]
    exact (h2 c rfl).2
theorem bends_fit {b : Int} {m : Nat} {cs : List (Rat × Rat)} {s : Rat} (h : Up cs) (f : FxC b cs) (fs : Fit m s) (hb : b < 2 ^ m) (hm : 18 ≤ m) : ∀ u ∈ bends (segs cs s), Fit m u.x ∧ Fit m u.t ∧ Fit m u.r := fun u hu => segs_fit cs s h f fs hb hm u ((bends_sub _).subset hu)
/-- the sum again -/
theorem Both.nice {l l' : List Seg} {zs : List Rat} (b : Both l l' zs) (h : Nice l) (h' : Nice l') (hl : zs.length ≤ 900) : Nice (bends (My.segs (sumC l l' zs) (lastr l + lastr l'))) := nice_of (b.cor h h') (by have h1 := h.last; have h2 := h'.last; grind) (by unfold sumC; rw [List.length_map]; exact hl)
theorem Both.fit {l l' : List Seg} {zs : List Rat} {m n : Nat} (b : Both l l' zs) (h : Nice l) (h' : Nice l') (f : ∀ u ∈ l, Fit m u.x ∧ Fit m u.t ∧ Fit m u.r) (f' : ∀ u ∈ l', Fit m u.x ∧ Fit m u.t ∧ Fit m u.r) (hn : 8 * m + 5 ≤ n) (ft : ∀ z ∈ zs, Fit n (My.ev l z + My.ev l' z)) : ∀ u ∈ bends (My.segs (sumC l l' zs) (lastr l + lastr l')), Fit n u.x ∧ Fit n u.t ∧ Fit n u.r := fun u hu => by
  have hu := (bends_sub _).subset hu
  obtain ⟨i, hi⟩ := List.mem_iff_getElem?.mp hu
  obtain ⟨z0, hz0, e1, e2, p, hp, p', hp', e3, _⟩ := b.segs h h' hi
  have hz := List.mem_of_getElem? hz0
  refine ⟨?_, by rw [e2]; exact ft z0 hz, by rw [e3]; exact (((f p hp).2.2).add ((f' p' hp').2.2)).mono (by omega)⟩
  rw [e1]
  rcases (b.mem z0).mp hz with hm | hm
  · obtain ⟨v, hv, rfl⟩ := List.mem_map.mp hm
    exact (f v hv).1.mono (by omega)
  · obtain ⟨v, hv, rfl⟩ := List.mem_map.mp hm
    exact (f' v hv).1.mono (by omega)
theorem lastr_keep : ∀ (r : List Seg) (s : Seg), lastr (s :: keep s.r r) = lastr (s :: r)
  | [], s => rfl
  | u :: r, s => by
    show lastr (s :: if u.r = s.r then keep u.r r else u :: keep u.r r) = _
    by_cases e : u.r = s.r
    · rw [if_pos e, e, lastr_keep r s, lastr_cons]
      cases r with
      | nil =>
        show s.r = u.r
        exact e.symm
      | cons v r => rw [lastr_cons, lastr_cons]
    · rw [if_neg e, lastr_cons, lastr_cons, lastr_keep r u]
theorem lastr_bends (l : List Seg) : lastr (bends l) = lastr l := by
  cases l with
  | nil => rfl
  | cons s r => exact lastr_keep r s
theorem lastr_segs {cs : List (Rat × Rat)} {s : Rat} (h : cs ≠ []) : lastr (segs cs s) = s := by
  obtain ⟨m, hm⟩ : ∃ m, m + 1 = cs.length := ⟨cs.length - 1, by have := List.length_pos_iff.mpr h; omega⟩
  have e := lastr_at (l := segs cs s) (i := m) (by rw [segs_len]; exact hm)
  have e2 := segs_last cs s m hm
  rw [List.getElem?_map] at e
  rw [e] at e2
  exact Option.some.inj e2
theorem corn_nonneg {cs : List (Rat × Rat)} (h : Cor cs) : ∀ (i : Nat) (c : Rat × Rat), cs[i]? = some c → 0 ≤ c.1
  | 0, c, hc => by
    rw [(h.2.1 c hc).1]
    exact Rat.le_refl
  | i + 1, c, hc => by
    have hi := (List.getElem?_eq_some_iff.mp hc).1
    have c0 : cs[i]? = some (cs[i]'(by omega)) := List.getElem?_eq_getElem (by omega)
    have ih := corn_nonneg h i _ c0
    have := h.2.2 i _ _ c0 hc
    grind
/-- what the law asks, corner by corner -/
theorem cov_iff {cs cs' : List (Rat × Rat)} {s s' : Rat} (h : Cor cs) (h' : Cor cs') (hs : 0 ≤ s) (hs' : 0 ≤ s') (hl : cs.length ≤ 900) (hl' : cs'.length ≤ 900) : ((∀ c ∈ cs ++ cs', ¬ ev (segs cs s) c.1 < ev (segs cs' s') c.1) ∧ ¬ s < s') ↔ Cov (bends (segs cs s)) (bends (segs cs' s')) := by
  have c1 := segs_chn cs s h.2.2
  have c2 := segs_chn cs' s' h'.2.2
  have e1 : lastr (bends (segs cs s)) = s := by rw [lastr_bends, lastr_segs h.1]
  have e2 : lastr (bends (segs cs' s')) = s' := by rw [lastr_bends, lastr_segs h'.1]
  constructor
  · rintro ⟨a, b⟩
    refine ⟨by rw [e1, e2]; exact Rat.not_lt.mp b, fun z hz => ?_⟩
    rw [ev_bends c1, ev_bends c2]
    have sub : ∀ (ds : List (Rat × Rat)) (t : Rat), z ∈ (bends (segs ds t)).map Seg.x → ∃ c ∈ ds, c.1 = z := fun ds t hm => by
      have := ((bends_sub (segs ds t)).map Seg.x).subset hm
      rw [segs_x] at this
      obtain ⟨c, hc, e⟩ := List.mem_map.mp this
      exact ⟨c, hc, e⟩
    rcases hz with hz | hz
    · obtain ⟨c, hc, rfl⟩ := sub _ _ hz
      exact Rat.not_lt.mp (a c (List.mem_append.mpr (.inl hc)))
    · obtain ⟨c, hc, rfl⟩ := sub _ _ hz
      exact Rat.not_lt.mp (a c (List.mem_append.mpr (.inr hc)))
  · intro hcov
    refine ⟨fun c hc => ?_, ?_⟩
    · have n1 := nice_of h hs hl
      have n2 := nice_of h' hs' hl'
      have hz : 0 ≤ c.1 := by
        rcases List.mem_append.mp hc with hc | hc
        · obtain ⟨i, hi⟩ := List.mem_iff_getElem?.mp hc
          exact corn_nonneg h i c hi
        · obtain ⟨i, hi⟩ := List.mem_iff_getElem?.mp hc
          exact corn_nonneg h' i c hi
      obtain ⟨u, r, eu, u0, _⟩ := n1.cons
      obtain ⟨v, q, eq, v0, _⟩ := n2.cons
      have hc1 := n1.chn
      have hc2 := n2.chn
      rw [eu] at hc1 hcov
      rw [eq] at hc2 hcov
      have := cov_all hc1 hc2 (by rw [u0, v0]) hcov c.1 (by rw [u0]; exact hz)
      rw [← eu, ← eq, ev_bends c1, ev_bends c2] at this
      exact Rat.not_lt.mpr this
    · have := hcov.1
      rw [e1, e2] at this
      exact Rat.not_lt.mpr this
end

/-! ### Line.corners -/
section
variable {P : Program} {w : World} {K : PySem.W.Frag} {mg : Str → Option Value} {base : Heap}
theorem mon_REq {C : Addr} : ∀ (a b : Addr) (H H' : Hp), Ext H H' → REq C a b H → REq C a b H' := fun a b H H' e ⟨t, c, ra, rb⟩ => ⟨t, c, ra.on e, rb.on e⟩
theorem ins_ref {C : Addr} {R : Addr → Addr → Hp → Prop} (x y : V) (H : Hp) (d : DIns C R x y H) : ∃ a b, x = .ref a ∧ y = .ref b := let ⟨a, b, _, _, _, _, hx, hy, _⟩ := d; ⟨a, b, hx, hy⟩
/-- a tuple of told corners -/
def CorsAt (RC : Addr) (H : Hp) (q : Addr) (l : List Seg) (n : Nat) : Prop := ∃ ts : List Addr, H q = some (.tup (ts.map V.ref)) ∧ ts.length = l.length ∧ ∀ (i : Nat) t s, ts[i]? = some t → l[i]? = some s → ∃ u v, H t = some (.tup [.ref u, .ref v]) ∧ RV RC H u s.x n ∧ RV RC H v s.t n
theorem CorsAt.on {RC : Addr} {H H' : Hp} {q : Addr} {l : List Seg} {n : Nat} (c : CorsAt RC H q l n) (s : Same H H') : CorsAt RC H' q l n := let ⟨ts, e, hl, h⟩ := c; ⟨ts, s _ _ e, hl, fun i t g h1 h2 => let ⟨u, v, e, a, b⟩ := h i t g h1 h2; ⟨u, v, s _ _ e, a.on s, b.on s⟩⟩
def spCornersP (LC RC : Addr) : Sp := fun vs H Q _ => ∃ (p : Addr) (l : List Seg) (n : Nat), vs = [.ref p] ∧ LineAt LC RC H p l n ∧ l.length ≤ 1000 ∧ ∀ q H', Same H H' → CorsAt RC H' q l n → Q (.ref q) H'
theorem ok_cornersP (T : Txt K mg) : FnOk P w K mg base CX0 1 T.f_Line_corners T.d_Line_corners ["self"] (spCornersP T.f_Line T.f_Ratio) := by
  refine T.F_Line_corners.ok sc_Line_corners (fun vs H Q E h => ?_) (fun cdv A outer s H vs Q E hr h => ?_)
  · obtain ⟨p, l, n, rfl, _⟩ := h
    rfl
  · obtain ⟨p, l, n, rfl, hp, hl, k⟩ := h
    refine ⟨_, (pss_one (ps_ret (pe_tupZip rfl (by rfl) T.n_tuple (by rfl) T.n_zip (pa_cons (pe_fld (pv 0) rfl) (pa_cons (pe_fld (pv 0) rfl) pa_nil))))), ?_⟩
    obtain ⟨dx, a, b, c, ep, ⟨pl, el, rl⟩, ⟨pt, et, rt⟩, _⟩ := id hp
    have l1 := rl.1
    have l2 := rt.1
    rw [List.length_map] at l1 l2
    have hz : (1000 : Nat) ≤ sizeLine := by decide
    refine ⟨_, rfl, p, T.f_Line, dx, _, _, rfl, ep, T.cl_Line, T.na_Line_loads, lf_loads _ _ _, _, rfl, p, T.f_Line, dx, _, _, rfl, ep, T.cl_Line, T.na_Line_times, lf_times _ _ _, ?_⟩
    refine ⟨a, b, _, _, rfl, SqT.of el, SqT.of et, by rw [List.length_map, List.length_map, l1, l2], by rw [List.length_map, l1]; omega, fun q ts H' sm eq htl hZ => ?_⟩
    rw [List.length_map] at htl
    refine k q H' sm ⟨ts, eq, htl.trans l1, fun i t g h1 h2 => ?_⟩
    have hi : i < l.length := (List.getElem?_eq_some_iff.mp h2).1
    have e1 : pl[i]? = some (pl[i]'(by omega)) := List.getElem?_eq_getElem (by omega)
    have e2 : pt[i]? = some (pt[i]'(by omega)) := List.getElem?_eq_getElem (by omega)
    refine ⟨_, _, hZ i t _ _ h1 (by rw [List.getElem?_map, e1]; rfl) (by rw [List.getElem?_map, e2]; rfl), (rl.2 i _ _ e1 (by rw [List.getElem?_map, h2]; rfl)).on sm, (rt.2 i _ _ e2 (by rw [List.getElem?_map, h2]; rfl)).on sm⟩
/-- two tuples of the same corners -/
theorem dtup_of {RC : Addr} {K : PySem.W.Frag} {H : Hp} {q q' : Addr} {l : List Seg} {n m : Nat} (c : CorsAt RC H q l n) (c' : CorsAt RC H q' l m) : DTup K (DTup K (DIns RC (REq RC))) (.ref q) (.ref q') H := by
  obtain ⟨ts, e, hl, h⟩ := c
  obtain ⟨ts', e', hl', h'⟩ := c'
  refine ⟨q, q', _, _, rfl, rfl, SqT.of e, SqT.of e', by rw [List.length_map, List.length_map, hl, hl'], fun i x y h1 h2 => ?_⟩
  rw [List.getElem?_map] at h1 h2
  cases e1 : ts[i]? with
  | none => rw [e1] at h1; cases h1
  | some t =>
    cases e2 : ts'[i]? with
    | none => rw [e2] at h2; cases h2
    | some t' =>
      rw [e1] at h1
      rw [e2] at h2
      have h1 := Option.some.inj h1
      have h2 := Option.some.inj h2
      subst h1
      subst h2
      have hi : i < l.length := by rw [← hl]; exact (List.getElem?_eq_some_iff.mp e1).1
      have eg : l[i]? = some l[i] := List.getElem?_eq_getElem hi
      obtain ⟨u, v, et, ru, rv⟩ := h i t _ e1 eg
      obtain ⟨u', v', et', ru', rv'⟩ := h' i t' _ e2 eg
      have one : ∀ {u u' : Addr} {x : Rat}, RV RC H u x n → RV RC H u' x m → DIns RC (REq RC) (.ref u) (.ref u') H := fun {u u'} {x} r r' => by
        obtain ⟨t, b, ra, la, va, _⟩ := r
        obtain ⟨t', b', rb, lb, vb, _⟩ := r'
        obtain ⟨rfl, rfl⟩ := low_unique la lb (by rw [va, vb])
        obtain ⟨dx, hp⟩ := id ra
        obtain ⟨dy, hq⟩ := id rb
        exact ⟨u, u', dx, dy, _, _, rfl, rfl, hp, hq, t, b, ra, rb⟩
      refine ⟨t, t', _, _, rfl, rfl, SqT.of et, SqT.of et', rfl, fun j x y g1 g2 => ?_⟩
      match j, g1, g2 with
      | 0, g1, g2 =>
        obtain rfl := Option.some.inj g1
        obtain rfl := Option.some.inj g2
        exact one ru ru'
      | 1, g1, g2 =>
        obtain rfl := Option.some.inj g1
        obtain rfl := Option.some.inj g2
        exact one rv rv'
      | j + 2, g1, _ => simp at g1
end

/-! ### values of sums -/
section
variable {P : Program} {w : World} {K : PySem.W.Frag} {mg : Str → Option Value} {base : Heap}
theorem Fit.mul {m n : Nat} {x y : Rat} (f : Fit m x) (g : Fit n y) : Fit (m + n) (x * y) := by
  obtain ⟨k, D, hD, rfl, s⟩ := f
  obtain ⟨k', D', hD', rfl, s'⟩ := g
  exact ⟨_, _, Int.mul_ne_zero hD hD', (vq_mul hD hD').symm, s.mul s'⟩
theorem Fit.neg {m : Nat} {x : Rat} (f : Fit m x) : Fit m (-x) := by
  obtain ⟨k, D, hD, rfl, s⟩ := f
  exact ⟨_, _, hD, vq_neg.symm, s.neg⟩
theorem Fit.sub {m n : Nat} {x y : Rat} (f : Fit m x) (g : Fit n y) : Fit (m + n + 1) (x - y) := by
  rw [Rat.sub_eq_add_neg]
  exact f.add g.neg
theorem ev_is : ∀ (l : List Seg) (z : Rat), l ≠ [] → ∃ s ∈ l, ev l z = s.at z
  | [], _, h => absurd rfl h
  | [s], z, _ => ⟨s, List.mem_singleton.mpr rfl, rfl⟩
  | s :: u :: r, z, _ => by
    show ∃ g ∈ s :: u :: r, (if z < u.x then s.at z else ev (u :: r) z) = g.at z
    by_cases h : z < u.x
    · exact ⟨s, List.mem_cons_self, if_pos h⟩
    · obtain ⟨g, hg, e⟩ := ev_is (u :: r) z (fun e => nomatch e)
      exact ⟨g, List.mem_cons_of_mem _ hg, by rw [if_neg h]; exact e⟩
theorem ev_fit {l : List Seg} {m : Nat} {z : Rat} (hl : l ≠ []) (f : ∀ u ∈ l, Fit m u.x ∧ Fit m u.t ∧ Fit m u.r) (fz : Fit m z) : Fit (4 * m + 2) (ev l z) := by
  obtain ⟨s, hs, e⟩ := ev_is l z hl
  obtain ⟨fx, ft, fr⟩ := f s hs
  rw [e]
  show Fit (4 * m + 2) (s.t + s.r * (z - s.x))
  exact (ft.add (fr.mul (fz.sub fx))).mono (by omega)
theorem Nice.ev_nonneg {l : List Seg} (h : Nice l) {z : Rat} (hz : 0 ≤ z) : 0 ≤ ev l z := by
  obtain ⟨u, r, eu, u0, ut⟩ := h.cons
  have hc := h.chn
  have hu := h.up
  rw [eu] at hc hu ⊢
  have h1 := ev_mono r u hc hu u.x z Rat.le_refl (by rw [u0]; exact hz)
  rw [ev_at_x hc] at h1
  exact Rat.le_trans ut h1
theorem Both.ev' {l l' : List Seg} {zs : List Rat} (b : Both l l' zs) (h : Nice l) (h' : Nice l') {z : Rat} (hz : 0 ≤ z) : My.ev (bends (My.segs (sumC l l' zs) (lastr l + lastr l'))) z = My.ev l z + My.ev l' z := by
  rw [ev_bends (segs_chn _ _ (b.cor h h').2.2)]
  exact b.ev h h' hz
theorem Both.fits {l l' : List Seg} {zs : List Rat} {m n : Nat} (b : Both l l' zs) (h : Nice l) (h' : Nice l') (f : ∀ u ∈ l, Fit m u.x ∧ Fit m u.t ∧ Fit m u.r) (f' : ∀ u ∈ l', Fit m u.x ∧ Fit m u.t ∧ Fit m u.r) (hn : 8 * m + 5 ≤ n) : ∀ u ∈ bends (My.segs (sumC l l' zs) (lastr l + lastr l')), Fit n u.x ∧ Fit n u.t ∧ Fit n u.r := by
  refine b.fit h h' f f' hn fun z hz => ?_
  have fz : Fit m z := by
    rcases (b.mem z).mp hz with hm | hm
    · obtain ⟨v, hv, rfl⟩ := List.mem_map.mp hm
      exact (f v hv).1
    · obtain ⟨v, hv, rfl⟩ := List.mem_map.mp hm
      exact (f' v hv).1
  exact ((ev_fit h.gd.ne f fz).add (ev_fit h'.gd.ne f' fz)).mono (by omega)
theorem Both.cov {l l' : List Seg} {zs : List Rat} (b : Both l l' zs) (h : Nice l) (h' : Nice l') (hl : zs.length ≤ 900) : Cov (bends (My.segs (sumC l l' zs) (lastr l + lastr l'))) l := by
  have hS := b.nice h h' hl
  refine ⟨?_, fun z hz => ?_⟩
  · rw [lastr_bends, lastr_segs (b.cor h h').1]
    have := h'.last
    grind
  · have hz0 : 0 ≤ z := hz.elim hS.gd.nonneg h.gd.nonneg
    rw [b.ev' h h' hz0]
    have := h'.ev_nonneg hz0
    grind
theorem Both.ncov {l l' : List Seg} {zs : List Rat} (b : Both l l' zs) (h : Nice l) (h' : Nice l') (hp : 0 < My.ev l' 0) : ¬ Cov l (bends (My.segs (sumC l l' zs) (lastr l + lastr l'))) := by
  rintro ⟨_, hc⟩
  obtain ⟨u, r, eu, u0, ut⟩ := h.cons
  have := hc 0 (.inl (by rw [eu, ← u0]; exact List.mem_map.mpr ⟨u, List.mem_cons_self, rfl⟩))
  rw [b.ev' h h' Rat.le_refl] at this
  grind
end
/-! ### lines by their values -/
section
theorem Fx.nonneg {b : Int} {x : Rat} (f : Fx b x) : 0 ≤ x := by
  obtain ⟨k, h0, _, rfl⟩ := f
  exact vq_nonneg h0 (by decide)
theorem vq_sub {k k' D : Int} (hD : D ≠ 0) : vq k D - vq k' D = vq (k - k') D := by
  have h1 := rat_ne hD
  unfold vq
  push_cast
  grind
theorem Fx.sub_fit {b : Int} {x y : Rat} {m : Nat} (f : Fx b x) (g : Fx b y) (hb : b < 2 ^ m) (hm : 18 ≤ m) : Fit m (x - y) := by
  obtain ⟨k, h0, h1, rfl⟩ := f
  obtain ⟨k', h0', h1', rfl⟩ := g
  rw [vq_sub DD_ne]
  refine ⟨_, _, DD_ne, rfl, ?_, ?_⟩
  · have h2 : ((k - k').natAbs : Int) < ((2 ^ m : Nat) : Int) := by
      push_cast
      omega
    exact_mod_cast h2
  · exact Nat.lt_of_lt_of_le (show DD.natAbs < 2 ^ 18 by decide) (Nat.pow_le_pow_right (by decide) hm)
/-- a line whose corners and values are bounded -/
structure Val (l : List Seg) (m n : Nat) : Prop where
  nice : Nice l
  can : Can l
  x : ∀ u ∈ l, Fx (6 * EE) u.x
  t : ∀ u ∈ l, Fit m u.t
  v : ∀ z, Fx (6 * EE) z → Fit m (ev l z)
  r : ∀ u ∈ l, Fit n u.r
theorem Val.fit {l : List Seg} {m n k : Nat} (h : Val l m n) (hm : m ≤ k) (hn : n ≤ k) (hk : 50 ≤ k) : ∀ u ∈ l, Fit k u.x ∧ Fit k u.t ∧ Fit k u.r := fun u hu =>
  ⟨((h.x u hu).fit (m := 50) (by decide) (by decide)).mono hk, (h.t u hu).mono hm, (h.r u hu).mono hn⟩
theorem Val.last {l : List Seg} {m n : Nat} (h : Val l m n) : Fit n (lastr l) := by
  have hl0 : 0 < l.length := List.length_pos_iff.mpr h.nice.gd.ne
  obtain ⟨i, hi⟩ : ∃ i, i + 1 = l.length := ⟨l.length - 1, by omega⟩
  have e := lastr_at hi
  rw [List.getElem?_map, List.getElem?_eq_getElem (by omega)] at e
  rw [← Option.some.inj e]
  exact h.r _ (List.getElem_mem _)
theorem Val.add {l l' : List Seg} {m n m' n' : Nat} {zs : List Rat} (h : Val l m n) (h' : Val l' m' n') (b : Both l l' zs) (hl : zs.length ≤ 900) : Val (bends (My.segs (sumC l l' zs) (lastr l + lastr l'))) (m + m' + 1) (n + n' + 1) := by
  have hx : ∀ z ∈ zs, Fx (6 * EE) z := fun z hz => by
    rcases (b.mem z).mp hz with hm | hm
    · obtain ⟨v, hv, rfl⟩ := List.mem_map.mp hm
      exact h.x v hv
    · obtain ⟨v, hv, rfl⟩ := List.mem_map.mp hm
      exact h'.x v hv
  have key : ∀ u ∈ bends (My.segs (sumC l l' zs) (lastr l + lastr l')), Fx (6 * EE) u.x ∧ Fit (m + m' + 1) u.t ∧ Fit (n + n' + 1) u.r := fun u hu => by
    have hu := (bends_sub _).subset hu
    obtain ⟨i, hi⟩ := List.mem_iff_getElem?.mp hu
    obtain ⟨z0, hz0, e1, e2, p, hp, p', hp', e3, _⟩ := b.segs h.nice h'.nice hi
    have hz := hx z0 (List.mem_of_getElem? hz0)
    exact ⟨by rw [e1]; exact hz, by rw [e2]; exact (h.v z0 hz).add (h'.v z0 hz), by rw [e3]; exact (h.r p hp).add (h'.r p' hp')⟩
  refine ⟨b.nice h.nice h'.nice hl, can_bends _, fun u hu => (key u hu).1, fun u hu => (key u hu).2.1, fun z hz => ?_, fun u hu => (key u hu).2.2⟩
  rw [b.ev' h.nice h'.nice hz.nonneg]
  exact (h.v z hz).add (h'.v z hz)
theorem Val.sum_fit {l l' : List Seg} {m n m' n' : Nat} (h : Val l m n) (h' : Val l' m' n') {k : Nat} (hk : m + m' + 1 ≤ k) : ∀ z, (z ∈ l.map Seg.x ∨ z ∈ l'.map Seg.x) → Fit k (ev l z + ev l' z) := fun z hz => by
  have hx : Fx (6 * EE) z := by
    rcases hz with hm | hm
    · obtain ⟨v, hv, rfl⟩ := List.mem_map.mp hm
      exact h.x v hv
    · obtain ⟨v, hv, rfl⟩ := List.mem_map.mp hm
      exact h'.x v hv
  exact ((h.v z hx).add (h'.v z hx)).mono hk
theorem lines_eq {l l' : List Seg} (n1 : Nice l) (n2 : Nice l') (c1 : Can l) (c2 : Can l') (h : ∀ z, 0 ≤ z → ev l z = ev l' z) : l = l' := by
  obtain ⟨u, r, rfl, u0, _⟩ := n1.cons
  obtain ⟨v, q, rfl, v0, _⟩ := n2.cons
  exact uniq _ _ _ _ n1.chn n2.chn c1 c2 (by rw [u0, v0]) fun z hz => h z (by rw [← u0]; exact hz)
def corsOf (l : List Seg) : List (Rat × Rat) := l.map fun u => (u.x, u.t)
theorem segs_cors : ∀ l : List Seg, l ≠ [] → Chn l → segs (corsOf l) (lastr l) = l
  | [], h, _ => absurd rfl h
  | [s], _, _ => rfl
  | s :: u :: r, _, hc => by
    obtain ⟨h1, h2, h3⟩ := hc
    have ih := segs_cors (u :: r) (fun e => nomatch e) h3
    show (⟨s.x, s.t, (u.t - s.t) / (u.x - s.x)⟩ : Seg) :: segs (corsOf (u :: r)) (lastr (s :: u :: r)) = s :: u :: r
    rw [lastr_cons, ih]
    have : (u.t - s.t) / (u.x - s.x) = s.r := by
      unfold Seg.at at h2
      rw [h2]
      have h4 : u.x - s.x ≠ 0 := by grind
      grind
    rw [this]
theorem cor_cors {l : List Seg} (h : Nice l) : Cor (corsOf l) := by
  refine ⟨?_, fun c hc => ?_, fun i c d hc hd => ?_⟩
  · intro e
    exact h.gd.ne (List.map_eq_nil_iff.mp e)
  · unfold corsOf at hc
    rw [List.getElem?_map] at hc
    cases e : l[0]? with
    | none => rw [e] at hc; cases hc
    | some u =>
      rw [e] at hc
      rw [← Option.some.inj hc]
      exact ⟨h.gd.h0 u e, h.t0 u e⟩
  · unfold corsOf at hc hd
    rw [List.getElem?_map] at hc hd
    cases e : l[i]? with
    | none => rw [e] at hc; cases hc
    | some u =>
      cases e2 : l[i + 1]? with
      | none => rw [e2] at hd; cases hd
      | some v =>
        rw [e] at hc
        rw [e2] at hd
        rw [← Option.some.inj hc, ← Option.some.inj hd]
        have key : ∀ (l : List Seg) (i : Nat) (u v : Seg), Chn l → l[i]? = some u → l[i + 1]? = some v → u.x < v.x ∧ v.t = u.at v.x := by
          intro l
          induction l with
          | nil => intro i u v _ h; cases h
          | cons a r ih =>
            intro i u v hc h1 h2
            cases r with
            | nil => cases h2
            | cons b r =>
              cases i with
              | zero =>
                obtain rfl := Option.some.inj h1
                obtain rfl := Option.some.inj h2
                exact ⟨hc.1, hc.2.1⟩
              | succ i => exact ih i u v hc.2.2 h1 h2
        obtain ⟨h1, h2⟩ := key l i u v h.chn e e2
        refine ⟨h1, ?_⟩
        show u.t ≤ v.t
        rw [h2]
        unfold Seg.at
        have h3 : 0 ≤ u.r * (v.x - u.x) := Rat.mul_nonneg (h.up u (List.mem_of_getElem? e)) (by grind)
        grind
theorem Nice.again {l : List Seg} (h : Nice l) (hc : Can l) (hl : l.length ≤ 900) : bends (segs (corsOf l) (lastr l)) = l := by
  have e := segs_cors l h.gd.ne h.chn
  have h1 := nice_of (cor_cors h) h.last (by unfold corsOf; rw [List.length_map]; exact hl)
  refine lines_eq h1 h (can_bends _) hc fun z hz => ?_
  rw [e]
  exact ev_bends h.chn z
end

/-! ### values as data -/
section
variable {P : Program} {w : World} {K : PySem.W.Frag} {mg : Str → Option Value} {base : Heap}
open Classical in
noncomputable def rp (x : Rat) : Int × Int := if h : ∃ p : Int × Int, Low p.1 p.2 ∧ vq p.1 p.2 = x then h.choose else (0, 1)
def RpOk (x : Rat) : Prop := Low (rp x).1 (rp x).2 ∧ vq (rp x).1 (rp x).2 = x
theorem rp_of {t b : Int} {x : Rat} (l : Low t b) (e : vq t b = x) : RpOk x ∧ (rp x).1 = t ∧ (rp x).2 = b := by
  have h : ∃ p : Int × Int, Low p.1 p.2 ∧ vq p.1 p.2 = x := ⟨(t, b), l, e⟩
  have e1 : rp x = h.choose := dif_pos h
  have s := h.choose_spec
  rw [← e1] at s
  obtain ⟨h1, h2⟩ := low_unique s.1 l (by rw [s.2, e])
  exact ⟨s, h1, h2⟩
noncomputable def dR (x : Rat) : PyData := .tuple [.int (rp x).1, .int (rp x).2]
noncomputable def dC (c : Rat × Rat) : PyData := .tuple [dR c.1, dR c.2]
noncomputable def dL (cs : List (Rat × Rat)) : PyData := .list (cs.map dC)
theorem PV.raw {H : Hp} {q : Addr} {x : Rat} {n : Nat} (r : PV H q x n) : RpOk x ∧ H q = some (.tup [.int (rp x).1, .int (rp x).2]) := by
  obtain ⟨t, b, h, l, e, _⟩ := r
  obtain ⟨o, h1, h2⟩ := rp_of l e
  exact ⟨o, by rw [h1, h2]; exact h⟩
theorem PV.dp {K : PySem.W.Frag} {H : Hp} {q : Addr} {x : Rat} {n : Nat} (r : PV H q x n) : Dp K H (.ref q) (dR x) := .tup (SqT.of r.raw.2) (.cons (.int _) (.cons (.int _) .nil))
theorem eqv_dR {x y : Rat} (hx : RpOk x) (hy : RpOk y) : PyData.eqv (dR x) (dR y) = decide (x = y) := by
  by_cases h : x = y
  · subst h
    rw [decide_eq_true rfl]
    simp [dR, PyData.eqv, PyData.eqvAll]
  · rw [decide_eq_false h]
    have : ¬ ((rp x).1 = (rp y).1 ∧ (rp x).2 = (rp y).2) := fun ⟨h1, h2⟩ => h (by rw [← hx.2, ← hy.2, h1, h2])
    simp [dR, PyData.eqv, PyData.eqvAll]
    intro h1 h2
    exact this ⟨h1, h2⟩
theorem lay_R (x : Rat) : (dR x).canLay0 = true := by simp [dR, PyData.canLay0, PyData.canLayAll0]
theorem dep_R (x : Rat) : (dR x).depth = 1 := by simp [dR, PyData.depth, PyData.depthAll]
theorem sh_R (x : Rat) : SeqAt.shaped (dR x) = true := by simp [SeqAt.shaped, lay_R, dep_R]
theorem lay_C (c : Rat × Rat) : (dC c).canLay0 = true := by simp [dC, PyData.canLay0, PyData.canLayAll0, lay_R]
theorem dep_C (c : Rat × Rat) : (dC c).depth = 2 := by simp [dC, PyData.depth, PyData.depthAll, dep_R]
theorem layAll_C : ∀ cs : List (Rat × Rat), PyData.canLayAll0 (cs.map dC) = true
  | [] => by simp [PyData.canLayAll0]
  | c :: r => by simp [PyData.canLayAll0, lay_C, layAll_C r]
theorem depAll_C : ∀ cs : List (Rat × Rat), PyData.depthAll (cs.map dC) ≤ 2
  | [] => by simp [PyData.depthAll]
  | c :: r => by
    have := depAll_C r
    simp [PyData.depthAll, dep_C]
    omega
theorem layAll_R : ∀ cs : List Rat, PyData.canLayAll0 (cs.map dR) = true
  | [] => by simp [PyData.canLayAll0]
  | c :: r => by simp [PyData.canLayAll0, lay_R, layAll_R r]
theorem depAll_R : ∀ cs : List Rat, PyData.depthAll (cs.map dR) ≤ 1
  | [] => by simp [PyData.depthAll]
  | c :: r => by
    have := depAll_R r
    simp [PyData.depthAll, dep_R]
    omega
theorem sh_L (cs : List (Rat × Rat)) : SeqAt.shaped (dL cs) = true := by
  have h1 := depAll_C cs
  simp [SeqAt.shaped, dL, PyData.canLay0, PyData.depth, layAll_C]
  omega
theorem sh_LR (cs : List Rat) : SeqAt.shaped (.list (cs.map dR)) = true := by
  have h1 := depAll_R cs
  simp [SeqAt.shaped, PyData.canLay0, PyData.depth, layAll_R]
  omega
theorem sh_T (cs : List (Rat × Rat)) (s : Rat) : SeqAt.shaped (.tuple [dL cs, dR s]) = true := by
  have h1 := depAll_C cs
  simp [SeqAt.shaped, dL, PyData.canLay0, PyData.canLayAll0, PyData.depth, PyData.depthAll, layAll_C, lay_R, dep_R]
  omega
theorem eqv_L (cs : List (Rat × Rat)) : PyData.eqv (dL cs) (dL cs) = true := by
  have h := sh_L cs
  simp only [SeqAt.shaped, Bool.and_eq_true] at h
  exact SeqAt.eqv_refl _ h.1
theorem eqv_R (x : Rat) : PyData.eqv (dR x) (dR x) = true := SeqAt.eqv_refl _ (lay_R x)
theorem eqv_T (cs : List (Rat × Rat)) (s : Rat) : PyData.eqv (.tuple [dL cs, dR s]) (.tuple [dL cs, dR s]) = true := by
  have h := sh_T cs s
  simp only [SeqAt.shaped, Bool.and_eq_true] at h
  exact SeqAt.eqv_refl _ h.1
theorem dpAll_C {H : Hp} {n : Nat} : ∀ (qs : List Addr) (cs : List (Rat × Rat)), qs.length = cs.length → (∀ (i : Nat) t d, qs[i]? = some t → cs[i]? = some d → ∃ u v, H t = some (.tup [.ref u, .ref v]) ∧ PV H u d.1 n ∧ PV H v d.2 n) → DpAll K H (qs.map V.ref) (cs.map dC)
  | [], [], _, _ => .nil
  | q :: qs, c :: cs, hl, h => by
    obtain ⟨u, v, e, pu, pv⟩ := h 0 q c rfl rfl
    exact .cons (.tup (SqT.of e) (.cons pu.dp (.cons pv.dp .nil))) (dpAll_C qs cs (by simpa using hl) fun i t d h1 h2 => h (i + 1) t d h1 h2)
theorem CorP.dp {H : Hp} {L : Addr} {cs : List (Rat × Rat)} {n : Nat} (r : CorP H L cs n) : Dp K H (.ref L) (dL cs) := by
  obtain ⟨qs, e, hl, h⟩ := r
  exact .lst (SqL.of e) (dpAll_C qs cs hl h)
end

/-! ### what a line tells, as values of the law -/
section
variable {P : Program} {w : World} {K : PySem.W.Frag} {mg : Str → Option Value} {base : Heap}

def Told (H : Hp) (o : Addr) (cs : List (Rat × Rat)) (s : Rat) (n : Nat) : Prop := ∃ L r, H o = some (.tup [.ref L, .ref r]) ∧ CorP H L cs n ∧ PV H r s n
theorem Told.on {H H' : Hp} {o : Addr} {cs : List (Rat × Rat)} {s : Rat} {n : Nat} (t : Told H o cs s n) (sm : Same H H') : Told H' o cs s n := let ⟨L, r, e, a, b⟩ := t; ⟨L, r, sm _ _ e, a.on sm, b.on sm⟩
theorem Told.mono {H : Hp} {o : Addr} {cs : List (Rat × Rat)} {s : Rat} {n m : Nat} (t : Told H o cs s n) (h : n ≤ m) : Told H o cs s m := let ⟨L, r, e, a, b⟩ := t; ⟨L, r, e, a.mono h, b.mono h⟩
theorem Told.dp {H : Hp} {o : Addr} {cs : List (Rat × Rat)} {s : Rat} {n : Nat} (t : Told H o cs s n) : Dp K H (.ref o) (.tuple [dL cs, dR s]) := let ⟨L, r, e, a, b⟩ := t; .tup (SqT.of e) (.cons a.dp (.cons b.dp .nil))
/-- pairs of values in tuples -/
def TupsP (G : Hp) (ts : List Addr) (cs : List (Rat × Rat)) (n : Nat) : Prop := ∀ (i : Nat) t d, ts[i]? = some t → cs[i]? = some d → ∃ u v : Addr, G t = some (.tup [.ref u, .ref v]) ∧ PV G u d.1 n ∧ PV G v d.2 n
theorem TupsP.on {H H' : Hp} {ts : List Addr} {cs : List (Rat × Rat)} {n : Nat} (r : TupsP H ts cs n) (s : Same H H') : TupsP H' ts cs n := fun i t d h1 h2 => let ⟨u, v, e, a, b⟩ := r i t d h1 h2; ⟨u, v, s _ _ e, a.on s, b.on s⟩
theorem TupsP.put {H : Hp} {D : Addr} {xs ys : List V} {ts : List Addr} {cs : List (Rat × Rat)} {n : Nat} (hD : H D = some (.lst xs)) (r : TupsP H ts cs n) : TupsP (upd H D (.lst ys)) ts cs n := fun i t d h1 h2 => by
  obtain ⟨u, v, e, a, b⟩ := r i t d h1 h2
  exact ⟨u, v, by rw [upd_ne (fun z => by rw [z, hD] at e; cases e)]; exact e, a.put hD, b.put hD⟩
theorem TupsP.snoc {G : Hp} {ts : List Addr} {cs : List (Rat × Rat)} {n i : Nat} {t : Addr} {d : Rat × Rat} {u v : Addr} (r : TupsP G ts cs n) (h : ts.length = i) (ci : cs[i]? = some d) (e : G t = some (.tup [.ref u, .ref v])) (a : PV G u d.1 n) (b : PV G v d.2 n) : TupsP G (ts ++ [t]) cs n := fun j t' d' h1 h2 => by
  by_cases hj : j < ts.length
  · rw [List.getElem?_append_left hj] at h1
    exact r j t' d' h1 h2
  · have hj' := (List.getElem?_eq_some_iff.mp h1).1
    rw [List.length_append, List.length_singleton] at hj'
    have e1 : j = ts.length := by omega
    subst e1
    rw [List.getElem?_append_right (Nat.le_refl _), Nat.sub_self] at h1
    rw [h, ci] at h2
    have e2 : t = t' := Option.some.inj h1
    have e3 : d = d' := Option.some.inj h2
    rw [← e2, ← e3]
    exact ⟨u, v, e, a, b⟩
theorem CorP.of {H : Hp} {D : Addr} {ts : List Addr} {cs : List (Rat × Rat)} {n : Nat} (e : H D = some (.lst (ts.map V.ref))) (hl : ts.length = cs.length) (t : TupsP H ts cs n) : CorP H D cs n := ⟨ts, e, hl, t⟩
def spTold (K : PySem.W.Frag) (LC RC : Addr) : Sp := fun vs H Q _ => ∃ (p : Addr) (l : List Seg) (n : Nat), vs = [.ref p] ∧ LineAt LC RC H p l n ∧ l ≠ [] ∧ l.length ≤ 900 ∧ ∀ (o L r : Addr) H', Same H H' → H L = none → H' o = some (.tup [.ref L, .ref r]) → CorP H' L (corsOf l) n → PV H' r (lastr l) n → Q (.ref o) H'
theorem ok_told (T : Txt K mg) : FnOk P w K mg base CX0 3 T.f_told T.d_told ["_law_line_here"] (spTold K T.f_Line T.f_Ratio) := by
  have G_Line_corners : FnOk P w K mg base CX0 1 T.f_Line_corners T.d_Line_corners ["self"] (spCornersP T.f_Line T.f_Ratio) := ok_cornersP T
  have G_Line_slope : FnOk P w K mg base CX0 1 T.f_Line_slope T.d_Line_slope ["self"] (spSlope T.f_Line T.f_Ratio) := ok_slope T
  have G_Ratio_top : FnOk P w K mg base CX0 1 T.f_Ratio_top T.d_Ratio_top ["self"] (spTop T.f_Ratio) := ok_top T
  have G_Ratio_bottom : FnOk P w K mg base CX0 1 T.f_Ratio_bottom T.d_Ratio_bottom ["self"] (spBottom T.f_Ratio) := ok_bottom T
  refine T.F_told.ok sc_told (fun vs H Q E h => ?_) (fun cdv A outer s H vs Q E hr h => ?_)
  · obtain ⟨p, l, n, rfl, _⟩ := h
    rfl
  · obtain ⟨p, l, n, rfl, hp, hne, hl, k⟩ := h
    refine ⟨_, (pss_cons (ps_setLc (i := 1) (own := [("_law_x", 2), ("_law_y", 3)]) (g := gTup K 2 (gCons (gName 2) (gCons (gName 3) gNil))) (tt := tYes) rfl sc_told.nd rfl rfl (sw_true rfl rfl rfl (by decide +kernel)) (pi_tup (pe_prop (pv 0) T.cl_Line T.p_Line_corners G_Line_corners (hr.mono (by decide)) T.b_Line_corners .nil pass0 rfl)) (blkOk_by (N := ["_law_line_here", "_law_corners_here", "_law_x", "_law_y"]) (sc := defScope s_told) (by decide +kernel)) (fun _ _ _ _ _ => (pg_tup rfl (pgs_cons (pg_name (i := 2) sc_told.nd rfl (Or.inl rfl)) (pgs_cons (pg_name (i := 3) sc_told.nd rfl (Or.inl rfl)) pgs_nil)))) (fun _ _ _ _ _ => pts_nil) (fun _ _ _ _ _ => (pe_tup (pa_cons (pe_tup (pa_cons (pe_prop (pv 2) T.cl_Ratio T.p_Ratio_top G_Ratio_top (hr.mono (by decide)) T.b_Ratio_top .nil pass0 rfl) (pa_cons (pe_prop (pv 2) T.cl_Ratio T.p_Ratio_bottom G_Ratio_bottom (hr.mono (by decide)) T.b_Ratio_bottom .nil pass0 rfl) pa_nil))) (pa_cons (pe_tup (pa_cons (pe_prop (pv 3) T.cl_Ratio T.p_Ratio_top G_Ratio_top (hr.mono (by decide)) T.b_Ratio_top .nil pass0 rfl) (pa_cons (pe_prop (pv 3) T.cl_Ratio T.p_Ratio_bottom G_Ratio_bottom (hr.mono (by decide)) T.b_Ratio_bottom .nil pass0 rfl) pa_nil))) pa_nil)))))
    (pss_one (ps_ret (pe_tup (pa_cons (pv 1) (pa_cons (pe_tup (pa_cons (pe_prop (pe_prop (pv 0) T.cl_Line T.p_Line_slope G_Line_slope (hr.mono (by decide)) T.b_Line_slope .nil pass0 rfl) T.cl_Ratio T.p_Ratio_top G_Ratio_top (hr.mono (by decide)) T.b_Ratio_top .nil pass0 rfl) (pa_cons (pe_prop (pe_prop (pv 0) T.cl_Line T.p_Line_slope G_Line_slope (hr.mono (by decide)) T.b_Line_slope .nil pass0 rfl) T.cl_Ratio T.p_Ratio_bottom G_Ratio_bottom (hr.mono (by decide)) T.b_Ratio_bottom .nil pass0 rfl) pa_nil))) pa_nil)))))), ?_⟩
    obtain ⟨dx, a, b, c, ep, _⟩ := id hp
    have z2 : 2 ≤ sizeLine := by decide
    refine ⟨_, rfl, p, dx, _, rfl, ep, p, l, n, rfl, hp, by omega, fun q H1 s1 cq => ?_⟩
    obtain ⟨ts, eq, htl, hts⟩ := cq
    refine ⟨q, rfl, ⟨_, SqT.of eq⟩, fun D nD => ?_⟩
    refine lc_tup (K := K) (a := q) (xs := ts.map V.ref) (fun i H' => ∃ us : List Addr, H' D = some (.lst (us.map V.ref)) ∧ us.length = i ∧ Same H1 H' ∧ TupsP H' us (corsOf l) n) ⟨[], upd_same, rfl, same_upd nD, fun j t d h => by simp at h⟩ (fun i H' _ ⟨_, _, _, sm, _⟩ => SqT.of (sm _ _ eq)) ?_ ?_
    · intro i x H2 hi ⟨us, eD, hul, s2, hT⟩
      rw [List.getElem?_map] at hi
      cases ht : ts[i]? with
      | none => rw [ht] at hi; cases hi
      | some t =>
        rw [ht] at hi
        obtain rfl := Option.some.inj hi
        have hil : i < l.length := by rw [← htl]; exact (List.getElem?_eq_some_iff.mp ht).1
        have eg : l[i]? = some l[i] := List.getElem?_eq_getElem hil
        obtain ⟨u, v, et, ru, rv⟩ := hts i t _ ht eg
        obtain ⟨tu, bu, ⟨du, eu⟩, lu, vu, zu⟩ := id (ru.on s2)
        obtain ⟨tv, bv, ⟨dv, ev'⟩, lv, vv, zv⟩ := id (rv.on s2)
        refine ⟨_, _, rfl, SqT.of (s2 _ _ et), rfl, _, _, rfl, _, _, rfl, rfl, rfl, ?_⟩
        refine ⟨_, rfl, u, du, _, rfl, eu, u, tu, bu, rfl, ⟨du, eu⟩, _, rfl, u, du, _, rfl, eu, u, tu, bu, rfl, ⟨du, eu⟩, z2, fun T1 n1 => ?_⟩
        have s3 := same_upd (o := .tup [V.int tu, .int bu]) n1
        refine ⟨_, rfl, v, dv, _, rfl, s3 _ _ ev', v, tv, bv, rfl, ⟨dv, s3 _ _ ev'⟩, _, rfl, v, dv, _, rfl, s3 _ _ ev', v, tv, bv, rfl, ⟨dv, s3 _ _ ev'⟩, z2, fun T2 n2 => ?_⟩
        have s4 := same_upd (o := .tup [V.int tv, .int bv]) n2
        refine ⟨z2, fun T3 n3 => ?_⟩
        have s5 := same_upd (o := .tup [V.ref T1, .ref T2]) n3
        have s25 := (s3.trans s4).trans s5
        have eD5 := s25 _ _ eD
        refine ⟨us.map V.ref, eD5, small1000 (by rw [List.length_map]; omega), us ++ [T3], ?_, by rw [List.length_append, hul]; rfl, same_mut (s2.trans s25) nD, ((hT.on s25).snoc (d := (l[i].x, l[i].t)) hul (by unfold corsOf; rw [List.getElem?_map, eg]; rfl) upd_same ⟨tu, bu, s5 _ _ (s4 _ _ upd_same), lu, vu, zu⟩ ⟨tv, bv, s5 _ _ upd_same, lv, vv, zv⟩).put eD5⟩
        rw [upd_same, List.map_append]
        rfl
    rintro H2 ⟨us, eD, hul, s2, hT⟩
    rw [List.length_map, htl] at hul
    have s12 := s1.trans s2
    have hp2 := hp.on s12
    refine ⟨_, rfl, _, rfl, p, dx, _, rfl, s12 _ _ ep, p, l, n, rfl, hp2, hne, fun q3 r3 => ?_⟩
    obtain ⟨t3, b3, ⟨d3, e3⟩, l3, v3, z3⟩ := id r3
    refine ⟨q3, d3, _, rfl, e3, q3, t3, b3, rfl, ⟨d3, e3⟩, ?_⟩
    refine ⟨_, rfl, p, dx, _, rfl, s12 _ _ ep, p, l, n, rfl, hp2, hne, fun q4 r4 => ?_⟩
    obtain ⟨t4, b4, ⟨d4, e4⟩, l4, v4, z4⟩ := id r4
    obtain ⟨rfl, rfl⟩ := low_unique l3 l4 (by rw [v3, v4])
    refine ⟨q4, d4, _, rfl, e4, q4, t3, b3, rfl, ⟨d4, e4⟩, z2, fun T1 n1 => ?_⟩
    have s5 := same_upd (o := .tup [V.int t3, .int b3]) n1
    refine ⟨z2, fun o no => ?_⟩
    have s6 := same_upd (o := .tup [V.ref D, .ref T1]) no
    have s56 := s5.trans s6
    exact k o D T1 _ (s12.trans s56) (s1.free nD) upd_same (.of (s56 _ _ eD) (by rw [hul]; unfold corsOf; rw [List.length_map]) (hT.on s56)) ⟨t3, b3, s6 _ _ upd_same, l3, v3, z3⟩
end

/-! ### the corners that bend -/
section
variable {P : Program} {w : World} {K : PySem.W.Frag} {mg : Str → Option Value} {base : Heap}
def spPlain (K : PySem.W.Frag) : Sp := fun vs H Q _ => ∃ (L r : Addr) (cs : List (Rat × Rat)) (s : Rat) (n : Nat), vs = [.ref L, .ref r] ∧ CorP H L cs n ∧ PV H r s n ∧ Cor cs ∧ n ≤ 900 ∧ cs.length ≤ 900 ∧ ∀ D H', Same H H' → CorP H' D (corsOf (bends (segs cs s))) n → Q (.ref D) H'
theorem seg_at {cs : List (Rat × Rat)} {s : Rat} {i : Nat} {g : Seg} {c : Rat × Rat} (h : (segs cs s)[i]? = some g) (hc : cs[i]? = some c) : (g.x, g.t) = c := by
  have h1 := congrArg (fun l : List Rat => l[i]?) (segs_x cs s)
  have h2 := congrArg (fun l : List Rat => l[i]?) (segs_t cs s)
  simp only [List.getElem?_map, h, hc] at h1 h2
  have h1 : g.x = c.1 := Option.some.inj h1
  have h2 : g.t = c.2 := Option.some.inj h2
  rw [h1, h2]
theorem ok_plain (T : Txt K mg) : FnOk P w K mg base CX0 5 T.f_plain T.d_plain ["_law_corners_here", "_law_slope"] (spPlain K) := by
  have G_steep : FnOk P w K mg base CX0 4 T.f_steep T.d_steep ["_law_corners_here", "_law_slope", "_law_k"] (spSteep K) := ok_steep T
  refine T.F_plain.ok sc_plain (fun vs H Q E h => ?_) (fun cdv A outer s H vs Q E hr h => ?_)
  · obtain ⟨L, r, cs, s, n, rfl, _⟩ := h
    rfl
  · obtain ⟨L, r, cs, s, n, rfl, hc, pr, hcor, hn, hl9, k⟩ := h
    refine ⟨_, (pss_cons (ps_set (i := 2) sc_plain.nd rfl (Or.inl rfl) (pe_lst (pa_cons (pe_ix ix_list (pv 0) pe_int (fun _ _ => rfl)) pa_nil)))
    (C8.pss_cut (ps_for PassesOwn.never rfl (pi_range2 rfl T.n_range (pa_cons pe_int (pa_cons (pe_callB call_len_seq (by rfl) T.n_len (by decide +kernel) (pa_cons (pv 0) pa_nil)) pa_nil))) (pg_name (i := 3) sc_plain.nd rfl (Or.inl rfl))
      (pss_one (ps_if (pt_cmpR (op_neD hr.units) (pe_call G_steep (hr.mono (by decide)) rfl T.m_steep T.F_steep.kp T.b_steep .nil pass0 (pa_cons (pv 0) (pa_cons (pv 1) (pa_cons (pe_op op_sub (pv 3) pe_int) pa_nil)))) (pe_call G_steep (hr.mono (by decide)) rfl T.m_steep T.F_steep.kp T.b_steep .nil pass0 (pa_cons (pv 0) (pa_cons (pv 1) (pa_cons (pv 3) pa_nil)))) (nomark _))
      (pss_one (ps_expr (pe_bm PySem.F.plainAttrs_list PySem.F.slot_list_append PySem.F.type_list_append mt_append (pv 2) (pa_cons (pe_ix ix_list (pv 0) (pv 3) (fun _ _ => rfl)) pa_nil))))
      pss_nil)))
    (pss_one (ps_ret (pv 2))))), ?_⟩
    obtain ⟨qs, hL, hql, hqs⟩ := id hc
    have hl0 : 0 < cs.length := List.length_pos_iff.mpr hcor.1
    have hsl : (segs cs s).length = cs.length := segs_len cs s
    have t0 : qs[0]? = some (qs[0]'(by omega)) := List.getElem?_eq_getElem (by omega)
    have at0' : atI (qs.map V.ref) 0 = some (V.ref (qs[0]'(by omega))) := atI_nat (j := 0) (by rw [List.getElem?_map, t0]; rfl)
    have z1 : 1 ≤ sizeLine := by decide
    refine ⟨_, rfl, L, _, 0, _, rfl, rfl, SqL.of hL, at0', z1, fun D nD => ?_⟩
    have g0 : (segs cs s)[0]? = some ((segs cs s)[0]'(by omega)) := List.getElem?_eq_getElem (by omega)
    have c0 : cs[0]? = some cs[0] := List.getElem?_eq_getElem hl0
    refine ⟨fun σ H' => ∃ (x3 : Option V) (us : List Addr), σ = [some (.ref L), some (.ref r), some (.ref D), x3] ∧ Same H H' ∧ H' D = some (.lst (us.map V.ref)) ∧ us.length = (bends (segs cs s)).length ∧ TupsP H' us (corsOf (bends (segs cs s))) n, ?_, ?_⟩
    · refine ⟨_, rfl, L, _, rfl, .inl (SqL.of ((same_upd nD) _ _ hL)), 1, ((qs.map V.ref).length : Nat), rfl, ?_⟩
      have hml : (qs.map V.ref).length = cs.length := by rw [List.length_map, hql]
      refine ⟨⟨by decide, by decide, by omega, by omega⟩, ?_⟩
      have hn1 : (((qs.map V.ref).length : Nat) - (1 : Int)).toNat = cs.length - 1 := by rw [hml]; omega
      rw [hn1]
      have init : (bends ((segs cs s).take 1)) = [(segs cs s)[0]'(by omega)] := by
        rw [take_more (i := 0) g0]
        rfl
      refine for_range (lo := 1) (n := cs.length - 1) (fun i σ H' => ∃ (x3 : Option V) (us : List Addr), σ = [some (.ref L), some (.ref r), some (.ref D), x3] ∧ Same H H' ∧ H' D = some (.lst (us.map V.ref)) ∧ us.length = (bends ((segs cs s).take (i + 1))).length ∧ TupsP H' us (corsOf (bends ((segs cs s).take (i + 1)))) n) ⟨none, [qs[0]'(by omega)], rfl, same_upd nD, upd_same, by rw [init]; rfl, fun i t d h1 h2 => ?_⟩ ?_ (fun σ H' ⟨x3, us, e, sm, eD, hu, hT⟩ => ⟨x3, us, e, sm, eD, by rw [hu, List.take_of_length_le (by omega)], by rw [List.take_of_length_le (by omega)] at hT; exact hT⟩)
      · rw [init] at h2
        cases i with
        | succ i => simp at h1
        | zero =>
          obtain rfl := Option.some.inj h1
          have h2 : ((segs cs s)[0]'(by omega)).x = d.1 ∧ ((segs cs s)[0]'(by omega)).t = d.2 := by
            have := Option.some.inj h2
            rw [← this]
            exact ⟨rfl, rfl⟩
          have e := seg_at g0 c0
          obtain ⟨u, v, et, pu, pv⟩ := hqs 0 _ _ t0 c0
          have e1 : d = cs[0] := by rw [← e]; exact Prod.ext h2.1.symm h2.2.symm
          rw [e1]
          exact ⟨u, v, (same_upd nD) _ _ et, pu.on (same_upd nD), pv.on (same_upd nD)⟩
      · rintro i σ H1 hi ⟨x3, us, rfl, s1, eD, hu, hT⟩
        obtain ⟨gv, gi⟩ : ∃ v, (segs cs s)[i]? = some v := ⟨_, List.getElem?_eq_getElem (by omega)⟩
        obtain ⟨gu, gj⟩ : ∃ v, (segs cs s)[i + 1]? = some v := ⟨_, List.getElem?_eq_getElem (by omega)⟩
        have cj : cs[i + 1]? = some (cs[i + 1]'(by omega)) := List.getElem?_eq_getElem (by omega)
        have tj : qs[i + 1]? = some (qs[i + 1]'(by omega)) := List.getElem?_eq_getElem (by omega)
        have ei : (1 : Int) + (i : Int) - 1 = (i : Int) := by omega
        have ej : (1 : Int) + (i : Int) = ((i + 1 : Nat) : Int) := by omega
        refine ⟨_, rfl, _, rfl, _, rfl, _, _, rfl, rfl, L, r, cs, s, i, n, _, by show [V.ref L, V.ref r, V.int ((1 : Int) + (i : Int) - 1)] = _; rw [ei], hc.on s1, pr.on s1, hcor.2.2, gi, hn, hl9, fun q2 H2 s2 p2 => ?_⟩
        have s12 := s1.trans s2
        refine ⟨_, rfl, _, rfl, _, rfl, L, r, cs, s, i + 1, n, _, by show [V.ref L, V.ref r, V.int ((1 : Int) + (i : Int))] = _; rw [ej], hc.on s12, pr.on s12, hcor.2.2, gj, hn, hl9, fun q3 H3 s3 p3 => ?_⟩
        have s13 := s12.trans s3
        have p2 := p2.on s3
        have s23 := s2.trans s3
        refine ⟨dR _, dR _, p2.dp, p3.dp, sh_R _, sh_R _, _, rfl, ?_⟩
        rw [eqv_dR p2.raw.1 p3.raw.1]
        have hlast : ((segs cs s).take (i + 1)).getLast? = some gv := by rw [take_more gi]; simp
        have step := bends_snoc (u := gu) hlast
        rw [← take_more gj] at step
        by_cases he : gv.r = gu.r
        · rw [decide_eq_true he]
          refine iteF ?_
          rw [if_pos he.symm, List.append_nil] at step
          exact ⟨_, us, rfl, s13, s23 _ _ eD, by rw [step]; exact hu, by rw [step]; exact (hT.on s2).on s3⟩
        · rw [decide_eq_false he]
          refine iteT ?_
          rw [if_neg (Ne.symm he)] at step
          have eD3 := s3 _ _ (s2 _ _ eD)
          have atj : atI (qs.map V.ref) ((1 : Int) + (i : Int)) = some (V.ref (qs[i + 1]'(by omega))) := by rw [ej]; exact atI_nat (by rw [List.getElem?_map, tj]; rfl)
          obtain ⟨u, v, et, pu, pv⟩ := hqs (i + 1) _ _ tj cj
          have e := seg_at gj cj
          have hus : us.length ≤ 900 := by
            have h1 := (bends_sub ((segs cs s).take (i + 1))).length_le
            have h2 := List.length_take_le (i + 1) (segs cs s)
            have h3 := List.length_take_le' (i + 1) (segs cs s)
            omega
          refine ⟨_, rfl, .inl ⟨rfl, _, SqL.of eD3⟩, _, rfl, _, rfl, L, _, _, _, rfl, rfl, SqL.of (s13 _ _ hL), atj, D, _, _, rfl, rfl, eD3, small1000 (by rw [List.length_map]; omega), ?_⟩
          have cu : corsOf (bends ((segs cs s).take (i + 1)) ++ [gu]) = corsOf (bends ((segs cs s).take (i + 1))) ++ [cs[i + 1]'(by omega)] := by
            unfold corsOf
            rw [List.map_append, ← e]
            rfl
          have hlen : us.length = (corsOf (bends ((segs cs s).take (i + 1)))).length := by unfold corsOf; rw [List.length_map]; exact hu
          refine ⟨_, us ++ [qs[i + 1]'(by omega)], rfl, same_mut s13 nD, ?_, by rw [step, List.length_append, List.length_append, hu]; rfl, ?_⟩
          · rw [upd_same, List.map_append]
            rfl
          · rw [step, cu]
            refine TupsP.put eD3 ?_
            refine TupsP.snoc (i := us.length) (d := cs[i + 1]'(by omega)) (fun j t d h1 h2 => ((hT.on s2).on s3) j t d h1 ?_) rfl (by rw [List.getElem?_append_right (by omega), hlen, Nat.sub_self]; rfl) (s13 _ _ et) (pu.on s13) (pv.on s13)
            rw [List.getElem?_append_left (by have := (List.getElem?_eq_some_iff.mp h1).1; omega)] at h2
            exact h2
    rintro σ H1 ⟨x3, us, rfl, s1, eD, hu, hT⟩
    exact ⟨_, rfl, k D H1 s1 (.of eD (by unfold corsOf; rw [List.length_map]; exact hu) hT)⟩
end

/-! ### a line is asked -/
section
variable {P : Program} {w : World} {K : PySem.W.Frag} {mg : Str → Option Value} {base : Heap}
theorem lf_covers (a b c : Addr) : (lf a b c).lookup ("covers" : Str) = none := by
  have h1 : (("covers" : Str) == ("_loads" : Str)) = false := by decide +kernel
  have h2 : (("covers" : Str) == ("_times" : Str)) = false := by decide +kernel
  have h3 : (("covers" : Str) == ("_rises" : Str)) = false := by decide +kernel
  simp [lf, List.lookup, h1, h2, h3]
theorem cov_refl (l : List Seg) : Cov l l := ⟨Rat.le_refl, fun _ _ => Rat.le_refl⟩
def spAsked (LC RC : Addr) : Sp := fun vs H Q _ => ∃ (p : Addr) (l : List Seg) (n : Nat), vs = [.ref p] ∧ LineAt LC RC H p l n ∧ Gd l ∧ l.length ≤ 400 ∧ n ≤ 400 ∧ ∀ H', Same H H' → Q (.bl true) H'
theorem ok_asked (T : Txt K mg) : FnOk P w K mg base CX0 8 T.f_asked T.d_asked ["_law_line_here"] (spAsked T.f_Line T.f_Ratio) := by
  have G_Line_covers : FnOk P w K mg base CX0 7 T.f_Line_covers T.d_Line_covers ["self", "other"] (spCovers T.f_Line T.f_Ratio) := ok_covers T
  have G_Line_corners : FnOk P w K mg base CX0 1 T.f_Line_corners T.d_Line_corners ["self"] (spCornersP T.f_Line T.f_Ratio) := ok_cornersP T
  have G_Line_call : FnOk P w K mg base CX0 7 T.f_Line_call T.d_Line_call ["self", "load"] (spLineCall T.f_Line T.f_Ratio) := ok_linecall T
  have G_Ratio_sign : FnOk P w K mg base CX0 1 T.f_Ratio_sign T.d_Ratio_sign ["self"] (spSign T.f_Ratio) := ok_sign T
  have G_Ratio_init : FnOk P w K mg base CX0 1 T.f_Ratio_init T.d_Ratio_init ["self", "top", "bottom"] (spInit T.f_Ratio) := ok_init T
  have G_Ratio_eq : FnOk P w K mg base CX0 1 T.f_Ratio_eq T.d_Ratio_eq ["self", "other"] (spEqV T.f_Ratio) := okv_eq T
  refine T.F_asked.ok sc_asked (fun vs H Q E h => ?_) (fun cdv A outer s H vs Q E hr h => ?_)
  · obtain ⟨p, l, n, rfl, _⟩ := h
    rfl
  · obtain ⟨p, l, n, rfl, hp, gd, hl, hn, k⟩ := h
    refine ⟨_, (pss_one (ps_ret (pe_and (pe_meth (pv 0) T.cl_Line T.me_Line_covers G_Line_covers (hr.mono (by decide)) T.b_Line_covers .nil pass0 (pa_cons (pv 0) pa_nil)) (pe_and (pe_cmpR op_eq (pe_prop (pe_ix ix_tup (pe_ix ix_tup (pe_prop (pv 0) T.cl_Line T.p_Line_corners G_Line_corners (hr.mono (by decide)) T.b_Line_corners .nil pass0 rfl) pe_int (fun _ _ => rfl)) pe_int (fun _ _ => rfl)) T.cl_Ratio T.p_Ratio_sign G_Ratio_sign (hr.mono (by decide)) T.b_Ratio_sign .nil pass0 rfl) pe_int (nomark _)) (pe_one (pe_cmpR (cmp_own T.a_Ratio_eq T.i_Ratio_eq G_Ratio_eq (hr.mono (by decide)) T.b_Ratio_eq pass0) (StX.pe_callO (pv 0) T.co_Line (G_Line_call.raw T.b_Line_call .nil) (hr.mono (by decide)) pass0 (pa_cons pe_int pa_nil)) (StX.pe_callO (pv 0) T.co_Line (G_Line_call.raw T.b_Line_call .nil) (hr.mono (by decide)) pass0 (pa_cons (pe_make T.mk_Ratio G_Ratio_init (hr.mono (by decide)) rfl T.m_Ratio T.b2_Ratio_init T.v2_Ratio_init pass0 (pa_cons pe_int (pa_cons pe_int pa_nil))) pa_nil)) (nomark _))))))), ?_⟩
    obtain ⟨dx, a, b, c, ep, _⟩ := id hp
    refine ⟨_, rfl, p, dx, _, rfl, ep, lf_covers _ _ _, _, rfl, p, p, l, l, n, rfl, hp, hp, gd, gd, by omega, by omega, fun b1 H1 i1 s1 => ?_⟩
    obtain rfl : b1 = true := i1.mpr (cov_refl _)
    refine ⟨true, rfl, iteT ?_⟩
    refine ⟨_, rfl, p, dx, _, rfl, s1 _ _ ep, p, l, n, rfl, hp.on s1, by omega, fun q H2 s2 cq => ?_⟩
    obtain ⟨ts, eq, htl, hts⟩ := cq
    have hl0 : 0 < l.length := List.length_pos_iff.mpr gd.ne
    have t0 : ts[0]? = some (ts[0]'(by omega)) := List.getElem?_eq_getElem (by omega)
    have g0 : l[0]? = some l[0] := List.getElem?_eq_getElem hl0
    obtain ⟨u, v, et, ru, _⟩ := hts 0 _ _ t0 g0
    obtain ⟨tu, bu, ⟨du, eu⟩, lu, vu, zu⟩ := id ru
    rw [gd.h0 _ g0] at vu
    obtain rfl : tu = 0 := (vq_zero lu.ne).mp vu
    refine ⟨q, _, 0, .ref (ts[0]'(by omega)), rfl, rfl, SqT.of eq, atI_nat (j := 0) (by rw [List.getElem?_map, t0]; rfl), _, _, 0, .ref u, rfl, rfl, SqT.of et, at0, u, du, _, rfl, eu, u, 0, bu, rfl, ⟨du, eu⟩, rfl, true, by decide, iteT ?_⟩
    have s12 := s1.trans s2
    refine ⟨_, rfl, p, rfl, .inr ⟨dx, _, s12 _ _ ep⟩, p, .int 5, l, ((5 : Int) : Rat), n, 3, rfl, hp.on s12, gd, NV.int 5 (by decide) (by decide), by decide, by omega, fun o3 H3 s3 r3 => ?_⟩
    refine ⟨_, rfl, p, rfl, fun x dx4 nx ndx ne => ⟨x, dx4, 10, 2, rfl, upd_same, by decide, (Sz.sm (n := 4) (t := 10) (b := 2) ⟨by decide, by decide⟩ (by decide)).2.big, fun H4 r4 e4 => ⟨rfl, ?_⟩⟩⟩
    have s4 := Same.made nx ndx e4
    have s14 := (s12.trans s3).trans s4
    have v5 : vq (10 : Int) 2 = ((5 : Int) : Rat) := by
      have h1 := vq_scale (t := 5) (b := 1) (c := 2) (by decide) (by decide)
      rw [vq_one] at h1
      exact h1
    have rv4 : RV T.f_Ratio H4 x ((5 : Int) : Rat) 4 := ⟨_, _, r4, Low.of (by decide), by rw [vq_low (by decide)]; exact v5, Sz.low (n := 4) ⟨by decide, by decide⟩ (by decide)⟩
    refine ⟨.inr ⟨dx, _, s14 _ _ ep⟩, p, .ref x, l, ((5 : Int) : Rat), n, 4, rfl, hp.on s14, gd, rv4.num, by decide, by omega, fun o5 H5 s5 r5 => ?_⟩
    have r3' := (r3.on s4).on s5
    refine oo_of r3' r5 ⟨o3, o5, _, _, _, _, rfl, r3', r5, ?_⟩
    rw [decide_eq_true rfl]
    exact k H5 (s14.trans s5)
end

/-! ### the law -/
section
variable {P : Program} {w : World} {K : PySem.W.Frag} {mg : Str → Option Value} {base : Heap}
def spLaw (K : PySem.W.Frag) : Sp := fun vs H Q _ => ∃ (a : Addr) (ns : List Int), vs = [.ref a] ∧ SqL K H a (ns.map V.int) ∧ ns.length ≤ 63 ∧ ∀ H', Q (.bl true) H'
/-- what the law draws for a line -/
structure Mine (cs : List (Rat × Rat)) (s : Rat) : Prop where
  cor : Cor cs
  len : cs.length ≤ 6
  fx : FxC (6 * EE) cs
  fs : Fit 50 s
  up : 0 ≤ s
theorem Mine.short {cs : List (Rat × Rat)} {s : Rat} (h : Mine cs s) : (bends (segs cs s)).length ≤ 6 := by
  have h1 := (bends_sub (segs cs s)).length_le
  rw [segs_len] at h1
  exact Nat.le_trans h1 h.len
theorem Mine.val {cs : List (Rat × Rat)} {s : Rat} (h : Mine cs s) : Val (bends (segs cs s)) 150 50 := by
  have hn := nice_of h.cor h.up (by have := h.len; omega)
  have hf := bends_fit (m := 50) h.cor.2.2 h.fx h.fs (by decide) (by decide)
  have hx : ∀ u ∈ bends (segs cs s), Fx (6 * EE) u.x := fun u hu => by
    have := ((bends_sub (segs cs s)).map Seg.x).subset (List.mem_map.mpr ⟨u, hu, rfl⟩)
    rw [segs_x] at this
    obtain ⟨c, hc, e⟩ := List.mem_map.mp this
    rw [← e]
    exact (h.fx c hc).1
  refine ⟨hn, can_bends _, hx, fun u hu => (hf u hu).2.1.mono (by decide), fun z hz => ?_, fun u hu => (hf u hu).2.2⟩
  obtain ⟨u, hu, e⟩ := ev_is (bends (segs cs s)) z hn.gd.ne
  rw [e]
  show Fit 150 (u.t + u.r * (z - u.x))
  exact ((hf u hu).2.1.add ((hf u hu).2.2.mul (hz.sub_fit (hx u hu) (m := 49) (by decide) (by decide)))).mono (by decide)
theorem Mine.last {cs : List (Rat × Rat)} {s : Rat} (h : Mine cs s) : lastr (bends (segs cs s)) = s := by rw [lastr_bends, lastr_segs h.cor.1]
/-- values in a list -/
def PVs (H : Hp) (L : Addr) (zs : List Rat) (n : Nat) : Prop := ∃ qs : List Addr, H L = some (.lst (qs.map V.ref)) ∧ qs.length = zs.length ∧ ∀ (i : Nat) q z, qs[i]? = some q → zs[i]? = some z → PV H q z n
theorem PVs.on {H H' : Hp} {L : Addr} {zs : List Rat} {n : Nat} (r : PVs H L zs n) (s : Same H H') : PVs H' L zs n := let ⟨qs, e, hl, h⟩ := r; ⟨qs, s _ _ e, hl, fun i q z h1 h2 => (h i q z h1 h2).on s⟩
theorem PVs.dp {H : Hp} {L : Addr} {zs : List Rat} {n : Nat} (r : PVs H L zs n) : Dp K H (.ref L) (.list (zs.map dR)) := by
  obtain ⟨qs, e, hl, h⟩ := r
  refine .lst (SqL.of e) ?_
  have key : ∀ (qs : List Addr) (zs : List Rat), qs.length = zs.length → (∀ (i : Nat) q z, qs[i]? = some q → zs[i]? = some z → PV H q z n) → DpAll K H (qs.map V.ref) (zs.map dR) := by
    intro qs
    induction qs with
    | nil =>
      intro zs hl _
      cases zs with
      | nil => exact .nil
      | cons z r => cases hl
    | cons q r ih =>
      intro zs hl h
      cases zs with
      | nil => cases hl
      | cons z r' => exact .cons (h 0 q z rfl rfl).dp (ih r' (by simpa using hl) fun i q z h1 h2 => h (i + 1) q z h1 h2)
  exact key qs zs hl h
theorem DSt.learn {G H H' : Hp} {s : Addr} {m : Nat} {p : Addr} {o : HO} (d : DSt G H s m) (sm : Same H H') (hp : H p = none) (hp' : H' p = some o) : DSt (upd G p o) H' s m := by
  obtain ⟨b, c, gs, cs, n, d, hn⟩ := d
  have n1 : s ≠ p := ne_of_none d.hs hp
  have n2 : b ≠ p := ne_of_none d.hb hp
  have n3 : c ≠ p := ne_of_none d.hc hp
  refine ⟨b, c, gs, cs, n, ⟨fun a u e => ?_, ?_, ?_, ?_, sm _ _ d.hs, sm _ _ d.hb, sm _ _ d.hc, d.ne, d.pos⟩, hn⟩
  · by_cases ha : a = p
    · subst ha; rw [upd_same] at e; rw [hp']; exact e
    · rw [upd_ne ha] at e; exact sm _ _ (d.same a u e)
  · rw [upd_ne n1]; exact d.fs
  · rw [upd_ne n2]; exact d.fb
  · rw [upd_ne n3]; exact d.fc
/-- a pair, in lowest terms or not -/
def PW (H : Hp) (q : Addr) (x : Rat) (n : Nat) : Prop := ∃ t b, PairAt H q t b ∧ b ≠ 0 ∧ vq t b = x ∧ Sz n t b
theorem PV.toW {H : Hp} {q : Addr} {x : Rat} {n : Nat} (r : PV H q x n) : PW H q x n := let ⟨t, b, h, l, e, z⟩ := r; ⟨t, b, h, l.ne, e, z⟩
def spPlusW : Sp := fun vs H Q _ => ∃ (q q' : Addr) (x x' : Rat) (n n' : Nat), vs = [.ref q, .ref q'] ∧ PW H q x n ∧ PW H q' x' n' ∧ n ≤ 3900 ∧ n' ≤ 3900 ∧ ResPV H (x + x') (n + n' + 1) Q
theorem okw_plus (T : Txt K mg) : FnOk P w K mg base CX0 2 T.f_plus T.d_plus ["_law_one", "_law_two"] spPlusW := (ok_plus T).imp fun vs H Q E ⟨p, y, x, x', n, n', e, ⟨t, b, r, l, ev, sz⟩, ⟨t', b', nm, l', ev', sz'⟩, hn, hn', k⟩ =>
  ⟨p, y, t, b, t', b', e, r, nm, (sz.sm hn).1, (sz.sm hn).2, (sz'.sm hn').1, (sz'.sm hn').2, l, l', fun q H' nq s rq => k q H' nq s ⟨_, _, rq, Low.of (Int.mul_ne_zero l l'), by rw [vq_low (Int.mul_ne_zero l l'), vq_add l l', ev, ev'], (sz.add sz').low (Int.mul_ne_zero l l')⟩⟩
theorem Told.put {G : Hp} {D o : Addr} {os : List Addr} {cs : List (Rat × Rat)} {s : Rat} {n : Nat} {ys : List V} (t : Told G o cs s n) (m : Mine cs s) (eD : G D = some (.lst (os.map V.ref))) (hT : ∀ (j : Nat) o, os[j]? = some o → ∃ cs s, Told G o cs s 50 ∧ Mine cs s) : Told (upd G D (.lst ys)) o cs s n := by
  obtain ⟨L, r, e, ⟨qs, eL, hl, h⟩, pr⟩ := t
  have hLD : L ≠ D := fun z => by
    subst z
    rw [eD] at eL
    injection eL with eL
    injection eL with eL
    have e0 : os = qs := (List.map_inj_right (f := V.ref) (fun a b hab => by injection hab)).mp eL
    subst e0
    have hl0 : 0 < cs.length := List.length_pos_iff.mpr m.cor.1
    have t0 : os[0]? = some (os[0]'(by omega)) := List.getElem?_eq_getElem (by omega)
    obtain ⟨u, v, et, pu, _⟩ := h 0 _ _ t0 (List.getElem?_eq_getElem hl0)
    obtain ⟨cs', s', ⟨L', r', e', ⟨qs', eL', _⟩, _⟩, _⟩ := hT 0 _ t0
    obtain ⟨tt, bb, eu, _⟩ := pu
    have eu : G u = some (.tup [.int tt, .int bb]) := eu
    rw [et] at e'
    injection e' with e'
    injection e' with e'
    injection e' with e' _
    injection e' with e'
    rw [e', eL'] at eu
    cases eu
  have no : ∀ {a : Addr} {xs : List V}, G a = some (.tup xs) → a ≠ D := fun {a xs} h z => by rw [z, eD] at h; cases h
  exact ⟨L, r, by rw [upd_ne (no e)]; exact e, ⟨qs, by rw [upd_ne hLD]; exact eL, hl, fun i t d h1 h2 => let ⟨u, v, e, a, b⟩ := h i t d h1 h2; ⟨u, v, by rw [upd_ne (no e)]; exact e, a.put eD, b.put eD⟩⟩, pr.put eD⟩
theorem fit_int {m : Nat} (t : Int) (h : t.natAbs < 2 ^ m) (hm : 1 ≤ m) : Fit m (t : Rat) := ⟨t, 1, by decide, (vq_one t).symm, h, Nat.lt_of_lt_of_le (show (1 : Int).natAbs < 2 ^ 1 by decide) (Nat.pow_le_pow_right (by decide) hm)⟩
theorem val_level : Val [⟨0, ((1 : Int) : Rat), 0⟩] 150 50 := by
  have f0 : ∀ m, 1 ≤ m → Fit m (0 : Rat) := fun m hm => fit_int (m := m) 0 (Nat.pow_pos (by decide)) hm
  have f1 : Fit 150 ((1 : Int) : Rat) := fit_int 1 (by decide) (by decide)
  have hn : Nice [⟨0, ((1 : Int) : Rat), 0⟩] := nice_of (cs := [(0, ((1 : Int) : Rat))]) (s := 0) ⟨by simp, fun c h => by obtain rfl := Option.some.inj h; exact ⟨rfl, by show (0 : Rat) ≤ ((1 : Int) : Rat); decide⟩, fun i c d _ h => by simp at h⟩ Rat.le_refl (by simp)
  refine ⟨hn, trivial, fun u hu => ?_, fun u hu => ?_, fun z _ => ?_, fun u hu => ?_⟩
  · rw [List.mem_singleton.mp hu]
    exact Fx.zero (by decide)
  · rw [List.mem_singleton.mp hu]
    exact f1
  · show Fit 150 (((1 : Int) : Rat) + 0 * (z - 0))
    rw [Rat.zero_mul, Rat.add_zero]
    exact f1
  · rw [List.mem_singleton.mp hu]
    exact f0 50 (by decide)
set_option maxHeartbeats 0 in
theorem ok_law {f : Addr} {fd : FuncData} (T : Txt K mg) (F : Fun K "law" "law" s_law f fd) : FnOk P w K mg base CX0 10 f fd ["_law_script"] (spLaw K) := by
  have G_start : FnOk P w K mg base CX0 1 T.f_start T.d_start ["_law_script"] (spStart K) := ok_start T
  have G_draw : FnOk P w K mg base CX0 1 T.f_draw T.d_draw ["_law_state", "_law_size"] spDraw := ok_draw T
  have G_plus : FnOk P w K mg base CX0 2 T.f_plus T.d_plus ["_law_one", "_law_two"] spPlusW := okw_plus T
  have G_times : FnOk P w K mg base CX0 2 T.f_times T.d_times ["_law_one", "_law_two"] spTimesV := okv_times T
  have G_corners : FnOk P w K mg base CX0 3 T.f_corners T.d_corners ["_law_state"] spCorners := ok_corners T
  have G_line : FnOk P w K mg base CX0 9 T.f_line T.d_line ["_law_state", "_law_corners_here", "_law_slope"] (spLLine T.f_Line T.f_Ratio) := ok_lline T
  have G_time : FnOk P w K mg base CX0 5 T.f_time T.d_time ["_law_corners_here", "_law_slope", "_law_load"] (spTime K) := ok_time T
  have G_is : FnOk P w K mg base CX0 3 T.f_is T.d_is ["_law_actual", "_law_pair"] (spIsV T.f_Ratio) := okv_is T
  have G_told : FnOk P w K mg base CX0 3 T.f_told T.d_told ["_law_line_here"] (spTold K T.f_Line T.f_Ratio) := ok_told T
  have G_plain : FnOk P w K mg base CX0 5 T.f_plain T.d_plain ["_law_corners_here", "_law_slope"] (spPlain K) := ok_plain T
  have G_asked : FnOk P w K mg base CX0 8 T.f_asked T.d_asked ["_law_line_here"] (spAsked T.f_Line T.f_Ratio) := ok_asked T
  have G_Line_call : FnOk P w K mg base CX0 7 T.f_Line_call T.d_Line_call ["self", "load"] (spLineCall T.f_Line T.f_Ratio) := ok_linecall T
  have G_Line_straight : FnOk P w K mg base CX0 9 T.f_Line_straight T.d_Line_straight ["cls", "base", "slope"] (spStraight K T.f_Line T.f_Ratio) := ok_straight T
  have G_Line_eq : FnOk P w K mg base CX0 3 T.f_Line_eq T.d_Line_eq ["self", "other"] (spLineEqB T.f_Line T.f_Ratio) := ok_lineeqB T
  have G_Line_add : FnOk P w K mg base CX0 9 T.f_Line_add T.d_Line_add ["self", "other"] (spAddM T.f_Line T.f_Ratio) := ok_addm T
  have G_Ratio_init : FnOk P w K mg base CX0 1 T.f_Ratio_init T.d_Ratio_init ["self", "top", "bottom"] (spInit T.f_Ratio) := ok_init T
  refine F.ok sc_law (fun vs H Q E h => ?_) (fun cdv A outer s H vs Q E hr h => ?_)
  · obtain ⟨a, ns, rfl, _⟩ := h
    rfl
  · obtain ⟨a, ns, rfl, hS, hlen, k⟩ := h
    refine ⟨_, (pss_cons (ps_set (i := 1) sc_law.nd rfl (Or.inr rfl) (pe_call G_start (hr.mono (by decide)) rfl T.m_start T.F_start.kp T.b_start .nil pass0 (pa_cons (pv 0) pa_nil)))
    (pss_cons (ps_setLc (i := 2) (own := [("_law_k", 16)]) (g := gName 16) (tt := tYes) rfl sc_law.nd rfl rfl (sw_true rfl rfl rfl (by decide +kernel)) (pi_range1 rfl T.n_range (pa_cons pe_int pa_nil)) (blkOk_by (N := ["_law_script", "_law_state", "_law_told_here", "_law_a", "_law_b", "_law_c", "_law_total", "_law_loads", "_law_x", "_law_y", "_law_far", "_law_one", "_law_due", "_law_bends", "_law_rise", "_law_same", "_law_k", "_law_corner"]) (sc := defScope s_law) (by decide +kernel)) (fun _ _ _ _ _ => pg_name (i := 16) sc_law.nd rfl (Or.inl rfl)) (fun _ _ _ _ _ => pts_nil) (fun _ _ _ _ _ => (pe_call G_corners (hr.mono (by decide)) rfl T.m_corners T.F_corners.kp T.b_corners .nil pass0 (pa_cons (pv 1) pa_nil))))
    (pss_cons (ps_set (i := 3) sc_law.nd rfl (Or.inl rfl) (pe_call G_line (hr.mono (by decide)) rfl T.m_line T.F_line.kp T.b_line .nil pass0 (pa_cons (pv 1) (pa_cons (pe_ix ix_tup (pe_ix ix_list (pv 2) pe_int (fun _ _ => rfl)) pe_int (fun _ _ => rfl)) (pa_cons (pe_ix ix_tup (pe_ix ix_list (pv 2) pe_int (fun _ _ => rfl)) pe_int (fun _ _ => rfl)) pa_nil)))))
    (pss_cons (ps_set (i := 4) sc_law.nd rfl (Or.inl rfl) (pe_call G_line (hr.mono (by decide)) rfl T.m_line T.F_line.kp T.b_line .nil pass0 (pa_cons (pv 1) (pa_cons (pe_ix ix_tup (pe_ix ix_list (pv 2) pe_int (fun _ _ => rfl)) pe_int (fun _ _ => rfl)) (pa_cons (pe_ix ix_tup (pe_ix ix_list (pv 2) pe_int (fun _ _ => rfl)) pe_int (fun _ _ => rfl)) pa_nil)))))
    (pss_cons (ps_set (i := 5) sc_law.nd rfl (Or.inl rfl) (pe_call G_line (hr.mono (by decide)) rfl T.m_line T.F_line.kp T.b_line .nil pass0 (pa_cons (pv 1) (pa_cons (pe_ix ix_tup (pe_ix ix_list (pv 2) pe_int (fun _ _ => rfl)) pe_int (fun _ _ => rfl)) (pa_cons (pe_ix ix_tup (pe_ix ix_list (pv 2) pe_int (fun _ _ => rfl)) pe_int (fun _ _ => rfl)) pa_nil)))))
    (C8.pss_cut (ps_if (PW.pt (pw_and (pt_cmpR op_eq (pe_call G_draw (hr.mono (by decide)) rfl T.m_draw T.F_draw.kp T.b_draw .nil pass0 (pa_cons (pv 1) (pa_cons pe_int pa_nil))) pe_int (nomark _)) (pw_and1 (pt_not (pt_val (pe_call G_asked (hr.mono (by decide)) rfl T.m_asked T.F_asked.kp T.b_asked .nil pass0 (pa_cons (pv 3) pa_nil)))))))
      (pss_one (ps_ret pe_bl))
      pss_nil)
    (pss_cons (ps_set (i := 6) sc_law.nd rfl (Or.inl rfl) (pe_op (op_nn (nm := "add") rfl T.on_Line_add G_Line_add (hr.mono (by decide)) T.b_Line_add pass0) (pe_op (op_nn (nm := "add") rfl T.on_Line_add G_Line_add (hr.mono (by decide)) T.b_Line_add pass0) (pv 3) (pv 4)) (pv 5)))
    (pss_cons (ps_set (i := 7) sc_law.nd rfl (Or.inr rfl) (pe_lc (own := [("_law_corner", 17)]) (g := gName 17) (tt := tYes) rfl sc_law.nd (pi_list (pe_op op_cat (pe_op op_cat (pe_ix ix_tup (pe_ix ix_list (pv 2) pe_int (fun _ _ => rfl)) pe_int (fun _ _ => rfl)) (pe_ix ix_tup (pe_ix ix_list (pv 2) pe_int (fun _ _ => rfl)) pe_int (fun _ _ => rfl))) (pe_ix ix_tup (pe_ix ix_list (pv 2) pe_int (fun _ _ => rfl)) pe_int (fun _ _ => rfl)))) (blkOk_by (N := ["_law_script", "_law_state", "_law_told_here", "_law_a", "_law_b", "_law_c", "_law_total", "_law_loads", "_law_x", "_law_y", "_law_far", "_law_one", "_law_due", "_law_bends", "_law_rise", "_law_same", "_law_k", "_law_corner"]) (sc := defScope s_law) (by decide +kernel)) (fun _ _ _ _ _ => pg_name (i := 17) sc_law.nd rfl (Or.inl rfl)) (fun _ _ _ _ _ => pts_nil) (fun _ _ _ _ _ => (pe_ix (show IxR _ (rIxT K) from ix_tup) (pv 17) pe_int (fun _ _ => rfl)))))
    (pss_cons (ps_par (i := 8) (j := 9) (by rfl) sc_law.nd rfl rfl (by decide) rfl rfl (pa_cons (pe_ix ix_list (pv 7) (pe_call G_draw (hr.mono (by decide)) rfl T.m_draw T.F_draw.kp T.b_draw .nil pass0 (pa_cons (pv 1) (pa_cons (pe_callB call_len_seq (by rfl) T.n_len (by decide +kernel) (pa_cons (pv 7) pa_nil)) pa_nil))) (fun _ _ => rfl)) (pa_cons (pe_ix ix_list (pv 7) (pe_call G_draw (hr.mono (by decide)) rfl T.m_draw T.F_draw.kp T.b_draw .nil pass0 (pa_cons (pv 1) (pa_cons (pe_callB call_len_seq (by rfl) T.n_len (by decide +kernel) (pa_cons (pv 7) pa_nil)) pa_nil))) (fun _ _ => rfl)) pa_nil)) (by rfl))
    (pss_cons (ps_set (i := 10) sc_law.nd rfl (Or.inl rfl) (pe_call G_plus (hr.mono (by decide)) rfl T.m_plus T.F_plus.kp T.b_plus .nil pass0 (pa_cons (pe_call G_plus (hr.mono (by decide)) rfl T.m_plus T.F_plus.kp T.b_plus .nil pass0 (pa_cons (pv 8) (pa_cons (pv 9) pa_nil))) (pa_cons (pe_tup (pa_cons (pe_op op_add pe_int (pe_call G_draw (hr.mono (by decide)) rfl T.m_draw T.F_draw.kp T.b_draw .nil pass0 (pa_cons (pv 1) (pa_cons pe_int pa_nil)))) (pa_cons pe_int pa_nil))) pa_nil))))
    (pss_cons (ps_set (i := 7) sc_law.nd rfl (Or.inr rfl) (pe_op op_cat (pv 7) (pe_lst (pa_cons (pe_call G_times (hr.mono (by decide)) rfl T.m_times T.F_times.kp T.b_times .nil pass0 (pa_cons (pe_call G_plus (hr.mono (by decide)) rfl T.m_plus T.F_plus.kp T.b_plus .nil pass0 (pa_cons (pv 8) (pa_cons (pv 9) pa_nil))) (pa_cons (pe_tup (pa_cons pe_int (pa_cons pe_int pa_nil))) pa_nil))) (pa_cons (pv 10) pa_nil)))))
    (C8.pss_cut (ps_for PassesOwn.never rfl (pi_list (pv 7)) (pg_name (i := 11) sc_law.nd rfl (Or.inl rfl))
      (pss_cons (ps_set (i := 12) sc_law.nd rfl (Or.inl rfl) (pe_tup (pa_cons pe_int (pa_cons pe_int pa_nil))))
    (C8.pss_cut (ps_for PassesOwn.never rfl (pi_list (pv 2)) (pg_tup rfl (pgs_cons (pg_name (i := 13) sc_law.nd rfl (Or.inl rfl)) (pgs_cons (pg_name (i := 14) sc_law.nd rfl (Or.inl rfl)) pgs_nil)))
      (pss_one (ps_set (i := 12) sc_law.nd rfl (Or.inl rfl) (pe_call G_plus (hr.mono (by decide)) rfl T.m_plus T.F_plus.kp T.b_plus .nil pass0 (pa_cons (pv 12) (pa_cons (pe_call G_time (hr.mono (by decide)) rfl T.m_time T.F_time.kp T.b_time .nil pass0 (pa_cons (pv 13) (pa_cons (pv 14) (pa_cons (pv 11) pa_nil)))) pa_nil))))))
    (pss_one (ps_if (pt_not (pt_val (pe_call G_is (hr.mono (by decide)) rfl T.m_is T.F_is.kp T.b_is .nil pass0 (pa_cons (StX.pe_callO (pv 6) T.co_Line (G_Line_call.raw T.b_Line_call .nil) (hr.mono (by decide)) pass0 (pa_cons (pe_make T.mk_Ratio G_Ratio_init (hr.mono (by decide)) rfl T.m_Ratio T.b2_Ratio_init T.v2_Ratio_init pass0 (pa_cons (pe_ix ix_tup (pv 11) pe_int (fun _ _ => rfl)) (pa_cons (pe_ix ix_tup (pv 11) pe_int (fun _ _ => rfl)) pa_nil))) pa_nil)) (pa_cons (pv 12) pa_nil)))))
      (pss_one (ps_ret pe_bl))
      pss_nil)))))
    (pss_cons (ps_asg (pe_call G_told (hr.mono (by decide)) rfl T.m_told T.F_told.kp T.b_told .nil pass0 (pa_cons (pv 6) pa_nil)) (pg_tup rfl (pgs_cons (pg_name (i := 13) sc_law.nd rfl (Or.inl rfl)) (pgs_cons (pg_name (i := 14) sc_law.nd rfl (Or.inl rfl)) pgs_nil))))
    (C8.pss_cut (ps_if (pt_cmpR op_lt (pe_callB call_len_seq (by rfl) T.n_len (by decide +kernel) (pa_cons (pv 13) pa_nil)) pe_int (nomark _))
      (pss_cons (ps_set (i := 15) sc_law.nd rfl (Or.inl rfl) (pe_call G_line (hr.mono (by decide)) rfl T.m_line T.F_line.kp T.b_line .nil pass0 (pa_cons (pv 1) (pa_cons (pv 13) (pa_cons (pv 14) pa_nil)))))
    (pss_one (ps_if (PW.pt (pw_or (pt_cmpR (ne_own T.none_Line G_Line_eq (hr.mono (by decide)) T.b_Line_eq pass0) (pv 6) (pv 15) (nomark _)) (pw_or1 (pt_cmpR (ne_own T.none_Line G_Line_eq (hr.mono (by decide)) T.b_Line_eq pass0) (pv 15) (pv 6) (nomark _)))))
      (pss_one (ps_ret pe_bl))
      pss_nil)))
      pss_nil)
    (pss_cons (ps_if (PW.pt (pw_or (pt_cmpR (op_neD hr.units) (pe_call G_plain (hr.mono (by decide)) rfl T.m_plain T.F_plain.kp T.b_plain .nil pass0 (pa_cons (pv 13) (pa_cons (pv 14) pa_nil))) (pv 13) (nomark _)) (pw_or1 (pt_cmpR (op_neD hr.units) (pv 14) (pe_call G_plus (hr.mono (by decide)) rfl T.m_plus T.F_plus.kp T.b_plus .nil pass0 (pa_cons (pe_call G_plus (hr.mono (by decide)) rfl T.m_plus T.F_plus.kp T.b_plus .nil pass0 (pa_cons (pe_ix ix_tup (pe_ix ix_list (pv 2) pe_int (fun _ _ => rfl)) pe_int (fun _ _ => rfl)) (pa_cons (pe_ix ix_tup (pe_ix ix_list (pv 2) pe_int (fun _ _ => rfl)) pe_int (fun _ _ => rfl)) pa_nil))) (pa_cons (pe_ix ix_tup (pe_ix ix_list (pv 2) pe_int (fun _ _ => rfl)) pe_int (fun _ _ => rfl)) pa_nil))) (nomark _)))))
      (pss_one (ps_ret pe_bl))
      pss_nil)
    (pss_cons (ps_if (PW.pt (pw_or (pt_cmpR (op_neD hr.units) (pe_lc (own := [("_law_corner", 17)]) (g := gName 17) rfl sc_law.nd (pi_list (pv 13)) (blkOk_by (N := ["_law_script", "_law_state", "_law_told_here", "_law_a", "_law_b", "_law_c", "_law_total", "_law_loads", "_law_x", "_law_y", "_law_far", "_law_one", "_law_due", "_law_bends", "_law_rise", "_law_same", "_law_k", "_law_corner"]) (sc := defScope s_law) (by decide +kernel)) (fun _ _ _ _ _ => pg_name (i := 17) sc_law.nd rfl (Or.inl rfl)) (fun _ _ _ _ _ => pts_one (pt_cmpR (show OpR _ _ (rNotInD K) from op_notInR hr) (pe_ix (show IxR _ (rIxT K) from ix_tup) (pv 17) pe_int (fun _ _ => rfl)) (pv 7) rfl)) (fun _ _ _ _ _ => (pe_ix (show IxR _ (rIxT K) from ix_tup) (pv 17) pe_int (fun _ _ => rfl)))) (pe_lst pa_nil) (nomark _)) (pw_or1 (pt_cmpR (ne_own T.none_Line G_Line_eq (hr.mono (by decide)) T.b_Line_eq pass0) (pe_op (op_nn (nm := "add") rfl T.on_Line_add G_Line_add (hr.mono (by decide)) T.b_Line_add pass0) (pv 3) (pv 4)) (pe_op (op_nn (nm := "add") rfl T.on_Line_add G_Line_add (hr.mono (by decide)) T.b_Line_add pass0) (pv 4) (pv 3)) (nomark _)))))
      (pss_one (ps_ret pe_bl))
      pss_nil)
    (pss_cons (ps_if (PW.pt (pw_or (pt_cmpR (ne_own T.none_Line G_Line_eq (hr.mono (by decide)) T.b_Line_eq pass0) (pv 6) (pe_op (op_nn (nm := "add") rfl T.on_Line_add G_Line_add (hr.mono (by decide)) T.b_Line_add pass0) (pv 5) (pe_op (op_nn (nm := "add") rfl T.on_Line_add G_Line_add (hr.mono (by decide)) T.b_Line_add pass0) (pv 4) (pv 3))) (nomark _)) (pw_or (pt_cmpR (ne_own T.none_Line G_Line_eq (hr.mono (by decide)) T.b_Line_eq pass0) (pv 6) (pe_op (op_nn (nm := "add") rfl T.on_Line_add G_Line_add (hr.mono (by decide)) T.b_Line_add pass0) (pe_op (op_nn (nm := "add") rfl T.on_Line_add G_Line_add (hr.mono (by decide)) T.b_Line_add pass0) (pv 3) (pv 5)) (pv 4)) (nomark _)) (pw_or1 (pt_cmpR (cmp_own T.a_Line_eq T.i_Line_eq G_Line_eq (hr.mono (by decide)) T.b_Line_eq pass0) (pv 6) (pe_op (op_nn (nm := "add") rfl T.on_Line_add G_Line_add (hr.mono (by decide)) T.b_Line_add pass0) (pv 6) (ClX.pe_cmeth (pe_glob (v := .ref T.f_Line) rfl T.m_Line rfl) T.cr_Line T.cm_Line_straight (G_Line_straight.raw T.b1_Line_straight T.v1_Line_straight) (hr.mono (by decide)) pass0 (pa_cons pe_int pa_nil))) (nomark _))))))
      (pss_one (ps_ret pe_bl))
      pss_nil)
    (pss_one (ps_ret (pe_cmpR (op_eqD hr.units) (pe_call G_told (hr.mono (by decide)) rfl T.m_told T.F_told.kp T.b_told .nil pass0 (pa_cons (pv 3) pa_nil)) (pe_tup (pa_cons (pe_call G_plain (hr.mono (by decide)) rfl T.m_plain T.F_plain.kp T.b_plain .nil pass0 (pa_cons (pe_ix ix_tup (pe_ix ix_list (pv 2) pe_int (fun _ _ => rfl)) pe_int (fun _ _ => rfl)) (pa_cons (pe_ix ix_tup (pe_ix ix_list (pv 2) pe_int (fun _ _ => rfl)) pe_int (fun _ _ => rfl)) pa_nil))) (pa_cons (pe_ix ix_tup (pe_ix ix_list (pv 2) pe_int (fun _ _ => rfl)) pe_int (fun _ _ => rfl)) pa_nil))) (nomark _))))))))))))))))))))), ?_⟩
    refine ⟨_, rfl, a, ns, rfl, hS, hlen, fun st H1 d1 => ?_⟩
    -- three told lines
    refine ⟨3, rfl, by decide, by decide, fun D nD => ?_⟩
    refine lc_range (lo := 0) (n := 3) (fun i H' => ∃ (G' : Hp) (os : List Addr), DSt G' H' st (100 * i) ∧ Same H G' ∧ G' D = some (.lst (os.map V.ref)) ∧ os.length = i ∧ ∀ j o, os[j]? = some o → ∃ cs s, Told G' o cs s 50 ∧ Mine cs s) ⟨_, [], d1.new nD, same_upd (d1.free nD), upd_same, rfl, fun j o h => absurd (List.getElem?_eq_some_iff.mp h).1 (Nat.not_lt_zero _)⟩ ?_ ?_
    · intro i H' hi ⟨G2, os, d2, s2, eD, hol, hT⟩
      refine ⟨rfl, _, rfl, st, _, G2, rfl, d2, by omega, fun o L r cs s H3 G3 s3 d3 eo hC hcor hl6 fC pr hs => ?_⟩
      have eD3 := s3 _ _ eD
      refine ⟨os.map V.ref, d3.same _ _ eD3, small1000 (by rw [List.length_map]; omega), upd G3 D (.lst (os.map V.ref ++ [V.ref o])), os ++ [o], (d3.put eD3).mono (by omega), same_mut (s2.trans s3) (d1.free nD), by rw [upd_same, List.map_append]; rfl, by rw [List.length_append, hol]; rfl, fun j o' h => ?_⟩
      have hT3 : ∀ (j : Nat) o, os[j]? = some o → ∃ cs s, Told G3 o cs s 50 ∧ Mine cs s := fun j o h => let ⟨cs, x, t, m⟩ := hT j o h; ⟨cs, x, t.on s3, m⟩
      have mn : Mine cs s := ⟨hcor, hl6, fC, pr.to, hs⟩
      by_cases hj : j < os.length
      · rw [List.getElem?_append_left hj] at h
        obtain ⟨cs', x, t, m⟩ := hT3 j o' h
        exact ⟨cs', x, t.put m eD3 hT3, m⟩
      · have hj' := (List.getElem?_eq_some_iff.mp h).1
        rw [List.length_append, List.length_singleton] at hj'
        rw [List.getElem?_append_right (by omega), show j - os.length = 0 by omega] at h
        obtain rfl := Option.some.inj h
        exact ⟨cs, s, Told.put ⟨L, r, eo, hC, pr⟩ mn eD3 hT3, mn⟩
    rintro H2 ⟨G2, os, d2, s2, eD, hol, hT⟩
    obtain ⟨o0, o1, o2, rfl⟩ : ∃ o0 o1 o2, os = [o0, o1, o2] := by
      match os, hol with
      | [a, b, c], _ => exact ⟨a, b, c, rfl⟩
    obtain ⟨cs0, x0, t0, m0⟩ := hT 0 o0 rfl
    obtain ⟨cs1, x1, t1, m1⟩ := hT 1 o1 rfl
    obtain ⟨cs2, x2, t2, m2⟩ := hT 2 o2 rfl
    have eD : G2 D = some (.lst [V.ref o0, .ref o1, .ref o2]) := eD
    have d2 : DSt G2 H2 st 300 := d2.mono (by decide)
    clear hT s2 nD d1 hol
    obtain ⟨L0, r0, e0, c0, p0⟩ := id t0
    refine ⟨_, rfl, _, rfl, D, _, 0, .ref o0, rfl, rfl, SqL.of (d2.same _ _ eD), rfl, o0, _, 0, .ref L0, rfl, rfl, SqT.of (d2.same _ _ e0), at0, _, rfl, D, _, 0, .ref o0, rfl, rfl, SqL.of (d2.same _ _ eD), rfl, o0, _, 1, .ref r0, rfl, rfl, SqT.of (d2.same _ _ e0), at1, st, L0, r0, cs0, x0, 50, 300, G2, rfl, d2, c0, m0.cor, p0, m0.up, m0.len, by decide, by decide, fun pa H3 G3 s3 d3 la => ?_⟩
    clear e0 c0 p0
    have d3 : DSt G3 H3 st 330 := d3
    have eD := s3 _ _ eD
    have t0 := t0.on s3
    have t1 := t1.on s3
    have t2 := t2.on s3
    obtain ⟨L1, r1, e1, c1, p1⟩ := id t1
    refine ⟨_, rfl, _, rfl, D, _, 1, .ref o1, rfl, rfl, SqL.of (d3.same _ _ eD), rfl, o1, _, 0, .ref L1, rfl, rfl, SqT.of (d3.same _ _ e1), at0, _, rfl, D, _, 1, .ref o1, rfl, rfl, SqL.of (d3.same _ _ eD), rfl, o1, _, 1, .ref r1, rfl, rfl, SqT.of (d3.same _ _ e1), at1, st, L1, r1, cs1, x1, 50, 330, G3, rfl, d3, c1, m1.cor, p1, m1.up, m1.len, by decide, by decide, fun pb H4 G4 s4 d4 lb => ?_⟩
    clear e1 c1 p1
    have d4 : DSt G4 H4 st 360 := d4
    have eD := s4 _ _ eD
    have t0 := t0.on s4
    have t1 := t1.on s4
    have t2 := t2.on s4
    have la := la.on s4
    obtain ⟨L2, r2, e2, c2, p2⟩ := id t2
    refine ⟨_, rfl, _, rfl, D, _, 2, .ref o2, rfl, rfl, SqL.of (d4.same _ _ eD), rfl, o2, _, 0, .ref L2, rfl, rfl, SqT.of (d4.same _ _ e2), at0, _, rfl, D, _, 2, .ref o2, rfl, rfl, SqL.of (d4.same _ _ eD), rfl, o2, _, 1, .ref r2, rfl, rfl, SqT.of (d4.same _ _ e2), at1, st, L2, r2, cs2, x2, 50, 360, G4, rfl, d4, c2, m2.cor, p2, m2.up, m2.len, by decide, by decide, fun pc H5 G5 s5 d5 lc => ?_⟩
    clear e2 c2 p2
    have d5 : DSt G5 H5 st 390 := d5
    have eD := s5 _ _ eD
    have t0 := t0.on s5
    have t1 := t1.on s5
    have t2 := t2.on s5
    have v0 := m0.val
    have v1 := m1.val
    have v2 := m2.val
    have la := (la.on s5).fit (v0.fit (k := 150) (by decide) (by decide) (by decide))
    have lb := (lb.on s5).fit (v1.fit (k := 150) (by decide) (by decide) (by decide))
    have lc := lc.fit (v2.fit (k := 150) (by decide) (by decide) (by decide))
    have h0 := m0.short
    have h1 := m1.short
    have h2 := m2.short
    have y0 := m0.last
    have y1 := m1.last
    have y2 := m2.last
    clear s3 s4 s5 d2 d3 d4
    refine ⟨fun σ H' => σ = [some (.ref a), some (.ref st), some (.ref D), some (.ref pa), some (.ref pb), some (.ref pc), none, none, none, none, none, none, none, none, none, none, none, none] ∧ DSt G5 H' st 400, ?_, ?_⟩
    · refine ⟨_, rfl, _, st, _, 2, rfl, d5, by decide, by decide, by decide, fun r6 H6 r60 r61 d6 => ?_⟩
      refine ⟨rfl, _, rfl, ite2 (fun _ => ?_) fun _ => ?_⟩
      · refine ⟨_, rfl, pa, _, 150, rfl, la.on d6.same, v0.nice.gd, by omega, by decide, fun H7 s7 => ⟨true, rfl, iteF ?_⟩⟩
        exact ⟨rfl, (d6.on s7).mono (by decide)⟩
      · exact ⟨rfl, d6.mono (by decide)⟩
    clear d5
    rintro σ H6 ⟨rfl, d6⟩
    -- the total
    obtain ⟨dxa, aa, ba, ca, ea, _⟩ := id la
    obtain ⟨dxb, ab, bb, cb, eb, _⟩ := id lb
    obtain ⟨dxc, ac, bc, cc, ec, _⟩ := id lc
    have sz : ∀ {l l' : List Seg} {zs : List Rat}, zs.length ≤ l.length + l'.length → (bends (segs (sumC l l' zs) (lastr l + lastr l'))).length ≤ l.length + l'.length := fun {l l' zs} hz => by
      have h1 := (bends_sub (segs (sumC l l' zs) (lastr l + lastr l'))).length_le
      rw [segs_len] at h1
      unfold sumC at h1
      rw [List.length_map] at h1
      exact Nat.le_trans h1 hz
    refine ⟨_, rfl, _, rfl, pa, dxa, _, pb, dxb, _, rfl, rfl, d6.same _ _ ea, d6.same _ _ eb, pa, pb, _, _, 150, 301, rfl, la.on d6.same, lb.on d6.same, v0.nice, v1.nice, by omega, by decide, by decide, by decide, v0.sum_fit v1 (by decide), (v0.last.add v1.last).mono (by decide), fun p7 zs7 H7 s7 bo7 hz7 l7 => ?_⟩
    have v7 := v0.add v1 bo7 (by omega)
    have l7 := l7.fit (v7.fit (k := 301) (by decide) (by decide) (by decide))
    have h7 := sz hz7
    obtain ⟨dx7, a7, b7, c7, e7, _⟩ := id l7
    have d7 := d6.on s7
    refine ⟨_, rfl, p7, dx7, _, pc, dxc, _, rfl, rfl, e7, d7.same _ _ ec, p7, pc, _, _, 301, 452, rfl, l7, (lc.on d7.same).fit (v2.fit (by decide) (by decide) (by decide)), v7.nice, v2.nice, by omega, by decide, by decide, by decide, v7.sum_fit v2 (by decide), (v7.last.add v2.last).mono (by decide), fun p8 zs8 H8 s8 bo8 hz8 l8 => ?_⟩
    have v8 := v7.add v2 bo8 (by omega)
    have l8 := l8.fit (v8.fit (k := 452) (by decide) (by decide) (by decide))
    have h8 := sz hz8
    have d8 := d7.on s8
    obtain ⟨tot, v8, l8, h8, ev8, y8, hx8⟩ : ∃ tot : List Seg, Val tot 452 152 ∧ LineAt T.f_Line T.f_Ratio H8 p8 tot 452 ∧ tot.length ≤ 18 ∧ (∀ z, 0 ≤ z → ev tot z = 0 + ev (segs cs0 x0) z + ev (segs cs1 x1) z + ev (segs cs2 x2) z) ∧ lastr tot = x0 + x1 + x2 ∧ ∀ u ∈ tot, ∃ c ∈ cs0 ++ cs1 ++ cs2, c.1 = u.x := by
      refine ⟨_, v8, l8, by omega, fun z hz => ?_, ?_, fun u hu => ?_⟩
      · rw [bo8.ev' v7.nice v2.nice hz, bo7.ev' v0.nice v1.nice hz, ev_bends (segs_chn cs0 x0 m0.cor.2.2), ev_bends (segs_chn cs1 x1 m1.cor.2.2), ev_bends (segs_chn cs2 x2 m2.cor.2.2)]
        grind
      · rw [lastr_bends, lastr_segs (bo8.cor v7.nice v2.nice).1, lastr_bends, lastr_segs (bo7.cor v0.nice v1.nice).1, y0, y1, y2]
      · have from_ : ∀ (cs : List (Rat × Rat)) (s z : Rat), z ∈ (bends (segs cs s)).map Seg.x → ∃ c ∈ cs, c.1 = z := fun cs s z h => by
          have := ((bends_sub (segs cs s)).map Seg.x).subset h
          rw [segs_x] at this
          obtain ⟨c, hc, e⟩ := List.mem_map.mp this
          exact ⟨c, hc, e⟩
        have hsum : ∀ (l l' : List Seg) (zs : List Rat) (z : Rat), Both l l' zs → z ∈ (bends (segs (sumC l l' zs) (lastr l + lastr l'))).map Seg.x → z ∈ l.map Seg.x ∨ z ∈ l'.map Seg.x := fun l l' zs z b h => by
          obtain ⟨c, hc, e⟩ := from_ _ _ z h
          unfold sumC at hc
          obtain ⟨w, hw, e2⟩ := List.mem_map.mp hc
          rw [← e, ← e2]
          exact (b.mem w).mp hw
        rcases hsum _ _ _ _ bo8 (List.mem_map.mpr ⟨u, hu, rfl⟩) with h | h
        · rcases hsum _ _ _ _ bo7 h with h | h
          · obtain ⟨c, hc, e⟩ := from_ _ _ _ h
            exact ⟨c, List.mem_append.mpr (.inl (List.mem_append.mpr (.inl hc))), e⟩
          · obtain ⟨c, hc, e⟩ := from_ _ _ _ h
            exact ⟨c, List.mem_append.mpr (.inl (List.mem_append.mpr (.inr hc))), e⟩
        · obtain ⟨c, hc, e⟩ := from_ _ _ _ h
          exact ⟨c, List.mem_append.mpr (.inr hc), e⟩
    clear bo7 bo8 hz7 hz8 v7 h7
    obtain ⟨G8, d8, sg8, nl8⟩ := d8.grow
    have l8 := l8.nl nl8
    have la := la.on sg8
    have lb := lb.on sg8
    have lc := lc.on sg8
    have t0 := t0.on sg8
    have t1 := t1.on sg8
    have t2 := t2.on sg8
    have eD := sg8 _ _ eD
    clear sg8 nl8 e7 l7 d7 s7 s8 d6 ea eb ec
    obtain ⟨L0, r0, e0, ⟨qs0, eL0, hl0, hq0⟩, p0⟩ := id t0
    obtain ⟨L1, r1, e1, ⟨qs1, eL1, hl1, hq1⟩, p1⟩ := id t1
    obtain ⟨L2, r2, e2, ⟨qs2, eL2, hl2, hq2⟩, p2⟩ := id t2
    have k0 := m0.len
    have k1 := m1.len
    have k2 := m2.len
    have zb : (100 : Nat) ≤ sizeLine := by decide
    refine ⟨_, rfl, D, _, 0, .ref o0, rfl, rfl, SqL.of (d8.same _ _ eD), rfl, o0, _, 0, .ref L0, rfl, rfl, SqT.of (d8.same _ _ e0), at0, _, rfl, D, _, 1, .ref o1, rfl, rfl, SqL.of (d8.same _ _ eD), rfl, o1, _, 0, .ref L1, rfl, rfl, SqT.of (d8.same _ _ e1), at0, ?_⟩
    refine ⟨L0, L1, _, _, rfl, rfl, d8.same _ _ eL0, d8.same _ _ eL1, by rw [List.length_map, List.length_map]; omega, fun R nR => ?_⟩
    have d9 := d8.new (o := .lst (qs0.map V.ref ++ qs1.map V.ref)) nR
    have s9 := same_upd (o := .lst (qs0.map V.ref ++ qs1.map V.ref)) (d8.free nR)
    refine ⟨_, rfl, D, _, 2, .ref o2, rfl, rfl, SqL.of (d9.same _ _ (s9 _ _ eD)), rfl, o2, _, 0, .ref L2, rfl, rfl, SqT.of (d9.same _ _ (s9 _ _ e2)), at0, ?_⟩
    refine ⟨R, L2, _, _, rfl, rfl, upd_same, d9.same _ _ (s9 _ _ eL2), by rw [List.length_append, List.length_map, List.length_map, List.length_map]; omega, fun R' nR' => ?_⟩
    have d10 := d9.new (o := .lst (qs0.map V.ref ++ qs1.map V.ref ++ qs2.map V.ref)) nR'
    have s10 := same_upd (o := .lst (qs0.map V.ref ++ qs1.map V.ref ++ qs2.map V.ref)) (d9.free nR')
    have eR' : (upd (upd G8 R (.lst (qs0.map V.ref ++ qs1.map V.ref))) R' (.lst (qs0.map V.ref ++ qs1.map V.ref ++ qs2.map V.ref))) R' = some (.lst ((qs0 ++ qs1 ++ qs2).map V.ref)) := by rw [upd_same, List.map_append, List.map_append]
    have s910 := s9.trans s10
    have la := la.on s910
    have lb := lb.on s910
    have lc := lc.on s910
    have l8 := l8.on s910
    have t0 := t0.on s910
    have t1 := t1.on s910
    have t2 := t2.on s910
    have eD := s910 _ _ eD
    have hqq : ∀ (i : Nat) t d, (qs0 ++ qs1 ++ qs2)[i]? = some t → (cs0 ++ cs1 ++ cs2)[i]? = some d → ∃ u v, (upd (upd G8 R (.lst (qs0.map V.ref ++ qs1.map V.ref))) R' (.lst (qs0.map V.ref ++ qs1.map V.ref ++ qs2.map V.ref))) t = some (.tup [.ref u, .ref v]) ∧ PV (upd (upd G8 R (.lst (qs0.map V.ref ++ qs1.map V.ref))) R' (.lst (qs0.map V.ref ++ qs1.map V.ref ++ qs2.map V.ref))) u d.1 50 := fun i t d ht hd => by
      have fin : ∀ {u v : Addr}, G8 t = some (.tup [.ref u, .ref v]) → PV G8 u d.1 50 → ∃ u v, (upd (upd G8 R (.lst (qs0.map V.ref ++ qs1.map V.ref))) R' (.lst (qs0.map V.ref ++ qs1.map V.ref ++ qs2.map V.ref))) t = some (.tup [.ref u, .ref v]) ∧ PV (upd (upd G8 R (.lst (qs0.map V.ref ++ qs1.map V.ref))) R' (.lst (qs0.map V.ref ++ qs1.map V.ref ++ qs2.map V.ref))) u d.1 50 := fun {u v} e p => ⟨u, v, s910 _ _ e, p.on s910⟩
      by_cases h1 : i < qs0.length
      · rw [List.getElem?_append_left (by rw [List.length_append]; omega), List.getElem?_append_left h1] at ht
        rw [List.getElem?_append_left (by rw [List.length_append]; omega), List.getElem?_append_left (by omega)] at hd
        obtain ⟨u, v, e, p, _⟩ := hq0 i t d ht hd
        exact fin e p
      · by_cases h2 : i < qs0.length + qs1.length
        · rw [List.getElem?_append_left (by rw [List.length_append]; omega), List.getElem?_append_right (by omega)] at ht
          rw [List.getElem?_append_left (by rw [List.length_append]; omega), List.getElem?_append_right (by omega), ← hl0] at hd
          obtain ⟨u, v, e, p, _⟩ := hq1 _ t d ht hd
          exact fin e p
        · rw [List.getElem?_append_right (by rw [List.length_append]; omega), List.length_append] at ht
          rw [List.getElem?_append_right (by rw [List.length_append]; omega), List.length_append, ← hl0, ← hl1] at hd
          obtain ⟨u, v, e, p, _⟩ := hq2 _ t d ht hd
          exact fin e p
    clear hq0 hq1 hq2 e0 e1 e2 p0 p1 p2
    revert d10 eR' la lb lc l8 t0 t1 t2 eD hqq
    generalize upd (upd G8 R _) R' _ = G10
    generalize upd (upd H8 R _) R' _ = H10
    intro d10 eR' la lb lc l8 t0 t1 t2 eD hqq
    have hll : (qs0 ++ qs1 ++ qs2).length = (cs0 ++ cs1 ++ cs2).length := by simp only [List.length_append]; omega
    have hl18 : (qs0 ++ qs1 ++ qs2).length ≤ 18 := by simp only [List.length_append]; omega
    have hl00 : 0 < (cs0 ++ cs1 ++ cs2).length := by
      have := List.length_pos_iff.mpr m0.cor.1
      simp only [List.length_append]
      omega
    have hfx : ∀ c ∈ cs0 ++ cs1 ++ cs2, Fx (6 * EE) c.1 := fun c hc => by
      rcases List.mem_append.mp hc with hc | hc
      · rcases List.mem_append.mp hc with hc | hc
        · exact (m0.fx c hc).1
        · exact (m1.fx c hc).1
      · exact (m2.fx c hc).1
    generalize hqs : qs0 ++ qs1 ++ qs2 = qs at eR' hqq hll hl18
    generalize hcs : cs0 ++ cs1 ++ cs2 = cs at hqq hll hl00 hfx hx8
    clear s9 s10 s910 d8 d9 nR nR' eL0 eL1 eL2
    refine ⟨R', rfl, ⟨_, SqL.of (d10.same _ _ eR')⟩, fun D7 nD7 => ?_⟩
    refine lc_list (K := K) (a := R') (xs := qs.map V.ref) (fun i H' => ∃ (G' : Hp) (us : List Addr), DSt G' H' st 400 ∧ Same G10 G' ∧ G' D7 = some (.lst (us.map V.ref)) ∧ us.length = i ∧ ∀ (j : Nat) q z, us[j]? = some q → (cs.map (·.1))[j]? = some z → PV G' q z 50) ⟨_, [], d10.new nD7, same_upd (d10.free nD7), upd_same, rfl, fun j q z h => absurd (List.getElem?_eq_some_iff.mp h).1 (Nat.not_lt_zero _)⟩ (fun i H' _ ⟨G', us, d', sG, _⟩ => SqL.of (d'.same _ _ (sG _ _ eR'))) ?_ ?_
    · intro i x H11 hi ⟨G11, us, d11, s11, eD7, hul, hP⟩
      rw [List.getElem?_map] at hi
      cases ht : qs[i]? with
      | none => rw [ht] at hi; cases hi
      | some t =>
        rw [ht] at hi
        obtain rfl := Option.some.inj hi
        have hil : i < cs.length := by rw [← hll]; exact (List.getElem?_eq_some_iff.mp ht).1
        have ec : cs[i]? = some cs[i] := List.getElem?_eq_getElem hil
        obtain ⟨u, v, et, pu⟩ := hqq i t _ ht ec
        refine ⟨rfl, _, rfl, t, _, 0, .ref u, rfl, rfl, SqT.of (d11.same _ _ (s11 _ _ et)), at0, us.map V.ref, d11.same _ _ eD7, small1000 (by rw [List.length_map]; omega), upd G11 D7 (.lst (us.map V.ref ++ [V.ref u])), us ++ [u], d11.put eD7, same_mut s11 (d10.free nD7), by rw [upd_same, List.map_append]; rfl, by rw [List.length_append, hul]; rfl, fun j q z hq hz => ?_⟩
        by_cases hj : j < us.length
        · rw [List.getElem?_append_left hj] at hq
          exact (hP j q z hq hz).put eD7
        · have hj' := (List.getElem?_eq_some_iff.mp hq).1
          rw [List.length_append, List.length_singleton] at hj'
          have e1 : j = i := by omega
          subst e1
          rw [List.getElem?_append_right (by omega), show j - us.length = 0 by omega] at hq
          obtain rfl := Option.some.inj hq
          rw [List.getElem?_map, ec] at hz
          rw [← Option.some.inj hz]
          exact (pu.on s11).put eD7
    rintro H11 ⟨G11, us, d11, s11, eD7, hul, hP⟩
    rw [List.length_map] at hul
    have la := la.on s11
    have lb := lb.on s11
    have lc := lc.on s11
    have l8 := l8.on s11
    have t0 := t0.on s11
    have t1 := t1.on s11
    have t2 := t2.on s11
    have eD := s11 _ _ eD
    clear s11 hqq eR' d10 nD7
    have hus : us.length = cs.length := by omega
    -- two of the loads
    refine ⟨_, rfl, _, rfl, _, rfl, D7, _, rfl, .inl (SqL.of (d11.same _ _ eD7)), G11, st, 400, _, rfl, d11, by decide, by rw [List.length_map]; omega, by rw [List.length_map]; exact Int.lt_of_le_of_lt (show ((us.length : Nat) : Int) ≤ 18 by omega) (by decide), fun r12 H12 r120 r121 d12 => ?_⟩
    rw [List.length_map] at r121
    obtain ⟨j12, rfl⟩ : ∃ j : Nat, r12 = (j : Int) := ⟨r12.toNat, by omega⟩
    have ht12 : us[j12]? = some (us[j12]'(by omega)) := List.getElem?_eq_getElem (by omega)
    have hc12 : cs[j12]? = some (cs[j12]'(by omega)) := List.getElem?_eq_getElem (by omega)
    have px : PV G11 (us[j12]'(by omega)) (cs[j12]'(by omega)).1 50 := hP j12 _ _ ht12 (by rw [List.getElem?_map, hc12]; rfl)
    have fx := hfx _ (List.mem_of_getElem? hc12)
    refine ⟨D7, _, _, _, rfl, rfl, SqL.of (d12.same _ _ eD7), atI_nat (by rw [List.getElem?_map, ht12]; rfl), ?_⟩
    refine ⟨_, rfl, _, rfl, _, rfl, D7, _, rfl, .inl (SqL.of (d12.same _ _ eD7)), G11, st, 401, _, rfl, d12, by decide, by rw [List.length_map]; omega, by rw [List.length_map]; exact Int.lt_of_le_of_lt (show ((us.length : Nat) : Int) ≤ 18 by omega) (by decide), fun r13 H13 r130 r131 d13 => ?_⟩
    rw [List.length_map] at r131
    obtain ⟨j13, rfl⟩ : ∃ j : Nat, r13 = (j : Int) := ⟨r13.toNat, by omega⟩
    have ht13 : us[j13]? = some (us[j13]'(by omega)) := List.getElem?_eq_getElem (by omega)
    have hc13 : cs[j13]? = some (cs[j13]'(by omega)) := List.getElem?_eq_getElem (by omega)
    have py : PV G11 (us[j13]'(by omega)) (cs[j13]'(by omega)).1 50 := hP j13 _ _ ht13 (by rw [List.getElem?_map, hc13]; rfl)
    have fy := hfx _ (List.mem_of_getElem? hc13)
    refine ⟨D7, _, _, _, rfl, rfl, SqL.of (d13.same _ _ eD7), atI_nat (by rw [List.getElem?_map, ht13]; rfl), _, _, rfl, ?_⟩
    generalize us[j12]'(by omega) = qx at px
    generalize us[j13]'(by omega) = qy at py
    generalize (cs[j12]'(by omega)).1 = x at px fx
    generalize (cs[j13]'(by omega)).1 = y at py fy
    clear ht12 ht13 hc12 hc13
    have z2 : 2 ≤ sizeLine := by decide
    refine ⟨_, rfl, _, rfl, qx, qy, x, y, 50, 50, rfl, (px.on d13.same).toW, (py.on d13.same).toW, by decide, by decide, fun q14 H14 n14 s14 w14 => ?_⟩
    obtain ⟨G14, d14, sg14, nl14⟩ := (d13.on s14).grow
    have w14 := w14.nl nl14
    refine ⟨_, rfl, G14, st, _, 1000, rfl, d14, by decide, by decide, by decide, fun r15 H15 r150 r151 d15 => ?_⟩
    refine ⟨_, _, rfl, rfl, z2, fun T16 n16 => ?_⟩
    have s16 := same_upd (o := .tup [V.int (1 + r15), .int 3]) n16
    refine ⟨q14, T16, x + y, vq (1 + r15) 3, 101, 20, rfl, ((w14.on d15.same).on s16).toW, ⟨1 + r15, 3, upd_same, by decide, rfl, by show (1 + r15).natAbs < 2 ^ 20; omega, by decide⟩, by decide, by decide, fun q17 H17 n17 s17 w17 => ?_⟩
    have hfar : 0 ≤ x + y + vq (1 + r15) 3 := by
      have h1 := vq_nonneg (t := 1 + r15) (b := 3) (by omega) (by decide)
      have h2 := fx.nonneg
      have h3 := fy.nonneg
      grind
    generalize x + y + vq (1 + r15) 3 = far at w17 hfar
    obtain ⟨G17, d17, sg17, nl17⟩ := ((d15.on s16).on s17).grow
    have w17 := w17.nl nl17
    have s1117 := sg14.trans sg17
    have px := px.on s1117
    have py := py.on s1117
    refine ⟨_, rfl, _, rfl, _, rfl, qx, qy, x, y, 50, 50, rfl, (px.on d17.same).toW, (py.on d17.same).toW, by decide, by decide, fun q18 H18 n18 s18 w18 => ?_⟩
    refine ⟨z2, fun T19 n19 => ?_⟩
    have s19 := same_upd (o := .tup [V.int 1, .int 2]) n19
    refine ⟨q18, T19, x + y, vq 1 2, 101, 2, rfl, w18.on s19, ⟨1, 2, upd_same, ⟨by decide, by decide⟩, rfl, by decide, by decide⟩, by decide, by decide, fun q20 H20 n20 s20 w20 => ?_⟩
    have hmid : 0 ≤ (x + y) * vq 1 2 := by
      have h1 := vq_nonneg (t := 1) (b := 2) (by decide) (by decide)
      have h2 := fx.nonneg
      have h3 := fy.nonneg
      exact Rat.mul_nonneg (by grind) h1
    generalize (x + y) * vq 1 2 = mid at w20 hmid
    obtain ⟨G20, d20, sg20, nl20⟩ := (((d17.on s18).on s19).on s20).grow
    have w20 := w20.nl nl20
    refine ⟨_, rfl, z2, fun l21 n21 => ?_⟩
    have d21 := d20.new (o := .lst [V.ref q20, .ref q17]) n21
    have s21 := same_upd (o := .lst [V.ref q20, .ref q17]) (d20.free n21)
    have s1120 := s1117.trans sg20
    have s1121 := s1120.trans s21
    refine ⟨D7, l21, _, _, rfl, rfl, d21.same _ _ (s1121 _ _ eD7), upd_same, by rw [List.length_map]; show us.length + 2 ≤ sizeLine; omega, fun D22 n22 => ?_⟩
    have d22 := d21.new (o := .lst (us.map V.ref ++ [V.ref q20, .ref q17])) n22
    have s22 := same_upd (o := .lst (us.map V.ref ++ [V.ref q20, .ref q17])) (d21.free n22)
    have s1122 := s1121.trans s22
    have hzs : PVs (upd (upd G20 l21 (.lst [V.ref q20, .ref q17])) D22 (.lst (us.map V.ref ++ [V.ref q20, .ref q17]))) D22 (cs.map (·.1) ++ [mid, far]) 190 := by
      refine ⟨us ++ [q20, q17], by rw [upd_same, List.map_append]; rfl, by rw [List.length_append, List.length_append, List.length_map, hus]; rfl, fun i q z hq hz => ?_⟩
      by_cases hi : i < us.length
      · rw [List.getElem?_append_left hi] at hq
        rw [List.getElem?_append_left (by rw [List.length_map]; omega)] at hz
        exact ((hP i q z hq hz).on s1122).mono (by decide)
      · rw [List.getElem?_append_right (by omega)] at hq
        rw [List.getElem?_append_right (by rw [List.length_map]; omega), List.length_map, ← hus] at hz
        generalize i - us.length = j at hq hz
        match j, hq, hz with
        | 0, hq, hz =>
          obtain rfl := Option.some.inj hq
          obtain rfl := Option.some.inj hz
          exact (((w20.on s21).on s22)).mono (by decide)
        | 1, hq, hz =>
          obtain rfl := Option.some.inj hq
          obtain rfl := Option.some.inj hz
          exact ((((w17.on sg20).on s21).on s22)).mono (by decide)
        | j + 2, hq, _ => simp at hq
    have la := la.on s1122
    have lb := lb.on s1122
    have lc := lc.on s1122
    have l8 := l8.on s1122
    have t0 := t0.on s1122
    have t1 := t1.on s1122
    have t2 := t2.on s1122
    have eD := s1122 _ _ eD
    revert d22 hzs la lb lc l8 t0 t1 t2 eD
    generalize upd (upd G20 l21 _) D22 _ = G22
    generalize upd (upd H20 l21 _) D22 _ = H22
    intro d22 hzs la lb lc l8 t0 t1 t2 eD
    have d22 : DSt G22 H22 st 500 := d22.mono (by decide)
    have hz0 : ∀ z ∈ cs.map (·.1) ++ [mid, far], 0 ≤ z := fun z hz => by
      rcases List.mem_append.mp hz with h | h
      · obtain ⟨c, hc, rfl⟩ := List.mem_map.mp h
        exact (hfx c hc).nonneg
      · rcases List.mem_cons.mp h with rfl | h
        · exact hmid
        · rw [List.mem_singleton.mp h]
          exact hfar
    have hin : ∀ c ∈ cs, c.1 ∈ cs.map (·.1) ++ [mid, far] := fun c hc => List.mem_append.mpr (.inl (List.mem_map.mpr ⟨c, hc, rfl⟩))
    have hzl : (cs.map (·.1) ++ [mid, far]).length ≤ 20 := by
      rw [List.length_append, List.length_map]
      show cs.length + 2 ≤ 20
      omega
    generalize cs.map (·.1) ++ [mid, far] = zs at hzs hz0 hin hzl
    clear s1122 s1121 s1120 s1117 s22 s21 w20 w17 w18 w14 d21 d20 d17 d15 d14 d13 d12 d11 nl20 nl17 nl14 sg20 sg17 sg14 hP eD7 px py s20 s19 s18 s17 s16 s14 n22 n21 n20 n19 n18 n17 n16 n14 fx fy hmid hfar
    obtain ⟨qs9, eq9, hq9, hP9⟩ := id hzs
    refine ⟨fun σ H' => ∃ (x11 x12 x13 x14 : Option V), σ = [some (.ref a), some (.ref st), some (.ref D), some (.ref pa), some (.ref pb), some (.ref pc), some (.ref p8), some (.ref D22), some (.ref qx), some (.ref qy), some (.ref q17), x11, x12, x13, x14, none, none, none] ∧ Same H22 H', ?_, ?_⟩
    · refine ⟨_, rfl, D22, rfl, ⟨_, SqL.of (d22.same _ _ eq9)⟩, ?_⟩
      refine for_list (K := K) (a := D22) (xs := qs9.map V.ref) (fun i σ H' => ∃ (x11 x12 x13 x14 : Option V), σ = [some (.ref a), some (.ref st), some (.ref D), some (.ref pa), some (.ref pb), some (.ref pc), some (.ref p8), some (.ref D22), some (.ref qx), some (.ref qy), some (.ref q17), x11, x12, x13, x14, none, none, none] ∧ Same H22 H') ⟨none, none, none, none, rfl, Same.refl _⟩ (fun i σ H' _ ⟨_, _, _, _, _, sm⟩ => SqL.of (sm _ _ (d22.same _ _ eq9))) ?_ (fun σ H' h => h)
      rintro i x σ H23 hi ⟨x11, x12, x13, x14, rfl, s23⟩
      rw [List.getElem?_map] at hi
      obtain ⟨q, hq, rfl⟩ : ∃ q, qs9[i]? = some q ∧ V.ref q = x := by
        cases e : qs9[i]? with
        | none => rw [e] at hi; cases hi
        | some q => rw [e] at hi; exact ⟨q, rfl, Option.some.inj hi⟩
      have hil : i < zs.length := by rw [← hq9]; exact (List.getElem?_eq_some_iff.mp hq).1
      have hz : zs[i]? = some zs[i] := List.getElem?_eq_getElem hil
      have pz := hP9 i q _ hq hz
      have z0 := hz0 _ (List.mem_of_getElem? hz)
      generalize zs[i] = z at hz pz z0
      have sG := d22.same.trans s23
      refine ⟨z2, fun T24 n24 => ?_⟩
      have s24 := same_upd (o := .tup [V.int 0, .int 1]) n24
      have sg24 := sG.trans s24
      have p24 : PV (upd H23 T24 (.tup [V.int 0, .int 1])) T24 0 2 := ⟨0, 1, upd_same, Low.one 0, (vq_zero (by decide)).mpr rfl, by decide, by decide⟩
      have s2324 := s23.trans s24
      revert p24 sg24 s2324
      generalize upd H23 T24 _ = H24
      intro sg24 p24 s2324
      -- the due time
      refine ⟨fun σ H' => ∃ (x13 x14 : Option V) (q12 : Addr), σ = [some (.ref a), some (.ref st), some (.ref D), some (.ref pa), some (.ref pb), some (.ref pc), some (.ref p8), some (.ref D22), some (.ref qx), some (.ref qy), some (.ref q17), some (.ref q), some (.ref q12), x13, x14, none, none, none] ∧ Same H24 H' ∧ PV H' q12 (0 + ev (segs cs0 x0) z + ev (segs cs1 x1) z + ev (segs cs2 x2) z) 3900, ?_, ?_⟩
      · refine ⟨_, rfl, D, rfl, ⟨_, SqL.of (sg24 _ _ eD)⟩, ?_⟩
        refine for_list (K := K) (a := D) (xs := [V.ref o0, .ref o1, .ref o2]) (fun i σ H' => ∃ (x13 x14 : Option V) (q12 : Addr), σ = [some (.ref a), some (.ref st), some (.ref D), some (.ref pa), some (.ref pb), some (.ref pc), some (.ref p8), some (.ref D22), some (.ref qx), some (.ref qy), some (.ref q17), some (.ref q), some (.ref q12), x13, x14, none, none, none] ∧ Same H24 H' ∧ PV H' q12 ((([ev (segs cs0 x0) z, ev (segs cs1 x1) z, ev (segs cs2 x2) z] : List Rat).take i).foldl (· + ·) 0) (2 + 800 * i)) ⟨_, _, T24, rfl, Same.refl _, p24⟩ (fun i σ H' _ ⟨_, _, _, _, sm, _⟩ => SqL.of (sm _ _ (sg24 _ _ eD))) ?_ (fun σ H' ⟨y13, y14, q12, e, sm, pv⟩ => ⟨y13, y14, q12, e, sm, pv.mono (by show 2 + 800 * 3 ≤ 3900; decide)⟩)
        rintro i x σ H25 hi ⟨y13, y14, q12, rfl, s25, p12⟩
        have sg25 := sg24.trans s25
        have hi3 : i < 3 := (List.getElem?_eq_some_iff.mp hi).1
        obtain ⟨oi, ci, xi, rfl, ti, mi, hei⟩ : ∃ oi ci xi, x = V.ref oi ∧ Told G22 oi ci xi 50 ∧ Mine ci xi ∧ ([ev (segs cs0 x0) z, ev (segs cs1 x1) z, ev (segs cs2 x2) z] : List Rat)[i]? = some (ev (segs ci xi) z) := by
          match i, hi with
          | 0, hi => exact ⟨o0, cs0, x0, (Option.some.inj hi).symm, t0, m0, rfl⟩
          | 1, hi => exact ⟨o1, cs1, x1, (Option.some.inj hi).symm, t1, m1, rfl⟩
          | 2, hi => exact ⟨o2, cs2, x2, (Option.some.inj hi).symm, t2, m2, rfl⟩
          | i + 3, _ => omega
        obtain ⟨Li, ri, ei, cc, pr⟩ := id ti
        refine ⟨oi, _, rfl, SqT.of (sg25 _ _ ei), rfl, _, _, rfl, _, _, rfl, rfl, ?_⟩
        refine ⟨_, rfl, _, rfl, _, rfl, _, rfl, Li, ri, q, ci, xi, z, 50, 190, rfl, cc.on sg25, pr.on sg25, pz.on sg25, mi.cor, z0, by decide, by decide, by have := mi.len; omega, fun q26 H26 s26 p26 => ?_⟩
        have f26 : Fit 799 (ev (segs ci xi) z) := by
          have hb := bends_fit (m := 190) mi.cor.2.2 mi.fx (mi.fs.mono (by decide)) (by decide) (by decide)
          have := ev_fit mi.val.nice.gd.ne hb pz.to
          rw [ev_bends (segs_chn ci xi mi.cor.2.2)] at this
          exact this.mono (by decide)
        refine ⟨q12, q26, _, _, _, 799, rfl, (p12.on s26).toW, (p26.fit f26).toW, by omega, by decide, fun q27 H27 n27 s27 w27 => ?_⟩
        refine ⟨_, _, q27, rfl, (s25.trans s26).trans s27, ?_⟩
        rw [take_more hei, List.foldl_append]
        exact w27.mono (by omega)
      rintro σ H25 ⟨y13, y14, q12, rfl, s25, p12⟩
      have sg25 := sg24.trans s25
      obtain ⟨tz, bz, ez, loz, vz, szz⟩ := id pz
      have ez : G22 q = some (.tup [.int tz, .int bz]) := ez
      obtain ⟨dx8, a8, b8, c8, e8, _⟩ := id l8
      refine ⟨_, rfl, p8, rfl, _, rfl, q, _, 0, .int tz, rfl, rfl, SqT.of (sg25 _ _ ez), rfl, _, rfl, q, _, 1, .int bz, rfl, rfl, SqT.of (sg25 _ _ ez), rfl, ?_⟩
      refine fun x26 dx26 nx26 ndx26 ne26 => ⟨x26, dx26, tz, bz, rfl, upd_same, loz.ne, (Sz.sm szz (by decide)).2.big, fun H26 r26 e26 => ⟨rfl, ?_⟩⟩
      have s26 := Same.made nx26 ndx26 e26
      rw [loz.tt, loz.bb] at r26
      have rv26 : RV T.f_Ratio H26 x26 z 190 := ⟨tz, bz, r26, loz, vz, szz⟩
      have sg26 := sg25.trans s26
      refine ⟨.inr ⟨dx8, _, sg26 _ _ e8⟩, p8, .ref x26, _, z, 452, 190, rfl, l8.on sg26, v8.nice.gd, rv26.num, z0, by decide, fun o27 H27 s27 r27 => ?_⟩
      rw [ev8 z z0] at r27
      refine ⟨_, rfl, o27, q12, _, _, _, rfl, r27, (p12.on s26).on s27, fun H28 s28 => ⟨_, rfl, iteF ?_⟩⟩
      exact ⟨_, _, _, _, rfl, (((s2324.trans s25).trans s26).trans s27).trans s28⟩
    rintro σ H23 ⟨x11, x12, x13, x14, rfl, s23⟩
    have d23 := d22.on s23
    clear d22 s23
    have nt := v8.nice
    have again := nt.again v8.can (by omega)
    refine ⟨_, rfl, p8, tot, 452, rfl, l8.on d23.same, nt.gd.ne, by omega, fun o24 L24 r24 H24 s24 nL24 e24 c24 p24 => ?_⟩
    refine ⟨o24, _, rfl, SqT.of e24, rfl, _, _, rfl, _, _, rfl, rfl, ?_⟩
    obtain ⟨qs24, eL24, hl24, hq24⟩ := id c24
    have d24 := d23.learn s24 nL24 eL24
    have gL24 : G22 L24 = none := d23.free nL24
    obtain ⟨G25, d25, sg25, nl25⟩ := d24.grow
    have s2225 := (same_upd (o := .lst (qs24.map V.ref)) gL24).trans sg25
    have c25 : CorP G25 L24 (corsOf tot) 452 := ⟨qs24, sg25 _ _ upd_same, hl24, fun i t d h1 h2 => let ⟨u, v, e, pu, pv⟩ := hq24 i t d h1 h2; ⟨u, v, nl25 _ _ e (fun _ z => nomatch z), pu.nl nl25, pv.nl nl25⟩⟩
    have p25 := p24.nl nl25
    have la := la.on s2225
    have lb := lb.on s2225
    have lc := lc.on s2225
    have l8 := l8.on s2225
    have t0 := t0.on s2225
    have t1 := t1.on s2225
    have t2 := t2.on s2225
    have eD := s2225 _ _ eD
    have hzs := hzs.on s2225
    clear s2225 sg25 nl25 d24 d23 gL24 nL24 c24 p24 e24 s24 eL24 hq24 hl24 eq9 hq9 hP9
    clear qs24 qs9
    have ct := cor_cors nt
    have ctl : (corsOf tot).length = tot.length := by unfold corsOf; rw [List.length_map]
    refine ⟨fun σ H' => ∃ (x15 : Option V) (G' : Hp), σ = [some (.ref a), some (.ref st), some (.ref D), some (.ref pa), some (.ref pb), some (.ref pc), some (.ref p8), some (.ref D22), some (.ref qx), some (.ref qy), some (.ref q17), x11, x12, some (.ref L24), some (.ref r24), x15, none, none] ∧ DSt G' H' st 600 ∧ Same G25 G', ?_, ?_⟩
    · obtain ⟨qs25, eL25, hl25, hq25⟩ := id c25
      obtain ⟨dx8, a8, b8, c8, e8, _⟩ := id l8
      refine ⟨_, rfl, L24, _, rfl, .inl (SqL.of (d25.same _ _ eL25)), _, _, rfl, rfl, _, rfl, ite2 (fun hlt => ?_) fun _ => ?_⟩
      · have hlt := of_decide_eq_true hlt
        rw [List.length_map, hl25, ctl] at hlt
        refine ⟨_, rfl, _, rfl, _, rfl, st, L24, r24, corsOf tot, lastr tot, 452, _, G25, rfl, d25, c25, ct, p25, nt.last, by omega, by decide, by decide, fun p26 H26 G26 s26 d26 l26 => ?_⟩
        rw [again] at l26
        obtain ⟨dx26, a26, b26, c26, e26, _⟩ := id l26
        have l8' := l8.on s26
        refine ⟨_, rfl, _, rfl, p8, dx8, _, p26, dx26, _, rfl, rfl, d26.same _ _ (s26 _ _ e8), d26.same _ _ e26, p8, p26, _, _, 452, _, rfl, l8'.on d26.same, l26.on d26.same, true, by rw [decide_eq_true rfl], false, rfl, iteF ?_⟩
        refine ⟨_, rfl, _, rfl, p26, dx26, _, p8, dx8, _, rfl, rfl, d26.same _ _ e26, d26.same _ _ (s26 _ _ e8), p26, p8, _, _, _, 452, rfl, l26.on d26.same, l8'.on d26.same, true, by rw [decide_eq_true rfl], false, rfl, iteF ?_⟩
        exact ⟨_, G26, rfl, d26.mono (by decide), s26⟩
      · exact ⟨_, G25, rfl, d25.mono (by decide), Same.refl _⟩
    rintro σ H26 ⟨x15, G26, rfl, d26, s26⟩
    have sm := s26.trans d26.same
    have c26 := c25.on sm
    have p26 := p25.on sm
    have la := la.on sm
    have lb := lb.on sm
    have lc := lc.on sm
    have l8 := l8.on sm
    have t0 := t0.on sm
    have t1 := t1.on sm
    have t2 := t2.on sm
    have eD := sm _ _ eD
    have hzs := hzs.on sm
    clear d26 s26 sm c25 p25 d25 G26
    obtain ⟨L0', r0', e0, _, p0⟩ := id t0
    obtain ⟨L1', r1', e1, _, p1⟩ := id t1
    obtain ⟨L2', r2', e2, _, p2⟩ := id t2
    -- only corners that bend; the slope
    refine ⟨_, rfl, _, rfl, L24, r24, corsOf tot, lastr tot, 452, rfl, c26, p26, ct, by decide, by omega, fun D27 H27 s27 c27 => ?_⟩
    rw [again] at c27
    refine ⟨_, rfl, dL _, dL _, c27.dp, (c26.on s27).dp, sh_L _, sh_L _, false, by rw [eqv_L]; rfl, iteF ?_⟩
    refine ⟨_, rfl, _, rfl, D, _, 0, .ref o0, rfl, rfl, SqL.of (s27 _ _ eD), rfl, o0, _, 1, .ref r0', rfl, rfl, SqT.of (s27 _ _ e0), at1, _, rfl, D, _, 1, .ref o1, rfl, rfl, SqL.of (s27 _ _ eD), rfl, o1, _, 1, .ref r1', rfl, rfl, SqT.of (s27 _ _ e1), at1, r0', r1', x0, x1, 50, 50, rfl, (p0.on s27).toW, (p1.on s27).toW, by decide, by decide, fun q28 H28 n28 s28 w28 => ?_⟩
    have s2728 := s27.trans s28
    refine ⟨_, rfl, D, _, 2, .ref o2, rfl, rfl, SqL.of (s2728 _ _ eD), rfl, o2, _, 1, .ref r2', rfl, rfl, SqT.of (s2728 _ _ e2), at1, q28, r2', x0 + x1, x2, 101, 50, rfl, w28.toW, (p2.on s2728).toW, by decide, by decide, fun q29 H29 n29 s29 w29 => ?_⟩
    have s2729 := s2728.trans s29
    rw [← y8] at w29
    refine ⟨dR _, dR _, (p26.on s2729).dp, w29.dp, sh_R _, sh_R _, false, by rw [eqv_R]; rfl, iteF ?_⟩
    -- the corners are among the loads
    have c29 := c26.on s2729
    have hz29 := hzs.on s2729
    obtain ⟨qs29, eL29, hl29, hq29⟩ := id c29
    refine ⟨_, rfl, L24, rfl, ⟨_, SqL.of eL29⟩, fun D30 n30 => ?_⟩
    refine lc_list (K := K) (a := L24) (xs := qs29.map V.ref) (fun i H' => H' D30 = some (.lst []) ∧ Same H29 H') ⟨upd_same, same_upd n30⟩ (fun i H' _ ⟨_, s'⟩ => SqL.of (s' _ _ eL29)) ?_ ?_
    · intro i x H31 hi ⟨eD30, s31⟩
      rw [List.getElem?_map] at hi
      cases ht : qs29[i]? with
      | none => rw [ht] at hi; cases hi
      | some t =>
        rw [ht] at hi
        obtain rfl := Option.some.inj hi
        have hil : i < (corsOf tot).length := by rw [← hl29]; exact (List.getElem?_eq_some_iff.mp ht).1
        have ec : (corsOf tot)[i]? = some ((corsOf tot)[i]'hil) := List.getElem?_eq_getElem hil
        obtain ⟨u, v, et, pu, _⟩ := hq29 i t _ ht ec
        have hmem : ((corsOf tot)[i]'hil).1 ∈ zs := by
          obtain ⟨g, hg, e⟩ := List.mem_map.mp (List.getElem_mem hil)
          rw [← e]
          obtain ⟨c, hc, e2⟩ := hx8 g hg
          show g.x ∈ zs
          rw [← e2]
          exact hin c hc
        refine ⟨rfl, _, rfl, t, _, 0, .ref u, rfl, rfl, SqT.of (s31 _ _ et), at0, _, rfl, dR _, zs.map dR, (pu.on s31).dp, (hz29.on s31).dp, sh_R _, sh_LR _, false, ?_, iteF ⟨eD30, s31⟩⟩
        have : (zs.map dR).any (fun z => PyData.eqv z (dR ((corsOf tot)[i]'hil).1)) = true := List.any_eq_true.mpr ⟨_, List.mem_map.mpr ⟨_, hmem, rfl⟩, eqv_R _⟩
        rw [this]
        rfl
    rintro H31 ⟨eD30, s31⟩
    refine ⟨Nat.zero_le _, fun l32 n32 => ?_⟩
    have s32 := same_upd (o := .lst []) n32
    refine ⟨.list [], .list [], .lst (SqL.of (s32 _ _ eD30)) .nil, .lst (SqL.of upd_same) .nil, shaped_ints [], shaped_ints [], false, by simp [PyData.eqv, PyData.eqvAll], iteF ?_⟩
    have s2632 := (s2729.trans s31).trans s32
    have la := la.on s2632
    have lb := lb.on s2632
    have lc := lc.on s2632
    have l8 := l8.on s2632
    have t0 := t0.on s2632
    have eD := s2632 _ _ eD
    have e0 := s2632 _ _ e0
    revert la lb lc l8 t0 eD e0
    generalize upd H31 l32 _ = H32
    intro la lb lc l8 t0 eD e0
    clear s2632 s32 s31 n32 n30 eD30 c29 hz29 eL29 hq29 hl29 s2729 s2728 s29 s28 s27 w29 w28 c27 c26 p26 hzs t1 t2 e1 e2 p0 p1 p2
    obtain ⟨dxa, aa, ba, ca, ea, _⟩ := id la
    obtain ⟨dxb, ab, bb, cb, eb, _⟩ := id lb
    obtain ⟨dxc, ac, bc, cc, ec, _⟩ := id lc
    obtain ⟨dx8, a8, b8, c8, e8, _⟩ := id l8
    -- a + b, b + a
    refine ⟨_, rfl, _, rfl, pa, dxa, _, pb, dxb, _, rfl, rfl, ea, eb, pa, pb, _, _, 150, 301, rfl, la, lb, v0.nice, v1.nice, by omega, by decide, by decide, by decide, v0.sum_fit v1 (by decide), (v0.last.add v1.last).mono (by decide), fun p33 z33 H33 s33 b33 w33 l33 => ?_⟩
    have v33 := v0.add v1 b33 (by omega)
    refine ⟨_, rfl, _, rfl, pb, dxb, _, pa, dxa, _, rfl, rfl, s33 _ _ eb, s33 _ _ ea, pb, pa, _, _, 150, 301, rfl, lb.on s33, la.on s33, v1.nice, v0.nice, by omega, by decide, by decide, by decide, v1.sum_fit v0 (by decide), (v1.last.add v0.last).mono (by decide), fun p34 z34 H34 s34 b34 w34 l34 => ?_⟩
    have v34 := v1.add v0 b34 (by omega)
    have eq1 := lines_eq v33.nice v34.nice v33.can v34.can fun z hz => by
      rw [b33.ev' v0.nice v1.nice hz, b34.ev' v1.nice v0.nice hz]
      grind
    rw [eq1] at l33
    obtain ⟨dx33, _, _, _, e33, _⟩ := id l33
    obtain ⟨dx34, _, _, _, e34, _⟩ := id l34
    refine ⟨p33, dx33, _, p34, dx34, _, rfl, rfl, s34 _ _ e33, e34, p33, p34, _, _, _, _, rfl, l33.on s34, l34, true, by rw [decide_eq_true rfl], false, rfl, iteF ?_⟩
    have s3234 := s33.trans s34
    have g0 : ∀ z, ev (bends (segs cs0 x0)) z = ev (segs cs0 x0) z := ev_bends (segs_chn cs0 x0 m0.cor.2.2)
    have g1 : ∀ z, ev (bends (segs cs1 x1)) z = ev (segs cs1 x1) z := ev_bends (segs_chn cs1 x1 m1.cor.2.2)
    have g2 : ∀ z, ev (bends (segs cs2 x2)) z = ev (segs cs2 x2) z := ev_bends (segs_chn cs2 x2 m2.cor.2.2)
    have la := la.on s3234
    have lb := lb.on s3234
    have lc := lc.on s3234
    have l8 := l8.on s3234
    have t0 := t0.on s3234
    have eD := s3234 _ _ eD
    have e0 := s3234 _ _ e0
    have ea := s3234 _ _ ea
    have eb := s3234 _ _ eb
    have ec := s3234 _ _ ec
    have e8 := s3234 _ _ e8
    clear s3234 s33 s34 l33 l34 v33 v34 b33 b34 w33 w34 eq1 e33 e34
    -- c + (b + a)
    refine ⟨_, rfl, _, rfl, _, rfl, _, rfl, pb, dxb, _, pa, dxa, _, rfl, rfl, eb, ea, pb, pa, _, _, 150, 301, rfl, lb, la, v1.nice, v0.nice, by omega, by decide, by decide, by decide, v1.sum_fit v0 (by decide), (v1.last.add v0.last).mono (by decide), fun p35 z35 H35 s35 b35 w35 l35 => ?_⟩
    have v35 := v1.add v0 b35 (by omega)
    have h35 := sz w35
    have l35 := l35.fit (v35.fit (k := 301) (by decide) (by decide) (by decide))
    obtain ⟨dx35, _, _, _, e35, _⟩ := id l35
    refine ⟨pc, dxc, _, p35, dx35, _, rfl, rfl, s35 _ _ ec, e35, pc, p35, _, _, 301, 452, rfl, (lc.on s35).fit (v2.fit (by decide) (by decide) (by decide)), l35, v2.nice, v35.nice, by omega, by decide, by decide, by decide, v2.sum_fit v35 (by decide), (v2.last.add v35.last).mono (by decide), fun p36 z36 H36 s36 b36 w36 l36 => ?_⟩
    have v36 := v2.add v35 b36 (by omega)
    have eq2 := lines_eq v36.nice v8.nice v36.can v8.can fun z hz => by
      rw [b36.ev' v2.nice v35.nice hz, b35.ev' v1.nice v0.nice hz, ev8 z hz, g0, g1, g2]
      grind
    rw [eq2] at l36
    obtain ⟨dx36, _, _, _, e36, _⟩ := id l36
    have s3536 := s35.trans s36
    refine ⟨p8, dx8, _, p36, dx36, _, rfl, rfl, s3536 _ _ e8, e36, p8, p36, _, _, _, _, rfl, l8.on s3536, l36, true, by rw [decide_eq_true rfl], false, rfl, iteF ?_⟩
    have la := la.on s3536
    have lb := lb.on s3536
    have lc := lc.on s3536
    have l8 := l8.on s3536
    have t0 := t0.on s3536
    have eD := s3536 _ _ eD
    have e0 := s3536 _ _ e0
    have ea := s3536 _ _ ea
    have eb := s3536 _ _ eb
    have ec := s3536 _ _ ec
    have e8 := s3536 _ _ e8
    clear s3536 s35 s36 l35 l36 v35 v36 b35 b36 w35 w36 eq2 e35 e36 h35
    -- a + c + b
    refine ⟨_, rfl, _, rfl, _, rfl, pa, dxa, _, pc, dxc, _, rfl, rfl, ea, ec, pa, pc, _, _, 150, 301, rfl, la, lc, v0.nice, v2.nice, by omega, by decide, by decide, by decide, v0.sum_fit v2 (by decide), (v0.last.add v2.last).mono (by decide), fun p37 z37 H37 s37 b37 w37 l37 => ?_⟩
    have v37 := v0.add v2 b37 (by omega)
    have h37 := sz w37
    have l37 := l37.fit (v37.fit (k := 301) (by decide) (by decide) (by decide))
    obtain ⟨dx37, _, _, _, e37, _⟩ := id l37
    refine ⟨_, rfl, p37, dx37, _, pb, dxb, _, rfl, rfl, e37, s37 _ _ eb, p37, pb, _, _, 301, 452, rfl, l37, (lb.on s37).fit (v1.fit (by decide) (by decide) (by decide)), v37.nice, v1.nice, by omega, by decide, by decide, by decide, v37.sum_fit v1 (by decide), (v37.last.add v1.last).mono (by decide), fun p38 z38 H38 s38 b38 w38 l38 => ?_⟩
    have v38 := v37.add v1 b38 (by omega)
    have eq3 := lines_eq v38.nice v8.nice v38.can v8.can fun z hz => by
      rw [b38.ev' v37.nice v1.nice hz, b37.ev' v0.nice v2.nice hz, ev8 z hz, g0, g1, g2]
      grind
    rw [eq3] at l38
    obtain ⟨dx38, _, _, _, e38, _⟩ := id l38
    have s3738 := s37.trans s38
    refine ⟨p8, dx8, _, p38, dx38, _, rfl, rfl, s3738 _ _ e8, e38, p8, p38, _, _, _, _, rfl, l8.on s3738, l38, true, by rw [decide_eq_true rfl], false, rfl, iteF ?_⟩
    have la := la.on s3738
    have l8 := l8.on s3738
    have t0 := t0.on s3738
    have eD := s3738 _ _ eD
    have e0 := s3738 _ _ e0
    have e8 := s3738 _ _ e8
    clear s3738 s37 s38 l37 l38 v37 v38 b37 b38 w37 w38 eq3 e37 e38 h37 ea eb ec lb lc
    -- one more level line
    have vs := val_level
    refine ⟨_, rfl, _, rfl, rfl, .int 0, .int 1, .int 0, ((1 : Int) : Rat), 0, 1, 1, rfl, NV.int 1 (by decide) (by decide), NV.int 0 (by decide) (by decide), by decide, Rat.le_refl, by decide, by decide, by decide, fun p39 H39 n39 s39 l39 => ?_⟩
    have l39 := l39.fit (vs.fit (k := 452) (by decide) (by decide) (by decide))
    obtain ⟨dx39, _, _, _, e39, _⟩ := id l39
    refine ⟨p8, dx8, _, p39, dx39, _, rfl, rfl, s39 _ _ e8, e39, p8, p39, _, _, 452, 603, rfl, l8.on s39, l39, v8.nice, vs.nice, by show tot.length + 1 ≤ 800; omega, by decide, by decide, by decide, v8.sum_fit vs (by decide), (v8.last.add vs.last).mono (by decide), fun p40 z40 H40 s40 b40 w40 l40 => ?_⟩
    have w40 : z40.length ≤ tot.length + 1 := w40
    have hne : ¬ tot = bends (segs (sumC tot [⟨0, ((1 : Int) : Rat), 0⟩] z40) (lastr tot + lastr [⟨0, ((1 : Int) : Rat), 0⟩])) := fun e => by
      have h1 := b40.ev' v8.nice vs.nice (z := 0) Rat.le_refl
      rw [← e] at h1
      have h3 : ev [⟨0, ((1 : Int) : Rat), 0⟩] 0 = 1 + 0 * (0 - 0) := rfl
      rw [h3] at h1
      grind
    obtain ⟨dx40, _, _, _, e40, _⟩ := id l40
    have s3940 := s39.trans s40
    refine ⟨p8, dx8, _, p40, dx40, _, rfl, rfl, s3940 _ _ e8, e40, p8, p40, _, _, _, _, rfl, l8.on s3940, l40, false, by rw [decide_eq_false hne], iteF ?_⟩
    have la := la.on s3940
    have t0 := t0.on s3940
    have eD := s3940 _ _ eD
    have e0 := s3940 _ _ e0
    clear s3940 s39 s40 l39 l40 b40 w40 hne e39 e40 l8 e8
    -- what the first line tells
    refine ⟨_, rfl, pa, _, 150, rfl, la, v0.nice.gd.ne, by omega, fun o41 L41 r41 H41 s41 n41 e41 c41 p41 => ?_⟩
    have t0 := t0.on s41
    have eD := s41 _ _ eD
    have e0 := s41 _ _ e0
    obtain ⟨L5, r5, e5, c5, p5⟩ := id t0
    have e5r : (V.ref L0', V.ref r0') = (V.ref L5, V.ref r5) := by
      rw [e0] at e5
      injection e5 with e5
      injection e5 with e5
      injection e5 with h1 h2
      injection h2 with h2 _
      rw [h1, h2]
    refine ⟨_, rfl, D, _, 0, .ref o0, rfl, rfl, SqL.of eD, rfl, o0, _, 0, .ref L5, rfl, rfl, SqT.of e5, at0, _, rfl, D, _, 0, .ref o0, rfl, rfl, SqL.of eD, rfl, o0, _, 1, .ref r5, rfl, rfl, SqT.of e5, at1, L5, r5, cs0, x0, 50, rfl, c5, p5, m0.cor, by decide, by omega, fun D42 H42 s42 c42 => ?_⟩
    refine ⟨_, rfl, D, _, 0, .ref o0, rfl, rfl, SqL.of (s42 _ _ eD), rfl, o0, _, 1, .ref r5, rfl, rfl, SqT.of (s42 _ _ e5), at1, z2, fun T43 n43 => ?_⟩
    have s43 := same_upd (o := .tup [V.ref D42, .ref r5]) n43
    have s4243 := s42.trans s43
    have tA : Told (upd H42 T43 (.tup [V.ref D42, .ref r5])) o41 (corsOf (bends (segs cs0 x0))) (lastr (bends (segs cs0 x0))) 150 := ⟨L41, r41, s4243 _ _ e41, c41.on s4243, p41.on s4243⟩
    have tB : Told (upd H42 T43 (.tup [V.ref D42, .ref r5])) T43 (corsOf (bends (segs cs0 x0))) x0 50 := ⟨D42, r5, upd_same, c42.on s43, p5.on s4243⟩
    rw [y0] at tA
    refine ⟨_, _, tA.dp, tB.dp, sh_T _ _, sh_T _ _, ?_⟩
    rw [eqv_T]
    exact k _
end

set_option maxHeartbeats 0 in
theorem all_mk {l : PySem.W.OpenLaw} {w : World} {K : PySem.W.Frag} {h : Heap} {mg : Str → Option Value} {f_Ratio f_Line f_as_ratio f_check_corners f_rises_between f_many_upto f_ascending f_start f_draw f_low f_plus f_times f_less f_is f_value f_corners f_over f_minus f_steep f_time f_line f_plain f_told f_asked f_Ratio_init dT_Ratio_init f_Ratio_top p_Ratio_top f_Ratio_bottom p_Ratio_bottom f_Ratio_sign p_Ratio_sign f_Ratio_over f_Ratio_below f_Ratio_neg f_Ratio_add f_Ratio_sub f_Ratio_mul f_Ratio_eq f_Line_init f_Line_straight p_Line_straight dT_Line_straight f_Line_corners p_Line_corners f_Line_slope p_Line_slope f_Line_time_at f_Line_covers f_Line_call f_Line_add f_Line_eq f_Ratio_radd f_Ratio_rsub f_Ratio_rmul fa f_law : Addr} {od_as_ratio an_as_ratio od_check_corners an_check_corners od_rises_between an_rises_between od_many_upto an_many_upto od_ascending an_ascending od_start an_start od_draw an_draw od_low an_low od_plus an_plus od_times an_times od_less an_less od_is an_is od_value an_value od_corners an_corners od_over an_over od_minus an_minus od_steep an_steep od_time an_time od_line an_line od_plain an_plain od_told an_told od_asked an_asked od_Ratio_init an_Ratio_init dd0_Ratio_init od_Ratio_top an_Ratio_top od_Ratio_bottom an_Ratio_bottom od_Ratio_sign an_Ratio_sign od_Ratio_over an_Ratio_over od_Ratio_below an_Ratio_below od_Ratio_neg an_Ratio_neg od_Ratio_add an_Ratio_add od_Ratio_sub an_Ratio_sub od_Ratio_mul an_Ratio_mul od_Ratio_eq an_Ratio_eq od_Line_init an_Line_init od_Line_straight an_Line_straight dd0_Line_straight od_Line_corners an_Line_corners od_Line_slope an_Line_slope od_Line_time_at an_Line_time_at od_Line_covers an_Line_covers od_Line_call an_Line_call od_Line_add an_Line_add od_Line_eq an_Line_eq od_law an_law : Option Addr} {sl_as_ratio sl_check_corners sl_rises_between sl_many_upto sl_ascending sl_start sl_draw sl_low sl_plus sl_times sl_less sl_is sl_value sl_corners sl_over sl_minus sl_steep sl_time sl_line sl_plain sl_told sl_asked sl_Ratio_init ds_Ratio_init sl_Ratio_top sl_Ratio_bottom sl_Ratio_sign sl_Ratio_over sl_Ratio_below sl_Ratio_neg sl_Ratio_add sl_Ratio_sub sl_Ratio_mul sl_Ratio_eq sl_Line_init sl_Line_straight ds_Line_straight sl_Line_corners sl_Line_slope sl_Line_time_at sl_Line_covers sl_Line_call sl_Line_add sl_Line_eq sl_law : Array (Option Value)} {oc_as_ratio kV_as_ratio dc_as_ratio pm_as_ratio cd_as_ratio ct_as_ratio oc_check_corners kV_check_corners dc_check_corners pm_check_corners cd_check_corners ct_check_corners oc_rises_between kV_rises_between dc_rises_between pm_rises_between cd_rises_between ct_rises_between oc_many_upto kV_many_upto dc_many_upto pm_many_upto cd_many_upto ct_many_upto oc_ascending kV_ascending dc_ascending pm_ascending cd_ascending ct_ascending oc_start kV_start dc_start pm_start cd_start ct_start oc_draw kV_draw dc_draw pm_draw cd_draw ct_draw oc_low kV_low dc_low pm_low cd_low ct_low oc_plus kV_plus dc_plus pm_plus cd_plus ct_plus oc_times kV_times dc_times pm_times cd_times ct_times oc_less kV_less dc_less pm_less cd_less ct_less oc_is kV_is dc_is pm_is cd_is ct_is oc_value kV_value dc_value pm_value cd_value ct_value oc_corners kV_corners dc_corners pm_corners cd_corners ct_corners oc_over kV_over dc_over pm_over cd_over ct_over oc_minus kV_minus dc_minus pm_minus cd_minus ct_minus oc_steep kV_steep dc_steep pm_steep cd_steep ct_steep oc_time kV_time dc_time pm_time cd_time ct_time oc_line kV_line dc_line pm_line cd_line ct_line oc_plain kV_plain dc_plain pm_plain cd_plain ct_plain oc_told kV_told dc_told pm_told cd_told ct_told oc_asked kV_asked dc_asked pm_asked cd_asked ct_asked oc_Ratio_init kV_Ratio_init dc_Ratio_init pm_Ratio_init cd_Ratio_init ct_Ratio_init dc0_Ratio_init oc_Ratio_top kV_Ratio_top dc_Ratio_top pm_Ratio_top cd_Ratio_top ct_Ratio_top oc_Ratio_bottom kV_Ratio_bottom dc_Ratio_bottom pm_Ratio_bottom cd_Ratio_bottom ct_Ratio_bottom oc_Ratio_sign kV_Ratio_sign dc_Ratio_sign pm_Ratio_sign cd_Ratio_sign ct_Ratio_sign oc_Ratio_over kV_Ratio_over dc_Ratio_over pm_Ratio_over cd_Ratio_over ct_Ratio_over oc_Ratio_below kV_Ratio_below dc_Ratio_below pm_Ratio_below cd_Ratio_below ct_Ratio_below oc_Ratio_neg kV_Ratio_neg dc_Ratio_neg pm_Ratio_neg cd_Ratio_neg ct_Ratio_neg oc_Ratio_add kV_Ratio_add dc_Ratio_add pm_Ratio_add cd_Ratio_add ct_Ratio_add oc_Ratio_sub kV_Ratio_sub dc_Ratio_sub pm_Ratio_sub cd_Ratio_sub ct_Ratio_sub oc_Ratio_mul kV_Ratio_mul dc_Ratio_mul pm_Ratio_mul cd_Ratio_mul ct_Ratio_mul oc_Ratio_eq kV_Ratio_eq dc_Ratio_eq pm_Ratio_eq cd_Ratio_eq ct_Ratio_eq oc_Line_init kV_Line_init dc_Line_init pm_Line_init cd_Line_init ct_Line_init oc_Line_straight kV_Line_straight dc_Line_straight pm_Line_straight cd_Line_straight ct_Line_straight dc0_Line_straight oc_Line_corners kV_Line_corners dc_Line_corners pm_Line_corners cd_Line_corners ct_Line_corners oc_Line_slope kV_Line_slope dc_Line_slope pm_Line_slope cd_Line_slope ct_Line_slope oc_Line_time_at kV_Line_time_at dc_Line_time_at pm_Line_time_at cd_Line_time_at ct_Line_time_at oc_Line_covers kV_Line_covers dc_Line_covers pm_Line_covers cd_Line_covers ct_Line_covers oc_Line_call kV_Line_call dc_Line_call pm_Line_call cd_Line_call ct_Line_call oc_Line_add kV_Line_add dc_Line_add pm_Line_add cd_Line_add ct_Line_add oc_Line_eq kV_Line_eq dc_Line_eq pm_Line_eq cd_Line_eq ct_Line_eq oc_law kV_law dc_law pm_law cd_law ct_law : Value} {dt_Ratio_init dt_Line_straight : Tok} {dn_Ratio_init dn_Line_straight : Nat} {rs_Ratio_top rs_Ratio_bottom rs_Ratio_sign rs_Line_straight rs_Line_corners rs_Line_slope : List Value} {fo_Ratio_add ro_Ratio_add fo_Ratio_sub ro_Ratio_sub fo_Ratio_mul ro_Ratio_mul : Option Value} {cdd_Ratio : ClassData} (X : K.In h) (G : h.Ns mainGlobals mg) (hfa : mg "law" = some (.ref fa))
    (a_Ratio : PySem.W.nsIn K mainGlobals "Ratio" = some (some (.ref f_Ratio)))
    (pg_Ratio : PySem.W.plainGet K f_Ratio Str.empty = true)
    (hd_Ratio : PySem.W.hasDictIn K f_Ratio = true)
    (po_Ratio : PySem.W.plainOver K f_Ratio = true)
    (sa_Ratio : PySem.W.findIn K (.ref f_Ratio) "__setattr__" = some (some (.builtin "object.__setattr__")))
    (mk_Ratio : PySem.W.makesIn K f_Ratio = true)
    (kc_Ratio : PySem.W.keepIn K (.ref f_Ratio) = true)
    (hc_Ratio : PySem.W.findIn K (.ref f_Ratio) "__class__" = some (some (.builtin "object.__class__")))
    (mo_Ratio : PySem.W.mroIn K f_Ratio (.type "object") = some true)
    (ic_Ratio : PySem.W.isClsIn K f_Ratio = true)
    (ty_Ratio : PySem.W.typeIn K (.ref f_Ratio) = some (.type "type"))
    (hn_class : PySem.W.specialIn K (.builtin "object.__class__") "__get__" = some (some (.builtin "getset_descriptor.__get__")))
    (ht_class : PySem.W.takesIn K (.builtin "object.__class__") = some true)
    (na_Ratio_top : PySem.W.findIn K (.ref f_Ratio) "_top" = some none)
    (na_Ratio_bottom : PySem.W.findIn K (.ref f_Ratio) "_bottom" = some none)
    (su_Ratio_int : PySem.W.subIn K (.type "int") (.ref f_Ratio) = some false)
    (a_Line : PySem.W.nsIn K mainGlobals "Line" = some (some (.ref f_Line)))
    (pg_Line : PySem.W.plainGet K f_Line Str.empty = true)
    (hd_Line : PySem.W.hasDictIn K f_Line = true)
    (po_Line : PySem.W.plainOver K f_Line = true)
    (sa_Line : PySem.W.findIn K (.ref f_Line) "__setattr__" = some (some (.builtin "object.__setattr__")))
    (mk_Line : PySem.W.makesIn K f_Line = true)
    (kc_Line : PySem.W.keepIn K (.ref f_Line) = true)
    (hc_Line : PySem.W.findIn K (.ref f_Line) "__class__" = some (some (.builtin "object.__class__")))
    (mo_Line : PySem.W.mroIn K f_Line (.type "object") = some true)
    (ic_Line : PySem.W.isClsIn K f_Line = true)
    (ty_Line : PySem.W.typeIn K (.ref f_Line) = some (.type "type"))
    (na_Line_loads : PySem.W.findIn K (.ref f_Line) "_loads" = some none)
    (na_Line_times : PySem.W.findIn K (.ref f_Line) "_times" = some none)
    (na_Line_rises : PySem.W.findIn K (.ref f_Line) "_rises" = some none)
    (a_as_ratio : PySem.W.nsIn K mainGlobals "as_ratio" = some (some (.ref f_as_ratio)))
    (l_as_ratio : K.lookup f_as_ratio = some ⟨oc_as_ratio, od_as_ratio, .func (PySem.W.fnOf "as_ratio" "as_ratio" (defArgs s_as_ratio) (defBody s_as_ratio) (defScope s_as_ratio) .none kV_as_ratio dc_as_ratio pm_as_ratio an_as_ratio cd_as_ratio ct_as_ratio), sl_as_ratio⟩)
    (c_as_ratio : PySem.W.codeIn K cd_as_ratio "as_ratio" = true)
    (k_as_ratio : PySem.W.keepIn K (.ref f_as_ratio) = true)
    (a_check_corners : PySem.W.nsIn K mainGlobals "check_corners" = some (some (.ref f_check_corners)))
    (l_check_corners : K.lookup f_check_corners = some ⟨oc_check_corners, od_check_corners, .func (PySem.W.fnOf "check_corners" "check_corners" (defArgs s_check_corners) (defBody s_check_corners) (defScope s_check_corners) .none kV_check_corners dc_check_corners pm_check_corners an_check_corners cd_check_corners ct_check_corners), sl_check_corners⟩)
    (c_check_corners : PySem.W.codeIn K cd_check_corners "check_corners" = true)
    (k_check_corners : PySem.W.keepIn K (.ref f_check_corners) = true)
    (a_rises_between : PySem.W.nsIn K mainGlobals "rises_between" = some (some (.ref f_rises_between)))
    (l_rises_between : K.lookup f_rises_between = some ⟨oc_rises_between, od_rises_between, .func (PySem.W.fnOf "rises_between" "rises_between" (defArgs s_rises_between) (defBody s_rises_between) (defScope s_rises_between) .none kV_rises_between dc_rises_between pm_rises_between an_rises_between cd_rises_between ct_rises_between), sl_rises_between⟩)
    (c_rises_between : PySem.W.codeIn K cd_rises_between "rises_between" = true)
    (k_rises_between : PySem.W.keepIn K (.ref f_rises_between) = true)
    (a_many_upto : PySem.W.nsIn K mainGlobals "many_upto" = some (some (.ref f_many_upto)))
    (l_many_upto : K.lookup f_many_upto = some ⟨oc_many_upto, od_many_upto, .func (PySem.W.fnOf "many_upto" "many_upto" (defArgs s_many_upto) (defBody s_many_upto) (defScope s_many_upto) .none kV_many_upto dc_many_upto pm_many_upto an_many_upto cd_many_upto ct_many_upto), sl_many_upto⟩)
    (c_many_upto : PySem.W.codeIn K cd_many_upto "many_upto" = true)
    (k_many_upto : PySem.W.keepIn K (.ref f_many_upto) = true)
    (a_ascending : PySem.W.nsIn K mainGlobals "ascending" = some (some (.ref f_ascending)))
    (l_ascending : K.lookup f_ascending = some ⟨oc_ascending, od_ascending, .func (PySem.W.fnOf "ascending" "ascending" (defArgs s_ascending) (defBody s_ascending) (defScope s_ascending) .none kV_ascending dc_ascending pm_ascending an_ascending cd_ascending ct_ascending), sl_ascending⟩)
    (c_ascending : PySem.W.codeIn K cd_ascending "ascending" = true)
    (k_ascending : PySem.W.keepIn K (.ref f_ascending) = true)
    (a_start : PySem.W.nsIn K mainGlobals "_law_start" = some (some (.ref f_start)))
    (l_start : K.lookup f_start = some ⟨oc_start, od_start, .func (PySem.W.fnOf "_law_start" "_law_start" (defArgs s_start) (defBody s_start) (defScope s_start) .none kV_start dc_start pm_start an_start cd_start ct_start), sl_start⟩)
    (c_start : PySem.W.codeIn K cd_start "_law_start" = true)
    (k_start : PySem.W.keepIn K (.ref f_start) = true)
    (a_draw : PySem.W.nsIn K mainGlobals "_law_draw" = some (some (.ref f_draw)))
    (l_draw : K.lookup f_draw = some ⟨oc_draw, od_draw, .func (PySem.W.fnOf "_law_draw" "_law_draw" (defArgs s_draw) (defBody s_draw) (defScope s_draw) .none kV_draw dc_draw pm_draw an_draw cd_draw ct_draw), sl_draw⟩)
    (c_draw : PySem.W.codeIn K cd_draw "_law_draw" = true)
    (k_draw : PySem.W.keepIn K (.ref f_draw) = true)
    (a_low : PySem.W.nsIn K mainGlobals "_law_low" = some (some (.ref f_low)))
    (l_low : K.lookup f_low = some ⟨oc_low, od_low, .func (PySem.W.fnOf "_law_low" "_law_low" (defArgs s_low) (defBody s_low) (defScope s_low) .none kV_low dc_low pm_low an_low cd_low ct_low), sl_low⟩)
    (c_low : PySem.W.codeIn K cd_low "_law_low" = true)
    (k_low : PySem.W.keepIn K (.ref f_low) = true)
    (a_plus : PySem.W.nsIn K mainGlobals "_law_plus" = some (some (.ref f_plus)))
    (l_plus : K.lookup f_plus = some ⟨oc_plus, od_plus, .func (PySem.W.fnOf "_law_plus" "_law_plus" (defArgs s_plus) (defBody s_plus) (defScope s_plus) .none kV_plus dc_plus pm_plus an_plus cd_plus ct_plus), sl_plus⟩)
    (c_plus : PySem.W.codeIn K cd_plus "_law_plus" = true)
    (k_plus : PySem.W.keepIn K (.ref f_plus) = true)
    (a_times : PySem.W.nsIn K mainGlobals "_law_times" = some (some (.ref f_times)))
    (l_times : K.lookup f_times = some ⟨oc_times, od_times, .func (PySem.W.fnOf "_law_times" "_law_times" (defArgs s_times) (defBody s_times) (defScope s_times) .none kV_times dc_times pm_times an_times cd_times ct_times), sl_times⟩)
    (c_times : PySem.W.codeIn K cd_times "_law_times" = true)
    (k_times : PySem.W.keepIn K (.ref f_times) = true)
    (a_less : PySem.W.nsIn K mainGlobals "_law_less" = some (some (.ref f_less)))
    (l_less : K.lookup f_less = some ⟨oc_less, od_less, .func (PySem.W.fnOf "_law_less" "_law_less" (defArgs s_less) (defBody s_less) (defScope s_less) .none kV_less dc_less pm_less an_less cd_less ct_less), sl_less⟩)
    (c_less : PySem.W.codeIn K cd_less "_law_less" = true)
    (k_less : PySem.W.keepIn K (.ref f_less) = true)
    (a_is : PySem.W.nsIn K mainGlobals "_law_is" = some (some (.ref f_is)))
    (l_is : K.lookup f_is = some ⟨oc_is, od_is, .func (PySem.W.fnOf "_law_is" "_law_is" (defArgs s_is) (defBody s_is) (defScope s_is) .none kV_is dc_is pm_is an_is cd_is ct_is), sl_is⟩)
    (c_is : PySem.W.codeIn K cd_is "_law_is" = true)
    (k_is : PySem.W.keepIn K (.ref f_is) = true)
    (a_value : PySem.W.nsIn K mainGlobals "_law_value" = some (some (.ref f_value)))
    (l_value : K.lookup f_value = some ⟨oc_value, od_value, .func (PySem.W.fnOf "_law_value" "_law_value" (defArgs s_value) (defBody s_value) (defScope s_value) .none kV_value dc_value pm_value an_value cd_value ct_value), sl_value⟩)
    (c_value : PySem.W.codeIn K cd_value "_law_value" = true)
    (k_value : PySem.W.keepIn K (.ref f_value) = true)
    (a_corners : PySem.W.nsIn K mainGlobals "_law_corners" = some (some (.ref f_corners)))
    (l_corners : K.lookup f_corners = some ⟨oc_corners, od_corners, .func (PySem.W.fnOf "_law_corners" "_law_corners" (defArgs s_corners) (defBody s_corners) (defScope s_corners) .none kV_corners dc_corners pm_corners an_corners cd_corners ct_corners), sl_corners⟩)
    (c_corners : PySem.W.codeIn K cd_corners "_law_corners" = true)
    (k_corners : PySem.W.keepIn K (.ref f_corners) = true)
    (a_over : PySem.W.nsIn K mainGlobals "_law_over" = some (some (.ref f_over)))
    (l_over : K.lookup f_over = some ⟨oc_over, od_over, .func (PySem.W.fnOf "_law_over" "_law_over" (defArgs s_over) (defBody s_over) (defScope s_over) .none kV_over dc_over pm_over an_over cd_over ct_over), sl_over⟩)
    (c_over : PySem.W.codeIn K cd_over "_law_over" = true)
    (k_over : PySem.W.keepIn K (.ref f_over) = true)
    (a_minus : PySem.W.nsIn K mainGlobals "_law_minus" = some (some (.ref f_minus)))
    (l_minus : K.lookup f_minus = some ⟨oc_minus, od_minus, .func (PySem.W.fnOf "_law_minus" "_law_minus" (defArgs s_minus) (defBody s_minus) (defScope s_minus) .none kV_minus dc_minus pm_minus an_minus cd_minus ct_minus), sl_minus⟩)
    (c_minus : PySem.W.codeIn K cd_minus "_law_minus" = true)
    (k_minus : PySem.W.keepIn K (.ref f_minus) = true)
    (a_steep : PySem.W.nsIn K mainGlobals "_law_steep" = some (some (.ref f_steep)))
    (l_steep : K.lookup f_steep = some ⟨oc_steep, od_steep, .func (PySem.W.fnOf "_law_steep" "_law_steep" (defArgs s_steep) (defBody s_steep) (defScope s_steep) .none kV_steep dc_steep pm_steep an_steep cd_steep ct_steep), sl_steep⟩)
    (c_steep : PySem.W.codeIn K cd_steep "_law_steep" = true)
    (k_steep : PySem.W.keepIn K (.ref f_steep) = true)
    (a_time : PySem.W.nsIn K mainGlobals "_law_time" = some (some (.ref f_time)))
    (l_time : K.lookup f_time = some ⟨oc_time, od_time, .func (PySem.W.fnOf "_law_time" "_law_time" (defArgs s_time) (defBody s_time) (defScope s_time) .none kV_time dc_time pm_time an_time cd_time ct_time), sl_time⟩)
    (c_time : PySem.W.codeIn K cd_time "_law_time" = true)
    (k_time : PySem.W.keepIn K (.ref f_time) = true)
    (a_line : PySem.W.nsIn K mainGlobals "_law_line" = some (some (.ref f_line)))
    (l_line : K.lookup f_line = some ⟨oc_line, od_line, .func (PySem.W.fnOf "_law_line" "_law_line" (defArgs s_line) (defBody s_line) (defScope s_line) .none kV_line dc_line pm_line an_line cd_line ct_line), sl_line⟩)
    (c_line : PySem.W.codeIn K cd_line "_law_line" = true)
    (k_line : PySem.W.keepIn K (.ref f_line) = true)
    (a_plain : PySem.W.nsIn K mainGlobals "_law_plain" = some (some (.ref f_plain)))
    (l_plain : K.lookup f_plain = some ⟨oc_plain, od_plain, .func (PySem.W.fnOf "_law_plain" "_law_plain" (defArgs s_plain) (defBody s_plain) (defScope s_plain) .none kV_plain dc_plain pm_plain an_plain cd_plain ct_plain), sl_plain⟩)
    (c_plain : PySem.W.codeIn K cd_plain "_law_plain" = true)
    (k_plain : PySem.W.keepIn K (.ref f_plain) = true)
    (a_told : PySem.W.nsIn K mainGlobals "_law_told" = some (some (.ref f_told)))
    (l_told : K.lookup f_told = some ⟨oc_told, od_told, .func (PySem.W.fnOf "_law_told" "_law_told" (defArgs s_told) (defBody s_told) (defScope s_told) .none kV_told dc_told pm_told an_told cd_told ct_told), sl_told⟩)
    (c_told : PySem.W.codeIn K cd_told "_law_told" = true)
    (k_told : PySem.W.keepIn K (.ref f_told) = true)
    (a_asked : PySem.W.nsIn K mainGlobals "_law_asked" = some (some (.ref f_asked)))
    (l_asked : K.lookup f_asked = some ⟨oc_asked, od_asked, .func (PySem.W.fnOf "_law_asked" "_law_asked" (defArgs s_asked) (defBody s_asked) (defScope s_asked) .none kV_asked dc_asked pm_asked an_asked cd_asked ct_asked), sl_asked⟩)
    (c_asked : PySem.W.codeIn K cd_asked "_law_asked" = true)
    (k_asked : PySem.W.keepIn K (.ref f_asked) = true)
    (a_Ratio_init : PySem.W.findIn K (.ref f_Ratio) "__init__" = some (some (.ref f_Ratio_init)))
    (i_Ratio_init : PySem.W.isFn K (.ref f_Ratio_init) = true)
    (l_Ratio_init : K.lookup f_Ratio_init = some ⟨oc_Ratio_init, od_Ratio_init, .func (PySem.W.fnOf "__init__" "Ratio.__init__" (defArgs s_Ratio_init) (defBody s_Ratio_init) (defScope s_Ratio_init) (.ref dT_Ratio_init) kV_Ratio_init dc_Ratio_init pm_Ratio_init an_Ratio_init cd_Ratio_init ct_Ratio_init), sl_Ratio_init⟩)
    (c_Ratio_init : PySem.W.codeIn K cd_Ratio_init "Ratio.__init__" = true)
    (k_Ratio_init : PySem.W.keepIn K (.ref f_Ratio_init) = true)
    (t_Ratio_init : K.lookup dT_Ratio_init = some ⟨dc0_Ratio_init, dd0_Ratio_init, .seq #[.int 1 dt_Ratio_init] dn_Ratio_init, ds_Ratio_init⟩)
    (a_Ratio_top : PySem.W.findIn K (.ref f_Ratio) "top" = some (some (.ref p_Ratio_top)))
    (pg_Ratio_top : PySem.W.specialIn K (.ref p_Ratio_top) "__get__" = some (some (.builtin "property.__get__")))
    (pt_Ratio_top : PySem.W.takesIn K (.ref p_Ratio_top) = some true)
    (pr_Ratio_top : PySem.W.recIn K p_Ratio_top "property" = some (.ref f_Ratio_top :: rs_Ratio_top))
    (l_Ratio_top : K.lookup f_Ratio_top = some ⟨oc_Ratio_top, od_Ratio_top, .func (PySem.W.fnOf "top" "Ratio.top" (defArgs s_Ratio_top) (defBody s_Ratio_top) (defScope s_Ratio_top) .none kV_Ratio_top dc_Ratio_top pm_Ratio_top an_Ratio_top cd_Ratio_top ct_Ratio_top), sl_Ratio_top⟩)
    (c_Ratio_top : PySem.W.codeIn K cd_Ratio_top "Ratio.top" = true)
    (k_Ratio_top : PySem.W.keepIn K (.ref f_Ratio_top) = true)
    (a_Ratio_bottom : PySem.W.findIn K (.ref f_Ratio) "bottom" = some (some (.ref p_Ratio_bottom)))
    (pg_Ratio_bottom : PySem.W.specialIn K (.ref p_Ratio_bottom) "__get__" = some (some (.builtin "property.__get__")))
    (pt_Ratio_bottom : PySem.W.takesIn K (.ref p_Ratio_bottom) = some true)
    (pr_Ratio_bottom : PySem.W.recIn K p_Ratio_bottom "property" = some (.ref f_Ratio_bottom :: rs_Ratio_bottom))
    (l_Ratio_bottom : K.lookup f_Ratio_bottom = some ⟨oc_Ratio_bottom, od_Ratio_bottom, .func (PySem.W.fnOf "bottom" "Ratio.bottom" (defArgs s_Ratio_bottom) (defBody s_Ratio_bottom) (defScope s_Ratio_bottom) .none kV_Ratio_bottom dc_Ratio_bottom pm_Ratio_bottom an_Ratio_bottom cd_Ratio_bottom ct_Ratio_bottom), sl_Ratio_bottom⟩)
    (c_Ratio_bottom : PySem.W.codeIn K cd_Ratio_bottom "Ratio.bottom" = true)
    (k_Ratio_bottom : PySem.W.keepIn K (.ref f_Ratio_bottom) = true)
    (a_Ratio_sign : PySem.W.findIn K (.ref f_Ratio) "sign" = some (some (.ref p_Ratio_sign)))
    (pg_Ratio_sign : PySem.W.specialIn K (.ref p_Ratio_sign) "__get__" = some (some (.builtin "property.__get__")))
    (pt_Ratio_sign : PySem.W.takesIn K (.ref p_Ratio_sign) = some true)
    (pr_Ratio_sign : PySem.W.recIn K p_Ratio_sign "property" = some (.ref f_Ratio_sign :: rs_Ratio_sign))
    (l_Ratio_sign : K.lookup f_Ratio_sign = some ⟨oc_Ratio_sign, od_Ratio_sign, .func (PySem.W.fnOf "sign" "Ratio.sign" (defArgs s_Ratio_sign) (defBody s_Ratio_sign) (defScope s_Ratio_sign) .none kV_Ratio_sign dc_Ratio_sign pm_Ratio_sign an_Ratio_sign cd_Ratio_sign ct_Ratio_sign), sl_Ratio_sign⟩)
    (c_Ratio_sign : PySem.W.codeIn K cd_Ratio_sign "Ratio.sign" = true)
    (k_Ratio_sign : PySem.W.keepIn K (.ref f_Ratio_sign) = true)
    (a_Ratio_over : PySem.W.findIn K (.ref f_Ratio) "over" = some (some (.ref f_Ratio_over)))
    (i_Ratio_over : PySem.W.isFn K (.ref f_Ratio_over) = true)
    (l_Ratio_over : K.lookup f_Ratio_over = some ⟨oc_Ratio_over, od_Ratio_over, .func (PySem.W.fnOf "over" "Ratio.over" (defArgs s_Ratio_over) (defBody s_Ratio_over) (defScope s_Ratio_over) .none kV_Ratio_over dc_Ratio_over pm_Ratio_over an_Ratio_over cd_Ratio_over ct_Ratio_over), sl_Ratio_over⟩)
    (c_Ratio_over : PySem.W.codeIn K cd_Ratio_over "Ratio.over" = true)
    (k_Ratio_over : PySem.W.keepIn K (.ref f_Ratio_over) = true)
    (a_Ratio_below : PySem.W.findIn K (.ref f_Ratio) "below" = some (some (.ref f_Ratio_below)))
    (i_Ratio_below : PySem.W.isFn K (.ref f_Ratio_below) = true)
    (l_Ratio_below : K.lookup f_Ratio_below = some ⟨oc_Ratio_below, od_Ratio_below, .func (PySem.W.fnOf "below" "Ratio.below" (defArgs s_Ratio_below) (defBody s_Ratio_below) (defScope s_Ratio_below) .none kV_Ratio_below dc_Ratio_below pm_Ratio_below an_Ratio_below cd_Ratio_below ct_Ratio_below), sl_Ratio_below⟩)
    (c_Ratio_below : PySem.W.codeIn K cd_Ratio_below "Ratio.below" = true)
    (k_Ratio_below : PySem.W.keepIn K (.ref f_Ratio_below) = true)
    (a_Ratio_neg : PySem.W.findIn K (.ref f_Ratio) "__neg__" = some (some (.ref f_Ratio_neg)))
    (i_Ratio_neg : PySem.W.isFn K (.ref f_Ratio_neg) = true)
    (l_Ratio_neg : K.lookup f_Ratio_neg = some ⟨oc_Ratio_neg, od_Ratio_neg, .func (PySem.W.fnOf "__neg__" "Ratio.__neg__" (defArgs s_Ratio_neg) (defBody s_Ratio_neg) (defScope s_Ratio_neg) .none kV_Ratio_neg dc_Ratio_neg pm_Ratio_neg an_Ratio_neg cd_Ratio_neg ct_Ratio_neg), sl_Ratio_neg⟩)
    (c_Ratio_neg : PySem.W.codeIn K cd_Ratio_neg "Ratio.__neg__" = true)
    (k_Ratio_neg : PySem.W.keepIn K (.ref f_Ratio_neg) = true)
    (a_Ratio_add : PySem.W.findIn K (.ref f_Ratio) "__add__" = some (some (.ref f_Ratio_add)))
    (i_Ratio_add : PySem.W.isFn K (.ref f_Ratio_add) = true)
    (l_Ratio_add : K.lookup f_Ratio_add = some ⟨oc_Ratio_add, od_Ratio_add, .func (PySem.W.fnOf "__add__" "Ratio.__add__" (defArgs s_Ratio_add) (defBody s_Ratio_add) (defScope s_Ratio_add) .none kV_Ratio_add dc_Ratio_add pm_Ratio_add an_Ratio_add cd_Ratio_add ct_Ratio_add), sl_Ratio_add⟩)
    (c_Ratio_add : PySem.W.codeIn K cd_Ratio_add "Ratio.__add__" = true)
    (k_Ratio_add : PySem.W.keepIn K (.ref f_Ratio_add) = true)
    (a_Ratio_sub : PySem.W.findIn K (.ref f_Ratio) "__sub__" = some (some (.ref f_Ratio_sub)))
    (i_Ratio_sub : PySem.W.isFn K (.ref f_Ratio_sub) = true)
    (l_Ratio_sub : K.lookup f_Ratio_sub = some ⟨oc_Ratio_sub, od_Ratio_sub, .func (PySem.W.fnOf "__sub__" "Ratio.__sub__" (defArgs s_Ratio_sub) (defBody s_Ratio_sub) (defScope s_Ratio_sub) .none kV_Ratio_sub dc_Ratio_sub pm_Ratio_sub an_Ratio_sub cd_Ratio_sub ct_Ratio_sub), sl_Ratio_sub⟩)
    (c_Ratio_sub : PySem.W.codeIn K cd_Ratio_sub "Ratio.__sub__" = true)
    (k_Ratio_sub : PySem.W.keepIn K (.ref f_Ratio_sub) = true)
    (a_Ratio_mul : PySem.W.findIn K (.ref f_Ratio) "__mul__" = some (some (.ref f_Ratio_mul)))
    (i_Ratio_mul : PySem.W.isFn K (.ref f_Ratio_mul) = true)
    (l_Ratio_mul : K.lookup f_Ratio_mul = some ⟨oc_Ratio_mul, od_Ratio_mul, .func (PySem.W.fnOf "__mul__" "Ratio.__mul__" (defArgs s_Ratio_mul) (defBody s_Ratio_mul) (defScope s_Ratio_mul) .none kV_Ratio_mul dc_Ratio_mul pm_Ratio_mul an_Ratio_mul cd_Ratio_mul ct_Ratio_mul), sl_Ratio_mul⟩)
    (c_Ratio_mul : PySem.W.codeIn K cd_Ratio_mul "Ratio.__mul__" = true)
    (k_Ratio_mul : PySem.W.keepIn K (.ref f_Ratio_mul) = true)
    (a_Ratio_eq : PySem.W.findIn K (.ref f_Ratio) "__eq__" = some (some (.ref f_Ratio_eq)))
    (i_Ratio_eq : PySem.W.isFn K (.ref f_Ratio_eq) = true)
    (l_Ratio_eq : K.lookup f_Ratio_eq = some ⟨oc_Ratio_eq, od_Ratio_eq, .func (PySem.W.fnOf "__eq__" "Ratio.__eq__" (defArgs s_Ratio_eq) (defBody s_Ratio_eq) (defScope s_Ratio_eq) .none kV_Ratio_eq dc_Ratio_eq pm_Ratio_eq an_Ratio_eq cd_Ratio_eq ct_Ratio_eq), sl_Ratio_eq⟩)
    (c_Ratio_eq : PySem.W.codeIn K cd_Ratio_eq "Ratio.__eq__" = true)
    (k_Ratio_eq : PySem.W.keepIn K (.ref f_Ratio_eq) = true)
    (a_Line_init : PySem.W.findIn K (.ref f_Line) "__init__" = some (some (.ref f_Line_init)))
    (i_Line_init : PySem.W.isFn K (.ref f_Line_init) = true)
    (l_Line_init : K.lookup f_Line_init = some ⟨oc_Line_init, od_Line_init, .func (PySem.W.fnOf "__init__" "Line.__init__" (defArgs s_Line_init) (defBody s_Line_init) (defScope s_Line_init) .none kV_Line_init dc_Line_init pm_Line_init an_Line_init cd_Line_init ct_Line_init), sl_Line_init⟩)
    (c_Line_init : PySem.W.codeIn K cd_Line_init "Line.__init__" = true)
    (k_Line_init : PySem.W.keepIn K (.ref f_Line_init) = true)
    (a_Line_straight : PySem.W.findCls K (.ref f_Line) (.type "type") "straight" = some (.get (.builtin "classmethod.__get__") (.ref p_Line_straight) .none (.ref f_Line)))
    (pr_Line_straight : PySem.W.recIn K p_Line_straight "classmethod" = some (.ref f_Line_straight :: rs_Line_straight))
    (pf_Line_straight : PySem.W.fnIn K f_Line_straight = true)
    (rd_Line_straight : PySem.W.readsIn K f_Line (.type "type") = true)
    (ga_Line_straight : PySem.W.specialIn K (.ref f_Line) "__getattribute__" = some (some (.builtin "type.__getattribute__")))
    (l_Line_straight : K.lookup f_Line_straight = some ⟨oc_Line_straight, od_Line_straight, .func (PySem.W.fnOf "straight" "Line.straight" (defArgs s_Line_straight) (defBody s_Line_straight) (defScope s_Line_straight) (.ref dT_Line_straight) kV_Line_straight dc_Line_straight pm_Line_straight an_Line_straight cd_Line_straight ct_Line_straight), sl_Line_straight⟩)
    (c_Line_straight : PySem.W.codeIn K cd_Line_straight "Line.straight" = true)
    (k_Line_straight : PySem.W.keepIn K (.ref f_Line_straight) = true)
    (t_Line_straight : K.lookup dT_Line_straight = some ⟨dc0_Line_straight, dd0_Line_straight, .seq #[.int 0 dt_Line_straight] dn_Line_straight, ds_Line_straight⟩)
    (a_Line_corners : PySem.W.findIn K (.ref f_Line) "corners" = some (some (.ref p_Line_corners)))
    (pg_Line_corners : PySem.W.specialIn K (.ref p_Line_corners) "__get__" = some (some (.builtin "property.__get__")))
    (pt_Line_corners : PySem.W.takesIn K (.ref p_Line_corners) = some true)
    (pr_Line_corners : PySem.W.recIn K p_Line_corners "property" = some (.ref f_Line_corners :: rs_Line_corners))
    (l_Line_corners : K.lookup f_Line_corners = some ⟨oc_Line_corners, od_Line_corners, .func (PySem.W.fnOf "corners" "Line.corners" (defArgs s_Line_corners) (defBody s_Line_corners) (defScope s_Line_corners) .none kV_Line_corners dc_Line_corners pm_Line_corners an_Line_corners cd_Line_corners ct_Line_corners), sl_Line_corners⟩)
    (c_Line_corners : PySem.W.codeIn K cd_Line_corners "Line.corners" = true)
    (k_Line_corners : PySem.W.keepIn K (.ref f_Line_corners) = true)
    (a_Line_slope : PySem.W.findIn K (.ref f_Line) "slope" = some (some (.ref p_Line_slope)))
    (pg_Line_slope : PySem.W.specialIn K (.ref p_Line_slope) "__get__" = some (some (.builtin "property.__get__")))
    (pt_Line_slope : PySem.W.takesIn K (.ref p_Line_slope) = some true)
    (pr_Line_slope : PySem.W.recIn K p_Line_slope "property" = some (.ref f_Line_slope :: rs_Line_slope))
    (l_Line_slope : K.lookup f_Line_slope = some ⟨oc_Line_slope, od_Line_slope, .func (PySem.W.fnOf "slope" "Line.slope" (defArgs s_Line_slope) (defBody s_Line_slope) (defScope s_Line_slope) .none kV_Line_slope dc_Line_slope pm_Line_slope an_Line_slope cd_Line_slope ct_Line_slope), sl_Line_slope⟩)
    (c_Line_slope : PySem.W.codeIn K cd_Line_slope "Line.slope" = true)
    (k_Line_slope : PySem.W.keepIn K (.ref f_Line_slope) = true)
    (a_Line_time_at : PySem.W.findIn K (.ref f_Line) "time_at" = some (some (.ref f_Line_time_at)))
    (i_Line_time_at : PySem.W.isFn K (.ref f_Line_time_at) = true)
    (l_Line_time_at : K.lookup f_Line_time_at = some ⟨oc_Line_time_at, od_Line_time_at, .func (PySem.W.fnOf "time_at" "Line.time_at" (defArgs s_Line_time_at) (defBody s_Line_time_at) (defScope s_Line_time_at) .none kV_Line_time_at dc_Line_time_at pm_Line_time_at an_Line_time_at cd_Line_time_at ct_Line_time_at), sl_Line_time_at⟩)
    (c_Line_time_at : PySem.W.codeIn K cd_Line_time_at "Line.time_at" = true)
    (k_Line_time_at : PySem.W.keepIn K (.ref f_Line_time_at) = true)
    (a_Line_covers : PySem.W.findIn K (.ref f_Line) "covers" = some (some (.ref f_Line_covers)))
    (i_Line_covers : PySem.W.isFn K (.ref f_Line_covers) = true)
    (l_Line_covers : K.lookup f_Line_covers = some ⟨oc_Line_covers, od_Line_covers, .func (PySem.W.fnOf "covers" "Line.covers" (defArgs s_Line_covers) (defBody s_Line_covers) (defScope s_Line_covers) .none kV_Line_covers dc_Line_covers pm_Line_covers an_Line_covers cd_Line_covers ct_Line_covers), sl_Line_covers⟩)
    (c_Line_covers : PySem.W.codeIn K cd_Line_covers "Line.covers" = true)
    (k_Line_covers : PySem.W.keepIn K (.ref f_Line_covers) = true)
    (a_Line_call : PySem.W.findIn K (.ref f_Line) "__call__" = some (some (.ref f_Line_call)))
    (i_Line_call : PySem.W.isFn K (.ref f_Line_call) = true)
    (l_Line_call : K.lookup f_Line_call = some ⟨oc_Line_call, od_Line_call, .func (PySem.W.fnOf "__call__" "Line.__call__" (defArgs s_Line_call) (defBody s_Line_call) (defScope s_Line_call) .none kV_Line_call dc_Line_call pm_Line_call an_Line_call cd_Line_call ct_Line_call), sl_Line_call⟩)
    (c_Line_call : PySem.W.codeIn K cd_Line_call "Line.__call__" = true)
    (k_Line_call : PySem.W.keepIn K (.ref f_Line_call) = true)
    (a_Line_add : PySem.W.findIn K (.ref f_Line) "__add__" = some (some (.ref f_Line_add)))
    (i_Line_add : PySem.W.isFn K (.ref f_Line_add) = true)
    (l_Line_add : K.lookup f_Line_add = some ⟨oc_Line_add, od_Line_add, .func (PySem.W.fnOf "__add__" "Line.__add__" (defArgs s_Line_add) (defBody s_Line_add) (defScope s_Line_add) .none kV_Line_add dc_Line_add pm_Line_add an_Line_add cd_Line_add ct_Line_add), sl_Line_add⟩)
    (c_Line_add : PySem.W.codeIn K cd_Line_add "Line.__add__" = true)
    (k_Line_add : PySem.W.keepIn K (.ref f_Line_add) = true)
    (a_Line_eq : PySem.W.findIn K (.ref f_Line) "__eq__" = some (some (.ref f_Line_eq)))
    (i_Line_eq : PySem.W.isFn K (.ref f_Line_eq) = true)
    (l_Line_eq : K.lookup f_Line_eq = some ⟨oc_Line_eq, od_Line_eq, .func (PySem.W.fnOf "__eq__" "Line.__eq__" (defArgs s_Line_eq) (defBody s_Line_eq) (defScope s_Line_eq) .none kV_Line_eq dc_Line_eq pm_Line_eq an_Line_eq cd_Line_eq ct_Line_eq), sl_Line_eq⟩)
    (c_Line_eq : PySem.W.codeIn K cd_Line_eq "Line.__eq__" = true)
    (k_Line_eq : PySem.W.keepIn K (.ref f_Line_eq) = true)
    (sf_Ratio : PySem.W.selfFirst K f_Ratio = true)
    (us_Ratio : PySem.W.subIn K (.ref f_Ratio) (.type "int") = some false)
    (a_Ratio_radd : PySem.W.findIn K (.ref f_Ratio) "__radd__" = some (some (.ref f_Ratio_radd)))
    (i_Ratio_radd : PySem.W.isFn K (.ref f_Ratio_radd) = true)
    (i1_Ratio_add : PySem.W.findIn K (.type "int") "__add__" = some fo_Ratio_add)
    (i2_Ratio_add : PySem.W.findIn K (.type "int") "__radd__" = some ro_Ratio_add)
    (a_Ratio_rsub : PySem.W.findIn K (.ref f_Ratio) "__rsub__" = some (some (.ref f_Ratio_rsub)))
    (i_Ratio_rsub : PySem.W.isFn K (.ref f_Ratio_rsub) = true)
    (i1_Ratio_sub : PySem.W.findIn K (.type "int") "__sub__" = some fo_Ratio_sub)
    (i2_Ratio_sub : PySem.W.findIn K (.type "int") "__rsub__" = some ro_Ratio_sub)
    (a_Ratio_rmul : PySem.W.findIn K (.ref f_Ratio) "__rmul__" = some (some (.ref f_Ratio_rmul)))
    (i_Ratio_rmul : PySem.W.isFn K (.ref f_Ratio_rmul) = true)
    (i1_Ratio_mul : PySem.W.findIn K (.type "int") "__mul__" = some fo_Ratio_mul)
    (i2_Ratio_mul : PySem.W.findIn K (.type "int") "__rmul__" = some ro_Ratio_mul)
    (sf_Line : PySem.W.selfFirst K f_Line = true)
    (ot_Ratio_int : PySem.W.subIn K (.ref f_Ratio) (.type "int") = some false)
    (ot_Ratio_str : PySem.W.subIn K (.ref f_Ratio) (.type "str") = some false)
    (ot_Ratio_NoneType : PySem.W.subIn K (.ref f_Ratio) (.type "NoneType") = some false)
    (ot_Ratio_tuple : PySem.W.subIn K (.ref f_Ratio) (.type "tuple") = some false)
    (ot_Ratio_list : PySem.W.subIn K (.ref f_Ratio) (.type "list") = some false)
    (ne_Ratio : PySem.W.findIn K (.ref f_Ratio) "__ne__" = some (some (.builtin "object.__ne__")))
    (ob_Ratio : PySem.W.subIn K (.ref f_Ratio) (.type "object") = some true)
    (ot_Line_int : PySem.W.subIn K (.ref f_Line) (.type "int") = some false)
    (ot_Line_str : PySem.W.subIn K (.ref f_Line) (.type "str") = some false)
    (ot_Line_NoneType : PySem.W.subIn K (.ref f_Line) (.type "NoneType") = some false)
    (ot_Line_tuple : PySem.W.subIn K (.ref f_Line) (.type "tuple") = some false)
    (ot_Line_list : PySem.W.subIn K (.ref f_Line) (.type "list") = some false)
    (ne_Line : PySem.W.findIn K (.ref f_Line) "__ne__" = some (some (.builtin "object.__ne__")))
    (ob_Line : PySem.W.subIn K (.ref f_Line) (.type "object") = some true)
    (cc_Ratio : PySem.W.clsIn K f_Ratio = some cdd_Ratio)
    (mr_Ratio : cdd_Ratio.mro = [.ref f_Ratio, .type "object"])
    (no1_Ratio_add : PySem.W.findIn K (.ref f_Ratio) "__iadd__" = some none)
    (no2_Ratio_add : PySem.W.findIn K (.type "object") "__iadd__" = some none)
    (no1_Ratio_sub : PySem.W.findIn K (.ref f_Ratio) "__isub__" = some none)
    (no2_Ratio_sub : PySem.W.findIn K (.type "object") "__isub__" = some none)
    (no1_Ratio_mul : PySem.W.findIn K (.ref f_Ratio) "__imul__" = some none)
    (no2_Ratio_mul : PySem.W.findIn K (.type "object") "__imul__" = some none)
    (fi_Line_call : PySem.W.fnIn K f_Line_call = true)
    (g_gcd : PySem.W.nsIn K mainGlobals "gcd" = some (some (.builtin "math.gcd")))
    (z_abs : PySem.W.nsIn K mainGlobals "abs" = some none)
    (z_any : PySem.W.nsIn K mainGlobals "any" = some none)
    (z_int : PySem.W.nsIn K mainGlobals "int" = some none)
    (z_isinstance : PySem.W.nsIn K mainGlobals "isinstance" = some none)
    (z_len : PySem.W.nsIn K mainGlobals "len" = some none)
    (z_list : PySem.W.nsIn K mainGlobals "list" = some none)
    (z_range : PySem.W.nsIn K mainGlobals "range" = some none)
    (z_tuple : PySem.W.nsIn K mainGlobals "tuple" = some none)
    (z_zip : PySem.W.nsIn K mainGlobals "zip" = some none)
    (a_law : PySem.W.nsIn K mainGlobals "law" = some (some (.ref f_law)))
    (l_law : K.lookup f_law = some ⟨oc_law, od_law, .func (PySem.W.fnOf "law" "law" (defArgs s_law) (defBody s_law) (defScope s_law) .none kV_law dc_law pm_law an_law cd_law ct_law), sl_law⟩)
    (c_law : PySem.W.codeIn K cd_law "law" = true)
    (k_law : PySem.W.keepIn K (.ref f_law) = true)
    : ∃ fd : FuncData, (∀ (s : Shared) (v : Value), BindsTo s fd ⟨[v], []⟩ [("_law_script", v)]) ∧ ∀ base : Heap, K.In base → base.Ns mainGlobals mg → FnOk l.prog w K mg base CX0 10 fa fd ["_law_script"] (spLaw K) := by
  have e := hfa.symm.trans (PySem.W.mg_of X G a_law)
  cases e
  obtain ⟨e1_Ratio_init, ev1_Ratio_init, eb1_Ratio_init⟩ := FunD.binds1 (K := K) (f := f_Ratio_init) (fd := PySem.W.fnOf "__init__" "Ratio.__init__" (defArgs s_Ratio_init) (defBody s_Ratio_init) (defScope s_Ratio_init) (.ref dT_Ratio_init) kV_Ratio_init dc_Ratio_init pm_Ratio_init an_Ratio_init cd_Ratio_init ct_Ratio_init) (dvs := [V.int 1]) (kws := []) (ps := ["self", "top", "bottom"]) ⟨⟨_, _, _, _, _, _, _, _, _, _, rfl, l_Ratio_init, c_Ratio_init, .inr ⟨by simp, _, _, [.int 1 dt_Ratio_init], _, rfl, t_Ratio_init, rfl, .cons ⟨_, rfl⟩ .nil⟩, .inl rfl⟩, k_Ratio_init⟩ 2 0 (by simp) rfl fun _ _ _ _ _ _ _ us its hl hi => match us, hl, its, hi with | [_, _], _, [_], _ => ⟨_, rfl, rfl⟩
  obtain ⟨e2_Ratio_init, ev2_Ratio_init, eb2_Ratio_init⟩ := FunD.binds1 (K := K) (f := f_Ratio_init) (fd := PySem.W.fnOf "__init__" "Ratio.__init__" (defArgs s_Ratio_init) (defBody s_Ratio_init) (defScope s_Ratio_init) (.ref dT_Ratio_init) kV_Ratio_init dc_Ratio_init pm_Ratio_init an_Ratio_init cd_Ratio_init ct_Ratio_init) (dvs := [V.int 1]) (kws := []) (ps := ["self", "top", "bottom"]) ⟨⟨_, _, _, _, _, _, _, _, _, _, rfl, l_Ratio_init, c_Ratio_init, .inr ⟨by simp, _, _, [.int 1 dt_Ratio_init], _, rfl, t_Ratio_init, rfl, .cons ⟨_, rfl⟩ .nil⟩, .inl rfl⟩, k_Ratio_init⟩ 3 1 (by simp) rfl fun _ _ _ _ _ _ _ us its hl hi => match us, hl, its, hi with | [_, _, _], _, [_], _ => ⟨_, rfl, rfl⟩
  obtain ⟨e1_Line_straight, ev1_Line_straight, eb1_Line_straight⟩ := FunD.binds1 (K := K) (f := f_Line_straight) (fd := PySem.W.fnOf "straight" "Line.straight" (defArgs s_Line_straight) (defBody s_Line_straight) (defScope s_Line_straight) (.ref dT_Line_straight) kV_Line_straight dc_Line_straight pm_Line_straight an_Line_straight cd_Line_straight ct_Line_straight) (dvs := [V.int 0]) (kws := []) (ps := ["cls", "base", "slope"]) ⟨⟨_, _, _, _, _, _, _, _, _, _, rfl, l_Line_straight, c_Line_straight, .inr ⟨by simp, _, _, [.int 0 dt_Line_straight], _, rfl, t_Line_straight, rfl, .cons ⟨_, rfl⟩ .nil⟩, .inl rfl⟩, k_Line_straight⟩ 2 0 (by simp) rfl fun _ _ _ _ _ _ _ us its hl hi => match us, hl, its, hi with | [_, _], _, [_], _ => ⟨_, rfl, rfl⟩
  obtain ⟨e2_Line_straight, ev2_Line_straight, eb2_Line_straight⟩ := FunD.binds1 (K := K) (f := f_Line_straight) (fd := PySem.W.fnOf "straight" "Line.straight" (defArgs s_Line_straight) (defBody s_Line_straight) (defScope s_Line_straight) (.ref dT_Line_straight) kV_Line_straight dc_Line_straight pm_Line_straight an_Line_straight cd_Line_straight ct_Line_straight) (dvs := [V.int 0]) (kws := []) (ps := ["cls", "base", "slope"]) ⟨⟨_, _, _, _, _, _, _, _, _, _, rfl, l_Line_straight, c_Line_straight, .inr ⟨by simp, _, _, [.int 0 dt_Line_straight], _, rfl, t_Line_straight, rfl, .cons ⟨_, rfl⟩ .nil⟩, .inl rfl⟩, k_Line_straight⟩ 3 1 (by simp) rfl fun _ _ _ _ _ _ _ us its hl hi => match us, hl, its, hi with | [_, _, _], _, [_], _ => ⟨_, rfl, rfl⟩
  have T : Txt K mg := {
    f_Ratio := f_Ratio,
    m_Ratio := PySem.W.mg_of X G a_Ratio,
    cl_Ratio := ⟨pg_Ratio, hd_Ratio, po_Ratio, sa_Ratio⟩,
    ic_Ratio := ⟨⟨pg_Ratio, hd_Ratio, po_Ratio, sa_Ratio⟩, hc_Ratio, hn_class, ht_class, mo_Ratio, kit_self⟩,
    na_Ratio_top := na_Ratio_top,
    na_Ratio_bottom := na_Ratio_bottom,
    sn_Ratio_int := su_Ratio_int,
    ki_Ratio_int := kit_not ic_Ratio ty_Ratio su_Ratio_int (fun z => nomatch z),
    f_Line := f_Line,
    m_Line := PySem.W.mg_of X G a_Line,
    cl_Line := ⟨pg_Line, hd_Line, po_Line, sa_Line⟩,
    ic_Line := ⟨⟨pg_Line, hd_Line, po_Line, sa_Line⟩, hc_Line, hn_class, ht_class, mo_Line, kit_self⟩,
    na_Line_loads := na_Line_loads,
    na_Line_times := na_Line_times,
    na_Line_rises := na_Line_rises,
    f_as_ratio := f_as_ratio,
    d_as_ratio := PySem.W.fnOf "as_ratio" "as_ratio" (defArgs s_as_ratio) (defBody s_as_ratio) (defScope s_as_ratio) .none kV_as_ratio dc_as_ratio pm_as_ratio an_as_ratio cd_as_ratio ct_as_ratio,
    F_as_ratio := fun_mk (st := s_as_ratio) l_as_ratio c_as_ratio k_as_ratio,
    b_as_ratio := (fun_mk (st := s_as_ratio) l_as_ratio c_as_ratio k_as_ratio).binds (ps := ["value"]) fun _ _ _ _ _ _ us hl => match us, hl with | [_], _ => rfl,
    m_as_ratio := PySem.W.mg_of X G a_as_ratio,
    f_check_corners := f_check_corners,
    d_check_corners := PySem.W.fnOf "check_corners" "check_corners" (defArgs s_check_corners) (defBody s_check_corners) (defScope s_check_corners) .none kV_check_corners dc_check_corners pm_check_corners an_check_corners cd_check_corners ct_check_corners,
    F_check_corners := fun_mk (st := s_check_corners) l_check_corners c_check_corners k_check_corners,
    b_check_corners := (fun_mk (st := s_check_corners) l_check_corners c_check_corners k_check_corners).binds (ps := ["corners"]) fun _ _ _ _ _ _ us hl => match us, hl with | [_], _ => rfl,
    m_check_corners := PySem.W.mg_of X G a_check_corners,
    f_rises_between := f_rises_between,
    d_rises_between := PySem.W.fnOf "rises_between" "rises_between" (defArgs s_rises_between) (defBody s_rises_between) (defScope s_rises_between) .none kV_rises_between dc_rises_between pm_rises_between an_rises_between cd_rises_between ct_rises_between,
    F_rises_between := fun_mk (st := s_rises_between) l_rises_between c_rises_between k_rises_between,
    b_rises_between := (fun_mk (st := s_rises_between) l_rises_between c_rises_between k_rises_between).binds (ps := ["loads", "times"]) fun _ _ _ _ _ _ us hl => match us, hl with | [_, _], _ => rfl,
    m_rises_between := PySem.W.mg_of X G a_rises_between,
    f_many_upto := f_many_upto,
    d_many_upto := PySem.W.fnOf "many_upto" "many_upto" (defArgs s_many_upto) (defBody s_many_upto) (defScope s_many_upto) .none kV_many_upto dc_many_upto pm_many_upto an_many_upto cd_many_upto ct_many_upto,
    F_many_upto := fun_mk (st := s_many_upto) l_many_upto c_many_upto k_many_upto,
    b_many_upto := (fun_mk (st := s_many_upto) l_many_upto c_many_upto k_many_upto).binds (ps := ["values", "value"]) fun _ _ _ _ _ _ us hl => match us, hl with | [_, _], _ => rfl,
    m_many_upto := PySem.W.mg_of X G a_many_upto,
    f_ascending := f_ascending,
    d_ascending := PySem.W.fnOf "ascending" "ascending" (defArgs s_ascending) (defBody s_ascending) (defScope s_ascending) .none kV_ascending dc_ascending pm_ascending an_ascending cd_ascending ct_ascending,
    F_ascending := fun_mk (st := s_ascending) l_ascending c_ascending k_ascending,
    b_ascending := (fun_mk (st := s_ascending) l_ascending c_ascending k_ascending).binds (ps := ["first", "second"]) fun _ _ _ _ _ _ us hl => match us, hl with | [_, _], _ => rfl,
    m_ascending := PySem.W.mg_of X G a_ascending,
    f_start := f_start,
    d_start := PySem.W.fnOf "_law_start" "_law_start" (defArgs s_start) (defBody s_start) (defScope s_start) .none kV_start dc_start pm_start an_start cd_start ct_start,
    F_start := fun_mk (st := s_start) l_start c_start k_start,
    b_start := (fun_mk (st := s_start) l_start c_start k_start).binds (ps := ["_law_script"]) fun _ _ _ _ _ _ us hl => match us, hl with | [_], _ => rfl,
    m_start := PySem.W.mg_of X G a_start,
    f_draw := f_draw,
    d_draw := PySem.W.fnOf "_law_draw" "_law_draw" (defArgs s_draw) (defBody s_draw) (defScope s_draw) .none kV_draw dc_draw pm_draw an_draw cd_draw ct_draw,
    F_draw := fun_mk (st := s_draw) l_draw c_draw k_draw,
    b_draw := (fun_mk (st := s_draw) l_draw c_draw k_draw).binds (ps := ["_law_state", "_law_size"]) fun _ _ _ _ _ _ us hl => match us, hl with | [_, _], _ => rfl,
    m_draw := PySem.W.mg_of X G a_draw,
    f_low := f_low,
    d_low := PySem.W.fnOf "_law_low" "_law_low" (defArgs s_low) (defBody s_low) (defScope s_low) .none kV_low dc_low pm_low an_low cd_low ct_low,
    F_low := fun_mk (st := s_low) l_low c_low k_low,
    b_low := (fun_mk (st := s_low) l_low c_low k_low).binds (ps := ["_law_up", "_law_down"]) fun _ _ _ _ _ _ us hl => match us, hl with | [_, _], _ => rfl,
    m_low := PySem.W.mg_of X G a_low,
    f_plus := f_plus,
    d_plus := PySem.W.fnOf "_law_plus" "_law_plus" (defArgs s_plus) (defBody s_plus) (defScope s_plus) .none kV_plus dc_plus pm_plus an_plus cd_plus ct_plus,
    F_plus := fun_mk (st := s_plus) l_plus c_plus k_plus,
    b_plus := (fun_mk (st := s_plus) l_plus c_plus k_plus).binds (ps := ["_law_one", "_law_two"]) fun _ _ _ _ _ _ us hl => match us, hl with | [_, _], _ => rfl,
    m_plus := PySem.W.mg_of X G a_plus,
    f_times := f_times,
    d_times := PySem.W.fnOf "_law_times" "_law_times" (defArgs s_times) (defBody s_times) (defScope s_times) .none kV_times dc_times pm_times an_times cd_times ct_times,
    F_times := fun_mk (st := s_times) l_times c_times k_times,
    b_times := (fun_mk (st := s_times) l_times c_times k_times).binds (ps := ["_law_one", "_law_two"]) fun _ _ _ _ _ _ us hl => match us, hl with | [_, _], _ => rfl,
    m_times := PySem.W.mg_of X G a_times,
    f_less := f_less,
    d_less := PySem.W.fnOf "_law_less" "_law_less" (defArgs s_less) (defBody s_less) (defScope s_less) .none kV_less dc_less pm_less an_less cd_less ct_less,
    F_less := fun_mk (st := s_less) l_less c_less k_less,
    b_less := (fun_mk (st := s_less) l_less c_less k_less).binds (ps := ["_law_one", "_law_two"]) fun _ _ _ _ _ _ us hl => match us, hl with | [_, _], _ => rfl,
    m_less := PySem.W.mg_of X G a_less,
    f_is := f_is,
    d_is := PySem.W.fnOf "_law_is" "_law_is" (defArgs s_is) (defBody s_is) (defScope s_is) .none kV_is dc_is pm_is an_is cd_is ct_is,
    F_is := fun_mk (st := s_is) l_is c_is k_is,
    b_is := (fun_mk (st := s_is) l_is c_is k_is).binds (ps := ["_law_actual", "_law_pair"]) fun _ _ _ _ _ _ us hl => match us, hl with | [_, _], _ => rfl,
    m_is := PySem.W.mg_of X G a_is,
    f_value := f_value,
    d_value := PySem.W.fnOf "_law_value" "_law_value" (defArgs s_value) (defBody s_value) (defScope s_value) .none kV_value dc_value pm_value an_value cd_value ct_value,
    F_value := fun_mk (st := s_value) l_value c_value k_value,
    b_value := (fun_mk (st := s_value) l_value c_value k_value).binds (ps := ["_law_state", "_law_pair"]) fun _ _ _ _ _ _ us hl => match us, hl with | [_, _], _ => rfl,
    m_value := PySem.W.mg_of X G a_value,
    f_corners := f_corners,
    d_corners := PySem.W.fnOf "_law_corners" "_law_corners" (defArgs s_corners) (defBody s_corners) (defScope s_corners) .none kV_corners dc_corners pm_corners an_corners cd_corners ct_corners,
    F_corners := fun_mk (st := s_corners) l_corners c_corners k_corners,
    b_corners := (fun_mk (st := s_corners) l_corners c_corners k_corners).binds (ps := ["_law_state"]) fun _ _ _ _ _ _ us hl => match us, hl with | [_], _ => rfl,
    m_corners := PySem.W.mg_of X G a_corners,
    f_over := f_over,
    d_over := PySem.W.fnOf "_law_over" "_law_over" (defArgs s_over) (defBody s_over) (defScope s_over) .none kV_over dc_over pm_over an_over cd_over ct_over,
    F_over := fun_mk (st := s_over) l_over c_over k_over,
    b_over := (fun_mk (st := s_over) l_over c_over k_over).binds (ps := ["_law_one", "_law_two"]) fun _ _ _ _ _ _ us hl => match us, hl with | [_, _], _ => rfl,
    m_over := PySem.W.mg_of X G a_over,
    f_minus := f_minus,
    d_minus := PySem.W.fnOf "_law_minus" "_law_minus" (defArgs s_minus) (defBody s_minus) (defScope s_minus) .none kV_minus dc_minus pm_minus an_minus cd_minus ct_minus,
    F_minus := fun_mk (st := s_minus) l_minus c_minus k_minus,
    b_minus := (fun_mk (st := s_minus) l_minus c_minus k_minus).binds (ps := ["_law_one", "_law_two"]) fun _ _ _ _ _ _ us hl => match us, hl with | [_, _], _ => rfl,
    m_minus := PySem.W.mg_of X G a_minus,
    f_steep := f_steep,
    d_steep := PySem.W.fnOf "_law_steep" "_law_steep" (defArgs s_steep) (defBody s_steep) (defScope s_steep) .none kV_steep dc_steep pm_steep an_steep cd_steep ct_steep,
    F_steep := fun_mk (st := s_steep) l_steep c_steep k_steep,
    b_steep := (fun_mk (st := s_steep) l_steep c_steep k_steep).binds (ps := ["_law_corners_here", "_law_slope", "_law_k"]) fun _ _ _ _ _ _ us hl => match us, hl with | [_, _, _], _ => rfl,
    m_steep := PySem.W.mg_of X G a_steep,
    f_time := f_time,
    d_time := PySem.W.fnOf "_law_time" "_law_time" (defArgs s_time) (defBody s_time) (defScope s_time) .none kV_time dc_time pm_time an_time cd_time ct_time,
    F_time := fun_mk (st := s_time) l_time c_time k_time,
    b_time := (fun_mk (st := s_time) l_time c_time k_time).binds (ps := ["_law_corners_here", "_law_slope", "_law_load"]) fun _ _ _ _ _ _ us hl => match us, hl with | [_, _, _], _ => rfl,
    m_time := PySem.W.mg_of X G a_time,
    f_line := f_line,
    d_line := PySem.W.fnOf "_law_line" "_law_line" (defArgs s_line) (defBody s_line) (defScope s_line) .none kV_line dc_line pm_line an_line cd_line ct_line,
    F_line := fun_mk (st := s_line) l_line c_line k_line,
    b_line := (fun_mk (st := s_line) l_line c_line k_line).binds (ps := ["_law_state", "_law_corners_here", "_law_slope"]) fun _ _ _ _ _ _ us hl => match us, hl with | [_, _, _], _ => rfl,
    m_line := PySem.W.mg_of X G a_line,
    f_plain := f_plain,
    d_plain := PySem.W.fnOf "_law_plain" "_law_plain" (defArgs s_plain) (defBody s_plain) (defScope s_plain) .none kV_plain dc_plain pm_plain an_plain cd_plain ct_plain,
    F_plain := fun_mk (st := s_plain) l_plain c_plain k_plain,
    b_plain := (fun_mk (st := s_plain) l_plain c_plain k_plain).binds (ps := ["_law_corners_here", "_law_slope"]) fun _ _ _ _ _ _ us hl => match us, hl with | [_, _], _ => rfl,
    m_plain := PySem.W.mg_of X G a_plain,
    f_told := f_told,
    d_told := PySem.W.fnOf "_law_told" "_law_told" (defArgs s_told) (defBody s_told) (defScope s_told) .none kV_told dc_told pm_told an_told cd_told ct_told,
    F_told := fun_mk (st := s_told) l_told c_told k_told,
    b_told := (fun_mk (st := s_told) l_told c_told k_told).binds (ps := ["_law_line_here"]) fun _ _ _ _ _ _ us hl => match us, hl with | [_], _ => rfl,
    m_told := PySem.W.mg_of X G a_told,
    f_asked := f_asked,
    d_asked := PySem.W.fnOf "_law_asked" "_law_asked" (defArgs s_asked) (defBody s_asked) (defScope s_asked) .none kV_asked dc_asked pm_asked an_asked cd_asked ct_asked,
    F_asked := fun_mk (st := s_asked) l_asked c_asked k_asked,
    b_asked := (fun_mk (st := s_asked) l_asked c_asked k_asked).binds (ps := ["_law_line_here"]) fun _ _ _ _ _ _ us hl => match us, hl with | [_], _ => rfl,
    m_asked := PySem.W.mg_of X G a_asked,
    f_Ratio_init := f_Ratio_init,
    d_Ratio_init := PySem.W.fnOf "__init__" "Ratio.__init__" (defArgs s_Ratio_init) (defBody s_Ratio_init) (defScope s_Ratio_init) (.ref dT_Ratio_init) kV_Ratio_init dc_Ratio_init pm_Ratio_init an_Ratio_init cd_Ratio_init ct_Ratio_init,
    F_Ratio_init := ⟨⟨_, _, _, _, _, _, _, _, _, _, rfl, l_Ratio_init, c_Ratio_init, .inr ⟨by simp, _, _, [.int 1 dt_Ratio_init], _, rfl, t_Ratio_init, rfl, .cons ⟨_, rfl⟩ .nil⟩, .inl rfl⟩, k_Ratio_init⟩,
    a_Ratio_init := a_Ratio_init,
    i_Ratio_init := i_Ratio_init,
    mk_Ratio := ⟨mk_Ratio, a_Ratio_init, i_Ratio_init, kc_Ratio⟩,
    f_Ratio_top := f_Ratio_top,
    d_Ratio_top := PySem.W.fnOf "top" "Ratio.top" (defArgs s_Ratio_top) (defBody s_Ratio_top) (defScope s_Ratio_top) .none kV_Ratio_top dc_Ratio_top pm_Ratio_top an_Ratio_top cd_Ratio_top ct_Ratio_top,
    F_Ratio_top := fun_mk (st := s_Ratio_top) l_Ratio_top c_Ratio_top k_Ratio_top,
    b_Ratio_top := (fun_mk (st := s_Ratio_top) l_Ratio_top c_Ratio_top k_Ratio_top).binds (ps := ["self"]) fun _ _ _ _ _ _ us hl => match us, hl with | [_], _ => rfl,
    p0_Ratio_top := p_Ratio_top,
    p_Ratio_top := ⟨a_Ratio_top, pg_Ratio_top, pt_Ratio_top, ⟨_, pr_Ratio_top⟩⟩,
    f_Ratio_bottom := f_Ratio_bottom,
    d_Ratio_bottom := PySem.W.fnOf "bottom" "Ratio.bottom" (defArgs s_Ratio_bottom) (defBody s_Ratio_bottom) (defScope s_Ratio_bottom) .none kV_Ratio_bottom dc_Ratio_bottom pm_Ratio_bottom an_Ratio_bottom cd_Ratio_bottom ct_Ratio_bottom,
    F_Ratio_bottom := fun_mk (st := s_Ratio_bottom) l_Ratio_bottom c_Ratio_bottom k_Ratio_bottom,
    b_Ratio_bottom := (fun_mk (st := s_Ratio_bottom) l_Ratio_bottom c_Ratio_bottom k_Ratio_bottom).binds (ps := ["self"]) fun _ _ _ _ _ _ us hl => match us, hl with | [_], _ => rfl,
    p0_Ratio_bottom := p_Ratio_bottom,
    p_Ratio_bottom := ⟨a_Ratio_bottom, pg_Ratio_bottom, pt_Ratio_bottom, ⟨_, pr_Ratio_bottom⟩⟩,
    f_Ratio_sign := f_Ratio_sign,
    d_Ratio_sign := PySem.W.fnOf "sign" "Ratio.sign" (defArgs s_Ratio_sign) (defBody s_Ratio_sign) (defScope s_Ratio_sign) .none kV_Ratio_sign dc_Ratio_sign pm_Ratio_sign an_Ratio_sign cd_Ratio_sign ct_Ratio_sign,
    F_Ratio_sign := fun_mk (st := s_Ratio_sign) l_Ratio_sign c_Ratio_sign k_Ratio_sign,
    b_Ratio_sign := (fun_mk (st := s_Ratio_sign) l_Ratio_sign c_Ratio_sign k_Ratio_sign).binds (ps := ["self"]) fun _ _ _ _ _ _ us hl => match us, hl with | [_], _ => rfl,
    p0_Ratio_sign := p_Ratio_sign,
    p_Ratio_sign := ⟨a_Ratio_sign, pg_Ratio_sign, pt_Ratio_sign, ⟨_, pr_Ratio_sign⟩⟩,
    f_Ratio_over := f_Ratio_over,
    d_Ratio_over := PySem.W.fnOf "over" "Ratio.over" (defArgs s_Ratio_over) (defBody s_Ratio_over) (defScope s_Ratio_over) .none kV_Ratio_over dc_Ratio_over pm_Ratio_over an_Ratio_over cd_Ratio_over ct_Ratio_over,
    F_Ratio_over := fun_mk (st := s_Ratio_over) l_Ratio_over c_Ratio_over k_Ratio_over,
    b_Ratio_over := (fun_mk (st := s_Ratio_over) l_Ratio_over c_Ratio_over k_Ratio_over).binds (ps := ["self", "value"]) fun _ _ _ _ _ _ us hl => match us, hl with | [_, _], _ => rfl,
    a_Ratio_over := a_Ratio_over,
    i_Ratio_over := i_Ratio_over,
    f_Ratio_below := f_Ratio_below,
    d_Ratio_below := PySem.W.fnOf "below" "Ratio.below" (defArgs s_Ratio_below) (defBody s_Ratio_below) (defScope s_Ratio_below) .none kV_Ratio_below dc_Ratio_below pm_Ratio_below an_Ratio_below cd_Ratio_below ct_Ratio_below,
    F_Ratio_below := fun_mk (st := s_Ratio_below) l_Ratio_below c_Ratio_below k_Ratio_below,
    b_Ratio_below := (fun_mk (st := s_Ratio_below) l_Ratio_below c_Ratio_below k_Ratio_below).binds (ps := ["self", "value"]) fun _ _ _ _ _ _ us hl => match us, hl with | [_, _], _ => rfl,
    a_Ratio_below := a_Ratio_below,
    i_Ratio_below := i_Ratio_below,
    f_Ratio_neg := f_Ratio_neg,
    d_Ratio_neg := PySem.W.fnOf "__neg__" "Ratio.__neg__" (defArgs s_Ratio_neg) (defBody s_Ratio_neg) (defScope s_Ratio_neg) .none kV_Ratio_neg dc_Ratio_neg pm_Ratio_neg an_Ratio_neg cd_Ratio_neg ct_Ratio_neg,
    F_Ratio_neg := fun_mk (st := s_Ratio_neg) l_Ratio_neg c_Ratio_neg k_Ratio_neg,
    b_Ratio_neg := (fun_mk (st := s_Ratio_neg) l_Ratio_neg c_Ratio_neg k_Ratio_neg).binds (ps := ["self"]) fun _ _ _ _ _ _ us hl => match us, hl with | [_], _ => rfl,
    a_Ratio_neg := a_Ratio_neg,
    i_Ratio_neg := i_Ratio_neg,
    f_Ratio_add := f_Ratio_add,
    d_Ratio_add := PySem.W.fnOf "__add__" "Ratio.__add__" (defArgs s_Ratio_add) (defBody s_Ratio_add) (defScope s_Ratio_add) .none kV_Ratio_add dc_Ratio_add pm_Ratio_add an_Ratio_add cd_Ratio_add ct_Ratio_add,
    F_Ratio_add := fun_mk (st := s_Ratio_add) l_Ratio_add c_Ratio_add k_Ratio_add,
    b_Ratio_add := (fun_mk (st := s_Ratio_add) l_Ratio_add c_Ratio_add k_Ratio_add).binds (ps := ["self", "other"]) fun _ _ _ _ _ _ us hl => match us, hl with | [_, _], _ => rfl,
    a_Ratio_add := a_Ratio_add,
    i_Ratio_add := i_Ratio_add,
    f_Ratio_sub := f_Ratio_sub,
    d_Ratio_sub := PySem.W.fnOf "__sub__" "Ratio.__sub__" (defArgs s_Ratio_sub) (defBody s_Ratio_sub) (defScope s_Ratio_sub) .none kV_Ratio_sub dc_Ratio_sub pm_Ratio_sub an_Ratio_sub cd_Ratio_sub ct_Ratio_sub,
    F_Ratio_sub := fun_mk (st := s_Ratio_sub) l_Ratio_sub c_Ratio_sub k_Ratio_sub,
    b_Ratio_sub := (fun_mk (st := s_Ratio_sub) l_Ratio_sub c_Ratio_sub k_Ratio_sub).binds (ps := ["self", "other"]) fun _ _ _ _ _ _ us hl => match us, hl with | [_, _], _ => rfl,
    a_Ratio_sub := a_Ratio_sub,
    i_Ratio_sub := i_Ratio_sub,
    f_Ratio_mul := f_Ratio_mul,
    d_Ratio_mul := PySem.W.fnOf "__mul__" "Ratio.__mul__" (defArgs s_Ratio_mul) (defBody s_Ratio_mul) (defScope s_Ratio_mul) .none kV_Ratio_mul dc_Ratio_mul pm_Ratio_mul an_Ratio_mul cd_Ratio_mul ct_Ratio_mul,
    F_Ratio_mul := fun_mk (st := s_Ratio_mul) l_Ratio_mul c_Ratio_mul k_Ratio_mul,
    b_Ratio_mul := (fun_mk (st := s_Ratio_mul) l_Ratio_mul c_Ratio_mul k_Ratio_mul).binds (ps := ["self", "other"]) fun _ _ _ _ _ _ us hl => match us, hl with | [_, _], _ => rfl,
    a_Ratio_mul := a_Ratio_mul,
    i_Ratio_mul := i_Ratio_mul,
    f_Ratio_eq := f_Ratio_eq,
    d_Ratio_eq := PySem.W.fnOf "__eq__" "Ratio.__eq__" (defArgs s_Ratio_eq) (defBody s_Ratio_eq) (defScope s_Ratio_eq) .none kV_Ratio_eq dc_Ratio_eq pm_Ratio_eq an_Ratio_eq cd_Ratio_eq ct_Ratio_eq,
    F_Ratio_eq := fun_mk (st := s_Ratio_eq) l_Ratio_eq c_Ratio_eq k_Ratio_eq,
    b_Ratio_eq := (fun_mk (st := s_Ratio_eq) l_Ratio_eq c_Ratio_eq k_Ratio_eq).binds (ps := ["self", "other"]) fun _ _ _ _ _ _ us hl => match us, hl with | [_, _], _ => rfl,
    a_Ratio_eq := a_Ratio_eq,
    i_Ratio_eq := i_Ratio_eq,
    f_Line_init := f_Line_init,
    d_Line_init := PySem.W.fnOf "__init__" "Line.__init__" (defArgs s_Line_init) (defBody s_Line_init) (defScope s_Line_init) .none kV_Line_init dc_Line_init pm_Line_init an_Line_init cd_Line_init ct_Line_init,
    F_Line_init := fun_mk (st := s_Line_init) l_Line_init c_Line_init k_Line_init,
    b_Line_init := (fun_mk (st := s_Line_init) l_Line_init c_Line_init k_Line_init).binds (ps := ["self", "corners", "slope"]) fun _ _ _ _ _ _ us hl => match us, hl with | [_, _, _], _ => rfl,
    a_Line_init := a_Line_init,
    i_Line_init := i_Line_init,
    mk_Line := ⟨mk_Line, a_Line_init, i_Line_init, kc_Line⟩,
    f_Line_straight := f_Line_straight,
    d_Line_straight := PySem.W.fnOf "straight" "Line.straight" (defArgs s_Line_straight) (defBody s_Line_straight) (defScope s_Line_straight) (.ref dT_Line_straight) kV_Line_straight dc_Line_straight pm_Line_straight an_Line_straight cd_Line_straight ct_Line_straight,
    F_Line_straight := ⟨⟨_, _, _, _, _, _, _, _, _, _, rfl, l_Line_straight, c_Line_straight, .inr ⟨by simp, _, _, [.int 0 dt_Line_straight], _, rfl, t_Line_straight, rfl, .cons ⟨_, rfl⟩ .nil⟩, .inl rfl⟩, k_Line_straight⟩,
    p0_Line_straight := p_Line_straight,
    cr_Line := ⟨rd_Line_straight, ga_Line_straight⟩,
    cm_Line_straight := ⟨a_Line_straight, ⟨_, pr_Line_straight⟩, pf_Line_straight⟩,
    f_Line_corners := f_Line_corners,
    d_Line_corners := PySem.W.fnOf "corners" "Line.corners" (defArgs s_Line_corners) (defBody s_Line_corners) (defScope s_Line_corners) .none kV_Line_corners dc_Line_corners pm_Line_corners an_Line_corners cd_Line_corners ct_Line_corners,
    F_Line_corners := fun_mk (st := s_Line_corners) l_Line_corners c_Line_corners k_Line_corners,
    b_Line_corners := (fun_mk (st := s_Line_corners) l_Line_corners c_Line_corners k_Line_corners).binds (ps := ["self"]) fun _ _ _ _ _ _ us hl => match us, hl with | [_], _ => rfl,
    p0_Line_corners := p_Line_corners,
    p_Line_corners := ⟨a_Line_corners, pg_Line_corners, pt_Line_corners, ⟨_, pr_Line_corners⟩⟩,
    f_Line_slope := f_Line_slope,
    d_Line_slope := PySem.W.fnOf "slope" "Line.slope" (defArgs s_Line_slope) (defBody s_Line_slope) (defScope s_Line_slope) .none kV_Line_slope dc_Line_slope pm_Line_slope an_Line_slope cd_Line_slope ct_Line_slope,
    F_Line_slope := fun_mk (st := s_Line_slope) l_Line_slope c_Line_slope k_Line_slope,
    b_Line_slope := (fun_mk (st := s_Line_slope) l_Line_slope c_Line_slope k_Line_slope).binds (ps := ["self"]) fun _ _ _ _ _ _ us hl => match us, hl with | [_], _ => rfl,
    p0_Line_slope := p_Line_slope,
    p_Line_slope := ⟨a_Line_slope, pg_Line_slope, pt_Line_slope, ⟨_, pr_Line_slope⟩⟩,
    f_Line_time_at := f_Line_time_at,
    d_Line_time_at := PySem.W.fnOf "time_at" "Line.time_at" (defArgs s_Line_time_at) (defBody s_Line_time_at) (defScope s_Line_time_at) .none kV_Line_time_at dc_Line_time_at pm_Line_time_at an_Line_time_at cd_Line_time_at ct_Line_time_at,
    F_Line_time_at := fun_mk (st := s_Line_time_at) l_Line_time_at c_Line_time_at k_Line_time_at,
    b_Line_time_at := (fun_mk (st := s_Line_time_at) l_Line_time_at c_Line_time_at k_Line_time_at).binds (ps := ["self", "load"]) fun _ _ _ _ _ _ us hl => match us, hl with | [_, _], _ => rfl,
    a_Line_time_at := a_Line_time_at,
    i_Line_time_at := i_Line_time_at,
    f_Line_covers := f_Line_covers,
    d_Line_covers := PySem.W.fnOf "covers" "Line.covers" (defArgs s_Line_covers) (defBody s_Line_covers) (defScope s_Line_covers) .none kV_Line_covers dc_Line_covers pm_Line_covers an_Line_covers cd_Line_covers ct_Line_covers,
    F_Line_covers := fun_mk (st := s_Line_covers) l_Line_covers c_Line_covers k_Line_covers,
    b_Line_covers := (fun_mk (st := s_Line_covers) l_Line_covers c_Line_covers k_Line_covers).binds (ps := ["self", "other"]) fun _ _ _ _ _ _ us hl => match us, hl with | [_, _], _ => rfl,
    a_Line_covers := a_Line_covers,
    i_Line_covers := i_Line_covers,
    f_Line_call := f_Line_call,
    d_Line_call := PySem.W.fnOf "__call__" "Line.__call__" (defArgs s_Line_call) (defBody s_Line_call) (defScope s_Line_call) .none kV_Line_call dc_Line_call pm_Line_call an_Line_call cd_Line_call ct_Line_call,
    F_Line_call := fun_mk (st := s_Line_call) l_Line_call c_Line_call k_Line_call,
    b_Line_call := (fun_mk (st := s_Line_call) l_Line_call c_Line_call k_Line_call).binds (ps := ["self", "load"]) fun _ _ _ _ _ _ us hl => match us, hl with | [_, _], _ => rfl,
    a_Line_call := a_Line_call,
    i_Line_call := i_Line_call,
    f_Line_add := f_Line_add,
    d_Line_add := PySem.W.fnOf "__add__" "Line.__add__" (defArgs s_Line_add) (defBody s_Line_add) (defScope s_Line_add) .none kV_Line_add dc_Line_add pm_Line_add an_Line_add cd_Line_add ct_Line_add,
    F_Line_add := fun_mk (st := s_Line_add) l_Line_add c_Line_add k_Line_add,
    b_Line_add := (fun_mk (st := s_Line_add) l_Line_add c_Line_add k_Line_add).binds (ps := ["self", "other"]) fun _ _ _ _ _ _ us hl => match us, hl with | [_, _], _ => rfl,
    a_Line_add := a_Line_add,
    i_Line_add := i_Line_add,
    f_Line_eq := f_Line_eq,
    d_Line_eq := PySem.W.fnOf "__eq__" "Line.__eq__" (defArgs s_Line_eq) (defBody s_Line_eq) (defScope s_Line_eq) .none kV_Line_eq dc_Line_eq pm_Line_eq an_Line_eq cd_Line_eq ct_Line_eq,
    F_Line_eq := fun_mk (st := s_Line_eq) l_Line_eq c_Line_eq k_Line_eq,
    b_Line_eq := (fun_mk (st := s_Line_eq) l_Line_eq c_Line_eq k_Line_eq).binds (ps := ["self", "other"]) fun _ _ _ _ _ _ us hl => match us, hl with | [_, _], _ => rfl,
    a_Line_eq := a_Line_eq,
    i_Line_eq := i_Line_eq,
    me_Ratio_over := ⟨a_Ratio_over, i_Ratio_over, k_Ratio_over⟩,
    me_Ratio_below := ⟨a_Ratio_below, i_Ratio_below, k_Ratio_below⟩,
    me_Line_time_at := ⟨a_Line_time_at, i_Line_time_at, k_Line_time_at⟩,
    me_Line_covers := ⟨a_Line_covers, i_Line_covers, k_Line_covers⟩,
    f_Ratio_radd := f_Ratio_radd,
    op_Ratio_add := ⟨sf_Ratio, a_Ratio_add, i_Ratio_add, a_Ratio_radd, i_Ratio_radd, ⟨_, i1_Ratio_add⟩, ⟨_, i2_Ratio_add⟩, su_Ratio_int, us_Ratio⟩,
    f_Ratio_rsub := f_Ratio_rsub,
    op_Ratio_sub := ⟨sf_Ratio, a_Ratio_sub, i_Ratio_sub, a_Ratio_rsub, i_Ratio_rsub, ⟨_, i1_Ratio_sub⟩, ⟨_, i2_Ratio_sub⟩, su_Ratio_int, us_Ratio⟩,
    f_Ratio_rmul := f_Ratio_rmul,
    op_Ratio_mul := ⟨sf_Ratio, a_Ratio_mul, i_Ratio_mul, a_Ratio_rmul, i_Ratio_rmul, ⟨_, i1_Ratio_mul⟩, ⟨_, i2_Ratio_mul⟩, su_Ratio_int, us_Ratio⟩,
    on_Line_add := ⟨sf_Line, a_Line_add, i_Line_add⟩,
    oth_Ratio := ⟨a_Ratio_eq, i_Ratio_eq, ot_Ratio_int, ot_Ratio_str, ot_Ratio_NoneType, ot_Ratio_tuple, ot_Ratio_list⟩,
    none_Ratio := ⟨ne_Ratio, ob_Ratio, a_Ratio_eq, i_Ratio_eq⟩,
    oth_Line := ⟨a_Line_eq, i_Line_eq, ot_Line_int, ot_Line_str, ot_Line_NoneType, ot_Line_tuple, ot_Line_list⟩,
    none_Line := ⟨ne_Line, ob_Line, a_Line_eq, i_Line_eq⟩,
    noi_Ratio_add := ⟨⟨_, cc_Ratio, mr_Ratio⟩, no1_Ratio_add, no2_Ratio_add⟩,
    noi_Ratio_sub := ⟨⟨_, cc_Ratio, mr_Ratio⟩, no1_Ratio_sub, no2_Ratio_sub⟩,
    noi_Ratio_mul := ⟨⟨_, cc_Ratio, mr_Ratio⟩, no1_Ratio_mul, no2_Ratio_mul⟩,
    e1_Ratio_init := e1_Ratio_init,
    v1_Ratio_init := ev1_Ratio_init,
    b1_Ratio_init := eb1_Ratio_init,
    e2_Ratio_init := e2_Ratio_init,
    v2_Ratio_init := ev2_Ratio_init,
    b2_Ratio_init := eb2_Ratio_init,
    e1_Line_straight := e1_Line_straight,
    v1_Line_straight := ev1_Line_straight,
    b1_Line_straight := eb1_Line_straight,
    e2_Line_straight := e2_Line_straight,
    v2_Line_straight := ev2_Line_straight,
    b2_Line_straight := eb2_Line_straight,
    co_Line := ⟨a_Line_call, i_Line_call, fi_Line_call⟩,
    ck_Line_call := fun _ _ ws _ hl => match ws, hl with | [_], _ => .of_eq rfl,
    g_gcd := PySem.W.mg_of X G g_gcd,
    n_abs := PySem.W.mg_none_of X G z_abs,
    n_any := PySem.W.mg_none_of X G z_any,
    n_int := PySem.W.mg_none_of X G z_int,
    n_isinstance := PySem.W.mg_none_of X G z_isinstance,
    n_len := PySem.W.mg_none_of X G z_len,
    n_list := PySem.W.mg_none_of X G z_list,
    n_range := PySem.W.mg_none_of X G z_range,
    n_tuple := PySem.W.mg_none_of X G z_tuple,
    n_zip := PySem.W.mg_none_of X G z_zip }
  exact ⟨PySem.W.fnOf "law" "law" (defArgs s_law) (defBody s_law) (defScope s_law) .none kV_law dc_law pm_law an_law cd_law ct_law, fun s v => .of_eq rfl, fun base _ _ => ok_law T (fun_mk (st := s_law) l_law c_law k_law)⟩
end My
open PySem PySem.W PyProof.Rows
set_option maxRecDepth 100000 in
set_option maxHeartbeats 0 in
theorem PySem.Challenge.cw_extralink_k22_whole_line_sums_holds : PySem.Challenge.rw_extralink_k22_whole_line_sums.Holds := by
  w_on; o_law; k_head; (case hw => w_witness2)
  k_fill
  refine L2.walk_of (l := PySem.Challenge.rw_extralink_k22_whole_line_sums) (n := 63) (k := 10) (x := "_law_script") (CX := fun _ => L2.CX0) (sp := fun w => My.spLaw _) rfl (by decide) rfl ⟨rfl, by decide, by decide⟩ (fun w h Y => PySem.W.kIn_of Y) ?F (fun _ _ a ns hl _ hS => ⟨a, ns, rfl, hS, hl, fun _ => rfl⟩) (fun _ _ _ _ _ h => h)
  case F =>
    intro w mg fa h KX G hmg
    refine' My.all_mk KX G hmg ?a_Ratio ?pg_Ratio ?hd_Ratio ?po_Ratio ?sa_Ratio ?mk_Ratio ?kc_Ratio ?hc_Ratio ?mo_Ratio ?ic_Ratio ?ty_Ratio ?hn_class ?ht_class ?na_Ratio_top ?na_Ratio_bottom ?su_Ratio_int ?a_Line ?pg_Line ?hd_Line ?po_Line ?sa_Line ?mk_Line ?kc_Line ?hc_Line ?mo_Line ?ic_Line ?ty_Line ?na_Line_loads ?na_Line_times ?na_Line_rises ?a_as_ratio ?l_as_ratio ?c_as_ratio ?k_as_ratio ?a_check_corners ?l_check_corners ?c_check_corners ?k_check_corners ?a_rises_between ?l_rises_between ?c_rises_between ?k_rises_between ?a_many_upto ?l_many_upto ?c_many_upto ?k_many_upto ?a_ascending ?l_ascending ?c_ascending ?k_ascending ?a_start ?l_start ?c_start ?k_start ?a_draw ?l_draw ?c_draw ?k_draw ?a_low ?l_low ?c_low ?k_low ?a_plus ?l_plus ?c_plus ?k_plus ?a_times ?l_times ?c_times ?k_times ?a_less ?l_less ?c_less ?k_less ?a_is ?l_is ?c_is ?k_is ?a_value ?l_value ?c_value ?k_value ?a_corners ?l_corners ?c_corners ?k_corners ?a_over ?l_over ?c_over ?k_over ?a_minus ?l_minus ?c_minus ?k_minus ?a_steep ?l_steep ?c_steep ?k_steep ?a_time ?l_time ?c_time ?k_time ?a_line ?l_line ?c_line ?k_line ?a_plain ?l_plain ?c_plain ?k_plain ?a_told ?l_told ?c_told ?k_told ?a_asked ?l_asked ?c_asked ?k_asked ?a_Ratio_init ?i_Ratio_init ?l_Ratio_init ?c_Ratio_init ?k_Ratio_init ?t_Ratio_init ?a_Ratio_top ?pg_Ratio_top ?pt_Ratio_top ?pr_Ratio_top ?l_Ratio_top ?c_Ratio_top ?k_Ratio_top ?a_Ratio_bottom ?pg_Ratio_bottom ?pt_Ratio_bottom ?pr_Ratio_bottom ?l_Ratio_bottom ?c_Ratio_bottom ?k_Ratio_bottom ?a_Ratio_sign ?pg_Ratio_sign ?pt_Ratio_sign ?pr_Ratio_sign ?l_Ratio_sign ?c_Ratio_sign ?k_Ratio_sign ?a_Ratio_over ?i_Ratio_over ?l_Ratio_over ?c_Ratio_over ?k_Ratio_over ?a_Ratio_below ?i_Ratio_below ?l_Ratio_below ?c_Ratio_below ?k_Ratio_below ?a_Ratio_neg ?i_Ratio_neg ?l_Ratio_neg ?c_Ratio_neg ?k_Ratio_neg ?a_Ratio_add ?i_Ratio_add ?l_Ratio_add ?c_Ratio_add ?k_Ratio_add ?a_Ratio_sub ?i_Ratio_sub ?l_Ratio_sub ?c_Ratio_sub ?k_Ratio_sub ?a_Ratio_mul ?i_Ratio_mul ?l_Ratio_mul ?c_Ratio_mul ?k_Ratio_mul ?a_Ratio_eq ?i_Ratio_eq ?l_Ratio_eq ?c_Ratio_eq ?k_Ratio_eq ?a_Line_init ?i_Line_init ?l_Line_init ?c_Line_init ?k_Line_init ?a_Line_straight ?pr_Line_straight ?pf_Line_straight ?rd_Line_straight ?ga_Line_straight ?l_Line_straight ?c_Line_straight ?k_Line_straight ?t_Line_straight ?a_Line_corners ?pg_Line_corners ?pt_Line_corners ?pr_Line_corners ?l_Line_corners ?c_Line_corners ?k_Line_corners ?a_Line_slope ?pg_Line_slope ?pt_Line_slope ?pr_Line_slope ?l_Line_slope ?c_Line_slope ?k_Line_slope ?a_Line_time_at ?i_Line_time_at ?l_Line_time_at ?c_Line_time_at ?k_Line_time_at ?a_Line_covers ?i_Line_covers ?l_Line_covers ?c_Line_covers ?k_Line_covers ?a_Line_call ?i_Line_call ?l_Line_call ?c_Line_call ?k_Line_call ?a_Line_add ?i_Line_add ?l_Line_add ?c_Line_add ?k_Line_add ?a_Line_eq ?i_Line_eq ?l_Line_eq ?c_Line_eq ?k_Line_eq ?sf_Ratio ?us_Ratio ?a_Ratio_radd ?i_Ratio_radd ?i1_Ratio_add ?i2_Ratio_add ?a_Ratio_rsub ?i_Ratio_rsub ?i1_Ratio_sub ?i2_Ratio_sub ?a_Ratio_rmul ?i_Ratio_rmul ?i1_Ratio_mul ?i2_Ratio_mul ?sf_Line ?ot_Ratio_int ?ot_Ratio_str ?ot_Ratio_NoneType ?ot_Ratio_tuple ?ot_Ratio_list ?ne_Ratio ?ob_Ratio ?ot_Line_int ?ot_Line_str ?ot_Line_NoneType ?ot_Line_tuple ?ot_Line_list ?ne_Line ?ob_Line ?cc_Ratio ?mr_Ratio ?no1_Ratio_add ?no2_Ratio_add ?no1_Ratio_sub ?no2_Ratio_sub ?no1_Ratio_mul ?no2_Ratio_mul ?fi_Line_call ?g_gcd ?z_abs ?z_any ?z_int ?z_isinstance ?z_len ?z_list ?z_range ?z_tuple ?z_zip ?a_law ?l_law ?c_law ?k_law
    (case a_Ratio => k_is)
    (case pg_Ratio => k_is)
    (case hd_Ratio => k_is)
    (case po_Ratio => k_is)
    (case sa_Ratio => k_is)
    (case mk_Ratio => k_is)
    (case kc_Ratio => k_is)
    (case hc_Ratio => k_is)
    (case mo_Ratio => k_is)
    (case ic_Ratio => k_is)
    (case ty_Ratio => k_is)
    (case hn_class => k_is)
    (case ht_class => k_is)
    (case na_Ratio_top => k_is)
    (case na_Ratio_bottom => k_is)
    (case su_Ratio_int => k_is)
    (case a_Line => k_is)
    (case pg_Line => k_is)
    (case hd_Line => k_is)
    (case po_Line => k_is)
    (case sa_Line => k_is)
    (case mk_Line => k_is)
    (case kc_Line => k_is)
    (case hc_Line => k_is)
    (case mo_Line => k_is)
    (case ic_Line => k_is)
    (case ty_Line => k_is)
    (case na_Line_loads => k_is)
    (case na_Line_times => k_is)
    (case na_Line_rises => k_is)
    (case a_as_ratio => k_is)
    (case l_as_ratio => k_is)
    (case c_as_ratio => k_is)
    (case k_as_ratio => k_is)
    (case a_check_corners => k_is)
    (case l_check_corners => k_is)
    (case c_check_corners => k_is)
    (case k_check_corners => k_is)
    (case a_rises_between => k_is)
    (case l_rises_between => k_is)
    (case c_rises_between => k_is)
    (case k_rises_between => k_is)
    (case a_many_upto => k_is)
    (case l_many_upto => k_is)
    (case c_many_upto => k_is)
    (case k_many_upto => k_is)
    (case a_ascending => k_is)
    (case l_ascending => k_is)
    (case c_ascending => k_is)
    (case k_ascending => k_is)
    (case a_start => k_is)
    (case l_start => k_is)
    (case c_start => k_is)
    (case k_start => k_is)
    (case a_draw => k_is)
    (case l_draw => k_is)
    (case c_draw => k_is)
    (case k_draw => k_is)
    (case a_low => k_is)
    (case l_low => k_is)
    (case c_low => k_is)
    (case k_low => k_is)
    (case a_plus => k_is)
    (case l_plus => k_is)
    (case c_plus => k_is)
    (case k_plus => k_is)
    (case a_times => k_is)
    (case l_times => k_is)
    (case c_times => k_is)
    (case k_times => k_is)
    (case a_less => k_is)
    (case l_less => k_is)
    (case c_less => k_is)
    (case k_less => k_is)
    (case a_is => k_is)
    (case l_is => k_is)
    (case c_is => k_is)
    (case k_is => k_is)
    (case a_value => k_is)
    (case l_value => k_is)
    (case c_value => k_is)
    (case k_value => k_is)
    (case a_corners => k_is)
    (case l_corners => k_is)
    (case c_corners => k_is)
    (case k_corners => k_is)
    (case a_over => k_is)
    (case l_over => k_is)
    (case c_over => k_is)
    (case k_over => k_is)
    (case a_minus => k_is)
    (case l_minus => k_is)
    (case c_minus => k_is)
    (case k_minus => k_is)
    (case a_steep => k_is)
    (case l_steep => k_is)
    (case c_steep => k_is)
    (case k_steep => k_is)
    (case a_time => k_is)
    (case l_time => k_is)
    (case c_time => k_is)
    (case k_time => k_is)
    (case a_line => k_is)
    (case l_line => k_is)
    (case c_line => k_is)
    (case k_line => k_is)
    (case a_plain => k_is)
    (case l_plain => k_is)
    (case c_plain => k_is)
    (case k_plain => k_is)
    (case a_told => k_is)
    (case l_told => k_is)
    (case c_told => k_is)
    (case k_told => k_is)
    (case a_asked => k_is)
    (case l_asked => k_is)
    (case c_asked => k_is)
    (case k_asked => k_is)
    (case a_Ratio_init => k_is)
    (case i_Ratio_init => k_is)
    (case l_Ratio_init => k_is)
    (case c_Ratio_init => k_is)
    (case k_Ratio_init => k_is)
    (case t_Ratio_init => k_is)
    (case a_Ratio_top => k_is)
    (case pg_Ratio_top => k_is)
    (case pt_Ratio_top => k_is)
    (case pr_Ratio_top => k_is)
    (case l_Ratio_top => k_is)
    (case c_Ratio_top => k_is)
    (case k_Ratio_top => k_is)
    (case a_Ratio_bottom => k_is)
    (case pg_Ratio_bottom => k_is)
    (case pt_Ratio_bottom => k_is)
    (case pr_Ratio_bottom => k_is)
    (case l_Ratio_bottom => k_is)
    (case c_Ratio_bottom => k_is)
    (case k_Ratio_bottom => k_is)
    (case a_Ratio_sign => k_is)
    (case pg_Ratio_sign => k_is)
    (case pt_Ratio_sign => k_is)
    (case pr_Ratio_sign => k_is)
    (case l_Ratio_sign => k_is)
    (case c_Ratio_sign => k_is)
    (case k_Ratio_sign => k_is)
    (case a_Ratio_over => k_is)
    (case i_Ratio_over => k_is)
    (case l_Ratio_over => k_is)
    (case c_Ratio_over => k_is)
    (case k_Ratio_over => k_is)
    (case a_Ratio_below => k_is)
    (case i_Ratio_below => k_is)
    (case l_Ratio_below => k_is)
    (case c_Ratio_below => k_is)
    (case k_Ratio_below => k_is)
    (case a_Ratio_neg => k_is)
    (case i_Ratio_neg => k_is)
    (case l_Ratio_neg => k_is)
    (case c_Ratio_neg => k_is)
    (case k_Ratio_neg => k_is)
    (case a_Ratio_add => k_is)
    (case i_Ratio_add => k_is)
    (case l_Ratio_add => k_is)
    (case c_Ratio_add => k_is)
    (case k_Ratio_add => k_is)
    (case a_Ratio_sub => k_is)
    (case i_Ratio_sub => k_is)
    (case l_Ratio_sub => k_is)
    (case c_Ratio_sub => k_is)
    (case k_Ratio_sub => k_is)
    (case a_Ratio_mul => k_is)
    (case i_Ratio_mul => k_is)
    (case l_Ratio_mul => k_is)
    (case c_Ratio_mul => k_is)
    (case k_Ratio_mul => k_is)
    (case a_Ratio_eq => k_is)
    (case i_Ratio_eq => k_is)
    (case l_Ratio_eq => k_is)
    (case c_Ratio_eq => k_is)
    (case k_Ratio_eq => k_is)
    (case a_Line_init => k_is)
    (case i_Line_init => k_is)
    (case l_Line_init => k_is)
    (case c_Line_init => k_is)
    (case k_Line_init => k_is)
    (case a_Line_straight => k_is)
    (case pr_Line_straight => k_is)
    (case pf_Line_straight => k_is)
    (case rd_Line_straight => k_is)
    (case ga_Line_straight => k_is)
    (case l_Line_straight => k_is)
    (case c_Line_straight => k_is)
    (case k_Line_straight => k_is)
    (case t_Line_straight => k_is)
    (case a_Line_corners => k_is)
    (case pg_Line_corners => k_is)
    (case pt_Line_corners => k_is)
    (case pr_Line_corners => k_is)
    (case l_Line_corners => k_is)
    (case c_Line_corners => k_is)
    (case k_Line_corners => k_is)
    (case a_Line_slope => k_is)
    (case pg_Line_slope => k_is)
    (case pt_Line_slope => k_is)
    (case pr_Line_slope => k_is)
    (case l_Line_slope => k_is)
    (case c_Line_slope => k_is)
    (case k_Line_slope => k_is)
    (case a_Line_time_at => k_is)
    (case i_Line_time_at => k_is)
    (case l_Line_time_at => k_is)
    (case c_Line_time_at => k_is)
    (case k_Line_time_at => k_is)
    (case a_Line_covers => k_is)
    (case i_Line_covers => k_is)
    (case l_Line_covers => k_is)
    (case c_Line_covers => k_is)
    (case k_Line_covers => k_is)
    (case a_Line_call => k_is)
    (case i_Line_call => k_is)
    (case l_Line_call => k_is)
    (case c_Line_call => k_is)
    (case k_Line_call => k_is)
    (case a_Line_add => k_is)
    (case i_Line_add => k_is)
    (case l_Line_add => k_is)
    (case c_Line_add => k_is)
    (case k_Line_add => k_is)
    (case a_Line_eq => k_is)
    (case i_Line_eq => k_is)
    (case l_Line_eq => k_is)
    (case c_Line_eq => k_is)
    (case k_Line_eq => k_is)
    (case sf_Ratio => k_is)
    (case us_Ratio => k_is)
    (case a_Ratio_radd => k_is)
    (case i_Ratio_radd => k_is)
    (case i1_Ratio_add => k_is)
    (case i2_Ratio_add => k_is)
    (case a_Ratio_rsub => k_is)
    (case i_Ratio_rsub => k_is)
    (case i1_Ratio_sub => k_is)
    (case i2_Ratio_sub => k_is)
    (case a_Ratio_rmul => k_is)
    (case i_Ratio_rmul => k_is)
    (case i1_Ratio_mul => k_is)
    (case i2_Ratio_mul => k_is)
    (case sf_Line => k_is)
    (case ot_Ratio_int => k_is)
    (case ot_Ratio_str => k_is)
    (case ot_Ratio_NoneType => k_is)
    (case ot_Ratio_tuple => k_is)
    (case ot_Ratio_list => k_is)
    (case ne_Ratio => k_is)
    (case ob_Ratio => k_is)
    (case ot_Line_int => k_is)
    (case ot_Line_str => k_is)
    (case ot_Line_NoneType => k_is)
    (case ot_Line_tuple => k_is)
    (case ot_Line_list => k_is)
    (case ne_Line => k_is)
    (case ob_Line => k_is)
    (case cc_Ratio => k_is)
    (case mr_Ratio => rfl)
    (case no1_Ratio_add => k_is)
    (case no2_Ratio_add => k_is)
    (case no1_Ratio_sub => k_is)
    (case no2_Ratio_sub => k_is)
    (case no1_Ratio_mul => k_is)
    (case no2_Ratio_mul => k_is)
    (case fi_Line_call => k_is)
    (case g_gcd => k_is)
    (case z_abs => k_is)
    (case z_any => k_is)
    (case z_int => k_is)
    (case z_isinstance => k_is)
    (case z_len => k_is)
    (case z_list => k_is)
    (case z_range => k_is)
    (case z_tuple => k_is)
    (case z_zip => k_is)
    (case a_law => k_is)
    (case l_law => k_is)
    (case c_law => k_is)
    (case k_law => k_is)
