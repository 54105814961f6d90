import PyProof.Rows.All
import Wide.All
import OpenK.AllK
import Wide.FinOn
import HandS.Base
import HandS.Call
import HandS.List
import HandS.Comp
import HandS.Ends
import HandS.Dict
import HandS.Iter
import HandS.Text
import HandS.Words
import HandS.WordsList
import HandS.WordsDict
import HandS.Wide
import HandS.IsInst
import HandS.Codes
import HandS.Property
import HandS.ClsMeth
import HandS.Defaults
import HandS.MakeKw
import HandS.CallLocal
import HandS.CallSlots
import HandS.Exc
import HandS.ExcInit
import HandS.ExcField
import HandS.ExcIs
import HandS.ExcOwn
import HandS.TryOnly
import HandS.WordsExc
import HandS.Gcd
import HandS.FStr
import HandS.StrMore
import HandS.WideBits
import HandS.Style
import HandS.OwnEq
import OpenK.KMeth
import KE.KOpsOwn
import HandS.TupAny
import PyProof.InstEq
import HandS.HotCalls
import HandS.ExcValue
import HandS.Star
import HandS.Zip
import HandS.Walk
import HandS.DictComp
import HandS.Conv
import KE.KDictZip
import HandS.Deep
import HandS.TryMany
import OpenK.KOps
import HandS.Small
import HandS.SetFor
import HandS.Strs
import KE.SortData
import KE.GoesEnumKw
import PySem.Challenge.RW_extralink_k11_network_parts
set_option Elab.async false
set_option linter.all false
set_option maxRecDepth 100000
/-! My own rules beside the hand layer's: an item of a list read for a store in place, a text backwards, a call by keywords alone; what is said of lists of ints as data. -/
namespace My
open PySem PySem.Spec PyProof.Rows L2

/-! ### rules -/
section
variable {X : Cx}
def rGetL (K : PySem.W.Frag) : V → V → Hp → VK → Prop := fun x y H Q => ∃ p xs i v, x = .ref p ∧ y = .int i ∧ SqL K H p xs ∧ 0 ≤ i ∧ atI xs i = some v ∧ Q v H
theorem get_list : PGet X (rGetL X.K) := by
  intro pins s σ H o i ov iv Q I ro ri h
  obtain ⟨p, xs, k, z, rfl, rfl, hq, h0, he, q⟩ := h
  cases ro
  obtain ⟨t, rfl⟩ := ri
  obtain ⟨its, r, pl, hz⟩ := I.list hq
  obtain ⟨j, h1, h2, h3, h4, h5⟩ := atI_get he
  obtain ⟨w, ew, rw'⟩ := r.get h2
  have hl := r.length
  have hn := line63
  have hj : k.toNat = j := by
    rw [seqIndex_of h0 h5] at h1
    exact Option.some.inj h1
  exact wpAny_getItem_list pl.isList h0 (by omega) (by rw [hj]; simpa using ew) ⟨z, H, I, rw', q⟩

def revS (z : Str) : Str := ⟨z.cps.reverse⟩
def tRevS (te : TE) : TE := fun σ H Q => te σ H fun x H1 => ∃ z, x = .str z ∧ z.length ≤ sizeLine ∧ Q (.str (revS z)) H1
theorem range_back (n : Nat) : sliceRange ((n : Int) - 1) (-1) (-1) = (List.range n).map fun k => n - 1 - k := by
  unfold sliceRange
  have e : (if (-1 : Int) > 0 then (if ((n : Int) - 1) < -1 then (-1 - ((n : Int) - 1) + -1 - 1) / -1 else 0) else (if ((n : Int) - 1) > -1 then (((n : Int) - 1) - -1 - -1 - 1) / (- -1) else 0)).toNat = n := by
    rw [if_neg (by decide)]
    by_cases h : ((n : Int) - 1) > -1
    · rw [if_pos h, show (- -1 : Int) = 1 by decide, Int.ediv_one]
      omega
    · rw [if_neg h]
      omega
  show List.map (fun (k : Nat) => (((n : Int) - 1) + (-1) * (k : Int)).toNat) (List.range (Int.toNat (if (-1 : Int) > 0 then (if ((n : Int) - 1) < -1 then (-1 - ((n : Int) - 1) + -1 - 1) / -1 else 0) else (if ((n : Int) - 1) > -1 then (((n : Int) - 1) - -1 - -1 - 1) / (- -1) else 0)))) = _
  rw [e]
  refine List.map_congr_left fun k hk => ?_
  have := List.mem_range.mp hk
  omega
theorem filterMap_back (z : Array Nat) : (((List.range z.size).map fun k => z.size - 1 - k).filterMap (z[·]?)) = z.toList.reverse := by
  refine List.ext_getElem? fun i => ?_
  have e : (((List.range z.size).map fun k => z.size - 1 - k).filterMap (z[·]?)) = (List.range z.size).map fun k => z.getD (z.size - 1 - k) 0 := by
    rw [List.filterMap_map]
    have : ∀ l : List Nat, (∀ k ∈ l, k < z.size) → l.filterMap ((fun x => z[x]?) ∘ fun k => z.size - 1 - k) = l.map fun k => z.getD (z.size - 1 - k) 0 := by
      intro l
      induction l with
      | nil => intro _; rfl
      | cons a r ih =>
        intro h
        have ha := h a List.mem_cons_self
        have hb : z.size - 1 - a < z.size := by omega
        rw [List.filterMap_cons]
        have e1 : ((fun x => z[x]?) ∘ fun k => z.size - 1 - k) a = some (z.getD (z.size - 1 - a) 0) := by
          show z[z.size - 1 - a]? = _
          rw [Array.getElem?_eq_getElem hb]
          simp [Array.getD, hb]
        rw [e1, List.map_cons, ih fun k hk => h k (List.mem_cons_of_mem _ hk)]
    exact this _ fun k hk => List.mem_range.mp hk
  rw [e, List.getElem?_map]
  by_cases hi : i < z.size
  · rw [List.getElem?_range hi, List.getElem?_reverse (by simpa using hi)]
    have hb : z.size - 1 - i < z.size := by omega
    simp [Array.getD, hb]
  · rw [List.getElem?_eq_none (by simpa using hi), List.getElem?_eq_none (by simpa using hi)]
    rfl
theorem pe_revS {e : Expr} {te : TE} {k : Nat} {p1 p2 p3 pos : Pos} (he : PE X e te) : PE X (.Subscript e (.Slice none none (some (.UnaryOp .USub (.Constant (.int 1) k p1) p2)) p3) pos) (tRevS te) := by
  refine ⟨fun pins s σ H Q I h => ?_⟩
  refine Subscript_ (thn (he.run pins s σ H _ I h) fun v s1 ⟨x, H1, I1, r1, q1⟩ => ?_)
  obtain ⟨z, ex, hz, q⟩ := q1
  subst ex
  obtain ⟨tz, rfl⟩ := r1
  have hst : PO X (some (.UnaryOp .USub (.Constant (.int 1) k p1) p2)) (tPart (tUn (rU fun i => .int (-i)) (tC (.int 1)))) := po_some (pe_un un_neg pe_int)
  refine wpAny_Slice (thn (po_none.run pins s1 σ H1 (fun o H2 => o = none ∧ H2 = H1) I1 ⟨rfl, rfl⟩) fun vl s2 ⟨l, H2, I2, pl, el, e2⟩ => ?_)
  subst el e2
  refine thn (po_none.run pins s2 σ H2 (fun o H3 => o = none ∧ H3 = H2) I2 ⟨rfl, rfl⟩) fun vu s3 ⟨u, H3, I3, pu, eu, e3⟩ => ?_
  subst eu e3
  refine thn (hst.run pins s3 σ H3 (fun o H4 => o = some (-1) ∧ H4 = H3) I3 ⟨1, rfl, -1, rfl, rfl, rfl⟩) fun vs s4 ⟨o, H4, I4, ps, eo, e4⟩ => ?_
  subst eo e4
  have I5 : Inv X pins σ H4 { s4 with heap := s4.heap.push { cls := .type "slice", data := .fields #[vl, vu, vs] } } := I4.kept (t' := s4.toks) fun b ob q => Heap.get?_push_of_some _ q
  obtain ⟨l, rfl, el⟩ := IsPart.raw pl
  obtain ⟨u, rfl, eu⟩ := IsPart.raw pu
  obtain ⟨st, rfl, est⟩ := IsPart.raw ps
  cases l with
  | some _ => cases el
  | none =>
  cases u with
  | some _ => cases eu
  | none =>
  cases st with
  | none => cases est
  | some st =>
  obtain ⟨k1, tk⟩ := st
  have ek : k1 = -1 := Option.some.inj est
  subst ek
  show wpAny (model X.prog X.w) X.A (subscriptTail e (.Slice none none (some (.UnaryOp .USub (.Constant (.int 1) k p1) p2)) p3) (.str z tz) (.ref s4.heap.objs.size)) (EP X pins σ Q) X.xe { s4 with heap := s4.heap.push { cls := .type "slice", data := .fields #[.none, .none, .int (-1) tk] } }
  refine tail_any (ops := [.ref s4.heap.objs.size, .str z tz]) (typeIs_str _ _ _) F.slot_str_getitem.lookup ?_ (by with_unfolding_all rfl)
  refine wpAny_getItem_str_slice (l := none) (u := none) (st := some (-1, tk)) ⟨_, Heap.get?_push_size _ rfl, rfl, rfl⟩ rfl ?_
  have hp : slicePicked z none none (some (-1, tk)) = (List.range z.cps.size).map fun k => z.cps.size - 1 - k := by
    show Builtin.Str.strSliceIndices none none (-1) z.length = _
    unfold Builtin.Str.strSliceIndices
    exact range_back z.length
  have hr : (⟨((slicePicked z none none (some (-1, tk))).filterMap (z.cps[·]?)).toArray⟩ : Str) = revS z := by
    rw [hp, filterMap_back]
    unfold revS
    congr 1
    apply Array.ext'
    simp
  show Made.post (if ((-1 : Int) == 1 && (slicePicked z none none (some (-1, tk))).length == z.length) = true then Made.val (.str z tz) else Made.str ⟨((slicePicked z none none (some (-1, tk))).filterMap (z.cps[·]?)).toArray⟩) (EP X pins σ Q) _
  rw [if_neg (by rw [show ((-1 : Int) == 1) = false by decide, Bool.false_and]; exact Bool.false_ne_true), hr]
  refine ⟨?_, .str _, H4, I5.tok _, ⟨_, rfl⟩, q⟩
  show (revS z).cps.size ≤ sizeLine
  unfold revS
  rw [Array.size_reverse]
  exact hz

section
variable {CX : CXT} {k : Nat} {f : Addr} {fd : FuncData} {ps ks : List Str} {sp : Sp} {E : XK} {x : Str} {p pos : Pos} {kws : List Keyword} {tk : TA} {g : List Value → List Value → List Value} {gV : List V → List V → List V}
def tCallK0 (sp : Sp) (gV : List V → List V → List V) (E : XK) (tk : TA) : TE := fun σ H Q => tk σ H fun zs H2 => sp (gV [] zs) H2 Q E
/-- f(k = v, ..), nothing by place -/
theorem pe_callK0 (F : FnOk X.prog X.w X.K X.mg X.base CX k f fd ps sp) (hr : Room k X.A) (hg : Gl X x) (hm : X.mg x = some (.ref f)) (hk : PySem.W.keepIn X.K (.ref f) = true) (hb : KBinds X.K fd ps ks g gV) (hx : Passes CX X E)
    (hkw : PK X kws tk) (hall : (backToKw pos (keywordEach kws X.env)).all (·.1.isSome) = true := by rfl) (hks : (backToKw pos (keywordEach kws X.env)).filterMap (·.1) = ks := by rfl)
    (hdb : (x == ("__debug__" : Str)) = false := by decide)
    (hpl : ((backTo pos (starEach [] X.env)).any (·.1) || (backToKw pos (keywordEach kws X.env)).any (·.1.isNone)) = false := by rfl) :
    PE X (.Call (.Name x p) [] kws pos) (tCallK0 sp gV E tk) := by
  refine ⟨fun pins s σ H Q I h => ?_⟩
  refine wpAny_Call_Name_kw (ld_glob I hg hm ?_ hdb)
  refine PySem.W.callWith_KW0 (h₀ := X.base) I.ok.mod.kin hk hall (thn (hkw.run pos pins s σ H _ I h) fun ws s2 ⟨zs, H2, I2, rz, q2⟩ => ⟨I2.kIn, ?_⟩) hpl
  rw [hks]
  exact run_fnk (us := []) (vs := []) F hr hb hx I2 .nil rz q2
end
end

/-- all parameters by keyword, in their order -/
def kAll {α : Type} : List α → List α → List α
  | [], zs => zs
  | _ :: _, _ => []
theorem kbinds_all {K : PySem.W.Frag} {fd : FuncData} {ps ks : List Str} (h0 : 0 < ps.length) (h : ∀ (s : Shared) (ws : List Value), K.In s.heap → ws.length = ps.length → BindsTo s fd ⟨[], ks.zip ws⟩ (ps.zip ws)) : KBinds K fd ps ks kAll kAll where
  to := fun s us ws hK hl => by
    cases us with
    | nil => exact h s ws hK hl
    | cons u r =>
      have z : (0 : Nat) = ps.length := hl
      omega
  rel := fun {vs us zs ws} r rz => by
    cases r with
    | nil => exact rz
    | cons _ _ => exact .nil

/-! ### places -/
theorem at0 {α : Type} {x : α} {xs : List α} : atI (x :: xs) 0 = some x := atI_nat (j := 0) rfl
theorem ix_nat {n j : Nat} (h : j < n) : ixN n (j : Int) = some j := by
  unfold ixN
  rw [if_pos (by omega), if_pos (by omega), Int.toNat_natCast]
theorem ix0 {n : Nat} (h : 0 < n) : ixN n 0 = some 0 := ix_nat h

/-! ### walks over a text -/
theorem lc_str {x : Str} {g : TG} {tt : TT} {te : TE} {vs : List Nat} {σ : L2.St} {H1 : Hp} {D : Addr} {Qd : Hp → Prop} (Pv : Nat → Hp → Prop) (h0 : Pv 0 (upd H1 D (.lst [])))
    (hs : ∀ i c H, x.cps.toList[i]? = some c → Pv i H → g (.str ⟨#[c]⟩) (wipe σ vs) H fun σ2 H2 => wipe σ2 vs = wipe σ vs ∧ tt σ2 H2 fun b H3 =>
      if b = true then te σ2 H3 fun y H4 => ∃ acc, H4 D = some (.lst acc) ∧ acc.length < sizeLine ∧ Pv (i + 1) (upd H4 D (.lst (acc ++ [y]))) else Pv (i + 1) H3) (hd : ∀ H, Pv x.cps.size H → Qd H) :
    ∃ W : Nat → Nat → Hp → Prop, (∃ m, W 0 m (upd H1 D (.lst []))) ∧ ∀ i m H, W i m H →
      ((Its x).stop i H ∧ Qd H) ∨ ((Its x).go i H ∧ ∃ Nx : Hp → Prop, (∀ H', Nx H' → ∃ m', m' < m ∧ W (i + 1) m' H') ∧ ∀ y H', (Its x).yld i H y H' → g y (wipe σ vs) H' fun σ2 H2 => wipe σ2 vs = wipe σ vs ∧ tt σ2 H2 fun b H3 =>
        if b = true then te σ2 H3 fun y H4 => ∃ acc, H4 D = some (.lst acc) ∧ acc.length < sizeLine ∧ Nx (upd H4 D (.lst (acc ++ [y]))) else Nx H3) := by
  refine ⟨fun i m H => m = x.cps.size - i ∧ i ≤ x.cps.size ∧ Pv i H, ⟨_, rfl, Nat.zero_le _, h0⟩, ?_⟩
  rintro i m H ⟨rfl, hi, p⟩
  by_cases hlt : i < x.cps.size
  · refine .inr ⟨hlt, Pv (i + 1), fun H' p' => ⟨x.cps.size - (i + 1), by omega, rfl, hlt, p'⟩, fun y H' q => ?_⟩
    obtain ⟨e, c, hc, ey⟩ := q
    subst e
    subst ey
    exact hs i c _ (by rw [Array.getElem?_toList]; exact hc) p
  · have e : i = x.cps.size := by omega
    subst e
    exact .inl ⟨Nat.le_refl _, hd H p⟩

/-! ### lists of ints, of texts as data -/
theorem dp_ints {K : PySem.W.Frag} {H : Hp} : ∀ ns : List Int, DpAll K H (ns.map V.int) (ns.map PyData.int)
  | [] => .nil
  | n :: r => .cons (.int n) (dp_ints r)
theorem dp_strs {K : PySem.W.Frag} {H : Hp} : ∀ ns : List Str, DpAll K H (ns.map V.str) (ns.map PyData.str)
  | [] => .nil
  | n :: r => .cons (.str n) (dp_strs r)
theorem shaped_ints (ns : List Int) : SeqAt.shaped (.list (ns.map PyData.int)) = true := PySem.W.ke_shaped_ints ns
theorem eqv_nil : PyData.eqv (.list []) (.list []) = true := by simp [PyData.eqv, PyData.eqvAll]
theorem eqv_cons {a : PyData} {r : List PyData} : PyData.eqv (.list (a :: r)) (.list []) = false := by simp [PyData.eqv, PyData.eqvAll]
theorem same_upd {H : Hp} {p : Addr} {o : HO} (h : H p = none) : Same H (upd H p o) := fun b x e => by
  rw [upd_ne (ne_of_none e h)]
  exact e
/-- what G doesn't know may change -/
theorem same_mut {G H : Hp} {p : Addr} {o : HO} (e : Same G H) (h : G p = none) : Same G (upd H p o) := fun b x q => by
  rw [upd_ne (ne_of_none q h)]
  exact e b x q
end My

/-! My own rules about instances of own classes: texts of them, making them by names and in a try, operators; errors with a dict in an except suite. -/
namespace My
open PySem PySem.Spec PyProof.Rows L2

section
variable {X : Cx}
/-! ### floor division by any divisor that is not 0 -/
def CDivZ (_ j : Int) : Prop := j ≠ 0 ∧ j.natAbs.log2 < 9000
theorem op_fdivZ : OpR X (binaryOp .FloorDiv) (rI CDivZ fun i j => .int (i.fdiv j)) := opI fun _ _ _ _ _ _ _ hc q => floordiv_int hc.1 q (.inl (PyProof.noPylong_of_log2 hc.2))
theorem cdivZ {i j : Int} (h : j ≠ 0) (hb : j.natAbs < 2 ^ 8000) : CDivZ i j := ⟨h, Nat.lt_of_lt_of_le (PySem.Flt.log2_lt_of (by decide) hb) (by decide)⟩

/-! ### str(o), o of an own class with __str__ -/
def rStrO (C : Addr) (sp : Sp) : List V → Hp → VK → Prop := fun xs H Q => ∃ a dx fs, xs = [.ref a] ∧ H a = some (.ins C dx fs) ∧ sp [.ref a] H (fun v H' => ∃ z, v = .str z ∧ Q (.str z) H') E0
theorem call_strO {CX : CXT} {k : Nat} {C f : Addr} {fd : FuncData} {ps : List Str} {sp : Sp} (hs : PySem.W.findIn X.K (.ref C) "__str__" = some (some (.ref f))) (hf : PySem.W.isFn X.K (.ref f) = true)
    (F : FnOk X.prog X.w X.K X.mg X.base CX k f fd ps sp) (hr : Room (k + 2) X.A) (hb : Binds X.K fd ps []) (hx : Passes CX X.nox E0) : CallR X (.type "str") (rStrO C sp) := by
  intro pins s σ H xs us Q I r h
  obtain ⟨a, dx, fs, rfl, ea, q⟩ := h
  obtain ⟨u, rfl, ru⟩ := vals1 r
  obtain rfl : u = Value.ref a := ru
  obtain ⟨mA, O, _, _, _, _⟩ := ins_get I.hok ea
  obtain ⟨od, J, _⟩ := O.look
  have hl : ([Value.ref a] ++ []).length = ps.length := by rw [← F.len _ _ _ _ q]; rfl
  refine PySem.W.kso_call hr.in1.in1.units0 I.kIn J hs hf (wpAny_call ?_)
  refine codeAny_mono (F.run X.A.in1.in1 X.stack s H ⟨[.ref a], []⟩ [.ref a] [.ref a] _ E0 hr.in1.in1 I.env0.in1.in1 (hb _ [.ref a] I.kIn hl) (.cons rfl .nil) q) fun r s' hq => ?_
  cases r with
  | error er => exact False.elim (hx pins σ H s er s' (I.wish _) hq)
  | ok fl =>
    cases fl with
    | ret u =>
      obtain ⟨v, H', I3, rv, z, ez, q3⟩ := I.after hq
      subst ez
      obtain ⟨t, rfl⟩ := rv
      exact ⟨.str z, H', I3, ⟨t, rfl⟩, q3⟩
    | next => exact False.elim hq
    | brk => exact False.elim hq
    | cont => exact False.elim hq

/-! ### C(k = v, ..), nothing by place -/
section
variable {CX : CXT} {k : Nat} {f C : Addr} {fd : FuncData} {ps ks : List Str} {sp : Sp} {E : XK} {x : Str} {p pos : Pos} {e : Expr} {es : List Expr} {kws : List Keyword} {t tk : TA} {g : List Value → List Value → List Value} {gV : List V → List V → List V}
theorem pe_makeK0 (M : Mk X.K C f) (F : FnOk X.prog X.w X.K X.mg X.base CX k f fd ps sp) (hr : Room (k + 1) X.A) (hg : Gl X x) (hm : X.mg x = some (.ref C)) (hb : KBn X.K fd ps (0 + 1) ks g gV) (hx : Passes CX X E)
    (hkw : PK X kws tk) (hall : (backToKw pos (keywordEach kws X.env)).all (·.1.isSome) = true := by rfl) (hks : (backToKw pos (keywordEach kws X.env)).filterMap (·.1) = ks := by rfl)
    (hdb : (x == ("__debug__" : Str)) = false := by decide)
    (hpl : ((backTo pos (starEach [] X.env)).any (·.1) || (backToKw pos (keywordEach kws X.env)).any (·.1.isNone)) = false := by rfl) :
    PE X (.Call (.Name x p) [] kws pos) (tMakeN C 0 ks.length sp gV E tNil tk) := by
  refine ⟨fun pins s σ H Q I h => ?_⟩
  refine wpAny_Call_Name_kw (ld_glob I hg hm ?_ hdb)
  refine PySem.W.callWith_KW0 (h₀ := X.base) I.ok.mod.kin M.kp hall (thn (hkw.run pos pins s σ H _ I h) fun ws s2 ⟨zs, H2, I2, rz, l1, l2, q2⟩ => ⟨I2.kIn, ?_⟩) hpl
  rw [hks]
  exact run_makeN M F hr hb hx I2 .nil rz rfl l2 q2

/-! ### cls(e, ..), the class under a name of the frame -/
def tMakeL (C : Addr) (i : Nat) (sp : Sp) (dvs : List V) (E : XK) (t : TA) : TE := fun σ H Q => σ[i]? = some (some (.ref C)) ∧ tMake C sp dvs E t σ H Q
theorem pe_makeL {i : Nat} {dvs : List V} {ds : List Value} (M : Mk X.K C f) (F : FnOk X.prog X.w X.K X.mg X.base CX k f fd ps sp) (hr : Room (k + 1) X.A) (hN : X.N[i]? = some x) (hv : Vis X.env.scope x) (hb : Binds X.K fd ps ds) (hd : Vals dvs ds) (hx : Passes CX X E)
    (ha : PA X (e :: es) t) (hd1 : (x == ("__debug__" : Str)) = false := by decide) (hcd : (x == ("__classdict__" : Str)) = false := by decide)
    (he : starEach (e :: es) X.env = (false, eval e X.env) :: starEach es X.env := by rfl) (hpl : (backTo pos (starEach es X.env)).any (·.1) = false := by rfl) :
    PE X (.Call (.Name x p) (e :: es) [] pos) (tMakeL C i sp dvs E t) := by
  refine ⟨fun pins s σ H Q I h => ?_⟩
  obtain ⟨hs, h⟩ := h
  refine wpAny_Call_Name_kw (thn ((pe_var (pos := p) hN hv hd1 hcd).run pins s σ H (fun v H1 => v = .ref C ∧ H1 = H) I ⟨.ref C, hs, rfl, rfl⟩) fun u s1 ⟨v, H1, I1, r1, q1⟩ => ?_)
  obtain ⟨rfl, rfl⟩ := q1
  cases r1
  refine PySem.W.callWith_K (h₀ := X.base) I.ok.mod.kin M.kp (thn (ha.run pos pins s1 σ _ _ I1 h) fun us s2 ⟨vs, H2, I2, r, q⟩ => ⟨I2.kIn, ?_⟩) he hpl
  exact run_make M F hr hb hd hx I2 r q

/-! ### C(e, ..) where what is raised is wished for at the caller's slots -/
def tMakeS (C : Addr) (sp : Sp) (dvs : List V) (E : L2.St → XK) (t : TA) : TE := fun σ H Q => tMake C sp dvs (E σ) t σ H Q
theorem run_makeS {pins : List (Addr × Obj)} {σ : L2.St} {H : Hp} {s : Shared} {Q : VK} {us : List Value} {vs : List V} {dvs : List V} {ds : List Value} (M : Mk X.K C f) (F : FnOk X.prog X.w X.K X.mg X.base CX k f fd ps sp) (hr : Room (k + 1) X.A) (hb : Binds X.K fd ps ds) (hd : Vals dvs ds)
    (hx : PassesAt CX X σ E) (I : Inv X pins σ H s) (r : Vals vs us)
    (h : ∀ x dx, H x = none → H dx = none → dx ≠ x → sp (.ref x :: (vs ++ dvs)) (upd (upd H dx (.own x)) x (.ins C dx [])) (fun v H2 => v = .non ∧ Q (.ref x) H2) E) :
    wpAny (model X.prog X.w) X.A (call (.ref C) us) (EP X pins σ Q) X.xe s := by
  have hq := h (s.heap.objs.size + 1) s.heap.objs.size (I.hok.fresh (Nat.le_succ _)) (I.hok.fresh (Nat.le_refl _)) (Nat.ne_of_lt (Nat.lt_succ_self _))
  have I2 := Inv.made (C := C) I
  have r2 : Vals (V.ref (s.heap.objs.size + 1) :: (vs ++ dvs)) (Value.ref (s.heap.objs.size + 1) :: (us ++ ds)) := .cons rfl (r.append hd)
  have hl : (Value.ref (s.heap.objs.size + 1) :: us ++ ds).length = ps.length := by
    have e := r2.length
    rw [F.len _ _ _ _ hq] at e
    exact e.symm
  refine wpAny_call (make_map (f := f) I.kIn M.makes M.init (beq_iff_eq.mp M.fn) (codeAny_mono (F.run _ X.stack _ _ ⟨Value.ref (s.heap.objs.size + 1) :: us, []⟩ (Value.ref (s.heap.objs.size + 1) :: (us ++ ds)) _ _ E (hr.make C us [])
    (I2.env0.make C us []) (hb _ (Value.ref (s.heap.objs.size + 1) :: us) I2.kIn hl) r2 hq) fun r s' hq' => ?_))
  cases r with
  | error e => exact hx pins _ _ e s' I2 hq'
  | ok fl =>
    cases fl with
    | ret u =>
      obtain ⟨v, H', I3, rv, ev, q3⟩ := I2.after hq'
      subst ev
      exact ⟨rv, ⟨V.ref (s.heap.objs.size + 1), H', I3, rfl, q3⟩⟩
    | next => exact False.elim hq'
    | brk => exact False.elim hq'
    | cont => exact False.elim hq'
theorem pe_makeS {E : L2.St → XK} {dvs : List V} {ds : List Value} (M : Mk X.K C f) (F : FnOk X.prog X.w X.K X.mg X.base CX k f fd ps sp) (hr : Room (k + 1) X.A) (hg : Gl X x) (hm : X.mg x = some (.ref C)) (hb : Binds X.K fd ps ds) (hd : Vals dvs ds) (hx : ∀ σ, PassesAt CX X σ (E σ))
    (ha : PA X (e :: es) t) (hdb : (x == ("__debug__" : Str)) = false := by decide) (he : starEach (e :: es) X.env = (false, eval e X.env) :: starEach es X.env := by rfl) (hpl : (backTo pos (starEach es X.env)).any (·.1) = false := by rfl) :
    PE X (.Call (.Name x p) (e :: es) [] pos) (tMakeS C sp dvs E t) := by
  refine ⟨fun pins s σ H Q I h => ?_⟩
  refine wpAny_Call_Name_kw (ld_glob I hg hm ?_ hdb)
  refine PySem.W.callWith_K (h₀ := X.base) I.ok.mod.kin M.kp (thn (ha.run pos pins s σ H _ I h) fun us s1 ⟨vs, H1, I1, r, q⟩ => ⟨I1.kIn, ?_⟩) he hpl
  exact run_makeS M F hr hb hd (hx σ) I1 r q
end

/-! ### C.m(k = v, ..), m a classmethod -/
section
variable {CX : CXT} {k : Nat} {C q0 g : Addr} {mc : Value} {fd : FuncData} {ps ks : List Str} {sp : Sp} {E : XK} {o : Expr} {m : Str} {pos apos : Pos} {kws : List Keyword} {ta : TE} {tk : TA} {pl : Sem Bool}
def tCMethK (C : Addr) (n : Nat) (sp : Sp) (E : XK) (ta : TE) (tk : TA) : TE := fun σ H Q => ta σ H fun x H1 => x = .ref C ∧ tk σ H1 fun zs H2 => zs.length = n ∧ sp (.ref C :: zs) H2 Q E
theorem pe_cmethK0 (he : PE X o ta) (r : ClX.CRead X.K C mc) (c : ClX.CMet X.K C mc m q0 g) (F : FnOk X.prog X.w X.K X.mg X.base CX k g fd ps sp) (hr : Room k X.A) (hx : Passes CX X E) (hkw : PK X kws tk)
    (hb : ∀ (s : Shared) (ws : List Value), X.K.In s.heap → ws.length = ks.length → BindsTo s fd ⟨Value.ref C :: [], ks.zip ws⟩ (ps.zip (Value.ref C :: ws)))
    (hall : (backToKw pos (keywordEach kws X.env)).all (·.1.isSome) = true := by rfl) (hks : (backToKw pos (keywordEach kws X.env)).filterMap (·.1) = ks := by rfl)
    (hpl : ((backTo pos (starEach [] X.env)).any (·.1) || (backToKw pos (keywordEach kws X.env)).any (·.1.isNone)) = false := by rfl)
    (ht : eval (.Call (.Attribute o m apos) [] kws pos) X.env = (do
      let ov ← eval o X.env
      standAt apos.atName
      let (f, first) ← holding [ov] (getMethod ov m pl)
      callWith pos f first (backTo pos (starEach [] X.env)) (backToKw pos (keywordEach kws X.env))) := by rfl) :
    PE X (.Call (.Attribute o m apos) [] kws pos) (tCMethK C ks.length sp E ta tk) := by
  refine ⟨fun pins s σ H Q I h => ?_⟩
  refine PySem.W.methodCall_KW (pl := pl) (thn (he.run pins s σ H _ I h) fun u s1 ⟨x, H1, I1, rx, ex, h2⟩ => ?_) ht
  subst ex
  obtain rfl : u = Value.ref C := rx
  refine ClX.getmethcm_ok I1 r c fun s2 I2 => ?_
  refine PySem.W.callWith_of hpl (PySem.W.keeps_M (K := X.K) (self := Value.ref C) c.fi) (evalArgs_kw2_nil hall (thn (hkw.run pos _ s2 σ H1 _ I2 h2) fun ws s3 ⟨zs, H2, I3, rz, hl, h3⟩ => ⟨⟨ClX.pin_at I3, I3.kIn⟩, ?_⟩))
  rw [hks]
  suffices z : wpAny (model X.prog X.w) X.A (call (.ref s1.heap.objs.size) [] (ks.zip ws)) (EP X ((s1.heap.objs.size, PySem.W.methodObj (.ref g) (.ref C)) :: pins) σ Q) X.xe s3 from thn z fun _ _ y => ClX.unpinE y
  refine wpAny_call (PySem.W.method_call (ClX.pin_at I3) ?_)
  have r2 : Vals (V.ref C :: zs) (Value.ref C :: ws) := .cons rfl rz
  refine codeAny_mono (F.run X.A X.stack s3 H2 ⟨Value.ref C :: [], ks.zip ws⟩ (Value.ref C :: ws) (V.ref C :: zs) Q E hr I3.env0 (hb s3 ws I3.kIn (rz.length.symm.trans hl)) r2 h3) fun r s' hq => ?_
  cases r with
  | error er => exact hx _ σ H2 s3 er s' I3 hq
  | ok fl =>
    cases fl with
    | ret u => exact I3.after hq
    | next => exact False.elim hq
    | brk => exact False.elim hq
    | cont => exact False.elim hq
end

/-! ### an error with a dict of its own, asked for its class in an except suite -/
theorem class_of_err {prog : Program} {w : World} {A : Around} {E : Value → Shared → Prop} {s : Shared} {K : PySem.W.Frag} {x D : Addr} {ox od : Obj} {Q : Option Value → Shared → Prop} (C : ExcC K D) (hK : K.In s.heap) (J : PySem.W.InstAt s.heap x ox D (some od))
    (h : Q (some (.ref D)) { s with toks := s.toks + 1 }) : wpAny (model prog w) A (getAttr? (.ref x) "__class__") Q E s := by
  have hcd : (PySem.W.clsIn K D).isSome = true := by
    obtain ⟨cd, hc, _⟩ := PySem.W.any_some C.hd
    rw [hc]
    rfl
  have hf : PySem.W.findObj K D (some od) "__class__" = some (.bind (.builtin "getset_descriptor.__get__") (.builtin "object.__class__")) := PySem.W.findObj_data hcd C.ha C.hn C.ht
  obtain ⟨hp, gg, dr, tt, os⟩ := s
  have T0 := J.type (M := model prog w)
  have T1 := PySem.W.looks_findIn (M := model prog w) hK C.hg
  have T2 := PySem.W.looks_findIn (M := model prog w) hK C.hk
  have T3 := PySem.W.looks_find (M := model prog w) hK J hf
  have below : PySem.W.Looks (model prog w) hp (isInstance (.ref x) (.type "BaseException")) true := T0.andThen (PySem.W.looks_subIn hK C.hs)
  have b0 : (false && onTheHeap (Value.builtin "BaseException.__getattribute__")) = false := rfl
  have b2 : (Value.builtin "BaseException.__getattribute__" == Value.builtin "object.__getattribute__") = false := by decide +kernel
  have b1 : (onTheHeap (Value.ref D) && Value.builtin "BaseException.__getattribute__" == Value.builtin "object.__getattribute__") = false := by rw [b2]; rfl
  unfold getAttr? getAttrBy? getAttrBy
  refine wpAny_bind (wpAny_mkText (wpAny_bind (wpAny_attempt (wpAny_holding (wpAny_bind (T0.at (wpAny_bind (T1.at ?_))))))))
  show wpAny _ _ (if (onTheHeap (Value.ref D) && Value.builtin "BaseException.__getattribute__" == Value.builtin "object.__getattribute__") = true then _ else _) _ _ _
  rw [b1, if_neg Bool.false_ne_true]
  unfold getAttrByItsOwn hookBefore
  refine wpAny_bind ?_
  rw [if_pos (show onTheHeap (Value.ref D) = true from rfl)]
  refine T2.at ?_
  refine wpAny_bind (wpAny_attempt (wpAny_holding ?_))
  unfold callGetattribute
  rw [b0, if_neg Bool.false_ne_true]
  unfold boundAndCalled
  rw [PySem.F.excAttr_ValueError.ga.bind (.ref x)]
  refine wpAny_bind (wpAny_pure ?_)
  show wpAny _ _ (call (.builtin "BaseException.__getattribute__") [.ref x, .str "__class__" tt]) _ _ _
  refine wpAny_call (codeAny_call_builtin PySem.F.excAttr_ValueError.ga.plain PySem.F.entry_bexc_ga ?_)
  refine @PySem.W.check_slot (model prog w) _ _ ⟨hp, gg, dr, tt + 1, os⟩ "BaseException.__getattribute__" "BaseException" "__getattribute__" (.ref x) [.str "__class__" tt] [] _ (by decide +kernel) (by decide +kernel) below (PySem.F.args_bexc_ga (.ref x) (.str "__class__" tt)) ?_
  unfold Builtin.«object.__getattribute__»
  refine wpAny_bind (wpAny_of_eq (a := ((Value.ref x : Value), [Value.str "__class__" tt])) (by first | rfl | (simp only [slotArgs]; rfl)) ?_)
  refine wpAny_bind (wpAny_pure (wpAny_bind (T0.at (wpAny_bind (T3.at ?_)))))
  show wpAny _ _ (holding [Value.builtin "object.__class__"] (call (.builtin "getset_descriptor.__get__") [.builtin "object.__class__", .ref x, .ref D]) >>= ret) _ _ _
  refine wpAny_bind (wpAny_holding (wpAny_call (PySem.W.class_get (s := ⟨hp, gg, dr, tt + 1, os⟩) (ox := ox) (od := some od) hK J C.hm ?_)))
  refine wpAny_pure ?_
  show wpAny _ _ (handedOut (.ref D)) _ _ _
  rw [PySem.W.handedOut_of (v := .ref D) rfl]
  first
    | exact wpAny_pure (wpAny_pure h)
    | exact wpAny_pure h
    | exact wpAny_pure (wpAny_bind (wpAny_pure (wpAny_pure h)))
theorem kit_err {K : PySem.W.Frag} {x D : Addr} {ox od : Obj} (C : ExcC K D) : PySem.W.KitX K (.ref x) (.ref D) (fun h => PySem.W.InstAt h x ox D (some od)) where
  ty := fun _ _ _ J => J.type
  it := fun _ _ hK _ => by
    obtain ⟨cdD, hcD, _⟩ := PySem.W.any_some C.hd
    unfold PySem.W.clsIn at hcD
    split at hcD
    · rename_i c' d' cd' sl' ho
      intro A' Q' E' s' kk q
      unfold isType loadHead
      exact wpAny_bind (wpAny_loadPart (kk _ _ (hK _ _ ho)) (wpAny_pure q))
    · cases hcD
  ne := fun h tp dd its n sl hK htp => by
    obtain ⟨cdD, hcD, _⟩ := PySem.W.any_some C.hd
    refine Bool.eq_false_iff.mpr fun q => ?_
    have e : D = tp := Value.ref.inj (beq_iff_eq.mp q)
    subst e
    unfold PySem.W.clsIn at hcD
    split at hcD
    · rename_i c' d' cd' sl' ho
      have z := (hK _ _ ho).symm.trans htp
      cases z
    · cases hcD
  ca := fun hK J q => class_of_err C hK J q
def rIsEd (K : PySem.W.Frag) (a : Addr) (cls : Value) (d : Option Addr) (D : Addr) : List V → Hp → VK → Prop := fun xs H Q => ∃ (c : V) (cv : Value) (b : Bool) (dd : Addr) (fs : List (Str × V)), xs = [.ref a, c] ∧ cls = .ref D ∧ d = some dd ∧ ClsV c cv ∧ PySem.W.kitOne K (.ref D) cv = some b ∧ H dd = some (.xd fs) ∧ Q (.bl b) H
theorem call_isEd {a D : Addr} {cls : Value} {d : Option Addr} {oe : Obj} {pn : List (Addr × Obj)} (C : ExcC X.K D) (hz : Zc cls d oe) (hf : ∃ vs, oe.data = .fields vs) : CallR (X.suite a ((a, oe) :: pn)) (.builtin "isinstance") (rIsEd X.K a cls d D) := by
  intro pins s σ H xs us Q I r h
  obtain ⟨c, cv, b, dd, fs, rfl, e1, e2, hcv, e, hd, q⟩ := h
  subst e1
  subst e2
  obtain ⟨u, w', rfl, ru, rw'⟩ := vals2 r
  obtain rfl : u = Value.ref a := ru
  obtain rfl := hcv.eq rw'
  obtain ⟨hget, _⟩ := I.pin (a, oe) (List.mem_append.mpr (.inl List.mem_cons_self))
  obtain ⟨vs, hv⟩ := hf
  have hx : ObjOk X.prog X.w H s.heap dd (.xd fs) := I.hok dd _ hd
  obtain ⟨mA, hns, hrel⟩ := hx
  obtain ⟨od, ho, hl⟩ := lookIn_ns hns
  have J : PySem.W.InstAt s.heap a oe D (some od) := ⟨hget, hz.1, by unfold PySem.W.notCls; rw [hv] <;> rfl, by rw [hz.2]; exact ho⟩
  exact PySem.W.kia_one (kit_err C) I.kIn J e (fun z => nomatch z) fun tk => ⟨.bl b, H, I.kept (t' := tk) fun _ _ z => z, rfl, q⟩
end

/-! ### isinstance by the written part; keywords in another order -/
theorem kit_self {K : PySem.W.Frag} {C : Addr} : PySem.W.kitOne K (.ref C) (.ref C) = some true := by
  unfold PySem.W.kitOne
  rw [if_pos (by simp)]
theorem kit_sub {K : PySem.W.Frag} {t : Value} {C : Addr} {b : Bool} (ic : PySem.W.isClsIn K C = true) (ty : PySem.W.typeIn K (.ref C) = some (.type "type")) (su : PySem.W.subIn K t (.ref C) = some b) (ne : t ≠ .ref C) : PySem.W.kitOne K t (.ref C) = some b := by
  unfold PySem.W.kitOne
  rw [if_neg (by simpa using ne)]
  show (if ((PySem.W.clsIn K C).isSome && PySem.W.typeIn K (.ref C) == some (.type "type")) = true then PySem.W.subIn K t (.ref C) else none) = some b
  rw [ty, show (PySem.W.clsIn K C).isSome = true from ic, if_pos (by simp)]
  exact su
theorem kit_not {K : PySem.W.Frag} {t : Value} {C : Addr} (ic : PySem.W.isClsIn K C = true) (ty : PySem.W.typeIn K (.ref C) = some (.type "type")) (su : PySem.W.subIn K t (.ref C) = some false) (ne : t ≠ .ref C) : PySem.W.kitOne K t (.ref C) = some false := kit_sub ic ty su ne
def permL {α : Type} (is : List Nat) (ws : List α) : List α := is.filterMap fun i => ws[i]?
theorem permL_rel (is : List Nat) {zs : List V} {ws : List Value} (r : Vals zs ws) : Vals (permL is zs) (permL is ws) := by
  induction is with
  | nil => exact .nil
  | cons i is ih =>
    unfold permL at ih ⊢
    rw [List.filterMap_cons, List.filterMap_cons]
    cases e : zs[i]? with
    | none =>
      rw [r.none_of e]
      exact ih
    | some x =>
      obtain ⟨u, hu, ru⟩ := r.get e
      rw [hu]
      exact .cons ru ih
end My

/-! My own rules about operators of own classes: + - * with an instance or an int on either side, in place, unary minus, == with either answer, != of two lists with the same items. -/
namespace My
open PySem PySem.Spec PyProof.Rows L2

section
variable {X : Cx} {CX : CXT} {k : Nat} {C f : Addr} {fd : FuncData} {ps : List Str} {sp : Sp} {E : XK}
theorem run_own {pins : List (Addr × Obj)} {s : Shared} {σ : L2.St} {H : Hp} {Q : VK} {us : List Value} {vs : List V} (F : FnOk X.prog X.w X.K X.mg X.base CX k f fd ps sp) (hr : Room k X.A) (hb : Binds X.K fd ps []) (hx : Passes CX X E)
    (I : Inv X pins σ H s) (r : Vals vs us) (h : sp vs H Q E) : wpAny (model X.prog X.w) X.A (call (.ref f) us) (EP X pins σ Q) X.xe s := by
  have hl : (us ++ []).length = ps.length := by
    rw [List.append_nil, ← F.len _ _ _ _ h]
    exact r.length.symm
  refine wpAny_call (codeAny_mono (F.run X.A X.stack s H ⟨us, []⟩ us vs _ E hr I.env0 (by
    have := hb s us I.kIn hl
    rw [List.append_nil] at this
    exact this) r h) fun r s' hq => ?_)
  cases r with
  | error e => exact hx pins σ H s e s' I hq
  | ok fl =>
    cases fl with
    | ret w => exact I.after hq
    | next => exact False.elim hq
    | brk => exact False.elim hq
    | cont => exact False.elim hq
/-- what is handed back is no NotImplemented -/
theorem back_of {pins : List (Addr × Obj)} {σ : L2.St} {Q : VK} {v : Value} {s : Shared} (h : EP X pins σ Q v s) : PySem.W.CmpBack (EP X pins σ Q) v s := by
  obtain ⟨x, H, I, r, q⟩ := id h
  cases x with
  | non => obtain rfl : v = Value.none := r; exact h
  | bl b => obtain rfl : v = Value.bool b := r; exact h
  | int i => obtain ⟨t, rfl⟩ := r; exact h
  | str i => obtain ⟨t, rfl⟩ := r; exact h
  | byt i => obtain ⟨t, rfl⟩ := r; exact h
  | flt i => obtain ⟨t, rfl⟩ := r; exact h
  | ref a => obtain rfl : v = Value.ref a := r; exact h
  | ty n => obtain rfl : v = Value.type n := r; exact h

/-! ### the unary minus -/
def rNegO (C : Addr) (sp : Sp) (E : XK) : V → Hp → VK → Prop := fun x H Q => ∃ a dx fs, x = .ref a ∧ H a = some (.ins C dx fs) ∧ sp [.ref a] H Q E
theorem un_negO (hs : PySem.W.findIn X.K (.ref C) "__neg__" = some (some (.ref f))) (hf : PySem.W.isFn X.K (.ref f) = true) (F : FnOk X.prog X.w X.K X.mg X.base CX k f fd ps sp) (hr : Room k X.A) (hb : Binds X.K fd ps []) (hx : Passes CX X E) :
    UnR X (unaryOp .USub) (rNegO C sp E) := by
  intro pins s σ H x v Q I rx h
  obtain ⟨a, dx, fs, rfl, ea, q⟩ := h
  obtain rfl : v = Value.ref a := rx
  obtain ⟨mA, J, _⟩ := ins_get I.hok ea
  obtain ⟨od, J, _⟩ := J.look
  obtain ⟨m, hF⟩ := I.fr
  exact PySem.W.ksp_neg hF I.ok.mod.kin J hs hf (run_own (vs := [V.ref a]) F hr hb hx I (.cons rfl .nil) q)

/-! ### the operators with two sides -/
/-- what of the text an operator must have -/
structure OpO (K : PySem.W.Frag) (C : Addr) (nm : String) (f g : Addr) : Prop where
  sf : PySem.W.selfFirst K C = true
  ls : PySem.W.findIn K (.ref C) (PySem.dunder nm) = some (some (.ref f))
  lf : PySem.W.isFn K (.ref f) = true
  rs : PySem.W.findIn K (.ref C) (dunderR nm) = some (some (.ref g))
  rf : PySem.W.isFn K (.ref g) = true
  i1 : ∃ fo, PySem.W.findIn K (.type "int") (PySem.dunder nm) = some fo
  i2 : ∃ ro, PySem.W.findIn K (.type "int") (dunderR nm) = some ro
  su : PySem.W.subIn K (.type "int") (.ref C) = some false
  us : PySem.W.subIn K (.ref C) (.type "int") = some false
/-- int declines -/
structure Dec (nm : String) (id : String) (B : Builtin) : Prop where
  slot : Slot "int" (PySem.dunder nm) id
  entry : entryFor table id = some B
  args : ∀ a b, argsOk id ⟨[a, b], []⟩
  fills : fillsNumberSlot (.type "int") nm = pure true
  body : ∀ (a : Int) (t : Tok) (l C dx : Addr), Meets (B ⟨[.int a t, .ref l], []⟩) (fun _ R s => s.heap.get? l = some (PySem.W.instObj C dx) ∧ R (.ok (.ret Value.notImplemented)) s)
theorem dec_add : Dec "add" "int.__add__" Builtin.«int.__add__» := ⟨F.slot_int_add, F.entry_int_add, F.args_int_add_2, F.fills_int_add, fun a t l C dx => .of_wp fun prog w A R s h => by obtain ⟨hp, g, d, tk, os⟩ := s; obtain ⟨hl, h⟩ := h; wp_walk; exact ⟨_, rfl, h⟩⟩
theorem dec_sub : Dec "sub" "int.__sub__" Builtin.«int.__sub__» := ⟨F.slot_int_sub, F.entry_int_sub, F.args_int_sub_2, F.fills_int_sub, fun a t l C dx => .of_wp fun prog w A R s h => by obtain ⟨hp, g, d, tk, os⟩ := s; obtain ⟨hl, h⟩ := h; wp_walk; exact ⟨_, rfl, h⟩⟩
theorem dec_mul : Dec "mul" "int.__mul__" Builtin.«int.__mul__» := ⟨F.slot_int_mul, F.entry_int_mul, F.args_int_mul_2, F.fills_int_mul, fun a t l C dx => .of_wp fun prog w A R s h => by obtain ⟨hp, g, d, tk, os⟩ := s; obtain ⟨hl, h⟩ := h; wp_walk; exact ⟨_, rfl, h⟩⟩

section
variable {prog : Program} {w : World} {A : Around} {Ex : Value → Shared → Prop} {s : Shared} {K : PySem.W.Frag} {C f g : Addr} {nm : String}
open PySem.W
theorem b1_own {x y : Addr} {odx ody : Option Obj} {ox oy : Obj} {Q : Value → Shared → Prop} (X : K.In s.heap) (O : OpO K C nm f g) (I : InstAt s.heap x ox C odx) (J : InstAt s.heap y oy C ody)
    (h : wpAny (model prog w) A (call (.ref f) [.ref x, .ref y]) (PySem.W.CmpBack Q) Ex s) : wpAny (model prog w) A (binaryOp1 nm (.ref x) (.ref y)) (fun r s' => ∃ v, r = some v ∧ Q v s') Ex s := by
  obtain ⟨cd, rest, hcd, hm⟩ := ksp_first O.sf
  unfold binaryOp1
  refine wpAny_bind (I.type.here (wpAny_bind (J.type.here (wpAny_bind ((fills_K X hcd hm O.ls).here ?_)))))
  simp only [beq_self_eq_true, if_true]
  refine wpAny_bind (wpAny_pure ?_)
  simp only [Bool.and_false, Bool.false_eq_true, if_false, Bool.false_and]
  refine wpAny_bind (wpAny_pure ?_)
  simp only [Bool.false_eq_true, if_false]
  refine wpAny_bind (m := tryMethod (.ref x) _ (.ref y)) (wpAny_mono (ksp_try X I O.ls O.lf h) (fun r s' hr => ?_) fun _ _ e => e)
  obtain ⟨v, rfl, hq⟩ := hr
  exact wpAny_pure ⟨v, rfl, hq⟩
theorem b1_int {x : Addr} {i : Int} {t : Tok} {odx : Option Obj} {ox : Obj} {Q : Value → Shared → Prop} (X : K.In s.heap) (O : OpO K C nm f g) (I : InstAt s.heap x ox C odx)
    (h : wpAny (model prog w) A (call (.ref f) [.ref x, .int i t]) (PySem.W.CmpBack Q) Ex s) : wpAny (model prog w) A (binaryOp1 nm (.ref x) (.int i t)) (fun r s' => ∃ v, r = some v ∧ Q v s') Ex s := by
  obtain ⟨cd, rest, hcd, hm⟩ := ksp_first O.sf
  obtain ⟨fo, h1⟩ := O.i1
  obtain ⟨ro, h2⟩ := O.i2
  have one := ksp_try X I O.ls O.lf h
  obtain ⟨hh, gg, d, tt, os⟩ := s
  have L1 : Looks (model prog w) hh (typeOf (.ref x)) (.ref C) := I.type
  have L2 : Looks (model prog w) hh (typeOf (.int i t)) (.type "int") := Looks.of_pure rfl
  have L3 : Looks (model prog w) hh (fillsNumberSlot (.ref C) nm) true := fills_K X hcd hm O.ls
  have L4 : Looks (model prog w) hh (fillsNumberSlot (.type "int") nm) ((fo.isSome && !isSeqSlot fo) || (ro.isSome && !isSeqSlot ro)) := ksp_fillsT X h1 h2
  have L5 : Looks (model prog w) hh (isSubtype (.type "int") (.ref C)) false := looks_subIn X O.su
  have L6 : Looks (model prog w) hh (numberSlotInPython (.ref C) nm) true := ksp_inPy X O.ls O.rs (.inr ⟨_, rfl⟩)
  have L7 : Looks (model prog w) hh (numberSlotInPython (.type "int") nm) false := Looks.of_pure rfl
  have L8 : Looks (model prog w) hh (typeLookup (.type "int") (dunderR nm)) ro := looks_findIn X h2
  generalize ((fo.isSome && !isSeqSlot fo) || (ro.isSome && !isSeqSlot ro)) = right at L4
  have hne : (Value.ref C == Value.type "int") = false := Bool.eq_false_iff.mpr fun q => by cases beq_iff_eq.mp q
  unfold binaryOp1
  refine wpAny_bind (L1.at (wpAny_bind (L2.at (wpAny_bind (L3.at ?_)))))
  simp only [hne, Bool.false_eq_true, if_false]
  cases right with
  | false =>
    ksp_lk
    refine wpAny_mono one (fun r s' hr' => ?_) fun _ _ e => e
    obtain ⟨v, rfl, hq⟩ := hr'
    ksp_lk
    exact ⟨v, rfl, hq⟩
  | true =>
    ksp_lk
    refine wpAny_mono one (fun r s' hr' => ?_) fun _ _ e => e
    obtain ⟨v, rfl, hq⟩ := hr'
    ksp_lk
    exact ⟨v, rfl, hq⟩
theorem b1_rint {x dx : Addr} {i : Int} {t : Tok} {odx : Option Obj} {id : String} {B : Builtin} {Q : Value → Shared → Prop} (D : Dec nm id B) (X : K.In s.heap) (O : OpO K C nm f g) (I : InstAt s.heap x (instObj C dx) C odx)
    (h : wpAny (model prog w) A (call (.ref g) [.ref x, .int i t]) (PySem.W.CmpBack Q) Ex s) : wpAny (model prog w) A (binaryOp1 nm (.int i t) (.ref x)) (fun r s' => ∃ v, r = some v ∧ Q v s') Ex s := by
  obtain ⟨cd, rest, hcd, hm⟩ := ksp_first O.sf
  have one := ksp_try X I O.rs O.rf h
  have two : wpAny (model prog w) A (tryMethod (.int i t) (PySem.dunder nm) (.ref x)) (fun r s' => r = none ∧ s' = s) Ex s :=
    wpAny_tryMethod_declines (typeIs_int s i t) D.slot (call_meets D.slot (typeIs_int s i t) D.entry (D.args _ _) (D.body i t x C dx) ⟨I.at_, rfl, rfl, rfl⟩)
  have L1 : Looks (model prog w) s.heap (typeOf (.ref x)) (.ref C) := I.type
  have L3 : Looks (model prog w) s.heap (fillsNumberSlot (.ref C) nm) true := fills_K X hcd hm O.ls
  have L5 : Looks (model prog w) s.heap (isSubtype (.ref C) (.type "int")) false := looks_subIn X O.us
  have hne : (Value.type "int" == Value.ref C) = false := Bool.eq_false_iff.mpr fun q => by cases beq_iff_eq.mp q
  have hpy : numberSlotInPython (.type "int") nm = pure false := rfl
  unfold binaryOp1
  refine wpAny_bind (wpAny_typeOf (typeIs_int s i t) (wpAny_bind (L1.here (wpAny_bind (wpAny_of_eq D.fills ?_)))))
  simp only [hne, Bool.false_eq_true, if_false]
  refine wpAny_bind (L3.here ?_)
  simp only [Bool.and_self, if_true]
  refine wpAny_bind (L5.here ?_)
  simp only [Bool.false_eq_true, if_false, pure_bind, Bool.not_false, Bool.and_self, if_true, hpy]
  refine wpAny_bind (wpAny_mono two (fun r s' hr => ?_) fun _ _ e => e)
  obtain ⟨rfl, rfl⟩ := hr
  refine wpAny_bind (wpAny_mono one (fun r s' hr => ?_) fun _ _ e => e)
  obtain ⟨v, rfl, hq⟩ := hr
  ksp_lk
  exact ⟨v, rfl, hq⟩
end

/-! ### the operators as rules -/
section
variable {X : Cx} {CX CX' : CXT} {k k' : Nat} {C f g : Addr} {fd fd' : FuncData} {ps ps' : List Str} {sp sp' : Sp} {E : XK} {op : Operator}
theorem op_or {F : Value → Value → Sem Value} {r1 r2 : R2} (a : OpR X F r1) (b : OpR X F r2) : OpR X F (fun x y H Q => r1 x y H Q ∨ r2 x y H Q) := by
  intro pins s σ H x y v u Q I rx ry h
  rcases h with h | h
  · exact a pins s σ H x y v u Q I rx ry h
  · exact b pins s σ H x y v u Q I rx ry h
theorem un_or {F : Value → Sem Value} {r1 r2 : V → Hp → VK → Prop} (a : UnR X F r1) (b : UnR X F r2) : UnR X F (fun x H Q => r1 x H Q ∨ r2 x H Q) := by
  intro pins s σ H x v Q I rx h
  rcases h with h | h
  · exact a pins s σ H x v Q I rx h
  · exact b pins s σ H x v Q I rx h
def rOO (C : Addr) (sp : Sp) (E : XK) : R2 := fun x y H Q => ∃ a dx fs b dy gs, x = .ref a ∧ y = .ref b ∧ H a = some (.ins C dx fs) ∧ H b = some (.ins C dy gs) ∧ sp [.ref a, .ref b] H Q E
def rOI (C : Addr) (sp : Sp) (E : XK) : R2 := fun x y H Q => ∃ a dx fs i, x = .ref a ∧ y = .int i ∧ H a = some (.ins C dx fs) ∧ sp [.ref a, .int i] H Q E
def rIO (C : Addr) (sp : Sp) (E : XK) : R2 := fun x y H Q => ∃ b dy gs i, x = .int i ∧ y = .ref b ∧ H b = some (.ins C dy gs) ∧ sp [.ref b, .int i] H Q E
theorem b1_oo {nm : String} (O : OpO X.K C nm f g) (F : FnOk X.prog X.w X.K X.mg X.base CX k f fd ps sp) (hr : Room k X.A) (hb : Binds X.K fd ps []) (hx : Passes CX X E)
    {pins : List (Addr × Obj)} {s : Shared} {σ : L2.St} {H : Hp} {x y : V} {v u : Value} {Q : VK} (I : Inv X pins σ H s) (rx : RelV x v) (ry : RelV y u) (h : rOO C sp E x y H Q) :
    wpAny (model X.prog X.w) X.A (binaryOp1 nm v u) (fun r s' => ∃ z, r = some z ∧ EP X pins σ Q z s') X.xe s := by
  obtain ⟨a, dx, fs, b, dy, gs, rfl, rfl, ea, eb, q⟩ := h
  obtain rfl : v = Value.ref a := rx
  obtain rfl : u = Value.ref b := ry
  obtain ⟨mA, J, _⟩ := ins_get I.hok ea
  obtain ⟨od, J, _⟩ := J.look
  obtain ⟨mB, J', _⟩ := ins_get I.hok eb
  obtain ⟨od', J', _⟩ := J'.look
  exact b1_own I.kIn O J J' (wpAny_mono (run_own (vs := [V.ref a, V.ref b]) F hr hb hx I (.cons rfl (.cons rfl .nil)) q) (fun _ _ z => back_of z) fun _ _ e => e)
theorem b1_oi {nm : String} (O : OpO X.K C nm f g) (F : FnOk X.prog X.w X.K X.mg X.base CX k f fd ps sp) (hr : Room k X.A) (hb : Binds X.K fd ps []) (hx : Passes CX X E)
    {pins : List (Addr × Obj)} {s : Shared} {σ : L2.St} {H : Hp} {x y : V} {v u : Value} {Q : VK} (I : Inv X pins σ H s) (rx : RelV x v) (ry : RelV y u) (h : rOI C sp E x y H Q) :
    wpAny (model X.prog X.w) X.A (binaryOp1 nm v u) (fun r s' => ∃ z, r = some z ∧ EP X pins σ Q z s') X.xe s := by
  obtain ⟨a, dx, fs, i, rfl, rfl, ea, q⟩ := h
  obtain rfl : v = Value.ref a := rx
  obtain ⟨t, rfl⟩ := ry
  obtain ⟨mA, J, _⟩ := ins_get I.hok ea
  obtain ⟨od, J, _⟩ := J.look
  exact b1_int I.kIn O J (wpAny_mono (run_own (vs := [V.ref a, V.int i]) F hr hb hx I (.cons rfl (.cons ⟨t, rfl⟩ .nil)) q) (fun _ _ z => back_of z) fun _ _ e => e)
theorem b1_io {nm : String} {id : String} {B : Builtin} (D : Dec nm id B) (O : OpO X.K C nm f g) (F : FnOk X.prog X.w X.K X.mg X.base CX k g fd ps sp) (hr : Room k X.A) (hb : Binds X.K fd ps []) (hx : Passes CX X E)
    {pins : List (Addr × Obj)} {s : Shared} {σ : L2.St} {H : Hp} {x y : V} {v u : Value} {Q : VK} (I : Inv X pins σ H s) (rx : RelV x v) (ry : RelV y u) (h : rIO C sp E x y H Q) :
    wpAny (model X.prog X.w) X.A (binaryOp1 nm v u) (fun r s' => ∃ z, r = some z ∧ EP X pins σ Q z s') X.xe s := by
  obtain ⟨b, dx, fs, i, rfl, rfl, ea, q⟩ := h
  obtain rfl : u = Value.ref b := ry
  obtain ⟨t, rfl⟩ := rx
  obtain ⟨mA, J, _⟩ := ins_get I.hok ea
  obtain ⟨od, J, _⟩ := J.look
  exact b1_rint D I.kIn O J (wpAny_mono (run_own (vs := [V.ref b, V.int i]) F hr hb hx I (.cons rfl (.cons ⟨t, rfl⟩ .nil)) q) (fun _ _ z => back_of z) fun _ _ e => e)
theorem bin_of {M : Model} {A : Around} {Ex : Value → Shared → Prop} {s : Shared} {nm : String} (hn : op.info.2 = nm) {v u : Value} {R : Value → Shared → Prop} (h : wpAny M A (binaryOp1 nm v u) (fun r s' => ∃ z, r = some z ∧ R z s') Ex s) : wpAny M A (binaryOp op v u) R Ex s := by
  unfold binaryOp
  refine wpAny_holding (wpAny_bind ?_)
  subst hn
  refine wpAny_mono (show wpAny M A (binaryOp1 op.info.2 v u) _ _ _ from h) (fun r s' hr => ?_) fun _ _ e => e
  obtain ⟨z, rfl, q⟩ := hr
  exact wpAny_pure q
theorem op_oo {nm : String} (hn : op.info.2 = nm) (O : OpO X.K C nm f g) (F : FnOk X.prog X.w X.K X.mg X.base CX k f fd ps sp) (hr : Room k X.A) (hb : Binds X.K fd ps []) (hx : Passes CX X E) : OpR X (binaryOp op) (rOO C sp E) :=
  fun _ _ _ _ _ _ _ _ _ I rx ry h => bin_of hn (b1_oo O F hr hb hx I rx ry h)
theorem op_oi {nm : String} (hn : op.info.2 = nm) (O : OpO X.K C nm f g) (F : FnOk X.prog X.w X.K X.mg X.base CX k f fd ps sp) (hr : Room k X.A) (hb : Binds X.K fd ps []) (hx : Passes CX X E) : OpR X (binaryOp op) (rOI C sp E) :=
  fun _ _ _ _ _ _ _ _ _ I rx ry h => bin_of hn (b1_oi O F hr hb hx I rx ry h)
theorem op_io {nm : String} {id : String} {B : Builtin} (hn : op.info.2 = nm) (D : Dec nm id B) (O : OpO X.K C nm f g) (F : FnOk X.prog X.w X.K X.mg X.base CX k g fd ps sp) (hr : Room k X.A) (hb : Binds X.K fd ps []) (hx : Passes CX X E) : OpR X (binaryOp op) (rIO C sp E) :=
  fun _ _ _ _ _ _ _ _ _ I rx ry h => bin_of hn (b1_io D O F hr hb hx I rx ry h)
/-! ### in place, without a method of its own for it -/
structure NoI (K : PySem.W.Frag) (C : Addr) (nm : String) : Prop where
  mro : ∃ cd, PySem.W.clsIn K C = some cd ∧ cd.mro = [.ref C, .type "object"]
  own : PySem.W.findIn K (.ref C) (dunderI nm) = some none
  obj : PySem.W.findIn K (.type "object") (dunderI nm) = some none
open PySem.W in
theorem looks_noI {M : Model} {h : Heap} {nm : String} {add : Bool} {K : Frag} (X : K.In h) (N : NoI K C nm) : Looks M h (fillsInplaceSlot (.ref C) nm add) false := by
  intro A Q E s k q
  obtain ⟨cd, hc, hm⟩ := N.mro
  have Lm : Looks M h (mroOf (.ref C)) cd.mro := (looks_clsIn X hc).andThen (f := fun cd => pure cd.mro) .now
  have Lm' := Lm.keeps k
  obtain ⟨hh, g, d, tt, os⟩ := s
  have X' : K.In hh := X.keeps k
  have L1 : Looks M hh (typeLookup (.ref C) (dunderI nm)) none := looks_findIn X' N.own
  have L2 : Looks M hh (typeLookup (.type "object") (dunderI nm)) none := looks_findIn X' N.obj
  unfold fillsInplaceSlot
  refine wpAny_bind (Lm'.at ?_)
  rw [hm, List.anyM_cons]
  refine wpAny_bind (wpAny_bind (L1.at ?_))
  refine wpAny_pure ?_
  rw [if_neg Bool.false_ne_true, List.anyM_cons]
  refine wpAny_bind (wpAny_bind (L2.at ?_))
  refine wpAny_pure ?_
  rw [if_neg Bool.false_ne_true]
  exact wpAny_pure q
theorem inp_of {M : Model} {A : Around} {Ex : Value → Shared → Prop} {s : Shared} {nm : String} {K : PySem.W.Frag} {a dx : Addr} {ox : Obj} {od : Option Obj} (hn : op.info.2 = nm) (X : K.In s.heap) (I : PySem.W.InstAt s.heap a ox C od) (N : NoI K C nm) {u : Value} {R : Value → Shared → Prop}
    (h : wpAny M A (binaryOp1 nm (.ref a) u) (fun r s' => ∃ z, r = some z ∧ R z s') Ex s) : wpAny M A (inplaceOp op (.ref a) u) R Ex s := by
  subst hn
  unfold inplaceOp
  refine wpAny_holding ?_
  refine wpAny_bind (I.type.here ?_)
  refine wpAny_bind ((looks_noI X N).here ?_)
  rw [if_neg Bool.false_ne_true]
  refine wpAny_bind (wpAny_mono h (fun r s' hr => ?_) fun _ _ e => e)
  obtain ⟨z, rfl, q⟩ := hr
  exact wpAny_pure q
theorem iop_oo {nm : String} (hn : op.info.2 = nm) (N : NoI X.K C nm) (O : OpO X.K C nm f g) (F : FnOk X.prog X.w X.K X.mg X.base CX k f fd ps sp) (hr : Room k X.A) (hb : Binds X.K fd ps []) (hx : Passes CX X E) : OpR X (inplaceOp op) (rOO C sp E) := by
  intro pins s σ H x y v u Q I rx ry h
  have h' := b1_oo O F hr hb hx I rx ry h
  obtain ⟨a, dx, fs, b, dy, gs, rfl, rfl, ea, eb, q⟩ := h
  obtain rfl : v = Value.ref a := rx
  obtain ⟨mA, J, _⟩ := ins_get I.hok ea
  obtain ⟨od, J, _⟩ := J.look
  exact inp_of (dx := dx) hn I.kIn J N h'
theorem iop_oi {nm : String} (hn : op.info.2 = nm) (N : NoI X.K C nm) (O : OpO X.K C nm f g) (F : FnOk X.prog X.w X.K X.mg X.base CX k f fd ps sp) (hr : Room k X.A) (hb : Binds X.K fd ps []) (hx : Passes CX X E) : OpR X (inplaceOp op) (rOI C sp E) := by
  intro pins s σ H x y v u Q I rx ry h
  have h' := b1_oi O F hr hb hx I rx ry h
  obtain ⟨a, dx, fs, i, rfl, rfl, ea, q⟩ := h
  obtain rfl : v = Value.ref a := rx
  obtain ⟨mA, J, _⟩ := ins_get I.hok ea
  obtain ⟨od, J, _⟩ := J.look
  exact inp_of (dx := dx) hn I.kIn J N h'
/-! ### == by the class's own method, with either answer -/
theorem cmp_own (hs : PySem.W.findIn X.K (.ref C) "__eq__" = some (some (.ref f))) (hf : PySem.W.isFn X.K (.ref f) = true) (F : FnOk X.prog X.w X.K X.mg X.base CX k f fd ps sp) (hr : Room k X.A) (hb : Binds X.K fd ps []) (hx : Passes CX X E) : OpR X (compareOp .Eq) (rOO C sp E) := by
  intro pins s σ H x y v u Q I rx ry h
  obtain ⟨a, dx, fs, b, dy, gs, rfl, rfl, ea, eb, q⟩ := h
  obtain rfl : v = Value.ref a := rx
  obtain rfl : u = Value.ref b := ry
  obtain ⟨mA, J, _⟩ := ins_get I.hok ea
  obtain ⟨od, J, _⟩ := J.look
  obtain ⟨mB, J', _⟩ := ins_get I.hok eb
  obtain ⟨od', J', _⟩ := J'.look
  obtain ⟨m, hF⟩ := I.fr
  show wpAny (model X.prog X.w) X.A (richCompare .Eq (.ref a) (.ref b)) (EP X pins σ Q) X.xe s
  refine PySem.W.cmp_K (op := .Eq) (tb := .ref C) hr.units0 hF I.ok.mod.kin J J'.type (by simp [PySem.W.notFirst]) hs hf ?_
  exact wpAny_mono (run_own (vs := [V.ref a, V.ref b]) F hr hb hx I (.cons rfl (.cons rfl .nil)) q) (fun _ _ z => back_of z) fun _ _ e => e
/-! ### != of two lists with the same items -/
def plainV : V → Bool
  | .int _ => true
  | .ref _ => true
  | _ => false
def rNeSame (K : PySem.W.Frag) : R2 := fun x y H Q => ∃ a b xs, x = .ref a ∧ y = .ref b ∧ SqL K H a xs ∧ SqL K H b xs ∧ (∀ z ∈ xs, plainV z = true) ∧ Q (.bl false) H
theorem eqAt_same {A : Around} {s : Shared} {z : V} {u v : Value} (h : plainV z = true) (r : RelV z u) (r' : RelV z v) : SeqAt.EqAt A s u v true := by
  cases z with
  | int i =>
    have := eqAt_V (A := A) (s := s) r r' rfl rfl
    have e : eqV (.int i) (.int i) = true := by simp [eqV]
    rw [e] at this
    exact this
  | ref a =>
    obtain rfl : u = Value.ref a := r
    obtain rfl : v = Value.ref a := r'
    exact SeqAt.EqAt.same _
  | _ => cases h
theorem op_neSame (hu : X.A.units < cLine) : OpR X (compareOp .NotEq) (rNeSame X.K) := by
  intro pins s σ H x y v u Q I rx ry h
  obtain ⟨a, b, xs, rfl, rfl, ha, hb, hp, q⟩ := h
  obtain rfl : v = Value.ref a := rx
  obtain rfl : u = Value.ref b := ry
  obtain ⟨its, r, ⟨o, n, e, c, d, dt⟩, _⟩ := I.list ha
  obtain ⟨its2, r2, ⟨o2, n2, e2, c2, d2, dt2⟩, _⟩ := I.list hb
  have hsz : its.toArray.size = its2.toArray.size := by rw [List.size_toArray, List.size_toArray, ← r.length, ← r2.length]
  show wpAny (model X.prog X.w) X.A (richCompare .NotEq (.ref a) (.ref b)) (EP X pins σ Q) X.xe s
  refine SeqAt.RcNeAt.lists (e := fun _ => true) ⟨o, e, c, n, dt⟩ ⟨o2, e2, c2, n2, dt2⟩ hsz hu (fun j h1 h2 => ?_) _ _ _ _ ?_
  · have k1 : j < xs.length := by rw [r.length]; simpa using h1
    obtain ⟨w1, hw1, rw1⟩ := r.get (List.getElem?_eq_getElem k1)
    obtain ⟨w2, hw2, rw2⟩ := r2.get (List.getElem?_eq_getElem k1)
    have g1 : its[j]? = some its.toArray[j] := by
      have h1' : j < its.length := by simpa using h1
      rw [List.getElem?_eq_getElem h1'] <;> simp
    have g2 : its2[j]? = some its2.toArray[j] := by
      have h2' : j < its2.length := by simpa using h2
      rw [List.getElem?_eq_getElem h2'] <;> simp
    rw [g1] at hw1
    rw [g2] at hw2
    rw [Option.some.inj hw1, Option.some.inj hw2]
    exact eqAt_same (hp _ (List.getElem_mem k1)) rw1 rw2
  · have e : (!(List.range its.toArray.size).all fun _ => true) = false := by simp
    rw [e]
    exact ⟨.bl false, H, I, rfl, q⟩
end
/-! ### list or tuple -/
section
variable {X : Cx}
theorem ix_or {r1 r2 : R2} (a : IxR X r1) (b : IxR X r2) : IxR X (fun x y H Q => r1 x y H Q ∨ r2 x y H Q) := by
  intro value slice pins s σ H x y v u Q I rx ry h
  rcases h with h | h
  · exact a value slice pins s σ H x y v u Q I rx ry h
  · exact b value slice pins s σ H x y v u Q I rx ry h
def iSeq (K : PySem.W.Frag) (tl : TE) : TI := fun σ H R => tl σ H fun x H1 => ∃ a, x = .ref a ∧ (((∃ xs, SqL K H1 a xs) ∧ R (Itl K a) H1) ∨ ((∃ xs, SqT K H1 a xs) ∧ R (Itt K a) H1))
theorem pi_seq {tg l : Expr} {tl : TE} (hl : PE X l tl) : PI X tg l (iSeq X.K tl) := by
  refine ⟨fun pins s σ H R I h => ?_⟩
  refine thn (hl.run pins s σ H _ I h) fun v s1 ⟨x, H1, I1, r1, q1⟩ => ?_
  obtain ⟨a, e, ⟨⟨xs, hq⟩, q⟩ | ⟨⟨xs, hq⟩, q⟩⟩ := q1
  · subst e
    cases r1
    obtain ⟨its, rv, p, hz⟩ := I1.list hq
    refine wpAny_pyIter_list p.isList ?_
    refine ⟨s1.heap.objs.size, [s1.heap.objs.size], _, _, H1, rfl, I1.kept (t' := s1.toks) fun b o e => Heap.get?_push_of_some _ e, turn_list a _, ⟨_, Heap.get?_push_size _ rfl, rfl, rfl⟩, fun b hb => ?_, q⟩
    have e : b = s1.heap.objs.size := by simpa using hb
    subst e
    exact I1.fpOk (Nat.le_refl _) (I1.hok.fresh (Nat.le_refl _))
  · subst e
    cases r1
    obtain ⟨its, rv, p, hz⟩ := I1.tuple hq
    refine wpAny_pyIter_tuple (show s1.heap.IsTuple a its.toArray from p) ?_
    refine ⟨s1.heap.objs.size, [s1.heap.objs.size], _, _, H1, rfl, I1.kept (t' := s1.toks) fun b o e => Heap.get?_push_of_some _ e, turn_tuple a _, ⟨_, Heap.get?_push_size _ rfl, rfl, rfl⟩, fun b hb => ?_, q⟩
    have e : b = s1.heap.objs.size := by simpa using hb
    subst e
    exact I1.fpOk (Nat.le_refl _) (I1.hok.fresh (Nat.le_refl _))
end
end
end My

/-! My own rules about calls that raise: by keywords alone, at the caller's slots; through a def's body. -/
namespace My
open PySem PySem.Spec PyProof.Rows L2
section
variable {X : Cx} {CX : CXT} {k : Nat} {f : Addr} {fd : FuncData} {ps ks : List Str} {sp : Sp} {E : L2.St → XK} {x : Str} {p pos : Pos} {kws : List Keyword} {tk : TA} {g : List Value → List Value → List Value} {gV : List V → List V → List V}
theorem run_fnkS {pins : List (Addr × Obj)} {σ : L2.St} {H : Hp} {s : Shared} {Q : VK} {us ws : List Value} {vs zs : List V} (F : FnOk X.prog X.w X.K X.mg X.base CX k f fd ps sp) (hr : Room k X.A) (hb : KBinds X.K fd ps ks g gV) (hx : PassesAt CX X σ (E σ))
    (I : Inv X pins σ H s) (r : Vals vs us) (rz : Vals zs ws) (h : sp (gV vs zs) H Q (E σ)) : wpAny (model X.prog X.w) X.A (call (.ref f) us (ks.zip ws)) (EP X pins σ Q) X.xe s := by
  have r2 := hb.rel r rz
  have hl : (g us ws).length = ps.length := by rw [← r2.length]; exact F.len _ _ _ _ h
  refine wpAny_call (codeAny_mono (F.run X.A X.stack s H ⟨us, ks.zip ws⟩ (g us ws) (gV vs zs) Q (E σ) hr I.env0 (hb.to s us ws I.kIn hl) r2 h) fun r s' hq => ?_)
  cases r with
  | error e => exact hx pins H s e s' I hq
  | ok fl =>
    cases fl with
    | ret u => exact I.after hq
    | next => exact False.elim hq
    | brk => exact False.elim hq
    | cont => exact False.elim hq
def tCallK0S (sp : Sp) (gV : List V → List V → List V) (E : L2.St → XK) (tk : TA) : TE := fun σ H Q => tk σ H fun zs H2 => sp (gV [] zs) H2 Q (E σ)
theorem pe_callK0S (F : FnOk X.prog X.w X.K X.mg X.base CX k f fd ps sp) (hr : Room k X.A) (hg : Gl X x) (hm : X.mg x = some (.ref f)) (hk : PySem.W.keepIn X.K (.ref f) = true) (hb : KBinds X.K fd ps ks g gV) (hx : ∀ σ, PassesAt CX X σ (E σ))
    (hkw : PK X kws tk) (hall : (backToKw pos (keywordEach kws X.env)).all (·.1.isSome) = true := by rfl) (hks : (backToKw pos (keywordEach kws X.env)).filterMap (·.1) = ks := by rfl)
    (hdb : (x == ("__debug__" : Str)) = false := by decide)
    (hpl : ((backTo pos (starEach [] X.env)).any (·.1) || (backToKw pos (keywordEach kws X.env)).any (·.1.isNone)) = false := by rfl) :
    PE X (.Call (.Name x p) [] kws pos) (tCallK0S sp gV E tk) := by
  refine ⟨fun pins s σ H Q I h => ?_⟩
  refine wpAny_Call_Name_kw (ld_glob I hg hm ?_ hdb)
  refine PySem.W.callWith_KW0 (h₀ := X.base) I.ok.mod.kin hk hall (thn (hkw.run pos pins s σ H _ I h) fun ws s2 ⟨zs, H2, I2, rz, q2⟩ => ⟨I2.kIn, ?_⟩) hpl
  rw [hks]
  exact run_fnkS (us := []) (vs := []) F hr hb (hx σ) I2 .nil rz q2
end
section
variable {X : Cx} {E E' : XK}
/-- what a callee lets out leaves this def too -/
theorem passX (tk : Takes X (fun cls d _ H => E cls d H)) : Passes (L2.CX X.prog X.w) X E := fun pins σ H s e s' I c => L2.passes_call tk (fun _ _ _ _ h => h) pins σ H s e s' I c
end
end My

/-! My own rules: != by object.__ne__ over an own ==, x is a bool, o.m(k = v). -/
namespace My
open PySem PySem.Spec PyProof.Rows L2

section
variable {X : Cx} {CX : CXT} {k : Nat} {C f : Addr} {fd : FuncData} {ps : List Str} {sp : Sp} {E : XK}
/-- a method run below a built-in -/
theorem run_own1 {pins : List (Addr × Obj)} {s : Shared} {σ : L2.St} {H : Hp} {Q : VK} {us : List Value} {vs : List V} (F : FnOk X.prog X.w X.K X.mg X.base CX k f fd ps sp) (hr : Room (k + 1) X.A) (hb : Binds X.K fd ps []) (hx : Passes CX X E)
    (I : Inv X pins σ H s) (r : Vals vs us) (h : sp vs H Q E) : wpAny (model X.prog X.w) X.A.in1 (call (.ref f) us) (EP X pins σ Q) X.xe s := by
  have hl : (us ++ []).length = ps.length := by
    rw [List.append_nil, ← F.len _ _ _ _ h]
    exact r.length.symm
  refine wpAny_call (codeAny_mono (F.run X.A.in1 X.stack s H ⟨us, []⟩ us vs _ E hr.in1 I.env0.in1 (by
    have := hb s us I.kIn hl
    rw [List.append_nil] at this
    exact this) r h) fun r s' hq => ?_)
  cases r with
  | error e => exact hx pins σ H s e s' I hq
  | ok fl =>
    cases fl with
    | ret w => exact I.after hq
    | next => exact False.elim hq
    | brk => exact False.elim hq
    | cont => exact False.elim hq
/-- C has no != of its own -/
structure NoNe (K : PySem.W.Frag) (C f : Addr) : Prop where
  ne : PySem.W.findIn K (.ref C) "__ne__" = some (some (.builtin "object.__ne__"))
  ob : PySem.W.subIn K (.ref C) (.type "object") = some true
  eq : PySem.W.findIn K (.ref C) "__eq__" = some (some (.ref f))
  fn : PySem.W.isFn K (.ref f) = true
theorem ne_K {prog : Program} {w : World} {A : Around} {Ex : Value → Shared → Prop} {s : Shared} {K : PySem.W.Frag} {a b : Addr} {oa ob : Obj} {oda odb : Option Obj} {Q : Value → Shared → Prop} (hu : A.units + 1 < cLine) (X : K.In s.heap) (N : NoNe K C f)
    (I : PySem.W.InstAt s.heap a oa C oda) (J : PySem.W.InstAt s.heap b ob C odb) (h : wpAny (model prog w) A.in1 (call (.ref f) [.ref a, .ref b]) (fun v s' => ∃ r, v = .bool r ∧ Q (.bool (!r)) s') Ex s) :
    wpAny (model prog w) A (richCompare .NotEq (.ref a) (.ref b)) Q Ex s := by
  have body : wpAny (model prog w) A.in1 (Builtin.«object.__ne__» ⟨[.ref a, .ref b], []⟩) (fun fin s' => ∃ r, fin = .done (.ret (.bool (!r))) ∧ Q (.bool (!r)) s') Ex s := by
    unfold Builtin.«object.__ne__»
    refine wpAny_bind (wpAny_of_eq (a := ((Value.ref a : Value), [Value.ref b])) (by first | rfl | (simp only [slotArgs]; rfl)) ?_)
    refine wpAny_bind (wpAny_cRoomFor hu ?_)
    refine wpAny_bind (PySem.W.ifBound_K X I N.eq N.fn (wpAny_mono h (fun v s' hv => ?_) fun _ _ e => e))
    obtain ⟨r, rfl, q⟩ := hv
    refine wpAny_bind (wpAny_truthy_bool ?_)
    exact wpAny_pure ⟨r, rfl, q⟩
  have below : PySem.W.Looks (model prog w) s.heap (isInstance (.ref a) (.type "object")) true := I.type.andThen (PySem.W.looks_subIn X N.ob)
  have one : wpAny (model prog w) A (tryCompare (.ref a) "__ne__" (.ref b)) (fun r s' => ∃ t, r = some (.bool (!t)) ∧ Q (.bool (!t)) s') Ex s := by
    unfold tryCompare
    simp only [callSpecialIfBound?, bindSpecialIfBound?]
    refine wpAny_bind (wpAny_holding (wpAny_bind (wpAny_bind (wpAny_bind (I.type.here ((PySem.W.looks_findIn X N.ne).here ?_))))))
    simp only [F.cmp_object.ne.bind]
    refine wpAny_bind (wpAny_askSetting (wpAny_ite ?_))
    have fin : wpAny (model prog w) A (call (.builtin "object.__ne__") ([.ref a] ++ [.ref b]) >>= fun v => pure (some v)) (fun r s' => ∃ t, r = some (.bool (!t)) ∧ Q (.bool (!t)) s') Ex s := by
      refine wpAny_bind (wpAny_call (codeAny_call_builtin F.cmp_object.ne.plain F.cmpEntry_ne (PySem.W.check_slot F.cmpKind_ne F.cmpSplit_ne below (F.cmpArgs_ne _ _) (wpAny_mono body (fun fin s' hf => ?_) fun _ _ e => e))))
      obtain ⟨r, rfl, q⟩ := hf
      exact wpAny_pure ⟨r, rfl, q⟩
    have fin2 := wpAny_mono fin (Q' := fun a s' => wpAny (model prog w) A (match a with
        | some Value.notImplemented => pure none
        | none => pure none
        | some v => pure (some v)) (fun r s' => ∃ t, r = some (Value.bool !t) ∧ Q (Value.bool !t) s') Ex s') (fun r s' hr => by
      obtain ⟨t, rfl, q⟩ := hr
      exact wpAny_pure ⟨t, rfl, q⟩) fun _ _ e => e
    split
    · exact wpAny_pure (by exact fin2)
    · exact wpAny_tryCatch (wpAny_pure (by exact fin2))
  unfold richCompare
  simp only [oneThing_ref]
  refine wpAny_holding (wpAny_bind (wpAny_cRoomFor (by omega) ?_))
  refine wpAny_bind (I.type.here (wpAny_bind (J.type.here ?_)))
  split
  · rename_i q
    simp at q
  · refine wpAny_bind (wpAny_pure ?_)
    simp only [Bool.false_eq_true, if_false]
    refine wpAny_bind (wpAny_mono one (fun r s' z => ?_) fun _ _ e => e)
    obtain ⟨t, rfl, hq⟩ := z
    exact wpAny_pure hq
/-- x is y, two bools -/
theorem op_isB : OpR X (compareOp .Is) (fun x y H Q => ∃ a b, x = .bl a ∧ y = .bl b ∧ Q (.bl (decide (a = b))) H) := by
  intro pins s σ H x y v u Q I rx ry h
  obtain ⟨a, b, rfl, rfl, q⟩ := h
  cases rx
  cases ry
  show wpAny (model X.prog X.w) X.A (do return .bool (← isSame (.bool a) (.bool b))) (EP X pins σ Q) X.xe s
  refine wpAny_bind ?_
  unfold isSame
  cases a <;> cases b <;> exact wpAny_pure (wpAny_pure ⟨.bl (decide _), H, I, by rfl, q⟩)
section
variable {ks : List Str} {g : List Value → List Value → List Value} {gV : List V → List V → List V} {o : Expr} {m : Str} {pos apos : Pos} {kws : List Keyword} {ta : TE} {tk : TA}
/-- o.m(k = v, ..), nothing by place -/
def tMethK0 (C : Addr) (m : Str) (sp : Sp) (gV : List V → List V → List V) (E : XK) (ta : TE) (tk : TA) : TE := fun σ H Q => ta σ H fun x H1 => ∃ a dx fs, x = .ref a ∧ H1 a = some (.ins C dx fs) ∧ fs.lookup m = none ∧ tk σ H1 fun zs H2 => sp (gV [x] zs) H2 Q E
theorem pe_methK0 {pl : Sem Bool} (he : PE X o ta) (c : Cls X.K C) (hm : Meth X.K C m f) (F : FnOk X.prog X.w X.K X.mg X.base CX k f fd ps sp) (hr : Room k X.A) (hb : KBinds X.K fd ps ks g gV) (hx : Passes CX X E) (hkw : PK X kws tk)
    (hall : (backToKw pos (keywordEach kws X.env)).all (·.1.isSome) = true := by rfl) (hks : (backToKw pos (keywordEach kws X.env)).filterMap (·.1) = ks := by rfl)
    (hpl : ((backTo pos (starEach [] X.env)).any (·.1) || (backToKw pos (keywordEach kws X.env)).any (·.1.isNone)) = false := by rfl)
    (ht : eval (.Call (.Attribute o m apos) [] kws pos) X.env = (do
      let ov ← eval o X.env
      standAt apos.atName
      let (f, first) ← holding [ov] (getMethod ov m pl)
      callWith pos f first (backTo pos (starEach [] X.env)) (backToKw pos (keywordEach kws X.env))) := by rfl) :
    PE X (.Call (.Attribute o m apos) [] kws pos) (tMethK0 C m sp gV E ta tk) := by
  refine ⟨fun pins s σ H Q I h => ?_⟩
  refine PySem.W.methodCall_KW (pl := pl) (thn (he.run pins s σ H _ I h) fun u s1 ⟨x, H1, I1, rx, a, dx, fs, ex, ea, l, q⟩ => ?_) ht
  subst ex
  obtain rfl : u = Value.ref a := rx
  refine getmeth_ok I1 ea c hm l ?_
  refine PySem.W.callWith_KW0 (first := [.ref a]) (h₀ := X.base) I.ok.mod.kin hm.kp hall (thn (hkw.run pos pins s1 σ H1 _ I1 q) fun ws s2 ⟨zs, H2, I2, rz, q2⟩ => ⟨I2.kIn, ?_⟩) hpl
  rw [hks]
  exact run_fnk (us := [.ref a]) (vs := [.ref a]) F hr hb hx I2 (.cons rfl .nil) rz q2
end
/-! ### a built-in value == an instance: the instance's own == answers -/
theorem eq_right {prog : Program} {w : World} {A : Around} {Ex : Value → Shared → Prop} {s : Shared} {K : PySem.W.Frag} {a : Value} {b : Addr} {ob : Obj} {odb : Option Obj} {Ta ida : String} {Q : Value → Shared → Prop} (hu : A.units < cLine) (X : K.In s.heap)
    (he : PySem.W.findIn K (.ref C) "__eq__" = some (some (.ref f))) (hf : PySem.W.isFn K (.ref f) = true) (ha : s.TypeIs a Ta) (J : PySem.W.InstAt s.heap b ob C odb) (hsub : PySem.W.subIn K (.ref C) (.type Ta) = some false)
    (h1 : Slot Ta (cmpInfo .Eq).2.1 ida) (hc1 : ∀ Q' : Value → Shared → Prop, Q' .notImplemented s → wpAny (model prog w) A (call (.builtin ida) [a, .ref b]) Q' Ex s)
    (h : wpAny (model prog w) A (call (.ref f) [.ref b, a]) (fun v s' => ∃ r, v = .bool r ∧ Q (.bool r) s') Ex s) : wpAny (model prog w) A (richCompare .Eq a (.ref b)) Q Ex s := by
  have hne : (Value.type Ta != Value.ref C) = true := by
    rw [bne_iff_ne]
    exact fun z => nomatch z
  rcases hi : cmpInfo CmpOp.Eq with ⟨sym, n1, n2⟩
  have e1 : n1 = "__eq__" := by cases hi; rfl
  have e2 : n2 = "__eq__" := by cases hi; rfl
  rw [hi] at h1
  have one : wpAny (model prog w) A (tryCompare (.ref b) n2 a) (fun r s' => ∃ t, r = some (.bool t) ∧ Q (.bool t) s') Ex s := by
    rw [e2]
    unfold tryCompare
    refine wpAny_bind (PySem.W.ifBound_K X J he hf (wpAny_mono h (fun v s' hv => ?_) fun _ _ e => e))
    obtain ⟨r, rfl, q⟩ := hv
    exact wpAny_pure ⟨r, rfl, q⟩
  simp only [richCompare, hi, ha.oneThing_none]
  try with_reducible refine wpAny_holding ?_
  refine wpAny_bind (wpAny_cRoomFor hu ?_)
  refine wpAny_bind (wpAny_typeOf ha (wpAny_bind (J.type.here ?_)))
  simp only [hne, if_true]
  refine wpAny_bind ((PySem.W.looks_subIn X hsub).here ?_)
  simp only [Bool.false_eq_true, if_false, Bool.not_false, if_true]
  refine wpAny_bind (m := tryCompare a _ (.ref b)) (wpAny_tryCompare_declines ha h1 (hc1 _ ⟨rfl, ?_⟩))
  refine wpAny_bind (m := tryCompare (.ref b) _ a) (wpAny_mono one (fun r s' hr => ?_) fun _ _ e => e)
  obtain ⟨t, rfl, q⟩ := hr
  exact wpAny_pure q
theorem dec_int_eq (a : Int) (t : Tok) (l C dx : Addr) : Meets (Builtin.«int.__eq__» ⟨[.int a t, .ref l], []⟩) (fun _ R s => s.heap.get? l = some (PySem.W.instObj C dx) ∧ R (.ok (.ret Value.notImplemented)) s) := .of_wp fun prog w A R s h => by obtain ⟨hp, g, d, tk, os⟩ := s; obtain ⟨hl, h⟩ := h; wp_walk; exact ⟨_, rfl, h⟩
theorem dec_str_eq (a : Str) (t : Tok) (l C dx : Addr) : Meets (Builtin.«str.__eq__» ⟨[.str a t, .ref l], []⟩) (fun _ R s => s.heap.get? l = some (PySem.W.instObj C dx) ∧ R (.ok (.ret Value.notImplemented)) s) := .of_wp fun prog w A R s h => by obtain ⟨hp, g, d, tk, os⟩ := s; obtain ⟨hl, h⟩ := h; wp_walk; exact ⟨_, rfl, h⟩
theorem dec_none_eq (l : Addr) : Gives (Builtin.«NoneType.__eq__» ⟨[.none, .ref l], []⟩) (.val (Value.notImplemented)) := .of_wp fun M A E s Q h => by obtain ⟨hp, g, d, tk, os⟩ := s; wp_walk; exact ⟨_, rfl, h⟩
section
variable {prog : Program} {w : World} {A : Around} {Ex : Value → Shared → Prop} {s : Shared}
theorem dec_list_eq {l b : Addr} {Q : Value → Shared → Prop} (hl : s.TypeIs (.ref l) "list") (hb : PySem.W.Looks (model prog w) s.heap (isInstance (.ref b) (.type "list")) false) (q : Q .notImplemented s) : wpAny (model prog w) A (call (.builtin "list.__eq__") [.ref l, .ref b]) Q Ex s := by
  refine GQ.call_here F.slot_list_eq hl F.entry_list_eq (F.args_list_eq_2 _ _) ?_
  obtain ⟨hp, g, d, tk, os⟩ := s
  wp_walk using hb.at
  exact q
theorem dec_tuple_eq {l b : Addr} {Q : Value → Shared → Prop} (hl : s.TypeIs (.ref l) "tuple") (hb : PySem.W.Looks (model prog w) s.heap (isInstance (.ref b) (.type "tuple")) false) (q : Q .notImplemented s) : wpAny (model prog w) A (call (.builtin "tuple.__eq__") [.ref l, .ref b]) Q Ex s := by
  refine GQ.call_here F.slot_tuple_eq hl F.entry_tuple_eq (F.args_tuple_eq_2 _ _) ?_
  obtain ⟨hp, g, d, tk, os⟩ := s
  wp_walk using hb.at
  exact q
end
/-! ### an instance in a list of other things, by its own == -/
section
open PySem.SeqAt MeetsSeq MeetsSeq2 MeetsSeq3 SeqRoads2
variable {prog : Program} {w : World} {A : Around} {R : Result → Shared → Prop}
theorem contains_loopG (l : Addr) (x : Value) (N : Nat) (I : Shared → Prop)
    (hl : ∀ s, I s → ∃ (items : Array Value) (n : Nat), s.heap.get? l = some { cls := .type "list", data := .seq items n } ∧ items.size = N ∧ ∀ i (h : i < items.size), wpAny (model prog w) A.in1 (eqBool items[i] x) (fun r s' => r = false ∧ I s') (fun e s' => R (.error e) s') s)
    (fin : ∀ s, I s → R (.ok (.ret (.bool false))) s) (k : Nat) :
    ∀ i : Nat, N - i = k → i ≤ N → ∀ s, I s → wpAny (model prog w) A.in1 (Builtin.«list.__contains__.loop» ⟨[.ref l, x, rawInt i], []⟩) (GQ.FinOf prog w A R) (fun e s' => R (.error e) s') s := by
  induction k with
  | zero =>
    intro i hk hi s h
    obtain ⟨items, n, hl1, hs1, _⟩ := hl _ h
    have hR : R (.ok (.ret (.bool false))) s := fin s h
    obtain ⟨hp, g, d, tk, os⟩ := s
    wp_walk using AutoSeq1.wpAny_loadPart' hl1
    have hi1 : items[((i : Nat) : Int).toNat]? = none := by simp; omega
    rw [hi1]
    wp_walk
    exact hR
  | succ k ih =>
    intro i hk hi s h
    obtain ⟨items, n, hl1, hs1, turn⟩ := hl _ h
    have hlt : i < items.size := by omega
    have ht := turn i hlt
    obtain ⟨hp, g, d, tk, os⟩ := s
    wp_walk using AutoSeq1.wpAny_loadPart' hl1
    have hi1 : items[((i : Nat) : Int).toNat]? = some items[i] := by simp [hlt]
    have hc : ((i : Int) + 1) = ((i + 1 : Nat) : Int) := by omega
    rw [hi1]
    refine wpAny_bind (wpAny_mono ht (fun r s2 h2 => ?_) fun _ _ x => x)
    obtain ⟨hr, h2⟩ := h2
    subst hr
    have hrec := ih (i + 1) (by omega) (by omega) s2 h2
    obtain ⟨hp2, g2, d2, tk2, os2⟩ := s2
    wp_walk
    rw [hc]
    exact ⟨plainId_quiet plain_contains_loop _, codeAny_builtin entry_contains_loop (by
      rw [Around.under_plainId plain_contains_loop _]
      exact hrec)⟩
theorem list_containsG (l : Addr) (x : Value) (N : Nat) (I : Shared → Prop)
    (hl : ∀ s, I s → ∃ (items : Array Value) (n : Nat), s.heap.get? l = some { cls := .type "list", data := .seq items n } ∧ items.size = N ∧ ∀ i (h : i < items.size), wpAny (model prog w) A.in1 (eqBool items[i] x) (fun r s' => r = false ∧ I s') (fun e s' => R (.error e) s') s)
    (fin : ∀ s, I s → R (.ok (.ret (.bool false))) s) {s : Shared} (h : I s) : wpAny (model prog w) A.in1 (Builtin.«list.__contains__» ⟨[.ref l, x], []⟩) (GQ.FinOf prog w A R) (fun e s' => R (.error e) s') s := by
  have hrec := contains_loopG (A := A) (R := R) l x N I hl fin _ 0 rfl (Nat.zero_le _) s h
  obtain ⟨items, n, hl1, _, _⟩ := hl _ h
  obtain ⟨hp, g, d, tk, os⟩ := s
  wp_walk using AutoSeq1.wpAny_loadPart' hl1
  exact ⟨plainId_quiet plain_contains_loop _, codeAny_builtin entry_contains_loop (by
    rw [Around.under_plainId plain_contains_loop _]
    exact hrec)⟩
end
theorem eqBool_any {prog : Program} {w : World} {A : Around} {Ex : Value → Shared → Prop} {s : Shared} {a : Value} {b : Addr} {Q : Bool → Shared → Prop} (hne : a ≠ .ref b) (h : wpAny (model prog w) A (richCompare .Eq a (.ref b)) (fun v s' => ∃ r, v = .bool r ∧ Q r s') Ex s) : wpAny (model prog w) A (eqBool a (.ref b)) Q Ex s := by
  unfold eqBool
  refine wpAny_holding ?_
  refine wpAny_ite_split (fun hab => absurd (eq_of_beq hab) hne) (fun _ => ?_)
  cases a <;> exact wpAny_bind (wpAny_mono h (fun v s' hv => by
    obtain ⟨r, rfl, q⟩ := hv
    exact wpAny_truthy_bool q) fun _ _ x => x)
/-- another thing than an instance -/
def Oth (K : PySem.W.Frag) (H : Hp) (y : V) : Prop := (∃ i, y = .int i) ∨ (∃ z, y = .str z) ∨ y = .non ∨ (∃ p xs, y = .ref p ∧ H p = some (.tup xs)) ∨ (∃ p xs, y = .ref p ∧ H p = some (.lst xs))
structure OthC (K : PySem.W.Frag) (C f : Addr) : Prop where
  eq : PySem.W.findIn K (.ref C) "__eq__" = some (some (.ref f))
  fn : PySem.W.isFn K (.ref f) = true
  i : PySem.W.subIn K (.ref C) (.type "int") = some false
  s : PySem.W.subIn K (.ref C) (.type "str") = some false
  n : PySem.W.subIn K (.ref C) (.type "NoneType") = some false
  t : PySem.W.subIn K (.ref C) (.type "tuple") = some false
  l : PySem.W.subIn K (.ref C) (.type "list") = some false
def rInO (K : PySem.W.Frag) (C : Addr) (sp : Sp) (E : XK) : R2 := fun x y H Q => ∃ a dx fs l ys, x = .ref a ∧ y = .ref l ∧ H a = some (.ins C dx fs) ∧ H l = some (.lst ys) ∧ (∀ z ∈ ys, Oth K H z ∧ sp [.ref a, z] H (fun v H' => v = .bl false ∧ H' = H) E) ∧ Q (.bl false) H
theorem in_own (O : OthC X.K C f) (Fk : FnOk X.prog X.w X.K X.mg X.base CX k f fd ps sp) (hr : Room (k + 1) X.A) (hb : Binds X.K fd ps []) (hx : Passes CX X E) : OpR X (compareOp .In) (rInO X.K C sp E) := by
  intro pins s σ H x y v u Q I rx ry h
  obtain ⟨a, dx, fs, l, ys, rfl, rfl, ea, el, hz, q⟩ := h
  obtain rfl : v = Value.ref a := rx
  obtain rfl : u = Value.ref l := ry
  obtain ⟨z0, its0, n0, r0, e0⟩ := I.hok l _ el
  show wpAny (model X.prog X.w) X.A (do return .bool (← contains (.ref l) (.ref a))) (EP X pins σ Q) X.xe s
  have hT : s.TypeIs (.ref l) "list" := ⟨_, e0, rfl⟩
  refine wpAny_bind (wpAny_contains_slot hT F.slot_list_contains (wpAny_mono (GQ.call_here (Q := fun v s' => v = .bool false ∧ Inv X pins σ H s') F.slot_list_contains hT F.entry_list_contains (F.args_list_contains_2 _ _)
    (list_containsG l (.ref a) ys.length (fun s' => Inv X pins σ H s') (fun s' I' => ?_) (fun s' I' => ⟨rfl, I'⟩) I)) (fun v s' hv => ?_) fun _ _ e => e))
  · obtain ⟨z1, its, n, r, e⟩ := I'.hok l _ el
    refine ⟨its.toArray, n, e, by rw [List.size_toArray]; exact r.length.symm, fun i hi => ?_⟩
    have k1 : i < ys.length := by rw [r.length]; simpa using hi
    obtain ⟨u, hu, ru⟩ := r.get (List.getElem?_eq_getElem k1)
    have g1 : its[i]? = some its.toArray[i] := by
      have h1' : i < its.length := by simpa using hi
      rw [List.getElem?_eq_getElem h1'] <;> simp
    rw [g1] at hu
    rw [Option.some.inj hu]
    obtain ⟨ho, hsp⟩ := hz _ (List.getElem_mem k1)
    obtain ⟨mA, J, _⟩ := ins_get I'.hok ea
    obtain ⟨od, J, _⟩ := J.look
    have own : wpAny (model X.prog X.w) X.A.in1 (call (.ref f) [.ref a, u]) (fun v s' => ∃ r, v = .bool r ∧ ∃ t, Value.bool r = .bool t ∧ (t = false ∧ Inv X pins σ H s')) X.xe s' := by
      refine wpAny_mono (run_own1 (vs := [V.ref a, ys[i]]) Fk hr hb hx I' (.cons rfl (.cons ru .nil)) hsp) (fun v s2 hv => ?_) fun _ _ e => e
      obtain ⟨x, H2, I2, rv, ex, eH⟩ := hv
      subst ex
      subst eH
      obtain rfl : v = Value.bool false := rv
      exact ⟨false, rfl, false, rfl, rfl, I2⟩
    have hu1 : X.A.in1.units < cLine := hr.in1.units0
    rcases ho with ⟨i', ei⟩ | ⟨z', ez⟩ | en | ⟨p, xs, ep, hp⟩ | ⟨p, xs, ep, hp⟩
    · rw [ei] at ru
      obtain ⟨t, rfl⟩ := ru
      exact eqBool_any (fun z => nomatch z) (eq_right hu1 I'.kIn O.eq O.fn (typeIs_int s' i' t) J O.i F.slot_int_eq (fun Q' q' => call_meets F.slot_int_eq (typeIs_int s' i' t) F.entry_int_eq (F.args_int_eq_2 _ _) (dec_int_eq i' t a C dx) ⟨J.at_, q'⟩) own)
    · rw [ez] at ru
      obtain ⟨t, rfl⟩ := ru
      exact eqBool_any (fun z => nomatch z) (eq_right hu1 I'.kIn O.eq O.fn (typeIs_str s' z' t) J O.s F.slot_str_eq (fun Q' q' => call_meets F.slot_str_eq (typeIs_str s' z' t) F.entry_str_eq (F.args_str_eq_2 _ _) (dec_str_eq z' t a C dx) ⟨J.at_, q'⟩) own)
    · rw [en] at ru
      obtain rfl : u = Value.none := ru
      exact eqBool_any (fun z => nomatch z) (eq_right hu1 I'.kIn O.eq O.fn (typeIs_none s') J O.n F.slot_NoneType_eq (fun Q' q' => call_gives F.slot_NoneType_eq (typeIs_none s') F.entry_NoneType_eq (F.args_NoneType_eq_2 _ _) (dec_none_eq a) q') own)
    · rw [ep] at ru
      obtain rfl : u = Value.ref p := ru
      obtain ⟨its2, r2, pt, _⟩ := I'.tuple (SqT.of hp)
      obtain ⟨ot, et, ct, _⟩ := id pt
      have hTp : s'.TypeIs (.ref p) "tuple" := ⟨ot, et, ct⟩
      have below : PySem.W.Looks (model X.prog X.w) s'.heap (isInstance (.ref a) (.type "tuple")) false := J.type.andThen (PySem.W.looks_subIn I'.kIn O.t)
      refine eqBool_any (fun z => ?_) (eq_right hu1 I'.kIn O.eq O.fn hTp J O.t F.slot_tuple_eq (fun Q' q' => dec_tuple_eq hTp below q') own)
      injection z with z
      rw [z, ea] at hp
      cases hp
    · rw [ep] at ru
      obtain rfl : u = Value.ref p := ru
      obtain ⟨z2, its2, n2, r2, e2⟩ := I'.hok p _ hp
      have hTp : s'.TypeIs (.ref p) "list" := ⟨_, e2, rfl⟩
      have below : PySem.W.Looks (model X.prog X.w) s'.heap (isInstance (.ref a) (.type "list")) false := J.type.andThen (PySem.W.looks_subIn I'.kIn O.l)
      refine eqBool_any (fun z => ?_) (eq_right hu1 I'.kIn O.eq O.fn hTp J O.l F.slot_list_eq (fun Q' q' => dec_list_eq hTp below q') own)
      injection z with z
      rw [z, ea] at hp
      cases hp
  · obtain ⟨rfl, I'⟩ := hv
    exact wpAny_truthy_bool (wpAny_pure ⟨.bl false, H, I', rfl, q⟩)
/-- != of two instances -/
theorem ne_own (N : NoNe X.K C f) (F : FnOk X.prog X.w X.K X.mg X.base CX k f fd ps sp) (hr : Room (k + 1) X.A) (hb : Binds X.K fd ps []) (hx : Passes CX X E) :
    OpR X (compareOp .NotEq) (fun x y H Q => rOO C sp E x y H (fun v H' => ∃ b, v = .bl b ∧ Q (.bl (!b)) H')) := by
  intro pins s σ H x y v u Q I rx ry h
  obtain ⟨a, dx, fs, b, dy, gs, rfl, rfl, ea, eb, q⟩ := h
  obtain rfl : v = Value.ref a := rx
  obtain rfl : u = Value.ref b := ry
  obtain ⟨mA, J, _⟩ := ins_get I.hok ea
  obtain ⟨od, J, _⟩ := J.look
  obtain ⟨mB, J', _⟩ := ins_get I.hok eb
  obtain ⟨od', J', _⟩ := J'.look
  show wpAny (model X.prog X.w) X.A (richCompare .NotEq (.ref a) (.ref b)) (EP X pins σ Q) X.xe s
  refine ne_K (by have := hr.un; omega) I.kIn N J J' (wpAny_mono (run_own1 (vs := [V.ref a, V.ref b]) F hr hb hx I (.cons rfl (.cons rfl .nil)) q) (fun v s2 hv => ?_) fun _ _ e => e)
  obtain ⟨x, H2, I2, rv, t, ex, q2⟩ := hv
  subst ex
  obtain rfl : v = Value.bool t := rv
  exact ⟨t, rfl, .bl (!t), H2, I2, rfl, q2⟩
section
variable {E : L2.St → XK} {o e : Expr} {es : List Expr} {m : Str} {pos apos : Pos} {ta : TE} {t : TA}
/-- o.m(e, ..), what is let out wished for at the caller's slots -/
def tMethE (C : Addr) (m : Str) (sp : Sp) (E : L2.St → XK) (ta : TE) (t : TA) : TE := fun σ H Q => ta σ H fun x H1 => ∃ a dx fs, x = .ref a ∧ H1 a = some (.ins C dx fs) ∧ fs.lookup m = none ∧ t σ H1 fun vs H2 => sp (x :: vs) H2 Q (E σ)
theorem pe_methE {pl : Sem Bool} (he : PE X o ta) (c : Cls X.K C) (hm : Meth X.K C m f) (F : FnOk X.prog X.w X.K X.mg X.base CX k f fd ps sp) (hr : Room k X.A) (hb : Binds X.K fd ps []) (hx : ∀ σ, PassesAt CX X σ (E σ)) (ha : PA X (e :: es) t)
    (hst : starEach (e :: es) X.env = (false, eval e X.env) :: starEach es X.env := by rfl) (hpl : (backTo pos (starEach es X.env)).any (·.1) = false := by rfl)
    (ht : eval (.Call (.Attribute o m apos) (e :: es) [] pos) X.env = (do
      let ov ← eval o X.env
      standAt apos.atName
      let (f, first) ← holding [ov] (getMethod ov m pl)
      callWith pos f first (backTo pos (starEach (e :: es) X.env)) (backToKw pos (keywordEach [] X.env))) := by rfl) :
    PE X (.Call (.Attribute o m apos) (e :: es) [] pos) (tMethE C m sp E ta t) := by
  refine ⟨fun pins s σ H Q I h => ?_⟩
  refine PySem.W.methodCall_KW (pl := pl) (thn (he.run pins s σ H _ I h) fun u s1 ⟨x, H1, I1, rx, a, dx, fs, ex, ea, l, q⟩ => ?_) ht
  subst ex
  obtain rfl : u = Value.ref a := rx
  refine getmeth_ok I1 ea c hm l ?_
  refine PySem.W.callWith_K (first := [.ref a]) (h₀ := X.base) I.ok.mod.kin hm.kp (thn (ha.run pos pins s1 σ H1 _ I1 q) fun us s2 ⟨vs, H2, I2, r, q2⟩ => ⟨I2.kIn, ?_⟩) hst hpl
  exact run_fnS (us := .ref a :: us) (vs := .ref a :: vs) F hr hb (hx σ) I2 (.cons rfl r) q2
end
/-- the receiver by place, the other by its name -/
def kSelf {α : Type} : List α → List α → List α
  | [u], ws => u :: ws
  | _, _ => []
theorem kbinds_self {K : PySem.W.Frag} {fd : FuncData} {p1 p2 k : Str} (h : ∀ (s : Shared) (u w : Value), BindsTo s fd ⟨[u], [(k, w)]⟩ [(p1, u), (p2, w)]) : KBinds K fd [p1, p2] [k] kSelf kSelf where
  to := fun s us ws _ hl => match us, ws, hl with
    | [u], [w], _ => h s u w
    | [], _, hl => nomatch hl
    | [_], [], hl => nomatch hl
    | [_], _ :: _ :: _, hl => by simp [kSelf] at hl
    | _ :: _ :: _, _, hl => nomatch hl
  rel := fun r rz => by
    cases r with
    | nil => exact .nil
    | cons a r =>
      cases r with
      | nil => exact .cons a rz
      | cons => exact .nil
end
end My

/-! My own rule: the own == of two instances within an except suite. -/
namespace My
open PySem PySem.Spec PyProof.Rows L2
/-- a def that may be called while an error is handled: the error stands at p, out of reach -/
structure FnP (P : Program) (w : World) (K : PySem.W.Frag) (mg : Str → Option Value) (base : Heap) (k : Nat) (f : Addr) (fd : FuncData) (ps : List Str) (sp : Sp) : Prop where
  len : ∀ vs H Q E, sp vs H Q E → vs.length = ps.length
  run : ∀ (A : Around) (outer : List Env) (s : Shared) (H : Hp) (args : Args) (us : List Value) (vs : List V) (Q : VK) (E : XK) (p : Addr × Obj), L2H.RoomH k A → L2H.PinOk outer H s p → Env0 P w K mg base A outer s H → BindsTo s fd args (ps.zip us) → Vals vs us → sp vs H Q E →
    codeAny (model P w) A (.call (.ref f) args) (CR CX0 outer P w H s Q E) s
theorem fnP_of {P : Program} {w : World} {K : PySem.W.Frag} {mg : Str → Option Value} {base : Heap} {x qual : Str} {st : Stmt} {f : Addr} {fd : FuncData} {N ps : List Str} {k : Nat} {sp : Sp} (F : Fun K x qual st f fd) (S : FnScope N ps (defScope st)) (len : ∀ vs H Q E, sp vs H Q E → vs.length = ps.length)
    (hbody : ∀ (cdv : Value) (A : Around) (outer : List Env) (s : Shared) (H : Hp) (vs : List V) (Q : VK) (E : XK) (p : Addr × Obj), sp vs H Q E →
      ∃ t, PSs (L2H.cxH CX0 P w K mg base N qual (defScope st) f cdv A outer s H E p) (defBody st) t ∧ t { nx := fun _ H' => Q .non H', rt := Q } (L2.start N vs) H) : FnP P w K mg base (k + 1) f fd ps sp := by
  obtain ⟨oc, od, kV, doc, pm, an, cdv, ct, osl, rfl, lk, hcd⟩ := F.ex
  refine ⟨len, fun A outer s H args us vs Q E p hr hpin e0 hb r hsp => ?_⟩
  have up : ∀ b o, base.get? b = some o → s.heap.get? b = some o := fun b o e => (e0.bs b o e).1
  refine codeAny_call_function hr.depth (e0.mod.kin.keeps up _ _ lk) rfl S.co S.gen rfl (PySem.W.codeRec_of (e0.mod.kin.keeps up) hcd) (hb _ _ _ _ ?_)
  refine wpAny_newFunctionEnv_cells S.kind (fun q hq => (S.par q.1 (List.of_mem_zip hq).1).elim .inl fun c => .inr ⟨c, PySem.W.cellsFrom_some _ _ _ (.inl c)⟩) fun env he s1 y => ?_
  subst he
  refine ⟨(e0.mod.nolimit.keeps up).keeps y.toInCall.keep, codeAny_func ?_⟩
  obtain ⟨t, ht, hq⟩ := hbody cdv A outer s H vs Q E p hsp
  refine wpAny_mono (ht.run [] s1 (L2.start N vs) H _ (L2H.inv_startH S hpin e0 (len _ _ _ _ hsp) r y) hq) (fun fl s' hs => ?_) fun e s' hs => hs
  cases fl with
  | ret u =>
    obtain ⟨v, σ', H', J, rv, q⟩ := hs
    exact ⟨v, H', J.os, J.bare, J.base, J.hok, rv, q⟩
  | next =>
    obtain ⟨σ', H', J, q⟩ := hs
    exact ⟨.non, H', J.os, J.bare, J.base, J.hok, rfl, q⟩
  | brk => exact hs.elim fun _ h => h.elim fun _ h => False.elim h.2
  | cont => exact hs.elim fun _ h => h.elim fun _ h => False.elim h.2
section
variable {X : Cx} {k : Nat} {C f : Addr} {fd : FuncData} {ps : List Str} {sp : Sp} {E : XK} {p : Addr × Obj}
theorem cmp_ownP (hs : PySem.W.findIn X.K (.ref C) "__eq__" = some (some (.ref f))) (hf : PySem.W.isFn X.K (.ref f) = true) (F : FnP X.prog X.w X.K X.mg X.base k f fd ps sp) (hr : L2H.RoomH k X.A) (hp : p ∈ X.pn) (hb : Binds X.K fd ps []) : OpR X (compareOp .Eq) (rOO C sp E) := by
  intro pins s σ H x y v u Q I rx ry h
  obtain ⟨a, dx, fs, b, dy, gs, rfl, rfl, ea, eb, q⟩ := h
  obtain rfl : v = Value.ref a := rx
  obtain rfl : u = Value.ref b := ry
  obtain ⟨mA, J, _⟩ := ins_get I.hok ea
  obtain ⟨od, J, _⟩ := J.look
  obtain ⟨mB, J', _⟩ := ins_get I.hok eb
  obtain ⟨od', J', _⟩ := J'.look
  obtain ⟨m, hF⟩ := I.fr
  have hl : ([Value.ref a, Value.ref b] ++ []).length = ps.length := by rw [← F.len _ _ _ _ q]; rfl
  have b2 := hb s [.ref a, .ref b] I.kIn hl
  have P1 := I.pin p (List.mem_append_left _ hp)
  have hpin : L2H.PinOk X.stack H s p := ⟨P1.1, P1.2.1, fun hm => (List.mem_cons.mp (I.stkSub p.1 hm)).elim P1.2.2.1 P1.2.2.2.1, P1.2.2.2.2⟩
  show wpAny (model X.prog X.w) X.A (richCompare .Eq (.ref a) (.ref b)) (EP X pins σ Q) X.xe s
  refine PySem.W.cmp_K (op := .Eq) (tb := .ref C) (by have := hr.un; omega) hF I.ok.mod.kin J J'.type (by simp [PySem.W.notFirst]) hs hf ?_
  refine wpAny_call (codeAny_mono (F.run X.A X.stack s H ⟨[.ref a, .ref b], []⟩ [.ref a, .ref b] [.ref a, .ref b] Q E p hr hpin I.env0 b2 (.cons rfl (.cons rfl .nil)) q) fun r s' hq => ?_)
  cases r with
  | error e => exact hq.elim
  | ok fl =>
    cases fl with
    | ret w => exact back_of (I.after hq)
    | next => exact False.elim hq
    | brk => exact False.elim hq
    | cont => exact False.elim hq
end
end My

/-! My own rules: a text times a number; a class method's call that raises, at the caller's slots. -/
namespace My
open PySem PySem.Spec PyProof.Rows L2
section
variable {X : Cx}
/-- z * k, only the length is told -/
def rRepS : R2 := fun x y H Q => ∃ (z : Str) (k : Int), x = .str z ∧ y = .int k ∧ 2 ≤ k ∧ k < 2 ^ 30 ∧ 1 ≤ z.length ∧ z.length * k.toNat ≤ sizeLine ∧ ∀ u : Str, u.length = k.toNat * z.length → (∀ c ∈ u.cps.toList, c ∈ z.cps.toList) → Q (.str u) H
theorem rep_size (x : Array Nat) : ∀ (n : Nat) (a : Array Nat), ((List.replicate n x).foldl (· ++ ·) a).size = a.size + n * x.size
  | 0, a => by simp
  | n + 1, a => by
    show ((List.replicate n x).foldl (· ++ ·) (a ++ x)).size = _
    rw [rep_size x n (a ++ x), Array.size_append, Nat.add_mul]
    omega
theorem rep_mem (x : Array Nat) : ∀ (n : Nat) (a : Array Nat) (c : Nat), c ∈ (List.replicate n x).foldl (· ++ ·) a → c ∈ a ∨ c ∈ x
  | 0, a, c, h => .inl h
  | n + 1, a, c, h => by
    rcases rep_mem x n (a ++ x) c h with h | h
    · exact Array.mem_append.mp h
    · exact .inr h
theorem op_repS : OpR X (binaryOp .Mult) rRepS := by
  intro pins s σ H x y v u Q I rx ry h
  obtain ⟨z, k, rfl, rfl, h2, h30, h1, hz, q⟩ := h
  obtain ⟨t, rfl⟩ := rx
  obtain ⟨t', rfl⟩ := ry
  have hl : Builtin.Str.tooLong (z.length * k.toNat) = false := decide_eq_false (by omega)
  have hs : sizeLine = 2 ^ 24 := rfl
  have hb : ¬ ((z.length : Int) > (2 ^ 63 - 1) / k) := by
    have e1 : z.length ≤ z.length * k.toNat := Nat.le_mul_of_pos_right _ (by omega)
    have e2 : (2 ^ 24 : Int) ≤ (2 ^ 63 - 1) / k := by
      rw [Int.le_ediv_iff_mul_le (by omega)]
      omega
    omega
  refine P.mul_str (by rw [decide_eq_false (by omega), decide_eq_false (by omega)]; rfl) (fun _ _ => hb) (fun _ _ => hl) ?_
  rw [if_neg (by omega), if_neg (by
    have a1 : (k == 1) = false := by simp; omega
    have a2 : (z.length == 0) = false := by simp; omega
    rw [a1, a2]
    exact Bool.false_ne_true)]
  have e : (⟨(List.replicate k.toNat z.cps).foldl (· ++ ·) #[]⟩ : Str).length = k.toNat * z.length := by
    show ((List.replicate k.toNat z.cps).foldl (· ++ ·) #[]).size = _
    rw [rep_size]
    show 0 + _ = _
    rw [Nat.zero_add]
    rfl
  refine ⟨?_, .str _, H, I.tok _, ⟨_, rfl⟩, q _ e fun c hc => ?_⟩
  rotate_left
  · rcases rep_mem z.cps k.toNat #[] c (Array.mem_toList_iff.mp hc) with h | h
    · exact absurd h (by simp)
    · exact Array.mem_toList_iff.mpr h
  show (⟨(List.replicate k.toNat z.cps).foldl (· ++ ·) #[]⟩ : Str).length ≤ sizeLine
  rw [e, Nat.mul_comm]
  exact hz
end
section
variable {X : Cx} {CX : CXT} {k : Nat} {C p g : Addr} {mc : Value} {fd : FuncData} {ps : List Str} {sp : Sp} {E : L2.St → XK} {o e : Expr} {es : List Expr} {m : Str} {pos apos : Pos} {ta : TE} {t : TA} {pl : Sem Bool}
def tCMethE (C : Addr) (sp : Sp) (E : L2.St → XK) (ta : TE) (t : TA) : TE := fun σ H Q => ta σ H fun x H1 => x = .ref C ∧ t σ H1 fun vs H2 => sp (.ref C :: vs) H2 Q (E σ)
theorem pe_cmethE (he : PE X o ta) (r : ClX.CRead X.K C mc) (c : ClX.CMet X.K C mc m p g) (F : FnOk X.prog X.w X.K X.mg X.base CX k g fd ps sp) (hr : Room k X.A) (hb : Binds X.K fd ps []) (hx : ∀ σ, PassesAt CX X σ (E σ)) (ha : PA X (e :: es) t)
    (hst : starEach (e :: es) X.env = (false, eval e X.env) :: starEach es X.env := by rfl) (hpl : (backTo pos (starEach es X.env)).any (·.1) = false := by rfl)
    (ht : eval (.Call (.Attribute o m apos) (e :: es) [] pos) X.env = (do
      let ov ← eval o X.env
      standAt apos.atName
      let (f, first) ← holding [ov] (getMethod ov m pl)
      callWith pos f first (backTo pos (starEach (e :: es) X.env)) (backToKw pos (keywordEach [] X.env))) := by rfl) :
    PE X (.Call (.Attribute o m apos) (e :: es) [] pos) (tCMethE C sp E ta t) := by
  refine ⟨fun pins s σ H Q I h => ?_⟩
  refine PySem.W.methodCall_KW (pl := pl) (thn (he.run pins s σ H _ I h) fun u s1 ⟨x, H1, I1, rx, ex, q⟩ => ?_) ht
  subst ex
  obtain rfl : u = Value.ref C := rx
  refine ClX.getmethcm_ok I1 r c fun s2 I2 => ?_
  refine ClX.callwith_cm I2 (ClX.base_none I1 (Nat.le_refl _)) c.fi (thn (ha.run pos _ s2 σ H1 _ I2 q) fun us s3 ⟨vs, H2, I3, rv, q2⟩ => ⟨⟨ClX.pin_at I3, I3.kIn⟩, ?_⟩) hst hpl
  suffices z : wpAny (model X.prog X.w) X.A (call (.ref s1.heap.objs.size) us) (EP X ((s1.heap.objs.size, PySem.W.methodObj (.ref g) (.ref C)) :: pins) σ Q) X.xe s3 from thn z fun _ _ y => ClX.unpinE y
  refine wpAny_call (PySem.W.method_call (ClX.pin_at I3) ?_)
  have r2 : Vals (V.ref C :: vs) (Value.ref C :: us) := .cons rfl rv
  have hl : (Value.ref C :: us).length = ps.length := by rw [← r2.length]; exact F.len _ _ _ _ q2
  have b := hb s3 (Value.ref C :: us) I3.kIn (by rw [List.append_nil]; exact hl)
  rw [List.append_nil] at b
  refine codeAny_mono (F.run X.A X.stack s3 H2 ⟨Value.ref C :: us, []⟩ (Value.ref C :: us) (V.ref C :: vs) Q (E σ) hr I3.env0 b r2 q2) fun r s' hq => ?_
  cases r with
  | error er => exact hx σ _ H2 s3 er s' I3 hq
  | ok fl =>
    cases fl with
    | ret u => exact I3.after hq
    | next => exact False.elim hq
    | brk => exact False.elim hq
    | cont => exact False.elim hq
end
theorem kit_vty {K : PySem.W.Frag} {C : Addr} {T : String} {b : Bool} (h : PySem.W.mroIn K C (.type T) = some b) (hm : PySem.W.kitMeta T = true) : PySem.W.kitOne K (.ref C) (.type T) = some b := by
  unfold PySem.W.kitOne
  rw [if_neg (by simp)]
  show (if PySem.W.kitMeta T = true then PySem.W.subIn K (.ref C) (.type T) else none) = some b
  rw [if_pos hm]
  exact h
end My

set_option maxHeartbeats 4000000
/-! My own rules: errors held as values: made, asked for their class, their attributes read. -/
namespace PySem
namespace HandSPX2
open PySem.W PySem.Calls PyProof.Rows PySem.HandSPX
section
variable {M : Model} {A : Around} {E : Value → Shared → Prop} {h : Heap} {g : Array GenState} {d : Drawn} {t : Nat} {os : OsState}
variable {nm q : Str} {C N : Addr} {bs bm bmB : List Value} {hdct : Bool} {sn : List Str} {sub : List Value} {ab : Bool} {col : Option Bool} {dd : Option Addr} {k0 k1 k2 k3 k5 : Option Value} {B newId initId : String}
theorem check_new_ownK (F : ExcBaseFacts B newId initId bmB) (hT : ∀ X : String, bm.contains (.type X) = bmB.contains (.type X)) {rest : List Value} {kws : List (Str × Value)} {Q : Unit → Shared → Prop}
    (hC : h.get? C = some (excClassObj nm q C N bs bm hdct sn sub ab col dd k0 k1 k2 k3 k5 newId)) (hq : Q () ⟨h, g, d, t, os⟩) : wpAny M A (checkBuiltinCall newId ⟨.ref C :: rest, kws⟩) Q E ⟨h, g, d, t, os⟩ := by
  have hcont : (Value.ref C :: bm).contains (.type B) = true := by rw [List.contains_cons, hT, F.hasB, Bool.or_true]
  have hstar := F.noStar
  simp only [checkBuiltinCall, F.newKind, F.newSplit, F.newRow]
  repeat (first | refine wpAny_loadPart_at hC ?_ | (refine wpAny_isSubtype_exc hC ?_; rw [hcont]) | refine wpAny_staticBase_exc hC ?_ | refine wpAny_madeBy_exc hC ?_ | simp only [bne_self_eq_false, Bool.false_eq_true, if_false] | wp_step)
  exact hq
end
section
variable {prog : Program} {w : World} {A : Around} {E : Value → Shared → Prop} {R : Result → Shared → Prop} {h : Heap} {g : Array GenState} {d : Drawn} {t : Nat} {os : OsState}
variable {nm q : Str} {C N : Addr} {bs bm bmB : List Value} {hdct : Bool} {sn : List Str} {sub : List Value} {ab : Bool} {col : Option Bool} {dd : Option Addr} {k0 k1 k2 k3 k5 : Option Value} {B newId initId : String}
theorem new_ownK (F : ExcBaseFacts B newId initId bmB) (hT : ∀ X : String, bm.contains (.type X) = bmB.contains (.type X)) {rest : List Value} {kws : List (Str × Value)}
    (hC : h.get? C = some (excClassObj nm q C N bs bm hdct sn sub ab col dd k0 k1 k2 k3 k5 newId))
    (hq : R (.ok (.ret (.ref (h.objs.size + 1)))) ⟨(h.push { cls := .type "tuple", data := .seq rest.toArray }).push
      { cls := .ref C, data := .fields #[.ref h.objs.size, .none, .none, .none, .bool false, .none] }, g, d, t, os⟩) (hrest : rest.length ≤ sizeLine) :
    codeAny (model prog w) A (.builtin newId ⟨.ref C :: rest, kws⟩) R ⟨h, g, d, t, os⟩ := by
  have hends := F.ends
  have hcB : (Value.ref C :: bm).contains (.type B) = true := by rw [List.contains_cons, hT, F.hasB, Bool.or_true]
  have hcA : (Value.ref C :: bm).contains (.type "AttributeError") = false := by rw [List.contains_cons, hT, F.noAttr]; rfl
  have hcN : (Value.ref C :: bm).contains (.type "NameError") = false := by rw [List.contains_cons, hT, F.noName]; rfl
  refine codeAny_builtinAt F.entry ?_
  unfold Builtin.«BaseException.__new__»
  refine wpAt_bind ?_
  show wpAt _ _ _ (stack >>= _) _ _ _
  refine wpAt_bind (wpAt_stack fun p below => wpAt_of_wpAny ?_)
  wp_walk
  refine wpAt_of_wpAny ?_
  rw [F.owner]
  repeat (first | with_reducible refine wpAny_madeHere_exc F.canon hC ?_ | with_reducible refine wpAny_loadPart_at hC ?_ | (with_reducible refine wpAny_isSubtype_exc hC ?_; first | rw [hcB] | rw [hcA] | rw [hcN]) | wp_step)
  show R _ _
  rw [Heap.size_push]
  exact hq
theorem type_call_ownK (F : ExcBaseFacts B newId initId bmB) (hT : ∀ X : String, bm.contains (.type X) = bmB.contains (.type X)) {rest : List Value} {kws : List (Str × Value)} {fI : Addr} {Q : Fin → Shared → Prop}
    (hC : h.get? C = some (excClassObj nm q C N bs bm hdct sn sub ab col dd k0 k1 k2 k3 k5 newId))
    (hi : W.Looks (model prog w) h (typeLookup (.ref C) "__init__") (some (.ref fI))) (hb : ∀ self, W.Looks (model prog w) h (bindSpecial (.ref fI) self) (.ref fI, [self])) (hrest : rest.length ≤ sizeLine)
    (hq : codeAny (model prog w) A (.call (.ref fI) ⟨.ref (h.objs.size + 1) :: rest, kws⟩)
      (fun r s' => match r with | .ok (.ret v) => v = .none ∧ Q (.done (.ret (.ref (h.objs.size + 1)))) s' | .ok _ => False | .error e => E e s')
      ⟨(h.push (W.kdv_tup rest)).push (excO C h.objs.size), g, d, t, os⟩) :
    wpAny (model prog w) A (Builtin.«type.__call__» ⟨.ref C :: rest, kws⟩) Q E ⟨h, g, d, t, os⟩ := by
  repeat (first | with_reducible refine wpAny_loadPart_at hC ?_ | with_reducible refine wpAny_madeBy_exc hC ?_ | wp_step)
  refine codeAny_call_builtin_code (Code.quiet_builtin _ F.quiet) (check_new_ownK F hT hC ?_)
  refine new_ownK F hT hC ?_ hrest
  show wpAny _ _ _ _ _ _
  have k : ∀ b o, h.get? b = some o → ((h.push (W.kdv_tup rest)).push (excO C h.objs.size)).get? b = some o := fun b o e => Heap.get?_push_of_some _ (Heap.get?_push_of_some _ e)
  have hC₁ := k _ _ hC
  have hget : ((h.push (W.kdv_tup rest)).push (excO C h.objs.size)).get? (h.objs.size + 1) = some (excO C h.objs.size) := by heap_get
  have hcC : (Value.ref C :: bm).contains (.ref C) = true := by simp
  have i1 := hi.keeps k
  have b1 := (hb (.ref (h.objs.size + 1))).keeps k
  unfold isInstance
  repeat (first | with_reducible refine wpAny_loadPart_at hget ?_ | (with_reducible refine wpAny_isSubtype_exc hC₁ ?_; rw [hcC]) | wp_step)
  show wpAny _ _ (typeLookup (.ref C) _) _ _ _
  refine i1.at ?_
  refine wpAny_holding (wpAny_bind (b1.at ?_))
  refine wpAny_bind (wpAny_call (codeAny_mono hq fun r s' z => ?_))
  rcases r with e | (v | _ | _ | _) <;> first | exact z | exact z.elim | skip
  obtain ⟨rfl, z⟩ := z
  first
    | exact wpAny_pure (wpAny_pure z)
    | (wp_walk; exact z)
theorem call_ownK (F : ExcBaseFacts B newId initId bmB) (hT : ∀ X : String, bm.contains (.type X) = bmB.contains (.type X)) {rest : List Value} {kws : List (Str × Value)} {fI : Addr}
    (hC : h.get? C = some (excClassObj nm q C N bs bm hdct sn sub ab col dd k0 k1 k2 k3 k5 newId))
    (hi : W.Looks (model prog w) h (typeLookup (.ref C) "__init__") (some (.ref fI))) (hb : ∀ self, W.Looks (model prog w) h (bindSpecial (.ref fI) self) (.ref fI, [self])) (hrest : rest.length ≤ sizeLine)
    (hq : codeAny (model prog w) (A.under (.builtin "type.__call__" ⟨.ref C :: rest, kws⟩)) (.call (.ref fI) ⟨.ref (h.objs.size + 1) :: rest, kws⟩) (W.InitBack (h.objs.size + 1) R)
      ⟨(h.push (W.kdv_tup rest)).push (excO C h.objs.size), g, d, t, os⟩) :
    codeAny (model prog w) A (.call (.ref C) ⟨rest, kws⟩) R ⟨h, g, d, t, os⟩ := by
  have f1 := tc_lookup
  have f2 := tc_bind (.ref C)
  have hTy : (⟨h, g, d, t, os⟩ : Shared).TypeIs (.ref C) "type" := ⟨_, hC, rfl⟩
  refine codeAny_of_tree ?_
  show wpAny _ _ (callAny (.ref C) _) _ _ _
  repeat (any_goals (first | assumption | with_reducible refine wpAny_loadPart_at hC ?_ | wp_step))
  refine ⟨rfl, ?_⟩
  refine codeAny_call_builtin_at (Code.quiet_builtin _ (by decide +kernel)) entry_typeCall (wpAny_check_type_call_sub hC (type_call_ownK F hT hC hi hb hrest ?_))
  refine codeAny_mono hq fun r s' z => ?_
  rcases r with e | (v | _ | _ | _) <;> exact z
end
end HandSPX2
end PySem
namespace My
open PySem PySem.Spec PyProof.Rows L2
/-- an error as a value: with its dict, or without one -/
def ErrV (H : Hp) (a D : Addr) : Prop := (∃ dx fs, H a = some (exo a D (some dx)) ∧ H dx = some (exd dx fs)) ∨ H a = some (ExO (.ref D) a)
theorem ErrV.on {H H' : Hp} {a D : Addr} (e : ErrV H a D) (s : Same H H') : ErrV H' a D := by
  rcases e with ⟨dx, fs, h1, h2⟩ | h
  · exact .inl ⟨dx, fs, s _ _ h1, s _ _ h2⟩
  · exact .inr (s _ _ h)
/-- an attribute of it -/
def ErrF (H : Hp) (a D : Addr) (n : Str) (v : V) : Prop := ∃ dx fs, H a = some (exo a D (some dx)) ∧ H dx = some (exd dx fs) ∧ fs.lookup n = some v
theorem ErrF.on {H H' : Hp} {a D : Addr} {n : Str} {v : V} (e : ErrF H a D n v) (s : Same H H') : ErrF H' a D n v := let ⟨dx, fs, h1, h2, h3⟩ := e; ⟨dx, fs, s _ _ h1, s _ _ h2, h3⟩
theorem ErrF.err {H : Hp} {a D : Addr} {n : Str} {v : V} (e : ErrF H a D n v) : ErrV H a D := let ⟨dx, fs, h1, h2, _⟩ := e; .inl ⟨dx, fs, h1, h2⟩
def rIsV (K : PySem.W.Frag) : List V → Hp → VK → Prop := fun xs H Q => ∃ (a D : Addr) (c : V) (cv : Value) (b : Bool), xs = [.ref a, c] ∧ ExcC K D ∧ ErrV H a D ∧ ClsV c cv ∧ PySem.W.kitOne K (.ref D) cv = some b ∧ Q (.bl b) H
theorem call_isV {X : Cx} : CallR X (.builtin "isinstance") (rIsV X.K) := by
  intro pins s σ H xs us Q I r h
  obtain ⟨a, D, c, cv, b, rfl, C, he, hcv, e, q⟩ := h
  obtain ⟨u, w', rfl, ru, rw'⟩ := vals2 r
  obtain rfl : u = Value.ref a := ru
  obtain rfl := hcv.eq rw'
  rcases he with ⟨dx, fs, h1, h2⟩ | h1
  · obtain ⟨t1, hget⟩ := exo_at I.hok h1
    obtain ⟨mA, hns, hrel⟩ := exd_at I.hok h2
    obtain ⟨od, ho, hl⟩ := lookIn_ns hns
    have J : PySem.W.InstAt s.heap a { cls := .ref D, dict := some dx, data := .fields #[.ref t1, .none, .none, .none, .bool false, .none] } D (some od) := ⟨hget, rfl, rfl, ho⟩
    exact PySem.W.kia_one (kit_err C) I.kIn J e (fun z => nomatch z) fun tk => ⟨.bl b, H, I.kept (t' := tk) fun _ _ z => z, rfl, q⟩
  · obtain ⟨⟨oe, vs, hget, hz, hv, _⟩, _, _⟩ := I.hok a _ h1
    have J : PySem.W.InstAt s.heap a oe D none := by
      obtain ⟨oc, od, oda, osl⟩ := oe
      obtain ⟨h1, h2⟩ := hz
      dsimp only at h1 h2 hv
      subst h1 h2 hv
      exact ⟨hget, rfl, rfl, trivial⟩
    exact PySem.W.kia_one (PySem.W.handS_kitx_exc C.hg C.hk C.hs C.hd C.ha C.hn C.ht C.hm) I.kIn J e (fun z => nomatch z) fun tk => ⟨.bl b, H, I.kept (t' := tk) fun _ _ z => z, rfl, q⟩
/-- o.f of an error held as a value -/
def tXv (D : Addr) (n : Str) (te : TE) : TE := fun σ H Q => te σ H fun x H1 => ∃ (a : Addr) (v : V), x = .ref a ∧ ErrF H1 a D n v ∧ Q v H1
theorem pe_xv {X : Cx} {D : Addr} {e : Expr} {te : TE} {pos : Pos} {n : Str} (T : XfC X.K D) (hno : PySem.W.findIn X.K (.ref D) n = some none) (he : PE X e te) (hb : attributeBase e n X.env (eval e X.env) = eval e X.env := by rfl) :
    PE X (.Attribute e n pos) (tXv D n te) := by
  refine ⟨fun pins s σ H Q I h => ?_⟩
  refine attr_of hb (thn (he.run pins s σ H _ I h) fun u s1 hh => ?_)
  obtain ⟨x, H1, I1, rx, a, v, ex, ⟨dd, fs, ea, ed, l⟩, q⟩ := hh
  subst ex
  obtain rfl : u = Value.ref a := rx
  obtain ⟨t1, hget⟩ := exo_at I1.hok ea
  obtain ⟨mA, hns, hr⟩ := exd_at I1.hok ed
  obtain ⟨od, ho, hl⟩ := lookIn_ns hns
  obtain ⟨u, hu, ru⟩ := RelO.some_of (v := v) (o := mA n) (by rw [← l]; exact hr n)
  have J : PySem.W.InstAt s1.heap a { cls := .ref D, dict := some dd, data := .fields #[.ref t1, .none, .none, .none, .bool false, .none] } D (some od) := ⟨hget, rfl, rfl, ho⟩
  exact HandSPX.exc_get I1.kIn J T.ga T.gg T.exC (PySem.W.findObj_own T.hdC hno rfl (by rw [hl, hu])) (handed_of ru) ⟨v, H1, I1.tok _, ru, q⟩
/-- C(e, ..), an own error class with an own __init__, as a value -/
structure mkO (C : Addr) (sp : Sp) (vs : List V) (H : Hp) (Q : VK) : Prop where
  len : vs.length ≤ 1000
  k : ∀ a, H a = none → sp (.ref a :: vs) (upd H a (exo a C none)) (fun v H2 => v = .non ∧ Q (.ref a) H2) E0
def tMkV (C : Addr) (sp : Sp) (ta : TA) : TE := fun σ H Q => ta σ H fun vs H1 => mkO C sp vs H1 Q
section
variable {X : Cx} {CX : CXT} {x : Str} {C fI : Addr} {k : Nat} {fd : FuncData} {ps ks : List Str} {sp : Sp} {p pos : Pos} {e : Expr} {es : List Expr} {ta tk : TA} {kws : List Keyword}
theorem run_oexK {pins : List (Addr × Obj)} {σ : L2.St} {H1 : Hp} {s1 : Shared} {Q : VK} {us : List Value} {kws0 : List (Str × Value)} {us2 : List Value} {vs : List V} (T : OexC X.K C) (iC : PySem.W.findIn X.K (.ref C) "__init__" = some (some (.ref fI))) (tI : PySem.W.typeIn X.K (.ref fI) = some (.type "function"))
    (F1 : FnOk X.prog X.w X.K X.mg X.base CX k fI fd ps sp) (hr : Room (k + 1) X.A) (hb : ∀ (s : Shared) (u : Value), X.K.In s.heap → BindsTo s fd ⟨u :: us, kws0⟩ (ps.zip (u :: us2))) (hx : Passes CX X E0) (I1 : Inv X pins σ H1 s1) (r1 : Vals vs us2) (hz : us.length ≤ 1000)
    (q1 : ∀ a, H1 a = none → sp (.ref a :: vs) (upd H1 a (exo a C none)) (fun v H2 => v = .non ∧ Q (.ref a) H2) E0) : wpAny (model X.prog X.w) X.A (call (.ref C) us kws0) (EP X pins σ Q) X.xe s1 := by
  obtain ⟨nm, q, N, bs, bm, sn, sub, ab, col, dd, k0, k1, k2, k3, k5, hC, hbm⟩ := T.cls
  obtain ⟨hp, g, dr, tk, os⟩ := s1
  have hsz : hp.objs.size ≤ hp.objs.size + 1 := Nat.le_succ _
  have hn : H1 (hp.objs.size + 1) = none := I1.hok.fresh hsz
  have hq := q1 (hp.objs.size + 1) hn
  have kk : ∀ b o, hp.get? b = some o → ((hp.push (PySem.W.kdv_tup us)).push (PySem.HandSPX.excO C hp.objs.size)).get? b = some o := fun b o e => Heap.get?_push_of_some _ (Heap.get?_push_of_some _ e)
  have hget : ((hp.push (PySem.W.kdv_tup us)).push (PySem.HandSPX.excO C hp.objs.size)).get? (hp.objs.size + 1) = some (PySem.HandSPX.excO C hp.objs.size) := by heap_get
  have I2 : Inv X pins σ (upd H1 (hp.objs.size + 1) (exo (hp.objs.size + 1) C none)) ⟨(hp.push (PySem.W.kdv_tup us)).push (PySem.HandSPX.excO C hp.objs.size), g, dr, tk, os⟩ :=
    I1.laid (t' := tk) (a := hp.objs.size + 1) (o := exo (hp.objs.size + 1) C none) (h' := (hp.push (PySem.W.kdv_tup us)).push (PySem.HandSPX.excO C hp.objs.size)) kk hsz (exo_ok hget)
  have r2 : Vals (V.ref (hp.objs.size + 1) :: vs) (Value.ref (hp.objs.size + 1) :: us2) := .cons rfl r1
  have b := hb ⟨(hp.push (PySem.W.kdv_tup us)).push (PySem.HandSPX.excO C hp.objs.size), g, dr, tk, os⟩ (Value.ref (hp.objs.size + 1)) I2.kIn
  have hus : us.length ≤ sizeLine := by
    rw [sizeLine_eq]
    omega
  refine wpAny_call (PySem.HandSPX2.call_ownK F.excBase_ValueError (fun Y => PySem.HandSPX.refsVE_contains Y bm hbm) (I1.kIn _ _ hC) (PySem.W.looks_findIn I1.kIn iC) (fun self => PySem.W.bind_fn I1.kIn self tI) hus
    (codeAny_mono (F1.run _ X.stack _ _ ⟨Value.ref (hp.objs.size + 1) :: us, kws0⟩ (Value.ref (hp.objs.size + 1) :: us2) _ _ E0 (hr.make C us kws0) (I2.env0.make C us kws0) b r2 hq) fun r s' hq' => ?_))
  cases r with
  | error er => exact hx pins σ _ _ er s' I2 hq'
  | ok fl =>
    cases fl with
    | ret u =>
      obtain ⟨v, H2, os2, bare2, un2, hok2, rv, ev, q2⟩ := hq'
      subst ev
      obtain ⟨h2, g2, d2, t2, os'⟩ := s'
      obtain rfl : os' = os := os2
      refine ⟨rv, ?_⟩
      exact ⟨.ref (hp.objs.size + 1), H2, I1.call (h' := h2) (g' := g2) (d' := d2) (t' := t2) (ch := []) (.trans (Un.laidN (fs := frs X.stack) (ex := []) (o := exo (hp.objs.size + 1) C none) kk (Heap.get?_none_of_le hsz) hn) un2) hok2 bare2 (fun b z => absurd z (by simp)), rfl, q2⟩
    | next => exact False.elim hq'
    | brk => exact False.elim hq'
    | cont => exact False.elim hq'
theorem pe_oex (T : OexC X.K C) (iC : PySem.W.findIn X.K (.ref C) "__init__" = some (some (.ref fI))) (tI : PySem.W.typeIn X.K (.ref fI) = some (.type "function"))
    (F1 : FnOk X.prog X.w X.K X.mg X.base CX k fI fd ps sp) (hr : Room (k + 1) X.A) (hb : Binds X.K fd ps []) (hx : Passes CX X E0) (hg : Gl X x) (hm : X.mg x = some (.ref C)) (ha : PA X (e :: es) ta)
    (hdb : (x == ("__debug__" : Str)) = false := by decide) (he : starEach (e :: es) X.env = (false, eval e X.env) :: starEach es X.env := by rfl) (hpl : (backTo pos (starEach es X.env)).any (·.1) = false := by rfl) :
    PE X (.Call (.Name x p) (e :: es) [] pos) (tMkV C sp ta) := by
  refine ⟨fun pins s σ H Q I h => ?_⟩
  refine wpAny_Call_Name_kw (ld_glob I hg hm ?_ hdb)
  refine PySem.W.callWith_K (h₀ := X.base) I.ok.mod.kin T.kC (thn (ha.run pos pins s σ H _ I h) fun us s1 ⟨vs, H1, I1, r1, hz, q1⟩ => ⟨I1.kIn, ?_⟩) he hpl
  refine run_oexK (us := us) (us2 := us) (kws0 := []) T iC tI F1 hr (fun s' u hK => ?_) hx I1 r1 (by rw [← Paired.length r1]; exact hz) q1
  have hl : (u :: us).length = ps.length := by
    have e := F1.len _ _ _ _ (q1 s1.heap.objs.size (I1.hok.fresh (Nat.le_refl _)))
    rw [← e, List.length_cons, List.length_cons, Paired.length r1]
  have b := hb s' (u :: us) hK (by rw [List.append_nil]; exact hl)
  rw [List.append_nil] at b
  exact b
/-- C(k = e, ..) -/
structure mkOK (C : Addr) (sp : Sp) (is : List Nat) (n : Nat) (zs : List V) (H : Hp) (Q : VK) : Prop where
  len : zs.length = n
  k : ∀ a, H a = none → sp (.ref a :: permL is zs) (upd H a (exo a C none)) (fun v H2 => v = .non ∧ Q (.ref a) H2) E0
def tMkVK (C : Addr) (sp : Sp) (is : List Nat) (n : Nat) (tk : TA) : TE := fun σ H Q => tk σ H fun zs H1 => mkOK C sp is n zs H1 Q
theorem pe_oexK {is : List Nat} (T : OexC X.K C) (iC : PySem.W.findIn X.K (.ref C) "__init__" = some (some (.ref fI))) (tI : PySem.W.typeIn X.K (.ref fI) = some (.type "function"))
    (F1 : FnOk X.prog X.w X.K X.mg X.base CX k fI fd ps sp) (hr : Room (k + 1) X.A) (hb : ∀ (s : Shared) (u : Value) (ws : List Value), ws.length = ks.length → BindsTo s fd ⟨[u], ks.zip ws⟩ (ps.zip (u :: permL is ws))) (hx : Passes CX X E0) (hg : Gl X x) (hm : X.mg x = some (.ref C))
    (hkw : PK X kws tk) (hall : (backToKw pos (keywordEach kws X.env)).all (·.1.isSome) = true := by rfl) (hks : (backToKw pos (keywordEach kws X.env)).filterMap (·.1) = ks := by rfl)
    (hdb : (x == ("__debug__" : Str)) = false := by decide)
    (hpl : ((backTo pos (starEach [] X.env)).any (·.1) || (backToKw pos (keywordEach kws X.env)).any (·.1.isNone)) = false := by rfl) :
    PE X (.Call (.Name x p) [] kws pos) (tMkVK C sp is ks.length tk) := by
  refine ⟨fun pins s σ H Q I h => ?_⟩
  refine wpAny_Call_Name_kw (ld_glob I hg hm ?_ hdb)
  refine PySem.W.callWith_KW0 (h₀ := X.base) I.ok.mod.kin T.kC hall (thn (hkw.run pos pins s σ H _ I h) fun ws s2 ⟨zs, H2, I2, rz, hz, q2⟩ => ⟨I2.kIn, ?_⟩) hpl
  rw [hks]
  exact run_oexK (us := []) (us2 := permL is ws) T iC tI F1 hr (fun s' u hK => hb s' u ws (by rw [← Paired.length rz]; exact hz)) hx I2 (permL_rel is rz) (Nat.zero_le _) q2
/-- C(), an own error class without an own __init__ -/
theorem pe_exc0 {bmB : List Value} {B newId initId : String} (F : ExcBaseFacts B newId initId bmB) (q : PySem.W.excIn X.K C bmB newId = true) (gC : X.mg x = some (.ref C)) (kC : PySem.W.keepIn X.K (.ref C) = true) (hg : Gl X x) (hdb : (x == ("__debug__" : Str)) = false := by decide) :
    PE X (.Call (.Name x p) [] [] pos) (fun σ H Q => ∀ a, H a = none → Q (.ref a) (upd H a (ExO (.ref C) a))) := by
  refine ⟨fun pins s σ H Q I h => ?_⟩
  refine wpAny_Call_Name_kw (ld_glob I hg gC ?_ hdb)
  refine PySem.W.callWith_KW0 (h₀ := X.base) I.ok.mod.kin kC (by rfl) (thn (pk_nil.run pos pins s σ H (fun vs H1 => vs = [] ∧ H1 = H) I ⟨rfl, rfl⟩) fun ws s2 ⟨zs, H2, I2, rz, ez, eH⟩ => ⟨I2.kIn, ?_⟩) (by rfl)
  subst eH
  show wpAny _ _ (call (.ref C) []) _ _ _
  obtain ⟨bm, N, nm, qn, bs, hdct, sn, sub, ab, col, dd, k0, k1, k2, k3, k5, mN, hC, hN, hni, T⟩ := exc_obj I2.kIn q
  refine wpAny_call_exc_subT F T hC hN hni (fun h' a hm => ?_) (Nat.zero_le _)
  have hn : H2 a = none := I2.hok.gone hm.new
  obtain ⟨t, ht, _, _⟩ := hm.there
  exact ⟨.ref a, upd H2 a (ExO (.ref C) a), I2.laidN hm.keeps hm.new hn (exO_ok ht ⟨rfl, rfl⟩ rfl rfl rfl (show 4 < 6 by decide)), rfl, h a hn⟩
end
/-! ### != of two lists of the same things -/
section
variable {X : Cx}
def plainW : V → Bool
  | .int _ => true
  | .ref _ => true
  | .str _ => true
  | .non => true
  | _ => false
def rNeSameW (K : PySem.W.Frag) : R2 := fun x y H Q => ∃ a b xs, x = .ref a ∧ y = .ref b ∧ SqL K H a xs ∧ SqL K H b xs ∧ (∀ z ∈ xs, plainW z = true) ∧ Q (.bl false) H
theorem eqAt_sameW {A : Around} {s : Shared} {z : V} {u v : Value} (h : plainW z = true) (r : RelV z u) (r' : RelV z v) : SeqAt.EqAt A s u v true := by
  cases z with
  | int i =>
    have := eqAt_V (A := A) (s := s) r r' rfl rfl
    have e : eqV (.int i) (.int i) = true := by simp [eqV]
    rw [e] at this
    exact this
  | str i =>
    have := eqAt_V (A := A) (s := s) r r' rfl rfl
    have e : eqV (.str i) (.str i) = true := by simp [eqV]
    rw [e] at this
    exact this
  | non =>
    have := eqAt_V (A := A) (s := s) r r' rfl rfl
    have e : eqV .non .non = true := by simp [eqV]
    rw [e] at this
    exact this
  | ref a =>
    obtain rfl : u = Value.ref a := r
    obtain rfl : v = Value.ref a := r'
    exact SeqAt.EqAt.same _
  | _ => cases h
theorem op_neSameW (hu : X.A.units < cLine) : OpR X (compareOp .NotEq) (rNeSameW X.K) := by
  intro pins s σ H x y v u Q I rx ry h
  obtain ⟨a, b, xs, rfl, rfl, ha, hb, hp, q⟩ := h
  obtain rfl : v = Value.ref a := rx
  obtain rfl : u = Value.ref b := ry
  obtain ⟨its, r, ⟨o, n, e, c, d, dt⟩, _⟩ := I.list ha
  obtain ⟨its2, r2, ⟨o2, n2, e2, c2, d2, dt2⟩, _⟩ := I.list hb
  have hsz : its.toArray.size = its2.toArray.size := by rw [List.size_toArray, List.size_toArray, ← r.length, ← r2.length]
  show wpAny (model X.prog X.w) X.A (richCompare .NotEq (.ref a) (.ref b)) (EP X pins σ Q) X.xe s
  refine SeqAt.RcNeAt.lists (e := fun _ => true) ⟨o, e, c, n, dt⟩ ⟨o2, e2, c2, n2, dt2⟩ hsz hu (fun j h1 h2 => ?_) _ _ _ _ ?_
  · have k1 : j < xs.length := by rw [r.length]; simpa using h1
    obtain ⟨w1, hw1, rw1⟩ := r.get (List.getElem?_eq_getElem k1)
    obtain ⟨w2, hw2, rw2⟩ := r2.get (List.getElem?_eq_getElem k1)
    have g1 : its[j]? = some its.toArray[j] := by
      have h1' : j < its.length := by simpa using h1
      rw [List.getElem?_eq_getElem h1'] <;> simp
    have g2 : its2[j]? = some its2.toArray[j] := by
      have h2' : j < its2.length := by simpa using h2
      rw [List.getElem?_eq_getElem h2'] <;> simp
    rw [g1] at hw1
    rw [g2] at hw2
    rw [Option.some.inj hw1, Option.some.inj hw2]
    exact eqAt_sameW (hp _ (List.getElem_mem k1)) rw1 rw2
  · have e : (!(List.range its.toArray.size).all fun _ => true) = false := by simp
    rw [e]
    exact ⟨.bl false, H, I, rfl, q⟩
def rEqSameW (K : PySem.W.Frag) : R2 := fun x y H Q => ∃ a b xs, x = .ref a ∧ y = .ref b ∧ SqL K H a xs ∧ SqL K H b xs ∧ (∀ z ∈ xs, plainW z = true) ∧ Q (.bl true) H
theorem op_eqSameW (hu : X.A.units < cLine) : OpR X (compareOp .Eq) (rEqSameW X.K) := by
  intro pins s σ H x y v u Q I rx ry h
  obtain ⟨a, b, xs, rfl, rfl, ha, hb, hp, q⟩ := h
  obtain rfl : v = Value.ref a := rx
  obtain rfl : u = Value.ref b := ry
  obtain ⟨its, r, ⟨o, n, e, c, d, dt⟩, _⟩ := I.list ha
  obtain ⟨its2, r2, ⟨o2, n2, e2, c2, d2, dt2⟩, _⟩ := I.list hb
  have hsz : its.toArray.size = its2.toArray.size := by rw [List.size_toArray, List.size_toArray, ← r.length, ← r2.length]
  show wpAny (model X.prog X.w) X.A (richCompare .Eq (.ref a) (.ref b)) (EP X pins σ Q) X.xe s
  refine SeqAt.RcAt.lists (e := fun _ => true) ⟨o, e, c, n, dt⟩ ⟨o2, e2, c2, n2, dt2⟩ hsz hu (fun j h1 h2 => ?_) _ _ _ _ ?_
  · have k1 : j < xs.length := by rw [r.length]; simpa using h1
    obtain ⟨w1, hw1, rw1⟩ := r.get (List.getElem?_eq_getElem k1)
    obtain ⟨w2, hw2, rw2⟩ := r2.get (List.getElem?_eq_getElem k1)
    have g1 : its[j]? = some its.toArray[j] := by
      have h1' : j < its.length := by simpa using h1
      rw [List.getElem?_eq_getElem h1'] <;> simp
    have g2 : its2[j]? = some its2.toArray[j] := by
      have h2' : j < its2.length := by simpa using h2
      rw [List.getElem?_eq_getElem h2'] <;> simp
    rw [g1] at hw1
    rw [g2] at hw2
    rw [Option.some.inj hw1, Option.some.inj hw2]
    exact eqAt_sameW (hp _ (List.getElem_mem k1)) rw1 rw2
  · have e : ((List.range its.toArray.size).all fun _ => true) = true := by simp
    rw [e]
    exact ⟨.bl true, H, I, rfl, q⟩
end
/-! ### an error class right under the common one -/
structure ErrC (K : PySem.W.Frag) (C EE : Addr) : Prop where
  ec : ExcC K C
  ic : PySem.W.isClsIn K C = true
  ty : PySem.W.typeIn K (.ref C) = some (.type "type")
  cl : ∃ cd, PySem.W.clsIn K C = some cd ∧ cd.mro = [.ref C, .ref EE, .type "ValueError", .type "Exception", .type "BaseException", .type "object"]
theorem ErrC.sub {K : PySem.W.Frag} {C EE : Addr} (e : ErrC K C EE) (base : Value) : PySem.W.mroIn K C base = some ([Value.ref C, .ref EE, .type "ValueError", .type "Exception", .type "BaseException", .type "object"].contains base) := by
  obtain ⟨cd, hc, hm⟩ := e.cl
  unfold PySem.W.mroIn
  rw [hc, Option.bind_some, hm]
  rfl
end My

set_option maxHeartbeats 4000000
/-! My own rules: an instance that is called, also by keywords, also where it raises; a class method by keywords in any order; a dict comprehension over any walk. -/
namespace My
open PySem PySem.Spec PyProof.Rows L2
section
variable {X : Cx} {CX : CXT} {k : Nat} {C g : Addr} {fd : FuncData} {ps ks : List Str} {sp : Sp} {E : L2.St → XK} {fe e : Expr} {es : List Expr} {kws : List Keyword} {pos : Pos} {tf : TE} {t tk : TA}
/-- f(e, ..), f an instance of C, what is let out wished for at the caller's slots -/
def tCallOE (X : Cx) (C : Addr) (sp : Sp) (E : L2.St → XK) (tf : TE) (t : TA) : TE := fun σ H Q => tf σ H fun y H1 => ∃ a, y = V.ref a ∧ t σ H1 fun vs H2 => StX.InsC X H2 a C ∧ sp (V.ref a :: vs) H2 Q (E σ)
theorem pe_callOE (hf : PE X fe tf) (c : StX.CallO X.K C g) (F : FnOk X.prog X.w X.K X.mg X.base CX k g fd ps sp) (hr : Room k X.A) (hb : Binds X.K fd ps []) (hx : ∀ σ, PassesAt CX X σ (E σ)) (ha : PA X (e :: es) t)
    (ht : eval (.Call fe (e :: es) [] pos) X.env = (do callWith pos (← eval fe X.env) [] (backTo pos (starEach (e :: es) X.env)) (backToKw pos (keywordEach [] X.env))) := by rfl)
    (he : starEach (e :: es) X.env = (false, eval e X.env) :: starEach es X.env := by rfl) (hpl : (backTo pos (starEach es X.env)).any (·.1) = false := by rfl) : PE X (.Call fe (e :: es) [] pos) (tCallOE X C sp E tf t) := by
  refine ⟨fun pins s σ H Q I h => ?_⟩
  refine Call_ (thn (hf.run pins s σ H _ I h) fun u s1 ⟨y, H1, I1, ry, a, ey, q⟩ => ?_) ht
  subst ey
  obtain rfl : u = Value.ref a := ry
  refine StX.callO_with (thn (ha.run pos pins s1 σ H1 _ I1 q) fun us s2 ⟨vs, H2, I2, r, hi, q2⟩ => ?_) he hpl
  obtain ⟨ox, od, J, hd⟩ := StX.insC_at I2 hi
  refine ⟨⟨C, ox, od, J, hd⟩, wpAny_call (PySem.W.kco_code I2.kIn J hd c.at_ c.fn c.fi ?_)⟩
  have r2 : Vals (V.ref a :: vs) (Value.ref a :: us) := .cons rfl r
  have hl : (Value.ref a :: us).length = ps.length := by rw [← r2.length]; exact F.len _ _ _ _ q2
  have b := hb s2 (Value.ref a :: us) I2.kIn (by rw [List.append_nil]; exact hl)
  rw [List.append_nil] at b
  refine codeAny_mono (F.run X.A X.stack s2 H2 ⟨Value.ref a :: us, []⟩ (Value.ref a :: us) (V.ref a :: vs) Q (E σ) hr I2.env0 b r2 q2) fun r s' hq => ?_
  cases r with
  | error er => exact hx σ _ H2 s2 er s' I2 hq
  | ok fl =>
    cases fl with
    | ret u => exact I2.after hq
    | next => exact False.elim hq
    | brk => exact False.elim hq
    | cont => exact False.elim hq
end
section
variable {X : Cx} {CX : CXT} {k : Nat} {C q0 g : Addr} {mc : Value} {fd : FuncData} {ps ks : List Str} {sp : Sp} {E : XK} {o : Expr} {m : Str} {pos apos : Pos} {kws : List Keyword} {ta : TE} {tk : TA} {pl : Sem Bool} {gg : List Value → List Value → List Value} {gV : List V → List V → List V}
def tCMethKN (C : Addr) (n : Nat) (sp : Sp) (gV : List V → List V → List V) (E : XK) (ta : TE) (tk : TA) : TE := fun σ H Q => ta σ H fun x H1 => x = .ref C ∧ tk σ H1 fun zs H2 => zs.length = n ∧ sp (gV [.ref C] zs) H2 Q E
theorem pe_cmethKN (he : PE X o ta) (r : ClX.CRead X.K C mc) (c : ClX.CMet X.K C mc m q0 g) (F : FnOk X.prog X.w X.K X.mg X.base CX k g fd ps sp) (hr : Room k X.A) (hx : Passes CX X E) (hkw : PK X kws tk)
    (hb : KBn X.K fd ps (0 + 1) ks gg gV)
    (hall : (backToKw pos (keywordEach kws X.env)).all (·.1.isSome) = true := by rfl) (hks : (backToKw pos (keywordEach kws X.env)).filterMap (·.1) = ks := by rfl)
    (hpl : ((backTo pos (starEach [] X.env)).any (·.1) || (backToKw pos (keywordEach kws X.env)).any (·.1.isNone)) = false := by rfl)
    (ht : eval (.Call (.Attribute o m apos) [] kws pos) X.env = (do
      let ov ← eval o X.env
      standAt apos.atName
      let (f, first) ← holding [ov] (getMethod ov m pl)
      callWith pos f first (backTo pos (starEach [] X.env)) (backToKw pos (keywordEach kws X.env))) := by rfl) :
    PE X (.Call (.Attribute o m apos) [] kws pos) (tCMethKN C ks.length sp gV E ta tk) := by
  refine ⟨fun pins s σ H Q I h => ?_⟩
  refine PySem.W.methodCall_KW (pl := pl) (thn (he.run pins s σ H _ I h) fun u s1 ⟨x, H1, I1, rx, ex, h2⟩ => ?_) ht
  subst ex
  obtain rfl : u = Value.ref C := rx
  refine ClX.getmethcm_ok I1 r c fun s2 I2 => ?_
  refine PySem.W.callWith_of hpl (PySem.W.keeps_M (K := X.K) (self := Value.ref C) c.fi) (evalArgs_kw2_nil hall (thn (hkw.run pos _ s2 σ H1 _ I2 h2) fun ws s3 ⟨zs, H2, I3, rz, hl, h3⟩ => ⟨⟨ClX.pin_at I3, I3.kIn⟩, ?_⟩))
  rw [hks]
  suffices z : wpAny (model X.prog X.w) X.A (call (.ref s1.heap.objs.size) [] (ks.zip ws)) (EP X ((s1.heap.objs.size, PySem.W.methodObj (.ref g) (.ref C)) :: pins) σ Q) X.xe s3 from thn z fun _ _ y => ClX.unpinE y
  refine wpAny_call (PySem.W.method_call (ClX.pin_at I3) ?_)
  have r1 : Vals [V.ref C] [Value.ref C] := .cons rfl .nil
  have r2 := hb.rel r1 rz
  refine codeAny_mono (F.run X.A X.stack s3 H2 ⟨Value.ref C :: [], ks.zip ws⟩ (gg [Value.ref C] ws) (gV [V.ref C] zs) Q E hr I3.env0 (hb.to s3 [Value.ref C] ws I3.kIn rfl (rz.length.symm.trans hl)) r2 h3) fun r s' hq => ?_
  cases r with
  | error er => exact hx _ σ H2 s3 er s' I3 hq
  | ok fl =>
    cases fl with
    | ret u => exact I3.after hq
    | next => exact False.elim hq
    | brk => exact False.elim hq
    | cont => exact False.elim hq
end
/-! ### an instance called by keywords -/
theorem callOK_of {M : Model} {A : Around} {E : Value → Shared → Prop} {s : Shared} {a : Addr} {pos : Pos} {Q : Value → Shared → Prop} {args : List (Bool × Sem Value)} {kws : List (Option Str × Sem Value)} (hplain : (args.any (·.1) || kws.any (·.1.isNone)) = false)
    (h : wpAny M A (evalArgs (.ref a) true args kws) (fun z s₁ => (∃ C ox od, PySem.W.InstAt s₁.heap a ox C od ∧ ox.data = .plain) ∧ wpAny M A (call (.ref a) ([] ++ z.pos) z.kw) Q E s₁) E s) : wpAny M A (callWith pos (.ref a) [] args kws) Q E s := by
  unfold callWith
  have h1 := (Bool.or_eq_false_iff.mp hplain).1
  have h2 := (Bool.or_eq_false_iff.mp hplain).2
  refine wpAny_bind (wpAny_holding (wpAny_mono (by first | exact h | (simp only [h1, h2]; exact h)) (fun z s₁ h₁ => wpAny_bind (wpAny_standAt ?_)) fun _ _ y => y))
  obtain ⟨⟨C, ox, od, J, hd⟩, h₁⟩ := h₁
  have L := PySem.W.kco_keeper (M := M) J hd
  simp only [h1, h2]
  refine wpAny_bind (L.here ?_)
  have tail : ∀ {t : Sem Value}, wpAny M A t Q E s₁ → wpAny M A (t >>= fun r => holding [r] point >>= fun _ => pure r) Q E s₁ :=
    fun ht => wpAny_bind (wpAny_mono ht (fun r s₂ hr => wpAny_bind (wpAny_holding (wpAny_point (wpAny_pure hr)))) fun _ _ y => y)
  exact tail (wpAny_operateT h₁)
section
variable {X : Cx} {CX : CXT} {k : Nat} {C g : Addr} {fd : FuncData} {ps ks : List Str} {sp : Sp} {E : XK} {fe : Expr} {kws : List Keyword} {pos : Pos} {tf : TE} {tk : TA}
def tCallOK (X : Cx) (C : Addr) (n : Nat) (sp : Sp) (E : XK) (tf : TE) (tk : TA) : TE := fun σ H Q => tf σ H fun y H1 => ∃ a, y = V.ref a ∧ tk σ H1 fun zs H2 => zs.length = n ∧ StX.InsC X H2 a C ∧ sp (V.ref a :: zs) H2 Q E
theorem pe_callOK (hf : PE X fe tf) (c : StX.CallO X.K C g) (F : FnOk X.prog X.w X.K X.mg X.base CX k g fd ps sp) (hr : Room k X.A) (hx : Passes CX X E) (hkw : PK X kws tk)
    (hb : ∀ (s : Shared) (u : Value) (ws : List Value), X.K.In s.heap → ws.length = ks.length → BindsTo s fd ⟨[u], ks.zip ws⟩ (ps.zip (u :: ws)))
    (hall : (backToKw pos (keywordEach kws X.env)).all (·.1.isSome) = true := by rfl) (hks : (backToKw pos (keywordEach kws X.env)).filterMap (·.1) = ks := by rfl)
    (hpl : ((backTo pos (starEach [] X.env)).any (·.1) || (backToKw pos (keywordEach kws X.env)).any (·.1.isNone)) = false := by rfl)
    (ht : eval (.Call fe [] kws pos) X.env = (do callWith pos (← eval fe X.env) [] (backTo pos (starEach [] X.env)) (backToKw pos (keywordEach kws X.env))) := by rfl) :
    PE X (.Call fe [] kws pos) (tCallOK X C ks.length sp E tf tk) := by
  refine ⟨fun pins s σ H Q I h => ?_⟩
  show wpAny _ _ (eval (.Call fe [] kws pos) X.env) _ _ _
  rw [ht]
  refine wpAny_bind (thn (hf.run pins s σ H _ I h) fun u s1 ⟨y, H1, I1, ry, a, ey, q⟩ => ?_)
  subst ey
  obtain rfl : u = Value.ref a := ry
  refine callOK_of hpl (evalArgs_kw2_nil hall (thn (hkw.run pos pins s1 σ H1 _ I1 q) fun ws s2 ⟨zs, H2, I2, rz, hl, hi, q2⟩ => ?_))
  rw [hks]
  obtain ⟨ox, od, J, hd⟩ := StX.insC_at I2 hi
  refine ⟨⟨C, ox, od, J, hd⟩, wpAny_call (PySem.W.kco_code I2.kIn J hd c.at_ c.fn c.fi ?_)⟩
  have r2 : Vals (V.ref a :: zs) (Value.ref a :: ws) := .cons rfl rz
  refine codeAny_mono (F.run X.A X.stack s2 H2 ⟨Value.ref a :: [], ks.zip ws⟩ (Value.ref a :: ws) (V.ref a :: zs) Q E hr I2.env0 (hb s2 (.ref a) ws I2.kIn (rz.length.symm.trans hl)) r2 q2) fun r s' hq => ?_
  cases r with
  | error er => exact hx _ σ H2 s2 er s' I2 hq
  | ok fl =>
    cases fl with
    | ret u => exact I2.after hq
    | next => exact False.elim hq
    | brk => exact False.elim hq
    | cont => exact False.elim hq
end
end My

/-! My own rules: an instance in a list of ints and itself, != an int, within an except suite. -/
namespace My
open PySem PySem.Spec PyProof.Rows L2
section
open PySem.SeqAt MeetsSeq MeetsSeq2 MeetsSeq3 SeqRoads2
variable {prog : Program} {w : World} {A : Around} {R : Result → Shared → Prop}
theorem eqBool_same {A : Around} {Ex : Value → Shared → Prop} {s : Shared} {a : Addr} {Q : Bool → Shared → Prop} (h : Q true s) : wpAny (model prog w) A (eqBool (.ref a) (.ref a)) Q Ex s := by
  unfold eqBool
  refine wpAny_holding ?_
  refine wpAny_ite_split (fun _ => ?_) (fun hab => absurd (beq_self_eq_true _) hab)
  wp_walk
  exact h
theorem contains_loopT (l : Addr) (x : Value) (j : Nat) (I : Shared → Prop)
    (hl : ∀ s, I s → ∃ (items : Array Value) (n : Nat), s.heap.get? l = some { cls := .type "list", data := .seq items n } ∧ j < items.size ∧ ∀ i (h : i < items.size), i ≤ j → wpAny (model prog w) A.in1 (eqBool items[i] x) (fun r s' => r = decide (i = j) ∧ I s') (fun e s' => R (.error e) s') s)
    (fin : ∀ s, I s → R (.ok (.ret (.bool true))) s) (k : Nat) :
    ∀ i : Nat, j - i = k → i ≤ j → ∀ s, I s → wpAny (model prog w) A.in1 (Builtin.«list.__contains__.loop» ⟨[.ref l, x, rawInt i], []⟩) (GQ.FinOf prog w A R) (fun e s' => R (.error e) s') s := by
  induction k with
  | zero =>
    intro i hk hi s h
    obtain ⟨items, n, hl1, hs1, turn⟩ := hl _ h
    have hlt : i < items.size := by omega
    have ht := turn i hlt hi
    obtain ⟨hp, g, d, tk, os⟩ := s
    wp_walk using AutoSeq1.wpAny_loadPart' hl1
    have hi1 : items[((i : Nat) : Int).toNat]? = some items[i] := by simp [hlt]
    rw [hi1]
    refine wpAny_bind (wpAny_mono ht (fun r s2 h2 => ?_) fun _ _ x => x)
    obtain ⟨hr, h2⟩ := h2
    rw [decide_eq_true (show i = j by omega)] at hr
    subst hr
    have hR := fin s2 h2
    obtain ⟨hp2, g2, d2, tk2, os2⟩ := s2
    wp_walk
    exact hR
  | succ k ih =>
    intro i hk hi s h
    obtain ⟨items, n, hl1, hs1, turn⟩ := hl _ h
    have hlt : i < items.size := by omega
    have ht := turn i hlt hi
    obtain ⟨hp, g, d, tk, os⟩ := s
    wp_walk using AutoSeq1.wpAny_loadPart' hl1
    have hi1 : items[((i : Nat) : Int).toNat]? = some items[i] := by simp [hlt]
    have hc : ((i : Int) + 1) = ((i + 1 : Nat) : Int) := by omega
    rw [hi1]
    refine wpAny_bind (wpAny_mono ht (fun r s2 h2 => ?_) fun _ _ x => x)
    obtain ⟨hr, h2⟩ := h2
    rw [decide_eq_false (show ¬ i = j by omega)] at hr
    subst hr
    have hrec := ih (i + 1) (by omega) (by omega) s2 h2
    obtain ⟨hp2, g2, d2, tk2, os2⟩ := s2
    wp_walk
    rw [hc]
    exact ⟨plainId_quiet plain_contains_loop _, codeAny_builtin entry_contains_loop (by
      rw [Around.under_plainId plain_contains_loop _]
      exact hrec)⟩
theorem list_containsT (l : Addr) (x : Value) (j : Nat) (I : Shared → Prop)
    (hl : ∀ s, I s → ∃ (items : Array Value) (n : Nat), s.heap.get? l = some { cls := .type "list", data := .seq items n } ∧ j < items.size ∧ ∀ i (h : i < items.size), i ≤ j → wpAny (model prog w) A.in1 (eqBool items[i] x) (fun r s' => r = decide (i = j) ∧ I s') (fun e s' => R (.error e) s') s)
    (fin : ∀ s, I s → R (.ok (.ret (.bool true))) s) {s : Shared} (h : I s) : wpAny (model prog w) A.in1 (Builtin.«list.__contains__» ⟨[.ref l, x], []⟩) (GQ.FinOf prog w A R) (fun e s' => R (.error e) s') s := by
  have hrec := contains_loopT (A := A) (R := R) l x j I hl fin _ 0 rfl (Nat.zero_le _) s h
  obtain ⟨items, n, hl1, _, _⟩ := hl _ h
  obtain ⟨hp, g, d, tk, os⟩ := s
  wp_walk using AutoSeq1.wpAny_loadPart' hl1
  exact ⟨plainId_quiet plain_contains_loop _, codeAny_builtin entry_contains_loop (by
    rw [Around.under_plainId plain_contains_loop _]
    exact hrec)⟩
end
/-- an instance != an int -/
theorem ne_KI {prog : Program} {w : World} {A : Around} {Ex : Value → Shared → Prop} {s : Shared} {K : PySem.W.Frag} {C f a : Addr} {oa : Obj} {oda : Option Obj} {i : Int} {tk : Tok} {Q : Value → Shared → Prop} (hu : A.units + 1 < cLine) (X : K.In s.heap) (N : NoNe K C f)
    (hi : PySem.W.subIn K (.type "int") (.ref C) = some false) (I : PySem.W.InstAt s.heap a oa C oda) (h : wpAny (model prog w) A.in1 (call (.ref f) [.ref a, .int i tk]) (fun v s' => ∃ r, v = .bool r ∧ Q (.bool (!r)) s') Ex s) :
    wpAny (model prog w) A (richCompare .NotEq (.ref a) (.int i tk)) Q Ex s := by
  have body : wpAny (model prog w) A.in1 (Builtin.«object.__ne__» ⟨[.ref a, .int i tk], []⟩) (fun fin s' => ∃ r, fin = .done (.ret (.bool (!r))) ∧ Q (.bool (!r)) s') Ex s := by
    unfold Builtin.«object.__ne__»
    refine wpAny_bind (wpAny_of_eq (a := ((Value.ref a : Value), [Value.int i tk])) (by first | rfl | (simp only [slotArgs]; rfl)) ?_)
    refine wpAny_bind (wpAny_cRoomFor hu ?_)
    refine wpAny_bind (PySem.W.ifBound_K X I N.eq N.fn (wpAny_mono h (fun v s' hv => ?_) fun _ _ e => e))
    obtain ⟨r, rfl, q⟩ := hv
    refine wpAny_bind (wpAny_truthy_bool ?_)
    exact wpAny_pure ⟨r, rfl, q⟩
  have below : PySem.W.Looks (model prog w) s.heap (isInstance (.ref a) (.type "object")) true := I.type.andThen (PySem.W.looks_subIn X N.ob)
  have one : wpAny (model prog w) A (tryCompare (.ref a) "__ne__" (.int i tk)) (fun r s' => ∃ t, r = some (.bool (!t)) ∧ Q (.bool (!t)) s') Ex s := by
    unfold tryCompare
    simp only [callSpecialIfBound?, bindSpecialIfBound?]
    refine wpAny_bind (wpAny_holding (wpAny_bind (wpAny_bind (wpAny_bind (I.type.here ((PySem.W.looks_findIn X N.ne).here ?_))))))
    simp only [F.cmp_object.ne.bind]
    refine wpAny_bind (wpAny_askSetting (wpAny_ite ?_))
    have fin : wpAny (model prog w) A (call (.builtin "object.__ne__") ([.ref a] ++ [.int i tk]) >>= fun v => pure (some v)) (fun r s' => ∃ t, r = some (.bool (!t)) ∧ Q (.bool (!t)) s') Ex s := by
      refine wpAny_bind (wpAny_call (codeAny_call_builtin F.cmp_object.ne.plain F.cmpEntry_ne (PySem.W.check_slot F.cmpKind_ne F.cmpSplit_ne below (F.cmpArgs_ne _ _) (wpAny_mono body (fun fin s' hf => ?_) fun _ _ e => e))))
      obtain ⟨r, rfl, q⟩ := hf
      exact wpAny_pure ⟨r, rfl, q⟩
    have fin2 := wpAny_mono fin (Q' := fun a s' => wpAny (model prog w) A (match a with
        | some Value.notImplemented => pure none
        | none => pure none
        | some v => pure (some v)) (fun r s' => ∃ t, r = some (Value.bool !t) ∧ Q (Value.bool !t) s') Ex s') (fun r s' hr => by
      obtain ⟨t, rfl, q⟩ := hr
      exact wpAny_pure ⟨t, rfl, q⟩) fun _ _ e => e
    split
    · exact wpAny_pure (by exact fin2)
    · exact wpAny_tryCatch (wpAny_pure (by exact fin2))
  unfold richCompare
  simp only [oneThing_ref]
  refine wpAny_holding (wpAny_bind (wpAny_cRoomFor (by omega) ?_))
  refine wpAny_bind (I.type.here (wpAny_bind (wpAny_typeOf (typeIs_int s i tk) ?_)))
  split
  · refine wpAny_bind ((PySem.W.looks_subIn X hi).here ?_)
    simp only [Bool.false_eq_true, if_false]
    refine wpAny_bind (wpAny_mono one (fun r s' z => ?_) fun _ _ e => e)
    obtain ⟨t, rfl, hq⟩ := z
    exact wpAny_pure hq
  · refine wpAny_bind (wpAny_pure ?_)
    simp only [Bool.false_eq_true, if_false]
    refine wpAny_bind (wpAny_mono one (fun r s' z => ?_) fun _ _ e => e)
    obtain ⟨t, rfl, hq⟩ := z
    exact wpAny_pure hq
section
variable {X : Cx} {k : Nat} {C f : Addr} {fd : FuncData} {ps : List Str} {sp : Sp} {E : XK} {p : Addr × Obj}
theorem run_own1P {pins : List (Addr × Obj)} {s : Shared} {σ : L2.St} {H : Hp} {Q : VK} {us : List Value} {vs : List V} (F : FnP X.prog X.w X.K X.mg X.base k f fd ps sp) (hr : L2H.RoomH (k + 1) X.A) (hp : p ∈ X.pn) (hb : Binds X.K fd ps [])
    (I : Inv X pins σ H s) (r : Vals vs us) (h : sp vs H Q E) : wpAny (model X.prog X.w) X.A.in1 (call (.ref f) us) (EP X pins σ Q) X.xe s := by
  have hl : (us ++ []).length = ps.length := by
    rw [List.append_nil, ← F.len _ _ _ _ h]
    exact r.length.symm
  have P1 := I.pin p (List.mem_append_left _ hp)
  have hpin : L2H.PinOk X.stack H s p := ⟨P1.1, P1.2.1, fun hm => (List.mem_cons.mp (I.stkSub p.1 hm)).elim P1.2.2.1 P1.2.2.2.1, P1.2.2.2.2⟩
  have hr1 : L2H.RoomH k X.A.in1 := ⟨by have := hr.dp; show X.A.depth + 3 * k + 5 < _; omega, by have := hr.un; show X.A.units + 1 + 16 * k + 200 < _; omega⟩
  refine wpAny_call (codeAny_mono (F.run X.A.in1 X.stack s H ⟨us, []⟩ us vs _ E p hr1 hpin I.env0.in1 (by
    have := hb s us I.kIn hl
    rw [List.append_nil] at this
    exact this) r h) fun r s' hq => ?_)
  cases r with
  | error e => exact hq.elim
  | ok fl =>
    cases fl with
    | ret w => exact I.after hq
    | next => exact False.elim hq
    | brk => exact False.elim hq
    | cont => exact False.elim hq
/-- an instance in a list that holds it behind some ints that are not equal to it -/
def rInP (sp : Sp) (E : XK) (C : Addr) : R2 := fun x y H Q => ∃ a dx fs l, ∃ ys : List V, ∃ j : Nat, x = .ref a ∧ y = .ref l ∧ H a = some (.ins C dx fs) ∧ H l = some (.lst ys) ∧ ys[j]? = some (V.ref a) ∧ (∀ i, i < j → ∃ n : Int, ys[i]? = some (V.int n) ∧ sp [.ref a, .int n] H (fun v H' => v = .bl false ∧ H' = H) E) ∧ Q (.bl true) H
theorem in_ownP (O : OthC X.K C f) (Fk : FnP X.prog X.w X.K X.mg X.base k f fd ps sp) (hr : L2H.RoomH (k + 1) X.A) (hp : p ∈ X.pn) (hb : Binds X.K fd ps []) : OpR X (compareOp .In) (rInP sp E C) := by
  intro pins s σ H x y v u Q I rx ry h
  obtain ⟨a, dx, fs, l, ys, j, rfl, rfl, ea, el, hj, hz, q⟩ := h
  obtain rfl : v = Value.ref a := rx
  obtain rfl : u = Value.ref l := ry
  obtain ⟨z0, its0, n0, r0, e0⟩ := I.hok l _ el
  show wpAny (model X.prog X.w) X.A (do return .bool (← contains (.ref l) (.ref a))) (EP X pins σ Q) X.xe s
  have hT : s.TypeIs (.ref l) "list" := ⟨_, e0, rfl⟩
  have hjl := (List.getElem?_eq_some_iff.mp hj).1
  refine wpAny_bind (wpAny_contains_slot hT F.slot_list_contains (wpAny_mono (GQ.call_here (Q := fun v s' => v = .bool true ∧ Inv X pins σ H s') F.slot_list_contains hT F.entry_list_contains (F.args_list_contains_2 _ _)
    (list_containsT l (.ref a) j (fun s' => Inv X pins σ H s') (fun s' I' => ?_) (fun s' I' => ⟨rfl, I'⟩) I)) (fun v s' hv => ?_) fun _ _ e => e))
  · obtain ⟨z1, its, n, r, e⟩ := I'.hok l _ el
    refine ⟨its.toArray, n, e, by rw [List.size_toArray, ← r.length]; exact hjl, fun i hi hij => ?_⟩
    have k1 : i < ys.length := by rw [r.length]; simpa using hi
    obtain ⟨u, hu, ru⟩ := r.get (List.getElem?_eq_getElem k1)
    have g1 : its[i]? = some its.toArray[i] := by
      have h1' : i < its.length := by simpa using hi
      rw [List.getElem?_eq_getElem h1'] <;> simp
    rw [g1] at hu
    rw [Option.some.inj hu]
    by_cases hE : i = j
    · subst hE
      rw [List.getElem?_eq_getElem k1] at hj
      rw [Option.some.inj hj] at ru
      obtain rfl : u = Value.ref a := ru
      exact eqBool_same ⟨(decide_eq_true rfl).symm, I'⟩
    · obtain ⟨m, em, hsp⟩ := hz i (by omega)
      rw [List.getElem?_eq_getElem k1] at em
      rw [Option.some.inj em] at ru
      obtain ⟨mA, J, _⟩ := ins_get I'.hok ea
      obtain ⟨od, J, _⟩ := J.look
      obtain ⟨t, rfl⟩ := ru
      have own : wpAny (model X.prog X.w) X.A.in1 (call (.ref f) [.ref a, .int m t]) (fun v s' => ∃ r, v = .bool r ∧ ∃ t, Value.bool r = .bool t ∧ (t = decide (i = j) ∧ Inv X pins σ H s')) X.xe s' := by
        refine wpAny_mono (run_own1P (vs := [V.ref a, V.int m]) Fk hr hp hb I' (.cons rfl (.cons ⟨t, rfl⟩ .nil)) hsp) (fun v s2 hv => ?_) fun _ _ e => e
        obtain ⟨x, H2, I2, rv, ex, eH⟩ := hv
        subst ex
        subst eH
        obtain rfl : v = Value.bool false := rv
        exact ⟨false, rfl, false, rfl, (decide_eq_false hE).symm, I2⟩
      have hu1 : X.A.in1.units < cLine := by have := hr.un; show X.A.units + 1 < _; omega
      exact eqBool_any (fun z => nomatch z) (eq_right hu1 I'.kIn O.eq O.fn (typeIs_int s' m t) J O.i F.slot_int_eq (fun Q' q' => call_meets F.slot_int_eq (typeIs_int s' m t) F.entry_int_eq (F.args_int_eq_2 _ _) (dec_int_eq m t a C dx) ⟨J.at_, q'⟩) own)
  · obtain ⟨rfl, I'⟩ := hv
    exact wpAny_truthy_bool (wpAny_pure ⟨.bl true, H, I', rfl, q⟩)
/-- an instance != an int, in a suite -/
def rNeP (sp : Sp) (E : XK) (C : Addr) : R2 := fun x y H Q => ∃ a dx fs, ∃ n : Int, x = .ref a ∧ y = .int n ∧ H a = some (.ins C dx fs) ∧ sp [.ref a, .int n] H (fun v H' => ∃ b, v = .bl b ∧ Q (.bl (!b)) H') E
theorem ne_ownP (N : NoNe X.K C f) (hi : PySem.W.subIn X.K (.type "int") (.ref C) = some false) (Fk : FnP X.prog X.w X.K X.mg X.base k f fd ps sp) (hr : L2H.RoomH (k + 1) X.A) (hp : p ∈ X.pn) (hb : Binds X.K fd ps []) : OpR X (compareOp .NotEq) (rNeP sp E C) := by
  intro pins s σ H x y v u Q I rx ry h
  obtain ⟨a, dx, fs, n, rfl, rfl, ea, q⟩ := h
  obtain rfl : v = Value.ref a := rx
  obtain ⟨t, rfl⟩ := ry
  obtain ⟨mA, J, _⟩ := ins_get I.hok ea
  obtain ⟨od, J, _⟩ := J.look
  show wpAny (model X.prog X.w) X.A (richCompare .NotEq (.ref a) (.int n t)) (EP X pins σ Q) X.xe s
  refine ne_KI (by have := hr.un; omega) I.kIn N hi J (wpAny_mono (run_own1P (vs := [V.ref a, V.int n]) Fk hr hp hb I (.cons rfl (.cons ⟨t, rfl⟩ .nil)) q) (fun v s2 hv => ?_) fun _ _ e => e)
  obtain ⟨x, H2, I2, rv, b, ex, q2⟩ := hv
  subst ex
  obtain rfl : v = Value.bool b := rv
  exact ⟨b, rfl, .bl (!b), H2, I2, rfl, q2⟩
end
/-- all is written: no defaults are left -/
theorem binds_nil {K : PySem.W.Frag} {fd : FuncData} {ps : List Str} {e : List Value} (b : Binds K fd ps e) (v : Vals [] e) : Binds K fd ps [] := by
  cases v
  exact b
section
variable {X : Cx} {CX : CXT} {k : Nat} {C g : Addr} {fd : FuncData} {ps ks : List Str} {sp : Sp} {E : L2.St → XK} {fe e : Expr} {es : List Expr} {kws : List Keyword} {pos : Pos} {tf : TE} {t tk : TA}
/-- f(e, ..), f an instance of C, what is let out wished for at the caller's slots (also in a try body) -/
def tCallO2 (C : Addr) (sp : Sp) (E : L2.St → XK) (tf : TE) (t : TA) : TE := fun σ H Q => tf σ H fun y H1 => ∃ a, y = V.ref a ∧ t σ H1 fun vs H2 => (∃ dx fs, H2 a = some (.ins C dx fs)) ∧ sp (V.ref a :: vs) H2 Q (E σ)
theorem pe_callO2 (hf : PE X fe tf) (c : StX.CallO X.K C g) (F : FnOk X.prog X.w X.K X.mg X.base CX k g fd ps sp) (hr : Room k X.A) (hb : Binds X.K fd ps []) (hx : ∀ σ, PassesAt CX X σ (E σ)) (ha : PA X (e :: es) t)
    (ht : eval (.Call fe (e :: es) [] pos) X.env = (do callWith pos (← eval fe X.env) [] (backTo pos (starEach (e :: es) X.env)) (backToKw pos (keywordEach [] X.env))) := by rfl)
    (he : starEach (e :: es) X.env = (false, eval e X.env) :: starEach es X.env := by rfl) (hpl : (backTo pos (starEach es X.env)).any (·.1) = false := by rfl) : PE X (.Call fe (e :: es) [] pos) (tCallO2 C sp E tf t) := by
  refine ⟨fun pins s σ H Q I h => ?_⟩
  refine Call_ (thn (hf.run pins s σ H _ I h) fun u s1 ⟨y, H1, I1, ry, a, ey, q⟩ => ?_) ht
  subst ey
  obtain rfl : u = Value.ref a := ry
  refine StX.callO_with (thn (ha.run pos pins s1 σ H1 _ I1 q) fun us s2 ⟨vs, H2, I2, r, hi, q2⟩ => ?_) he hpl
  obtain ⟨ox, od, J, hd⟩ := StX.insC_at I2 (.inr hi)
  refine ⟨⟨C, ox, od, J, hd⟩, wpAny_call (PySem.W.kco_code I2.kIn J hd c.at_ c.fn c.fi ?_)⟩
  have r2 : Vals (V.ref a :: vs) (Value.ref a :: us) := .cons rfl r
  have hl : (Value.ref a :: us).length = ps.length := by rw [← r2.length]; exact F.len _ _ _ _ q2
  have b := hb s2 (Value.ref a :: us) I2.kIn (by rw [List.append_nil]; exact hl)
  rw [List.append_nil] at b
  refine codeAny_mono (F.run X.A X.stack s2 H2 ⟨Value.ref a :: us, []⟩ (Value.ref a :: us) (V.ref a :: vs) Q (E σ) hr I2.env0 b r2 q2) fun r s' hq => ?_
  cases r with
  | error er => exact hx σ _ H2 s2 er s' I2 hq
  | ok fl =>
    cases fl with
    | ret u => exact I2.after hq
    | next => exact False.elim hq
    | brk => exact False.elim hq
    | cont => exact False.elim hq
end
end My

/-! My own rules: == of two tuples of instances with an own ==, whatever it answers. -/
namespace My
open PySem PySem.Spec PyProof.Rows L2
section
open PySem PySem.SeqAt
open MeetsSeq MeetsSeq2 MeetsSeq3 SeqRoads2
variable {prog : Program} {w : World} {A : Around} {R : Result → Shared → Prop}
theorem tuple_eqB (l b : Addr) (items items2 : Array Value) (n n2 : Nat) (dd dd2 : Option Addr) (sl sl2 : Array (Option Value)) (t : Nat → Bool) (I : Nat → Shared → Prop)
    (turn : ∀ i (h1 : i < items.size) (h2 : i < items2.size) s, I i s → wpAny (model prog w) A.in1 (eqBool items[i] items2[i]) (fun r s' => r = t i ∧ I (i + 1) s') (fun e s' => R (.error e) s') s)
    (ans : Bool) (hans : ans = true ↔ items.size = items2.size ∧ ∀ i, i < items.size → i < items2.size → t i = true)
    (fin : ∀ i s, I i s → R (.ok (.ret (.bool ans))) s) {s : Shared} (hl1 : s.heap.get? l = some { cls := .type "tuple", dict := dd, data := .seq items n, slots := sl }) (hb1 : s.heap.get? b = some { cls := .type "tuple", dict := dd2, data := .seq items2 n2, slots := sl2 }) (h : I 0 s) :
    wpAny (model prog w) A.in1 (Builtin.«tuple.__eq__» ⟨[.ref l, .ref b], []⟩) (GQ.FinOf prog w A R) (fun e s' => R (.error e) s') s := by
  have f2 := AutoSeq1.sub_tuple_tuple
  have hZ : (items.toList.zip items2.toList).length = min items.size items2.size := by simp
  have h0 := h
  obtain ⟨hp, g, d, tk, os⟩ := s
  wp_walk using wpAny_loadPart' hl1, wpAny_loadPart' hb1, wpAny_forIn_list _ (fun rest b s' => b.1 = none ∧ ∃ i, rest = (items.toList.zip items2.toList).drop i ∧ i ≤ min items.size items2.size ∧ I i s' ∧ ∀ j, j < i → t j = true) _
  case turn =>
    rintro ⟨y, x⟩ rest b s' ⟨hb', i, hz, hi, hI, hall⟩
    have hlt : i < (items.toList.zip items2.toList).length := by
      rcases Nat.lt_or_ge i (items.toList.zip items2.toList).length with h' | h'
      · exact h'
      · rw [List.drop_of_length_le h'] at hz; cases hz
    have hlt' := hlt
    rw [hZ] at hlt'
    have h1 : i < items.size := by omega
    have h2 : i < items2.size := by omega
    rw [List.drop_eq_getElem_cons hlt] at hz
    injection hz with hyx hrest
    have hy : y = items[i] := by have := congrArg Prod.fst hyx; simpa using this
    have hx : x = items2[i] := by have := congrArg Prod.snd hyx; simpa using this
    subst hy hx
    refine wpAny_bind (wpAny_mono (turn i h1 h2 s' hI) (fun r s2 q2 => ?_) fun _ _ x => x)
    obtain ⟨hr, q2⟩ := q2
    cases ht : t i with
    | true =>
      rw [ht] at hr
      subst hr
      wp_walk
      exact ⟨rfl, i + 1, hrest, by omega, q2, fun j hj => by
        by_cases e : j = i
        · rw [e]; exact ht
        · exact hall j (by omega)⟩
    | false =>
      rw [ht] at hr
      subst hr
      have ha : ans = false := by
        cases ha : ans with
        | false => rfl
        | true =>
          have := (hans.mp ha).2 i h1 h2
          rw [ht] at this
          cases this
      have hR := fin _ _ q2
      rw [ha] at hR
      wp_walk
      exact hR
  case fin =>
    rintro ⟨b1, b2⟩ s' ⟨hb', i, hz, hi, hI, hall⟩
    simp only at hb'
    subst hb'
    have hge : min items.size items2.size ≤ i := by
      rcases Nat.lt_or_ge i (items.toList.zip items2.toList).length with h' | h'
      · rw [List.drop_eq_getElem_cons h'] at hz; cases hz
      · exact hZ ▸ h'
    have hR : R (.ok (.ret (.bool ans))) s' := fin _ _ hI
    have ha : ans = (items.size == items2.size) := by
      cases hq : ans with
      | true => exact (beq_iff_eq.mpr (hans.mp hq).1).symm
      | false =>
        refine Eq.symm ?_
        rw [Bool.eq_false_iff]
        intro e
        have e := beq_iff_eq.mp e
        have := hans.mpr ⟨e, fun j h1 h2 => hall j (by omega)⟩
        rw [hq] at this
        cases this
    rw [ha] at hR
    wp_walk
    simpa [Builtin.Tuple.tupleCompareSizes] using hR
  case h =>
    exact ⟨rfl, 0, rfl, Nat.zero_le _, h0, fun j hj => absurd hj (Nat.not_lt_zero _)⟩
end
section
variable {X : Cx} {CX : CXT} {k : Nat} {C f : Addr} {fd : FuncData} {ps : List Str} {sp : Sp} {E : XK}
/-- two tuples of instances; t tells which pairs are equal -/
def rTupB (K : PySem.W.Frag) (C : Addr) (sp : Sp) (E : XK) : R2 := fun x y H Q => ∃ a b, ∃ xs ys : List V, ∃ t : Nat → Bool, ∃ ans : Bool, x = .ref a ∧ y = .ref b ∧ SqT K H a xs ∧ SqT K H b ys ∧
  (∀ (i : Nat) u v, xs[i]? = some u → ys[i]? = some v → ∃ p q dx dy fs gs, u = .ref p ∧ v = .ref q ∧ H p = some (.ins C dx fs) ∧ H q = some (.ins C dy gs) ∧ (p = q → t i = true) ∧ sp [.ref p, .ref q] H (fun w H' => w = .bl (t i) ∧ H' = H) E) ∧
  (ans = true ↔ xs.length = ys.length ∧ ∀ i, i < xs.length → i < ys.length → t i = true) ∧ Q (.bl ans) H
theorem op_tupB (hs : PySem.W.findIn X.K (.ref C) "__eq__" = some (some (.ref f))) (hf : PySem.W.isFn X.K (.ref f) = true) (Fk : FnOk X.prog X.w X.K X.mg X.base CX k f fd ps sp) (hr : Room (k + 1) X.A) (hb : Binds X.K fd ps []) (hx : Passes CX X E) : OpR X (compareOp .Eq) (rTupB X.K C sp E) := by
  intro pins s σ H x y v u Q I rx ry h
  obtain ⟨a, b, xs, ys, t, ans, rfl, rfl, ha, hb', hi, hans, q⟩ := h
  cases rx
  cases ry
  obtain ⟨its, r, e, z⟩ := I.tuple ha
  obtain ⟨its2, r2, e2, z2⟩ := I.tuple hb'
  show wpAny (model X.prog X.w) X.A (richCompare .Eq (.ref a) (.ref b)) (EP X pins σ Q) X.xe s
  obtain ⟨⟨cls, dd, data, sl⟩, ho, hc, n, hd⟩ := id e
  obtain ⟨⟨cls2, dd2, data2, sl2⟩, ho2, hc2, n2, hd2⟩ := id e2
  simp only at hc hd hc2 hd2
  subst hc hd hc2 hd2
  have hu : X.A.units < cLine := hr.units0
  refine wpAny_richCompare_same_room (op := .Eq) ⟨_, ho, rfl⟩ ⟨_, ho2, rfl⟩ F.slot_tuple_eq (GQ.call_here F.slot_tuple_eq ⟨_, ho, rfl⟩ F.entry_tuple_eq (F.args_tuple_eq_2 _ _) ?_) hu
  refine tuple_eqB (R := wants (fun v s' => v ≠ .notImplemented ∧ EP X pins σ Q v s') X.xe) a b its.toArray its2.toArray n n2 dd dd2 sl sl2 t (fun _ s' => Inv X pins σ H s') (fun i h1 h2 s' I' => ?_) ans (by rw [hans, List.size_toArray, List.size_toArray, r.length, r2.length]) (fun i s' I' => ⟨(fun x => nomatch x), .bl ans, H, I', rfl, q⟩) ho ho2 I
  have k1 : i < xs.length := by rw [r.length]; simpa using h1
  have k2 : i < ys.length := by rw [r2.length]; simpa using h2
  obtain ⟨u, hu1, ru⟩ := r.get (List.getElem?_eq_getElem k1)
  obtain ⟨v, hv1, rv⟩ := r2.get (List.getElem?_eq_getElem k2)
  have g1 : its[i]? = some its.toArray[i] := by
    have h1' : i < its.length := by simpa using h1
    rw [List.getElem?_eq_getElem h1'] <;> simp
  have g2 : its2[i]? = some its2.toArray[i] := by
    have h2' : i < its2.length := by simpa using h2
    rw [List.getElem?_eq_getElem h2'] <;> simp
  rw [g1] at hu1
  rw [g2] at hv1
  rw [Option.some.inj hu1, Option.some.inj hv1]
  obtain ⟨p', q', dx, dy, fs, gs, eu, evv, hp, hq, hsame, hsp⟩ := hi i _ _ (List.getElem?_eq_getElem k1) (List.getElem?_eq_getElem k2)
  rw [eu] at ru
  rw [evv] at rv
  obtain rfl : u = Value.ref p' := ru
  obtain rfl : v = Value.ref q' := rv
  by_cases hab : p' = q'
  · subst hab
    exact eqBool_same ⟨(hsame rfl).symm, I'⟩
  · obtain ⟨mA, J, _⟩ := ins_get I'.hok hp
    obtain ⟨mB, J', _⟩ := ins_get I'.hok hq
    obtain ⟨od, J, _⟩ := J.look
    obtain ⟨od', J', _⟩ := J'.look
    obtain ⟨m, hF⟩ := I'.fr
    refine GQ.eqBool_refG hab (PySem.W.cmp_K (op := .Eq) (tb := .ref C) hr.in1.units0 hF I'.ok.mod.kin J J'.type (by simp [PySem.W.notFirst]) hs hf (wpAny_mono (run_own1 (vs := [V.ref p', V.ref q']) Fk hr hb hx I' (.cons rfl (.cons rfl .nil)) hsp) (fun v s2 hv => ?_) fun _ _ e => e))
    obtain ⟨x, H2, I2, rv, ex, eH⟩ := hv
    subst ex
    subst eH
    obtain rfl : v = Value.bool (t i) := rv
    exact ⟨t i, rfl, rfl, I2⟩
end
end My

/-! My own rules: != of two tuples that are equal item by item. -/
namespace My
open PySem PySem.Spec PyProof.Rows L2
section
open PySem PySem.SeqAt
open MeetsSeq MeetsSeq2 MeetsSeq3 SeqRoads2
variable {prog : Program} {w : World} {A : Around} {R : Result → Shared → Prop}
theorem tuple_neG (l b : Addr) (items items2 : Array Value) (n n2 : Nat) (dd dd2 : Option Addr) (sl sl2 : Array (Option Value)) (hsz : items.size = items2.size) (I : Shared → Prop)
    (turn : ∀ i (h1 : i < items.size) (h2 : i < items2.size) s, I s → wpAny (model prog w) A.in1 (eqBool items[i] items2[i]) (fun r s' => r = true ∧ I s') (fun e s' => R (.error e) s') s)
    (fin : ∀ s, I s → R (.ok (.ret (.bool false))) s) {s : Shared} (hl1 : s.heap.get? l = some { cls := .type "tuple", dict := dd, data := .seq items n, slots := sl }) (hb1 : s.heap.get? b = some { cls := .type "tuple", dict := dd2, data := .seq items2 n2, slots := sl2 }) (h : I s) :
    wpAny (model prog w) A.in1 (Builtin.«tuple.__ne__» ⟨[.ref l, .ref b], []⟩) (GQ.FinOf prog w A R) (fun e s' => R (.error e) s') s := by
  have f2 := AutoSeq1.sub_tuple_tuple
  have hZ : (items.toList.zip items2.toList).length = items.size := by simp [hsz]
  have h0 := h
  obtain ⟨hp, g, d, tk, os⟩ := s
  wp_walk using wpAny_loadPart' hl1, wpAny_loadPart' hb1, wpAny_forIn_list _ (fun rest b s' => b.1 = none ∧ ∃ i, rest = (items.toList.zip items2.toList).drop i ∧ i ≤ items.size ∧ I s') _
  case turn =>
    rintro ⟨y, x⟩ rest b s' ⟨hb', i, hz, hi, hI⟩
    have hlt : i < (items.toList.zip items2.toList).length := by
      rcases Nat.lt_or_ge i (items.toList.zip items2.toList).length with h' | h'
      · exact h'
      · rw [List.drop_of_length_le h'] at hz; cases hz
    have h1 : i < items.size := hZ ▸ hlt
    have h2 : i < items2.size := hsz ▸ h1
    rw [List.drop_eq_getElem_cons hlt] at hz
    injection hz with hyx hrest
    have hy : y = items[i] := by have := congrArg Prod.fst hyx; simpa using this
    have hx : x = items2[i] := by have := congrArg Prod.snd hyx; simpa using this
    subst hy hx
    refine wpAny_bind (wpAny_mono (turn i h1 h2 s' hI) (fun r s2 q2 => ?_) fun _ _ x => x)
    obtain ⟨hr, q2⟩ := q2
    subst hr
    wp_walk
    exact ⟨rfl, i + 1, hrest, h1, q2⟩
  case fin =>
    rintro ⟨b1, b2⟩ s' ⟨hb', i, hz, hi, hI⟩
    simp only at hb'
    subst hb'
    have hR : R (.ok (.ret (.bool false))) s' := fin s' hI
    wp_walk
    simpa [Builtin.Tuple.tupleCompareSizes, hsz] using hR
  case h =>
    exact ⟨rfl, 0, rfl, Nat.zero_le _, h0⟩
end
section
variable {X : Cx} {n : Nat} {D : Eqv}
/-- != of two tuples that are equal item by item -/
def rNeG (K : PySem.W.Frag) (D : Eqv) : R2 := fun x y H Q => DTup K D x y H ∧ ∀ H', Ext H H' → Q (.bl false) H'
theorem op_neG (hD : Mon D) (h : EqG X n D) (hr : Room (n + 1) X.A) : OpR X (compareOp .NotEq) (rNeG X.K D) := by
  intro pins s σ H x y v u Q I rx ry hq
  obtain ⟨⟨a, b, xs, ys, rfl, rfl, ha, hb, p⟩, q⟩ := hq
  cases rx
  cases ry
  show wpAny (model X.prog X.w) X.A (richCompare .NotEq (.ref a) (.ref b)) (EP X pins σ Q) X.xe s
  obtain ⟨its, r, e, z⟩ := I.tuple ha
  obtain ⟨its2, r2, e2, z2⟩ := I.tuple hb
  have hsz : its.toArray.size = its2.toArray.size := by rw [List.size_toArray, List.size_toArray, ← r.length, ← r2.length]; exact p.1
  obtain ⟨⟨cls, dd, data, sl⟩, ho, hc, n1, hd⟩ := id e
  obtain ⟨⟨cls2, dd2, data2, sl2⟩, ho2, hc2, n2, hd2⟩ := id e2
  simp only at hc hd hc2 hd2
  subst hc hd hc2 hd2
  refine wpAny_richCompare_same_room (op := .NotEq) ⟨_, ho, rfl⟩ ⟨_, ho2, rfl⟩ F.slot_tuple_ne (GQ.call_here F.slot_tuple_ne ⟨_, ho, rfl⟩ F.entry_tuple_ne (F.args_tuple_ne_2 _ _) ?_) hr.units0
  exact tuple_neG (R := wants (fun v s' => v ≠ .notImplemented ∧ EP X pins σ Q v s') X.xe) a b its.toArray its2.toArray n1 n2 dd dd2 sl sl2 hsz (fun s' => LoopI X pins σ H s') (fun i h1 h2 s' l => turnG hD h ⟨hr, rfl⟩ p r r2 i h1 h2 s' l) (fun s' ⟨H', I', e⟩ => ⟨(fun x => nomatch x), .bl false, H', I', rfl, q H' e⟩) ho ho2 ⟨H, I, Ext.rfl'⟩
end
end My

/-! My own rules: tuple(zip(a, b)) of two tuples. -/
namespace My
open PySem PySem.Spec PyProof.Rows L2 RZ
section
open PySem PySem.W
variable {prog : Program} {w : World} {A : Around} {E : Value → Shared → Prop} {s : Shared}
theorem zipT_item_held {z TI TO T i1 i2 l1 l2 : Addr} {f : Bool} {oT : Obj} {k1 k2 : Nat} {xs ys : Array Value} {x y : Value} {Q : Value → Shared → Prop} (D : ZipApart z TI TO i1 i2 l1 l2)
    (hz : IsZipHeld s.heap z TI TO T f) (hT : s.heap.get? T = some oT) (hTI : IsPair s.heap TI (.ref i1) (.ref i2))
    (h1 : s.heap.IsTupleIter i1 l1 k1) (h2 : s.heap.IsTupleIter i2 l2 k2) (hl1 : s.heap.IsTuple l1 xs) (hl2 : s.heap.IsTuple l2 ys) (hx : xs[k1]? = some x) (hy : ys[k2]? = some y)
    (hQ : ∀ h', IsZipHeld h' z TI TO T true → h'.IsTupleIter i1 l1 (k1 + 1) → h'.IsTupleIter i2 l2 (k2 + 1) → IsPair h' s.heap.objs.size x y → h'.objs.size = s.heap.objs.size + 1 →
      (∀ c o, c ≠ z → c ≠ i1 → c ≠ i2 → s.heap.get? c = some o → h'.get? c = some o) → Q (.ref s.heap.objs.size) { s with heap := h' }) :
    wpAny (model prog w) A (Builtin.«zip.__next__» ⟨[.ref z], []⟩) (fun fin s' => ∃ v, fin = .done (.ret v) ∧ Q v s') E s := by
  show wpAny _ _ (field (.ref z) 2 >>= _) _ _ _
  refine wpAny_bind (wpAny_field hz rfl (x := .bool false) rfl ?_)
  show wpAny _ _ (field (.ref z) 3 >>= _) _ _ _
  refine wpAny_bind (wpAny_field hz rfl (x := .ref TI) rfl ?_)
  refine wpAny_bind (wpAny_seqItems hTI rfl ?_)
  show wpAny _ _ (Builtin.SmallTypes.ownedTupleIsFree (.ref z) >>= _) _ _ _
  refine wpAny_bind (wpAny_tupleHeld_zip hz hT fun h₁ hz₁ hs₁ => ?_)
  simp only [Bool.false_eq_true, if_false]
  refine wpAny_bind ?_
  rw [← Array.forIn_toList]
  simp only [List.forIn_cons, List.forIn_nil]
  refine wpAny_bind (wpAny_bind (wpAny_holding ?_))
  show wpAny _ _ (Builtin.SmallTypes.nextOf (.ref i1) >>= _) _ _ _
  refine wpAny_bind (nextOf_tuple_item (s := { s with heap := h₁ }) (h1.extBut hs₁.extBut D.i1z) (hl1.extBut hs₁.extBut D.l1z) hx fun h₂ h1₂ hs₂ => wpAny_pure ?_)
  refine wpAny_pure ?_
  refine wpAny_bind (wpAny_bind (wpAny_holding ?_))
  show wpAny _ _ (Builtin.SmallTypes.nextOf (.ref i2) >>= _) _ _ _
  refine wpAny_bind (nextOf_tuple_item (s := { s with heap := h₂ }) ((h2.extBut hs₁.extBut D.i2z).extBut hs₂.extBut D.i12.symm) ((hl2.extBut hs₁.extBut D.l2z).extBut hs₂.extBut D.l2i1) hy fun h₃ h2₃ hs₃ => wpAny_pure ?_)
  refine wpAny_pure (wpAny_pure ?_)
  show wpAny _ _ (newTuple [x, y] >>= _) _ _ _
  refine wpAny_bind (wpAny_newTuple ?_)
  have hsz : h₃.objs.size = s.heap.objs.size := by rw [hs₃.1, hs₂.1, hs₁.1]
  have hz₃ : IsZipHeld h₃ z TI TO T true := hs₃.extBut _ _ D.i2z.symm (hs₂.extBut _ _ D.i1z.symm hz₁)
  have hk : ∀ c o, c ≠ z → c ≠ i1 → c ≠ i2 → s.heap.get? c = some o → h₃.get? c = some o := fun c o c1 c2 c3 e => hs₃.extBut _ _ c3 (hs₂.extBut _ _ c2 (hs₁.extBut _ _ c1 e))
  have h1₃ : h₃.IsTupleIter i1 l1 (k1 + 1) := h1₂.extBut hs₃.extBut D.i12
  refine wpAny_pure ⟨_, rfl, ?_⟩
  show Q (.ref h₃.objs.size) _
  have hp : IsPair (h₃.push { cls := .type "tuple", data := .seq #[x, y] }) h₃.objs.size x y := Heap.get?_push_size _ rfl
  have hz4 : (h₃.push { cls := .type "tuple", data := .seq #[x, y] }).objs.size = h₃.objs.size + 1 := Heap.size_push ..
  rw [hsz] at hp hz4 ⊢
  exact hQ _ (Heap.get?_push_of_some _ hz₃) (h1₃.at fun o e => Heap.get?_push_of_some _ e) (h2₃.at fun o e => Heap.get?_push_of_some _ e) hp hz4 fun c o c1 c2 c3 e => Heap.get?_push_of_some _ (hk c o c1 c2 c3 e)
theorem zipT_end_held {z TI TO T i1 i2 l1 l2 : Addr} {f : Bool} {oT : Obj} {k1 k2 : Nat} {xs ys : Array Value} {Q : Fin → Shared → Prop} (hh : A.handled = none) (D : ZipApart z TI TO i1 i2 l1 l2)
    (hz : IsZipHeld s.heap z TI TO T f) (hT : s.heap.get? T = some oT) (hTI : IsPair s.heap TI (.ref i1) (.ref i2))
    (h1 : s.heap.IsTupleIter i1 l1 k1) (h2 : s.heap.IsTupleIter i2 l2 k2) (hl1 : s.heap.IsTuple l1 xs) (hl2 : s.heap.IsTuple l2 ys) (hend : xs[k1]? = none ∨ ys[k2]? = none)
    (hE : ∀ h' e, (∀ c o, c ≠ z → c ≠ i1 → c ≠ i2 → s.heap.get? c = some o → h'.get? c = some o) → (∃ o, h'.get? e = some o ∧ o.cls = .type "StopIteration") → E (.ref e) { s with heap := h' }) :
    wpAny (model prog w) A (Builtin.«zip.__next__» ⟨[.ref z], []⟩) Q E s := by
  show wpAny _ _ (field (.ref z) 2 >>= _) _ _ _
  refine wpAny_bind (wpAny_field hz rfl (x := .bool false) rfl ?_)
  show wpAny _ _ (field (.ref z) 3 >>= _) _ _ _
  refine wpAny_bind (wpAny_field hz rfl (x := .ref TI) rfl ?_)
  refine wpAny_bind (wpAny_seqItems hTI rfl ?_)
  show wpAny _ _ (Builtin.SmallTypes.ownedTupleIsFree (.ref z) >>= _) _ _ _
  refine wpAny_bind (wpAny_tupleHeld_zip hz hT fun h₁ hz₁ hs₁ => ?_)
  simp only [Bool.false_eq_true, if_false]
  refine wpAny_bind ?_
  rw [← Array.forIn_toList]
  simp only [List.forIn_cons, List.forIn_nil]
  refine wpAny_bind (wpAny_bind (wpAny_holding ?_))
  show wpAny _ _ (Builtin.SmallTypes.nextOf (.ref i1) >>= _) _ _ _
  cases hx : xs[k1]? with
  | none =>
    refine wpAny_bind (nextOf_tuple_end (s := { s with heap := h₁ }) hh (h1.extBut hs₁.extBut D.i1z) (hl1.extBut hs₁.extBut D.l1z) hx fun h₂ e hs₂ he => ?_)
    exact hE h₂ e (fun c o c1 c2 _ x => hs₂ _ _ c2 (hs₁.extBut _ _ c1 x)) he
  | some x =>
    have hy : ys[k2]? = none := by rcases hend with h | h; rw [hx] at h; cases h; exact h
    refine wpAny_bind (nextOf_tuple_item (s := { s with heap := h₁ }) (h1.extBut hs₁.extBut D.i1z) (hl1.extBut hs₁.extBut D.l1z) hx fun h₂ h1₂ hs₂ => wpAny_pure ?_)
    refine wpAny_pure ?_
    refine wpAny_bind (wpAny_bind (wpAny_holding ?_))
    show wpAny _ _ (Builtin.SmallTypes.nextOf (.ref i2) >>= _) _ _ _
    refine wpAny_bind (nextOf_tuple_end (s := { s with heap := h₂ }) hh ((h2.extBut hs₁.extBut D.i2z).extBut hs₂.extBut D.i12.symm) ((hl2.extBut hs₁.extBut D.l2z).extBut hs₂.extBut D.l2i1) hy fun h₃ e hs₃ he => ?_)
    exact hE h₃ e (fun c o c1 c2 c3 x => hs₃ _ _ c3 (hs₂.extBut _ _ c2 (hs₁.extBut _ _ c1 x))) he
theorem pyNext_zipT_item_held {z TI TO T i1 i2 l1 l2 : Addr} {f : Bool} {oT : Obj} {k1 k2 : Nat} {xs ys : Array Value} {x y : Value} {Q : Option Value → Shared → Prop} (D : ZipApart z TI TO i1 i2 l1 l2)
    (hz : IsZipHeld s.heap z TI TO T f) (hT : s.heap.get? T = some oT) (hTI : IsPair s.heap TI (.ref i1) (.ref i2))
    (h1 : s.heap.IsTupleIter i1 l1 k1) (h2 : s.heap.IsTupleIter i2 l2 k2) (hl1 : s.heap.IsTuple l1 xs) (hl2 : s.heap.IsTuple l2 ys) (hx : xs[k1]? = some x) (hy : ys[k2]? = some y)
    (hQ : ∀ h', IsZipHeld h' z TI TO T true → h'.IsTupleIter i1 l1 (k1 + 1) → h'.IsTupleIter i2 l2 (k2 + 1) → IsPair h' s.heap.objs.size x y → h'.objs.size = s.heap.objs.size + 1 →
      (∀ c o, c ≠ z → c ≠ i1 → c ≠ i2 → s.heap.get? c = some o → h'.get? c = some o) → Q (some (.ref s.heap.objs.size)) { s with heap := h' }) :
    wpAny (model prog w) A (pyNext (.ref z)) Q E s := by
  have hTy : s.TypeIs (.ref z) "zip" := ⟨_, hz, rfl⟩
  unfold pyNext
  exact wpAny_bind (wpAny_attempt (wpAny_callSpecial?_slot (name := Str.ofString "__next__") hTy F.slot_zip_next
    (wpAny_call_entry F.slot_zip_next hTy F.entry_zip_next
      (zipT_item_held D hz hT hTI h1 h2 hl1 hl2 hx hy fun h' a1 a3 a4 a5 a6 a7 => wpAny_pure (hQ h' a1 a3 a4 a5 a6 a7)) (F.args_zip_next_1 _))))
theorem pyNext_zipT_end_held {z TI TO T i1 i2 l1 l2 : Addr} {f : Bool} {oT : Obj} {k1 k2 : Nat} {xs ys : Array Value} {Q : Option Value → Shared → Prop} (hh : A.handled = none) (D : ZipApart z TI TO i1 i2 l1 l2)
    (hz : IsZipHeld s.heap z TI TO T f) (hT : s.heap.get? T = some oT) (hTI : IsPair s.heap TI (.ref i1) (.ref i2))
    (h1 : s.heap.IsTupleIter i1 l1 k1) (h2 : s.heap.IsTupleIter i2 l2 k2) (hl1 : s.heap.IsTuple l1 xs) (hl2 : s.heap.IsTuple l2 ys) (hend : xs[k1]? = none ∨ ys[k2]? = none)
    (hQ : ∀ h', (∀ c o, c ≠ z → c ≠ i1 → c ≠ i2 → s.heap.get? c = some o → h'.get? c = some o) → Q none { s with heap := h' }) : wpAny (model prog w) A (pyNext (.ref z)) Q E s := by
  have hTy : s.TypeIs (.ref z) "zip" := ⟨_, hz, rfl⟩
  unfold pyNext
  refine wpAny_bind (wpAny_attempt (wpAny_callSpecial?_slot (name := Str.ofString "__next__") hTy F.slot_zip_next
    (wpAny_call_entry F.slot_zip_next hTy F.entry_zip_next (zipT_end_held hh D hz hT hTI h1 h2 hl1 hl2 hend fun h' e hk he => ?_) (F.args_zip_next_1 _))))
  obtain ⟨o, ho, hc⟩ := he
  refine wpAny_bind (wpAny_isInstance (T := "StopIteration") (b := true) ⟨o, ho, hc⟩ isSubtype_stop ?_)
  exact wpAny_pure (hQ _ hk)
end
/-- the zip at turn i; the list that takes its tuples is at d -/
def ZSt (h : Heap) (z TI TO i1 i2 a b d : Addr) (i : Nat) : Prop := IsPair h TI (.ref i1) (.ref i2) ∧ h.IsTupleIter i1 a i ∧ h.IsTupleIter i2 b i ∧
  ((IsZip h z TI TO .none ∧ ∃ x y, IsPair h TO x y) ∨ ∃ T f oT, IsZipHeld h z TI TO T f ∧ h.get? T = some oT ∧ T ≠ z ∧ T ≠ i1 ∧ T ≠ i2 ∧ T ≠ d)
section
open PySem PySem.W
variable {prog : Program} {w : World} {A : Around} {E : Value → Shared → Prop} {s : Shared}
theorem zst_item {z TI TO i1 i2 a b d : Addr} {i : Nat} {xs ys : Array Value} {u v : Value} {Q : Option Value → Shared → Prop} (D : ZipApart z TI TO i1 i2 a b) (st : ZSt s.heap z TI TO i1 i2 a b d i) (p : s.heap.IsTuple a xs) (p2 : s.heap.IsTuple b ys) (hx : xs[i]? = some u) (hy : ys[i]? = some v) (hd : d < s.heap.objs.size)
    (hQ : ∀ h', ZSt h' z TI TO i1 i2 a b d (i + 1) → IsPair h' s.heap.objs.size u v → h'.objs.size = s.heap.objs.size + 1 → (∀ c o, c ≠ z → c ≠ TO → c ≠ i1 → c ≠ i2 → s.heap.get? c = some o → h'.get? c = some o) → Q (some (.ref s.heap.objs.size)) { s with heap := h' }) :
    wpAny (model prog w) A (pyNext (.ref z)) Q E s := by
  obtain ⟨hTI, h1, h2, hz⟩ := st
  have lt : ∀ {c o}, s.heap.get? c = some o → s.heap.objs.size ≠ c := fun e => Nat.ne_of_gt (Heap.lt_size e)
  have n1 : s.heap.objs.size ≠ i1 := let ⟨_, e, _⟩ := h1; lt e
  have n2 : s.heap.objs.size ≠ i2 := let ⟨_, e, _⟩ := h2; lt e
  rcases hz with ⟨hz, x, y, hTO⟩ | ⟨T, f, oT, hz, hT, r1, r2, r3, r4⟩
  · refine pyNext_zipT_item D hz hTI hTO h1 h2 p p2 hx hy fun h' a1 a2 a3 a4 a5 a6 hk => ?_
    exact hQ h' ⟨hk _ _ D.TIz D.TITO D.TIi1 D.TIi2 hTI, a3, a4, .inr ⟨s.heap.objs.size, false, _, a1, a5, lt hz, n1, n2, Nat.ne_of_gt hd⟩⟩ a5 a6 hk
  · refine pyNext_zipT_item_held D hz hT hTI h1 h2 p p2 hx hy fun h' a1 a3 a4 a5 a6 hk => ?_
    exact hQ h' ⟨hk _ _ D.TIz D.TIi1 D.TIi2 hTI, a3, a4, .inr ⟨T, true, oT, a1, hk _ _ r1 r2 r3 hT, r1, r2, r3, r4⟩⟩ a5 a6 fun c o c1 _ c3 c4 e => hk c o c1 c3 c4 e
theorem zst_done {z TI TO i1 i2 a b d : Addr} {i : Nat} {xs ys : Array Value} {Q : Option Value → Shared → Prop} (hh : A.handled = none) (D : ZipApart z TI TO i1 i2 a b) (st : ZSt s.heap z TI TO i1 i2 a b d i) (p : s.heap.IsTuple a xs) (p2 : s.heap.IsTuple b ys) (he : xs[i]? = none ∨ ys[i]? = none)
    (hQ : ∀ h', (∀ c o, c ≠ z → c ≠ TO → c ≠ i1 → c ≠ i2 → s.heap.get? c = some o → h'.get? c = some o) → Q none { s with heap := h' }) :
    wpAny (model prog w) A (pyNext (.ref z)) Q E s := by
  obtain ⟨hTI, h1, h2, hz⟩ := st
  rcases hz with ⟨hz, x, y, hTO⟩ | ⟨T, f, oT, hz, hT, r1, r2, r3, r4⟩
  · exact pyNext_zipT_end hh D hz hTI hTO h1 h2 p p2 he fun h' hk => hQ h' hk
  · exact pyNext_zipT_end_held hh D hz hT hTI h1 h2 p p2 he fun h' hk => hQ h' fun c o c1 _ c3 c4 e => hk c o c1 c3 c4 e
theorem ZSt.on {h h' : Heap} {z TI TO i1 i2 a b d : Addr} {i : Nat} (st : ZSt h z TI TO i1 i2 a b d i) (D : ZipApart z TI TO i1 i2 a b) (hd : d ≠ z ∧ d ≠ TI ∧ d ≠ TO ∧ d ≠ i1 ∧ d ≠ i2) (k : ∀ c o, c ≠ d → h.get? c = some o → h'.get? c = some o) : ZSt h' z TI TO i1 i2 a b d i := by
  obtain ⟨hTI, h1, h2, hz⟩ := st
  obtain ⟨d1, d2, d3, d4, d5⟩ := hd
  refine ⟨k _ _ (Ne.symm d2) hTI, h1.at fun o e => k _ o (Ne.symm d4) e, h2.at fun o e => k _ o (Ne.symm d5) e, ?_⟩
  rcases hz with ⟨hz, x, y, hTO⟩ | ⟨T, f, oT, hz, hT, r1, r2, r3, r4⟩
  · exact .inl ⟨k _ _ (Ne.symm d1) hz, x, y, k _ _ (Ne.symm d3) hTO⟩
  · exact .inr ⟨T, f, oT, k _ _ (Ne.symm d1) hz, k _ _ r4 hT, r1, r2, r3, r4⟩
end
/-- the pairs that stand so far -/
def Zs (H : Hp) (xs ys : List V) (ts : List Addr) : Prop := ∀ (j : Nat) t x y, ts[j]? = some t → xs[j]? = some x → ys[j]? = some y → H t = some (.tup [x, y])
theorem Zs.on {H H' : Hp} {xs ys : List V} {ts : List Addr} (r : Zs H xs ys ts) (s : Same H H') : Zs H' xs ys ts := fun j t x y h1 h2 h3 => s _ _ (r j t x y h1 h2 h3)
theorem sqT_on {K : PySem.W.Frag} {H H' : Hp} {a : Addr} {xs : List V} (e : Same H H') (h : SqT K H a xs) : SqT K H' a xs := by
  rcases h with (h | ⟨o, h⟩) | h
  · exact .inl (.inl (e _ _ h))
  · exact .inl (.inr ⟨o, e _ _ h⟩)
  · exact .inr h
theorem nolen_zip : typeLookup (.type "zip") "__len__" = pure none := by rw [typeLookup_type, builtinLookup_eq_fast]; kernel_rfl
theorem hint_zip : typeLookup (.type "zip") "__length_hint__" = pure none := by rw [typeLookup_type, builtinLookup_eq_fast]; kernel_rfl
section
variable {X : Cx} {pins : List (Addr × Obj)} {σ : L2.St}
theorem ext_zip {A : Around} {R : Result → Shared → Prop} {S z TI TO i1 i2 a b : Addr} {res : Value} (hh : A.in1.handled = none) (D : ZipApart z TI TO i1 i2 a b) (hS : S ≠ z ∧ S ≠ TI ∧ S ≠ TO ∧ S ≠ i1 ∧ S ≠ i2) {xs ys : List V} (hl : xs.length = ys.length) (hn : xs.length ≤ sizeLine) :
    ∀ (k i : Nat) (s : Shared) (H : Hp) (acc : Array Value) (c : Nat) (ts : List Addr), xs.length - i = k → i ≤ xs.length → Inv X pins σ H s → SqT X.K H a xs → SqT X.K H b ys → ZSt s.heap z TI TO i1 i2 a b S i →
      (∀ c ∈ [S, z, TO, i1, i2], FpOk X pins H c ∧ c < s.heap.objs.size) → s.heap.get? S = some { cls := .type "list", dict := none, data := .seq acc c, slots := #[] } → acc.toList = ts.map Value.ref → ts.length = i → Zs H xs ys ts →
      (∀ (s' : Shared) (H' : Hp) (acc' : Array Value) (c' : Nat) (ts' : List Addr), Inv X pins σ H' s' → Same H H' → s'.heap.get? S = some { cls := .type "list", dict := none, data := .seq acc' c', slots := #[] } → acc'.toList = ts'.map Value.ref → ts'.length = xs.length → Zs H' xs ys ts' → R (.ok (.ret res)) s') →
      codeAny (model X.prog X.w) A (.builtin "list.extend.loop" ⟨[.ref S, .ref z, res], []⟩) R s := by
  intro k
  induction k with
  | zero =>
    intro i s H acc c ts hk hi I qa qb st hf hL ha ht hz hR
    have hin : i = xs.length := by omega
    subst hin
    refine codeAny_builtin F.entry_extend_loop ?_
    rw [Around.under_plainId F.plain_extend_loop _]
    show wpAny _ A.in1 (pyNext (.ref z) >>= _) _ _ s
    obtain ⟨its, rv, p, _⟩ := I.tuple qa
    obtain ⟨its2, rv2, p2, _⟩ := I.tuple qb
    have l1 := rv.length
    refine wpAny_bind (zst_done hh D st p p2 (.inl (by simp; omega)) fun h' hk' => wpAny_pure ?_)
    exact hR { s with heap := h' } H acc c ts (I.turnedL (t' := s.toks) (ch := [z, TO, i1, i2]) (fun c o hb q => hk' c o (fun e => hb (by simp [e])) (fun e => hb (by simp [e])) (fun e => hb (by simp [e])) (fun e => hb (by simp [e])) q)
        (fun c hc => (hf c (List.mem_cons_of_mem _ hc)).1)) (fun _ _ e => e) (hk' S _ hS.1 hS.2.2.1 hS.2.2.2.1 hS.2.2.2.2 hL) ha ht hz
  | succ k ih =>
    intro i s H acc c ts hk hi I qa qb st hf hL ha ht hz hR
    have hlt : i < xs.length := by omega
    refine codeAny_builtin F.entry_extend_loop ?_
    rw [Around.under_plainId F.plain_extend_loop _]
    show wpAny _ A.in1 (pyNext (.ref z) >>= _) _ _ s
    obtain ⟨its, rv, p, _⟩ := I.tuple qa
    obtain ⟨its2, rv2, p2, _⟩ := I.tuple qb
    have hx : xs[i]? = some xs[i] := List.getElem?_eq_getElem hlt
    have hy : ys[i]? = some (ys[i]'(by omega)) := List.getElem?_eq_getElem (by omega)
    obtain ⟨u, hu, ru⟩ := rv.get hx
    obtain ⟨u2, hu2, ru2⟩ := rv2.get hy
    have fl : ∀ c ∈ [S, z, TO, i1, i2], c ≠ s.heap.objs.size := fun c hc => Nat.ne_of_lt (hf c hc).2
    have hsz0 : acc.size = i := by rw [← Array.length_toList, ha, List.length_map, ht]
    refine wpAny_bind (zst_item D st p p2 (u := u) (v := u2) (by simpa using hu) (by simpa using hu2) (hf S List.mem_cons_self).2 fun h' st' hT hsz hk' => ?_)
    have hL' := hk' S _ hS.1 hS.2.2.1 hS.2.2.2.1 hS.2.2.2.2 hL
    show wpAny _ A.in1 (updateSeq S (·.push (.ref s.heap.objs.size)) >>= _) _ _ _
    refine wpAny_bind ?_
    have new : ObjOk X.prog X.w (upd H s.heap.objs.size (.tup [xs[i], ys[i]'(by omega)])) h' s.heap.objs.size (.tup [xs[i], ys[i]'(by omega)]) :=
      ⟨by show 2 ≤ sizeLine; decide, [u, u2], .cons ru (.cons ru2 .nil), ⟨_, hT, rfl, _, rfl⟩⟩
    have I1 : Inv X pins σ (upd H s.heap.objs.size (.tup [xs[i], ys[i]'(by omega)])) { s with heap := h' } :=
      I.turnedNew (t' := s.toks) (ch := [z, TO, i1, i2]) (fun c o hb q => hk' c o (fun e => hb (by simp [e])) (fun e => hb (by simp [e])) (fun e => hb (by simp [e])) (fun e => hb (by simp [e])) q) (fun c hc => (hf c (List.mem_cons_of_mem _ hc)).1) (Nat.le_refl _) new
    have hnone : H s.heap.objs.size = none := I.hok.fresh (Nat.le_refl _)
    have sm : Same H (upd H s.heap.objs.size (.tup [xs[i], ys[i]'(by omega)])) := same_upd hnone
    have hf1 : ∀ c ∈ [S, z, TO, i1, i2], FpOk X pins (upd H s.heap.objs.size (.tup [xs[i], ys[i]'(by omega)])) c := fun c hc => by
      obtain ⟨q, r⟩ := (hf c hc).1
      exact ⟨by rw [upd_ne (fl c hc)]; exact q, r⟩
    refine wpAny_updateSeq hL' rfl (wpAny_pure ⟨plainId_quiet F.plain_extend_loop _, ih (i + 1) _ (upd H s.heap.objs.size (.tup [xs[i], ys[i]'(by omega)])) (acc.push (.ref s.heap.objs.size)) _ (ts ++ [s.heap.objs.size]) (by omega) hlt
      (I1.turnedL (t' := s.toks) (ch := [S]) (fun c o hb q => (Heap.get?_update_other _ _ (fun e : S = c => hb (by simp [e]))).trans q) (fun c hc => hf1 c (by rw [List.mem_singleton.mp hc]; exact List.mem_cons_self)))
      (sqT_on sm qa) (sqT_on sm qb) (st'.on D hS fun c o hc q => (Heap.get?_update_other _ _ (Ne.symm hc)).trans q) (fun c hc => ⟨hf1 c hc, ?_⟩) (Heap.get?_update_self _ hL' rfl) (by rw [Array.toList_push, ha, List.map_append]; rfl) (by rw [List.length_append, ht]; rfl) (fun j t x y h1 h2 h3 => ?_) fun s' H' acc' c' ts' I' sm' => hR s' H' acc' c' ts' I' (sm.trans sm')⟩)
      (by rw [hsz0]; omega) (by show (acc.push _).size ≤ sizeLine + 1; rw [Array.size_push, hsz0]; omega)
    · have h1 := (hf c hc).2
      show c < ((h'.update S _).objs.size)
      rw [Heap.size_update, hsz]
      exact Nat.lt_succ_of_lt h1
    · by_cases hj : j < ts.length
      · rw [List.getElem?_append_left hj] at h1
        exact sm _ _ (hz j t x y h1 h2 h3)
      · have hj' := (List.getElem?_eq_some_iff.mp h1).1
        rw [List.length_append, List.length_singleton] at hj'
        have e1 : j = i := by omega
        subst e1
        rw [List.getElem?_append_right (by omega), show j - ts.length = 0 by omega] at h1
        rw [hx] at h2
        rw [hy] at h3
        have e1 : s.heap.objs.size = t := Option.some.inj h1
        rw [← Option.some.inj h2, ← Option.some.inj h3, ← e1]
        exact upd_same

theorem collect_zip {A : Around} {E : Value → Shared → Prop} {s : Shared} {H : Hp} {z TI TO i1 i2 a b : Addr} {x0 y0 : Value} {xs ys : List V} {Q : List Value → Shared → Prop} (hh : A.handled = none) (D : ZipApart z TI TO i1 i2 a b) (hl : xs.length = ys.length) (hn : xs.length ≤ sizeLine)
    (I : Inv X pins σ H s) (qa : SqT X.K H a xs) (qb : SqT X.K H b ys) (hz : IsZip s.heap z TI TO .none) (hTI : IsPair s.heap TI (.ref i1) (.ref i2)) (hTO : IsPair s.heap TO x0 y0) (h1 : s.heap.IsTupleIter i1 a 0) (h2 : s.heap.IsTupleIter i2 b 0)
    (hf : ∀ c ∈ [z, TO, i1, i2], FpOk X pins H c) (hQ : ∀ (s' : Shared) (H' : Hp) (ts : List Addr), Inv X pins σ H' s' → Same H H' → ts.length = xs.length → Zs H' xs ys ts → Q (ts.map Value.ref) s') :
    wpAny (model X.prog X.w) A (collect (.ref z)) Q E s := by
  obtain ⟨oi1, ho1, hc1, hd1⟩ := id h1
  obtain ⟨oi2, ho2, hc2, hd2⟩ := id h2
  have lt : ∀ {c o}, s.heap.get? c = some o → s.heap.objs.size ≠ c := fun e => Nat.ne_of_gt (Heap.lt_size e)
  have hS : s.heap.objs.size ≠ z ∧ s.heap.objs.size ≠ TI ∧ s.heap.objs.size ≠ TO ∧ s.heap.objs.size ≠ i1 ∧ s.heap.objs.size ≠ i2 := ⟨lt hz, lt hTI, lt hTO, lt ho1, lt ho2⟩
  have hSf : FpOk X pins H s.heap.objs.size := I.fpOk (Nat.le_refl _) (I.hok.fresh (Nat.le_refl _))
  unfold collect
  refine wpAny_bind (wpAny_runValue (codeAny_builtin F.entry_proto_collect ?_))
  rw [Around.under_plainId F.plain_proto_collect _]
  show wpAny _ A.in1 (newList [] >>= fun l' => again (.builtin "list.__iadd__" ⟨[l', .ref z], []⟩)) _ _ s
  refine wpAny_bind (wpAny_newObj_type ?_)
  refine wpAny_pure ⟨plainId_quiet F.plain_list_iadd _, codeAny_builtin F.entry_list_iadd ?_⟩
  rw [Around.under_plainId F.plain_list_iadd _]
  have hz1 : IsZip (s.heap.push { cls := .type "list", data := .seq ([] : List Value).toArray }) z TI TO .none := Heap.get?_push_of_some _ hz
  have hT1 : ({ s with heap := s.heap.push { cls := .type "list", data := .seq ([] : List Value).toArray } } : Shared).TypeIs (.ref z) "zip" := ⟨_, hz1, rfl⟩
  show wpAny _ A.in1 (Builtin.List.listExtendWith (.ref s.heap.objs.size) (.ref z) (.ref s.heap.objs.size)) _ _ _
  unfold Builtin.List.listExtendWith
  refine wpAny_bind (wpAny_typeOf hT1 ?_)
  have e1 : Builtin.List.listSameRef (.ref s.heap.objs.size) (.ref z) = false := by simp [Builtin.List.listSameRef, hS.1]
  have e2 : (Value.type "zip" == Value.type "list") = false := by decide
  have e3 : (Value.type "zip" == Value.type "tuple") = false := by decide
  simp only [e1, e2, e3, Bool.or_false, Bool.false_eq_true, if_false]
  refine wpAny_bind (wpAny_pyIter_zip (s := { s with heap := s.heap.push { cls := .type "list", data := .seq ([] : List Value).toArray } }) hz1 ?_)
  refine wpAny_bind (wpAny_holding ?_)
  unfold Builtin.List.listLengthHint
  refine wpAny_bind (wpAny_specialOf hT1 nolen_zip ?_)
  show wpAny _ A.in1 (specialOf (Value.ref z) (Str.ofString "__length_hint__") >>= _) _ _ _
  refine wpAny_bind (wpAny_specialOf hT1 hint_zip ?_)
  refine wpAny_pure ?_
  show wpAny _ A.in1 (rule "list.extend.makes-room" >>= fun _ => Builtin.List.listTouch (.ref s.heap.objs.size) >>= fun _ =>
    again (.builtin "list.extend.loop" ⟨[.ref s.heap.objs.size, .ref z, .ref s.heap.objs.size], []⟩)) _ _ _
  refine wpAny_bind (wpAny_rule ?_)
  have hS₁ : (s.heap.push { cls := .type "list", data := .seq ([] : List Value).toArray }).get? s.heap.objs.size = some { cls := .type "list", data := .seq ([] : List Value).toArray } := Heap.get?_push_size _ rfl
  refine wpAny_bind ?_
  show wpAny _ A.in1 (updateSeq s.heap.objs.size (·.push .none) >>= fun _ => updateSeq s.heap.objs.size (·.pop)) _ _ _
  refine wpAny_bind (wpAny_updateSeq hS₁ rfl ?_)
  have hS₂ := Heap.get?_update_self (Obj.mapSeq (·.push Value.none)) hS₁ rfl
  refine wpAny_updateSeq hS₂ rfl ?_
  have hS₃ := Heap.get?_update_self (Obj.mapSeq (·.pop)) hS₂ rfl
  have oth : ∀ b o, b ≠ s.heap.objs.size → s.heap.get? b = some o →
      (((s.heap.push { cls := .type "list", data := .seq ([] : List Value).toArray }).update s.heap.objs.size (Obj.mapSeq (·.push Value.none))).update s.heap.objs.size (Obj.mapSeq (·.pop))).get? b = some o :=
    fun b o hb e => (Heap.get?_update_other _ _ (Ne.symm hb)).trans ((Heap.get?_update_other _ _ (Ne.symm hb)).trans (Heap.get?_push_of_some _ e))
  have I1 : Inv X pins σ H { s with heap := ((s.heap.push { cls := .type "list", data := .seq ([] : List Value).toArray }).update s.heap.objs.size (Obj.mapSeq (·.push Value.none))).update s.heap.objs.size (Obj.mapSeq (·.pop)) } :=
    I.turnedL (t' := s.toks) (ch := [s.heap.objs.size]) (fun b o hb e => oth b o (fun q => hb (by simp [q])) e) (fun c hc => by rw [List.mem_singleton.mp hc]; exact hSf)
  have hsz : (((s.heap.push { cls := .type "list", data := .seq ([] : List Value).toArray }).update s.heap.objs.size (Obj.mapSeq (·.push Value.none))).update s.heap.objs.size (Obj.mapSeq (·.pop))).objs.size = s.heap.objs.size + 1 := by
    rw [Heap.size_update, Heap.size_update, Heap.size_push]
  refine wpAny_pure ⟨plainId_quiet F.plain_extend_loop _, ext_zip (X := X) (pins := pins) (σ := σ) (A := A) hh D hS hl hn xs.length 0 _ H _ _ [] (by omega) (Nat.zero_le _) I1 qa qb
    ⟨oth _ _ (Ne.symm hS.2.1) hTI, ⟨oi1, oth _ _ (Ne.symm hS.2.2.2.1) ho1, hc1, hd1⟩, ⟨oi2, oth _ _ (Ne.symm hS.2.2.2.2) ho2, hc2, hd2⟩, .inl ⟨oth _ _ (Ne.symm hS.1) hz, _, _, oth _ _ (Ne.symm hS.2.2.1) hTO⟩⟩ (fun c hc => ?_) hS₃ rfl rfl (fun j t x y h => by simp at h) fun s' H' acc' c' ts' I' sm hL' ha hl' hz' => ?_⟩
  · show FpOk X pins H c ∧ c < (((s.heap.push { cls := .type "list", data := .seq ([] : List Value).toArray }).update s.heap.objs.size (Obj.mapSeq (·.push Value.none))).update s.heap.objs.size (Obj.mapSeq (·.pop))).objs.size
    rw [hsz]
    rcases List.mem_cons.mp hc with rfl | hc
    · exact ⟨hSf, Nat.lt_succ_self _⟩
    · refine ⟨hf c hc, ?_⟩
      have e' : c = z ∨ c = TO ∨ c = i1 ∨ c = i2 := by simpa using hc
      refine Nat.lt_succ_of_lt ?_
      rcases e' with q | q | q | q
      · rw [q]; exact Heap.lt_size hz
      · rw [q]; exact Heap.lt_size hTO
      · rw [q]; exact Heap.lt_size ho1
      · rw [q]; exact Heap.lt_size ho2
  · show wpAny _ A (load s.heap.objs.size >>= _) _ _ s'
    refine wpAny_bind (wpAny_load hL' ?_)
    refine wpAny_pure ?_
    show Q acc'.toList s'
    rw [ha]
    exact hQ s' H' ts' I' sm hl' hz'
theorem code_tuple_new_zip {A : Around} {E : Value → Shared → Prop} {s : Shared} {H : Hp} {z TI TO i1 i2 a b : Addr} {x0 y0 : Value} {xs ys : List V} {Q₁ : Value → Shared → Prop} (hh : A.handled = none) (D : ZipApart z TI TO i1 i2 a b) (hl : xs.length = ys.length) (hn : xs.length ≤ sizeLine)
    (I : Inv X pins σ H s) (qa : SqT X.K H a xs) (qb : SqT X.K H b ys) (hz : IsZip s.heap z TI TO .none) (hTI : IsPair s.heap TI (.ref i1) (.ref i2)) (hTO : IsPair s.heap TO x0 y0) (h1 : s.heap.IsTupleIter i1 a 0) (h2 : s.heap.IsTupleIter i2 b 0)
    (hf : ∀ c ∈ [z, TO, i1, i2], FpOk X pins H c) (h : ∀ (s' : Shared) (H' : Hp) (ts : List Addr), Inv X pins σ H' s' → Same H H' → ts.length = xs.length → Zs H' xs ys ts → Q₁ (.ref s'.heap.objs.size) { s' with heap := s'.heap.push { cls := .type "tuple", data := .seq (ts.map Value.ref).toArray } }) :
    codeAny (model X.prog X.w) A (.call (.builtin "tuple.__new__") ⟨[.type "tuple", .ref z], []⟩) (wants Q₁ E) s := by
  refine codeAny_of_tree ?_
  show wpAny _ A.in1 (do checkBuiltinCall "tuple.__new__" ⟨[.type "tuple", .ref z], []⟩; again (.builtin "tuple.__new__" ⟨[.type "tuple", .ref z], []⟩)) _ _ s
  refine wpAny_bind (wpAny_of_eq (F.newCall_tuple_1 _) (wpAny_pure ⟨plainId_quiet F.plain_tuple_new _, codeAny_builtin F.entry_tuple_new ?_⟩))
  rw [Around.under_plainId F.plain_tuple_new _]
  have hsub := sub_tuple_self
  have hinit := init_tuple_lookup
  have hmh := madeHere_tuple
  have hTI' : s.TypeIs (.ref z) "zip" := ⟨_, hz, rfl⟩
  have hh1 : A.in1.handled = none := hh
  wp_walk using wpAny_typeOf hTI', collect_zip (A := A.in1) hh1 D hl hn I qa qb hz hTI hTO h1 h2 hf
  intro s' H' ts I' sm hl' hz'
  show wpAny _ _ (Builtin.Tuple.tupleExact (ts.map Value.ref).toArray >>= fun v => ret v) _ _ _
  unfold Builtin.Tuple.tupleExact
  refine wpAny_bind (wpAny_newObj_type ?_ (by show (ts.map Value.ref).toArray.size ≤ sizeLine; rw [List.size_toArray, List.length_map, hl']; exact hn))
  exact wpAny_pure (h s' H' ts I' sm hl' hz')
theorem call_tuple_zip {A : Around} {E : Value → Shared → Prop} {s : Shared} {H : Hp} {z TI TO i1 i2 a b : Addr} {x0 y0 : Value} {xs ys : List V} {Q : Value → Shared → Prop} (hh : A.handled = none) (D : ZipApart z TI TO i1 i2 a b) (hl : xs.length = ys.length) (hn : xs.length ≤ sizeLine)
    (I : Inv X pins σ H s) (qa : SqT X.K H a xs) (qb : SqT X.K H b ys) (hz : IsZip s.heap z TI TO .none) (hTI : IsPair s.heap TI (.ref i1) (.ref i2)) (hTO : IsPair s.heap TO x0 y0) (h1 : s.heap.IsTupleIter i1 a 0) (h2 : s.heap.IsTupleIter i2 b 0)
    (hf : ∀ c ∈ [z, TO, i1, i2], FpOk X pins H c) (hQ : ∀ (s' : Shared) (H' : Hp) (ts : List Addr), Inv X pins σ H' s' → Same H H' → ts.length = xs.length → Zs H' xs ys ts → Q (.ref s'.heap.objs.size) { s' with heap := s'.heap.push { cls := .type "tuple", data := .seq (ts.map Value.ref).toArray } }) :
    wpAny (model X.prog X.w) A (call (.type "tuple") [.ref z]) Q E s := by
  refine callType_codes (Q₁ := fun obj s₁ => s₁.TypeIs obj "tuple" ∧ Q obj s₁) F.called_tuple (F.typeCall_tuple_1 _) F.entry_object_init
    (code_tuple_new_zip (A := A.in1) hh D hl hn I qa qb hz hTI hTO h1 h2 hf fun s' H' ts I' sm hl' hz' => ⟨⟨_, Heap.get?_push_size _ rfl, rfl⟩, hQ s' H' ts I' sm hl' hz'⟩) fun obj s₁ h₁ => ?_
  exact ⟨h₁.1, F.args_object_init_2 obj _, object_init_meets F.called_tuple.init.lookup F.called_tuple.made (by decide) X.prog X.w A.in1 _ s₁ ⟨h₁.1, rfl, h₁.2⟩⟩
end
section
variable {X : Cx}
/-- tuple(zip(a, b)) of two tuples of one length -/
def tTupZip (K : PySem.W.Frag) (ta : TA) : TE := fun σ H Q => ta σ H fun vs H1 => ∃ a b xs ys, vs = [V.ref a, V.ref b] ∧ SqT K H1 a xs ∧ SqT K H1 b ys ∧ xs.length = ys.length ∧ xs.length ≤ sizeLine ∧
  ∀ (p : Addr) (ts : List Addr) H2, Same H1 H2 → H2 p = some (.tup (ts.map V.ref)) → ts.length = xs.length → Zs H2 xs ys ts → Q (.ref p) H2
theorem vals_refs : ∀ ts : List Addr, Vals (ts.map V.ref) (ts.map Value.ref)
  | [] => .nil
  | t :: r => .cons rfl (vals_refs r)
/-- a fresh zip of two tuples -/
def AtZip (X : Cx) (pins : List (Addr × Obj)) (σ : L2.St) (R : List V → List V → Hp → Prop) : Value → Shared → Prop := fun x s1 => ∃ (z TI TO i1 i2 a b : Addr) (x0 y0 : Value) (xs ys : List V) (H1 : Hp), x = .ref z ∧ ZipApart z TI TO i1 i2 a b ∧ Inv X pins σ H1 s1 ∧ SqT X.K H1 a xs ∧ SqT X.K H1 b ys ∧
  IsZip s1.heap z TI TO .none ∧ IsPair s1.heap TI (.ref i1) (.ref i2) ∧ IsPair s1.heap TO x0 y0 ∧ s1.heap.IsTupleIter i1 a 0 ∧ s1.heap.IsTupleIter i2 b 0 ∧ (∀ c ∈ [z, TO, i1, i2], FpOk X pins H1 c) ∧ R xs ys H1
theorem eval_zip {e e2 : Expr} {ta : TA} {p pos : Pos} {pins : List (Addr × Obj)} {σ : L2.St} {H : Hp} {s : Shared} {R : List V → List V → Hp → Prop} (hg : Gl X "zip") (hm : X.mg "zip" = none) (ha : PA X [e, e2] ta) (I : Inv X pins σ H s)
    (h : ta σ H fun vs H1 => ∃ a b xs ys, vs = [V.ref a, V.ref b] ∧ SqT X.K H1 a xs ∧ SqT X.K H1 b ys ∧ R xs ys H1)
    (hs : starEach [e, e2] X.env = (false, eval e X.env) :: starEach [e2] X.env := by rfl) (hpl : (backTo pos (starEach [e2] X.env)).any (·.1) = false := by rfl) :
    wpAny (model X.prog X.w) X.A (eval (.Call (.Name "zip" p) [e, e2] [] pos) X.env) (AtZip X pins σ R) X.xe s := by
  refine Call_ (ld_blt I hg hm PyProof.Rows.boot_zip (PyProof.Rows.callWith_type1 (thn (ha.run pos pins s σ H _ I h) fun us s1 ⟨vs, H1, I1, r1, q1⟩ => ?_) hs hpl))
  obtain ⟨a, b, xs, ys, ex, qa, qb, q⟩ := q1
  subst ex
  cases r1 with
  | cons r rr =>
    cases rr with
    | cons r' rr =>
      cases rr
      cases r
      cases r'
      obtain ⟨its, rv, p1, _⟩ := I1.tuple qa
      obtain ⟨its2, rv2, p2, _⟩ := I1.tuple qb
      obtain ⟨o1, ho1, _⟩ := id p1
      obtain ⟨o2, ho2, _⟩ := id p2
      refine call_zipT (show s1.heap.IsTuple a its.toArray from p1) (show s1.heap.IsTuple b its2.toArray from p2) fun h' hz hTI hTO h1 h2 hsz hk => ?_
      have I2 : Inv X pins σ H1 { s1 with heap := h' } := I1.kept (t' := s1.toks) hk
      refine ⟨s1.heap.objs.size + 4, s1.heap.objs.size + 2, s1.heap.objs.size + 3, s1.heap.objs.size, s1.heap.objs.size + 1, a, b, _, _, xs, ys, H1, rfl, PySem.W.ktu_apart s1.heap.objs.size a b (Heap.lt_size ho1) (Heap.lt_size ho2), I2, qa, qb, hz, hTI, hTO, h1, h2, fun c hcm => ?_, q⟩
      have e' : c = s1.heap.objs.size + 4 ∨ c = s1.heap.objs.size + 3 ∨ c = s1.heap.objs.size ∨ c = s1.heap.objs.size + 1 := by simpa using hcm
      have hle : s1.heap.objs.size ≤ c := by
        rcases e' with z | z | z | z
        · rw [z]; exact Nat.le_add_right _ _
        · rw [z]; exact Nat.le_add_right _ _
        · rw [z]; exact Nat.le_refl _
        · rw [z]; exact Nat.le_add_right _ _
      exact I1.fpOk hle (I1.hok.fresh hle)
theorem pe_tupZip {e e2 : Expr} {ta : TA} {p p2 pos pos2 : Pos} (hc : X.calm = true) (hg : Gl X "tuple") (hm : X.mg "tuple" = none) (hg2 : Gl X "zip") (hm2 : X.mg "zip" = none) (ha : PA X [e, e2] ta)
    (hs : starEach [e, e2] X.env = (false, eval e X.env) :: starEach [e2] X.env := by rfl) (hpl : (backTo pos2 (starEach [e2] X.env)).any (·.1) = false := by rfl)
    (na : starEach [.Call (.Name "zip" p2) [e, e2] [] pos2] X.env = (false, eval (.Call (.Name "zip" p2) [e, e2] [] pos2) X.env) :: starEach [] X.env := by rfl) :
    PE X (.Call (.Name "tuple" p) [.Call (.Name "zip" p2) [e, e2] [] pos2] [] pos) (tTupZip X.K ta) := by
  refine ⟨fun pins s σ H Q I h => ?_⟩
  refine Call_ (ld_blt I hg hm boot_tuple (PyProof.Rows.callWith_type1 (args_cons (thn (eval_zip (R := fun xs ys H1 => xs.length = ys.length ∧ xs.length ≤ sizeLine ∧ ∀ (p : Addr) (ts : List Addr) H2, Same H1 H2 → H2 p = some (.tup (ts.map V.ref)) → ts.length = xs.length → Zs H2 xs ys ts → Q (.ref p) H2) hg2 hm2 ha I h hs hpl) fun x s1 hx => args_nil ?_) na) na))
  obtain ⟨z, TI, TO, i1, i2, a, b, x0, y0, xs, ys, H1, rfl, D, I1, qa, qb, hz, hTI, hTO, h1, h2, hf, hl, hn, q⟩ := hx
  refine call_tuple_zip (I1.ok.hd hc) D hl hn I1 qa qb hz hTI hTO h1 h2 hf fun s' H' ts I' sm hl' hz' => ?_
  have hno : H' s'.heap.objs.size = none := I'.hok.fresh (Nat.le_refl _)
  have sm2 := same_upd (o := .tup (ts.map V.ref)) hno
  exact ⟨.ref s'.heap.objs.size, upd H' s'.heap.objs.size (.tup (ts.map V.ref)), I'.laid (t' := s'.toks) (fun b o e => Heap.get?_push_of_some _ e) (Nat.le_refl _) (show ObjOk X.prog X.w _ _ _ (.tup (ts.map V.ref)) from ⟨by rw [List.length_map, hl']; exact hn, ts.map Value.ref, vals_refs ts, IsTup.new _ _⟩), rfl,
    q _ ts _ (sm.trans sm2) upd_same hl' (hz'.on sm2)⟩
end
end My

/-! My own rules: an operator between two instances of a class that has no reflected method for it. -/
namespace My
open PySem PySem.Spec PyProof.Rows L2
structure OpN (K : PySem.W.Frag) (C : Addr) (nm : String) (f : Addr) : Prop where
  sf : PySem.W.selfFirst K C = true
  ls : PySem.W.findIn K (.ref C) (PySem.dunder nm) = some (some (.ref f))
  lf : PySem.W.isFn K (.ref f) = true
section
variable {prog : Program} {w : World} {A : Around} {Ex : Value → Shared → Prop} {s : Shared} {K : PySem.W.Frag} {C f : Addr} {nm : String}
open PySem.W
theorem b1_ownN {x y : Addr} {odx ody : Option Obj} {ox oy : Obj} {Q : Value → Shared → Prop} (X : K.In s.heap) (O : OpN K C nm f) (I : InstAt s.heap x ox C odx) (J : InstAt s.heap y oy C ody)
    (h : wpAny (model prog w) A (call (.ref f) [.ref x, .ref y]) (PySem.W.CmpBack Q) Ex s) : wpAny (model prog w) A (binaryOp1 nm (.ref x) (.ref y)) (fun r s' => ∃ v, r = some v ∧ Q v s') Ex s := by
  obtain ⟨cd, rest, hcd, hm⟩ := ksp_first O.sf
  unfold binaryOp1
  refine wpAny_bind (I.type.here (wpAny_bind (J.type.here (wpAny_bind ((fills_K X hcd hm O.ls).here ?_)))))
  simp only [beq_self_eq_true, if_true]
  refine wpAny_bind (wpAny_pure ?_)
  simp only [Bool.and_false, Bool.false_eq_true, if_false, Bool.false_and]
  refine wpAny_bind (wpAny_pure ?_)
  simp only [Bool.false_eq_true, if_false]
  refine wpAny_bind (m := tryMethod (.ref x) _ (.ref y)) (wpAny_mono (ksp_try X I O.ls O.lf h) (fun r s' hr => ?_) fun _ _ e => e)
  obtain ⟨v, rfl, hq⟩ := hr
  exact wpAny_pure ⟨v, rfl, hq⟩
end
section
variable {X : Cx} {CX : CXT} {k : Nat} {C f : Addr} {fd : FuncData} {ps : List Str} {sp : Sp} {E : XK} {op : Operator}
theorem op_nn {nm : String} (hn : op.info.2 = nm) (O : OpN X.K C nm f) (F : FnOk X.prog X.w X.K X.mg X.base CX k f fd ps sp) (hr : Room k X.A) (hb : Binds X.K fd ps []) (hx : Passes CX X E) : OpR X (binaryOp op) (rOO C sp E) := by
  intro pins s σ H x y v u Q I rx ry h
  refine bin_of hn ?_
  obtain ⟨a, dx, fs, b, dy, gs, rfl, rfl, ea, eb, q⟩ := h
  obtain rfl : v = Value.ref a := rx
  obtain rfl : u = Value.ref b := ry
  obtain ⟨mA, J, _⟩ := ins_get I.hok ea
  obtain ⟨od, J, _⟩ := J.look
  obtain ⟨mB, J', _⟩ := ins_get I.hok eb
  obtain ⟨od', J', _⟩ := J'.look
  exact b1_ownN I.kIn O J J' (wpAny_mono (run_own (vs := [V.ref a, V.ref b]) F hr hb hx I (.cons rfl (.cons rfl .nil)) q) (fun _ _ z => back_of z) fun _ _ e => e)
theorem op_notInR {j : Nat} (hr : Room j X.A) : OpR X (compareOp .NotIn) (rNotInD X.K) := op_notInD (by have := hr.un; omega)
end
end My

/-! My own rule: several except clauses, each with a name of its own. -/
namespace My
open PySem PySem.Spec PyProof.Rows L2
/-- a clause: the class, the slot of its name, what its suite asks -/
abbrev Clause := Value × Nat × (Addr → Value → Option Addr → TS)
def wAsMany (K : PySem.W.Frag) (Wout : WX) (D : Ends) : List Clause → WX
  | [] => Wout
  | (c, i, ts) :: r => wAs K c i ts (wAsMany K Wout D r) D
inductive HdsAs (X : Cx) : List ExceptHandler → List Clause → Prop
  | nil : HdsAs X [] []
  | cons {x n : Str} {c : Value} {i : Nat} {ts : Addr → Value → Option Addr → TS} {b0 : Stmt} {suite : List Stmt} {np pos' : Pos} {hds : List ExceptHandler} {l : List Clause} (hi : X.N[i]? = some n) (hln : X.env.kindOf n = some .local) (hc : Names X x c)
      (hsu : ∀ (a : Addr) (oe : Obj) (cls : Value) (d : Option Addr) (pn : List (Addr × Obj)), Zc cls d oe → (∃ vs, oe.data = .fields vs) → PSs (X.suite a ((a, oe) :: pn)) (b0 :: suite) (ts a cls d)) (r : HdsAs X hds l) :
      HdsAs X (.ExceptHandler (some (.Name x np)) (some n) (b0 :: suite) pos' :: hds) ((c, i, ts) :: l)
section
variable {X : Cx} {body : List Stmt} {h0 : ExceptHandler} {hds : List ExceptHandler} {l : List Clause} {pos : Pos} {tb : WX → TS} {Wout : WX}
theorem ps_try_asMany (hs : X.stack = X.env :: X.outer) (hf : X.env.frame = some X.env.locals) (hN : X.N.Nodup) (tk : Takes X Wout)
    (hb : ∀ (W : WX) (pn : List (Addr × Obj)) (xe : Value → Shared → Prop), Takes (X.tr pn xe) W → PassesOwn (model X.prog X.w) X.A X.env xe → PSs (X.tr pn xe) body (tb W))
    (hh : HdsAs X (h0 :: hds) l) : PS X (.Try body (h0 :: hds) [] [] pos) (fun D σ H => tb (wAsMany X.K Wout D l) D σ H) := by
  refine ⟨fun pins s σ H D I h => ?_⟩
  have ok := I.ok
  have hfr : X.A.frames = some (X.env :: X.outer) := by rw [ok.frames, hs]
  refine wpAny_Try_except ?_
  refine wpAny_mono ((hb (wAsMany X.K Wout D l) (X.pn ++ pins) (fun e s1 => wpAny (model X.prog X.w) X.A (noteFrame e X.env) (fun _ s2 => wpAny (model X.prog X.w) X.A (setFlight e none) (fun _ s3 =>
    wpAny (model X.prog X.w) X.A (handleBy e X.env (h0 :: hds)) (SP X pins D) X.xe s3) X.xe s2) X.xe s1) (fun u s' xx => ?_) PassesOwn.looking).run [] s σ H D (I.toTry _) h) (fun f s1 hsp => ?_) (fun e s1 he => he)
  · obtain ⟨a, B, sI, pins', σ', H', cls, d, rfl, J', nb, up, sky, na, os, ag, w⟩ := xx
    have J : Inv X pins σ' H' sI := J'.ofTry ok
    have sky' : Sky B (X.env :: X.outer) a (Zc cls d) X.env.locals s'.heap := by rw [← hs]; exact sky
    show wpAny (model X.prog X.w) X.A (noteFrame (.ref a) X.env) _ _ _
    refine Sky.land Zc.steady hfr hf sky' fun h3 fl3 up3 => ?_
    have J3 : Inv X pins σ' H' { s' with heap := h3 } := J.landed nb fl3.1 (up.trans up3) os ag
    obtain ⟨oe3, vs3, he3, hz3, hd3⟩ := fl3.there
    have nfr : a ∉ frs (X.env :: X.outer) := fun hm => by
      obtain ⟨_, o', e', hnf⟩ := fl3.2.2.1.mem hm
      rw [he3] at e'; cases e'
      exact hnf _ hd3
    have nL : a ≠ X.env.locals := fun z => nfr (List.mem_filterMap.mpr ⟨X.env, List.mem_cons_self, by rw [hf, z]⟩)
    have nF : a ∉ X.fs := fun hm => by
      obtain ⟨e, he, q⟩ := List.mem_filterMap.mp hm
      exact nfr (List.mem_filterMap.mpr ⟨e, List.mem_cons_of_mem _ he, q⟩)
    have S3 := J3.suite he3 hd3 na nL nF
    have go : ∀ {hds' : List ExceptHandler} {l' : List Clause}, HdsAs X hds' l' → wAsMany X.K Wout D l' cls d σ' H' →
        wpAny (model X.prog X.w) X.A (handleBy (.ref a) X.env hds') (SP X pins D) X.xe { s' with heap := h3 } := by
      intro hds' l' hk
      induction hk with
      | nil =>
        intro w
        refine wpAny_handleBy_nil ?_
        obtain ⟨k1, k2, k3, oe, vs, T, oT, ts', he, hz, hd, h1, hr⟩ := id fl3
        unfold PySem.passOn
        refine wpAny_bind (wpAny_field he hd h1 ?_)
        rw [if_neg (show ¬ ((Value.ref T == Value.none) = true) from by simp)]
        have fin : wpAny (model X.prog X.w) X.A (setFlight (.ref a) X.env.frame) (fun _ s4 => wpAny (model X.prog X.w) X.A (throw (.ref a) : Sem Flow) (SP X pins D) X.xe s4) X.xe { s' with heap := h3 } := by
          rw [hf]
          refine HandSPX.setFlight_upZ fl3 fun h4 hh4 up4 => wpAny_throw (tk _ _ ?_)
          exact ⟨a, B, sI, pins, σ', H', cls, d, rfl, J, nb, (up.trans up3).trans up4, .inr (.inr (by rw [hs]; exact hh4)), na, os, ag, w⟩
        first
          | exact wpAny_bind (wpAny_pure (wpAny_bind fin))
          | exact wpAny_bind fin
      | @cons x n c i ts b0 suite np pos' hds2 l2 hi hln hc hsu r ih =>
        intro w
        obtain ⟨b, hb1, hyes, hno⟩ := w
        have hloc : Loc X.env.scope n := .inl hln
        refine wpAny_handleBy_cons (codeAny_handlers_test ?_) (by intro q; cases q)
        have LT : PySem.W.Looks (model X.prog X.w) h3 (typeOf (.ref a)) cls := fun A Q E s k q => wpAny_typeOf_ref (k _ _ he3) (by rw [hz3.1]; exact q)
        have LM := PySem.W.exm_one (M := model X.prog X.w) (J3.kIn) LT hb1
        have test : ∀ {Q : Value → Shared → Prop} {E : Value → Shared → Prop}, Q c { s' with heap := h3 } → wpAny (model X.prog X.w) (X.A.mark (some (.ref a))) (eval (.Name x np) X.env) Q E { s' with heap := h3 } := fun {Q E} q => by
          obtain ⟨hg, hdbg, hm | ⟨hm, hv, hnn⟩⟩ := hc
          · exact ld_glob (X := X.suite a ((a, oe3) :: (X.pn ++ pins))) S3 hg hm q hdbg
          · exact ld_blt (X := X.suite a ((a, oe3) :: (X.pn ++ pins))) S3 hg hm hv q hnn hdbg
        refine test (LM.here ?_)
        cases b with
        | true =>
          refine codeAny_handlers_suite_as ?_
          refine HandSPX.lands_againZ fl3 fun h4 fl4 up4 => ?_
          have J4 : Inv X pins σ' H' { s' with heap := h4 } := J.landed nb fl4.1 ((up.trans up3).trans up4) os ag
          obtain ⟨oe4, vs4, he4, hz4, hd4⟩ := fl4.there
          have S4 := J4.suite he4 hd4 na nL nF
          refine store_ok (X := X.suite a ((a, oe4) :: (X.pn ++ pins))) (v := .ref a) S4 hN hi hloc rfl (fun s5 S5 => ?_) (.inr hln)
          refine wpAny_mono ((hsu a oe4 cls d (X.pn ++ pins) hz4 ⟨_, hd4⟩).run [] s5 _ H' _ S5 (hyes rfl a na)) (fun f s6 hsp => ?_) (fun _ _ z => False.elim z)
          have end_ : ∀ {σ6 : L2.St} {H6 : Hp} {Q : Shared → Prop}, Inv (X.suite a ((a, oe4) :: (X.pn ++ pins))) [] σ6 H6 s6 → (∀ s7, Inv X pins (σ6.set i none) H6 s7 → Q s7) →
              wpAny (model X.prog X.w) X.A (do bindName X.env n .none; unbindBehindTheSuite X.env n pos') (fun _ s7 => Q s7) X.xe s6 := fun {σ6 H6 Q} S6 hq => gone_ok (S6.unsuite ok) hN hi hln hq
          cases f with
          | next =>
            obtain ⟨σ6, H6, S6, q6⟩ := hsp
            exact end_ S6 fun s7 J7 => ⟨_, _, J7, q6⟩
          | brk =>
            obtain ⟨σ6, H6, S6, q6⟩ := hsp
            exact end_ S6 fun s7 J7 => ⟨_, _, J7, q6⟩
          | cont =>
            obtain ⟨σ6, H6, S6, q6⟩ := hsp
            exact end_ S6 fun s7 J7 => ⟨_, _, J7, q6⟩
          | ret u =>
            obtain ⟨v6, σ6, H6, S6, r6, q6⟩ := hsp
            exact end_ S6 fun s7 J7 => ⟨_, _, _, J7, r6, q6⟩
        | false =>
          show wpAny _ X.A (handleBy (.ref a) X.env hds2) _ _ _
          exact ih (hno rfl)
    exact go hh w
  · cases f with
    | next =>
      obtain ⟨σ', H', J', q⟩ := hsp
      exact wpAny_execs_nil ⟨σ', H', J'.ofTry ok, q⟩
    | brk =>
      obtain ⟨σ', H', J', q⟩ := hsp
      exact ⟨σ', H', J'.ofTry ok, q⟩
    | cont =>
      obtain ⟨σ', H', J', q⟩ := hsp
      exact ⟨σ', H', J'.ofTry ok, q⟩
    | ret u =>
      obtain ⟨v, σ', H', J', r, q⟩ := hsp
      exact ⟨v, σ', H', J'.ofTry ok, r, q⟩
end
end My

/-! My own rules: o[k], o[k] = v, k in o, len(o) by the methods of an own class, also where they raise. -/
namespace My
open PySem PySem.Spec PyProof.Rows L2
/-- a method of the class for an operator -/
structure DunC (K : PySem.W.Frag) (C : Addr) (nm : Str) (f : Addr) : Prop where
  at_ : PySem.W.findIn K (.ref C) nm = some (some (.ref f))
  fn : PySem.W.isFn K (.ref f) = true
  fi : PySem.W.fnIn K f = true
  ns : PySem.W.noSeq K C = true
section
variable {X : Cx} {CX : CXT} {k : Nat} {C f : Addr} {fd : FuncData} {ps : List Str} {sp : Sp} {E : XK}
theorem passesAtOf {E : XK} (h : Passes CX X E) (σ : L2.St) : PassesAt CX X σ E := fun pins H s e s' I c => h pins σ H s e s' I c
theorem run_ownS {pins : List (Addr × Obj)} {s : Shared} {σ : L2.St} {H : Hp} {Q : VK} {us : List Value} {vs : List V} (F : FnOk X.prog X.w X.K X.mg X.base CX k f fd ps sp) (hr : Room k X.A) (hb : Binds X.K fd ps []) (hx : PassesAt CX X σ E)
    (I : Inv X pins σ H s) (r : Vals vs us) (h : sp vs H Q E) : wpAny (model X.prog X.w) X.A (call (.ref f) us) (EP X pins σ Q) X.xe s := by
  have hl : (us ++ []).length = ps.length := by
    rw [List.append_nil, ← F.len _ _ _ _ h]
    exact r.length.symm
  refine wpAny_call (codeAny_mono (F.run X.A X.stack s H ⟨us, []⟩ us vs _ E hr I.env0 (by
    have := hb s us I.kIn hl
    rw [List.append_nil] at this
    exact this) r h) fun r s' hq => ?_)
  cases r with
  | error e => exact hx pins H s e s' I hq
  | ok fl =>
    cases fl with
    | ret w => exact I.after hq
    | next => exact False.elim hq
    | brk => exact False.elim hq
    | cont => exact False.elim hq
theorem run_own1S {pins : List (Addr × Obj)} {s : Shared} {σ : L2.St} {H : Hp} {Q : VK} {us : List Value} {vs : List V} (F : FnOk X.prog X.w X.K X.mg X.base CX k f fd ps sp) (hr : Room (k + 1) X.A) (hb : Binds X.K fd ps []) (hx : PassesAt CX X σ E)
    (I : Inv X pins σ H s) (r : Vals vs us) (h : sp vs H Q E) : wpAny (model X.prog X.w) X.A.in1 (call (.ref f) us) (EP X pins σ Q) X.xe s := by
  have hl : (us ++ []).length = ps.length := by
    rw [List.append_nil, ← F.len _ _ _ _ h]
    exact r.length.symm
  refine wpAny_call (codeAny_mono (F.run X.A.in1 X.stack s H ⟨us, []⟩ us vs _ E hr.in1 I.env0.in1 (by
    have := hb s us I.kIn hl
    rw [List.append_nil] at this
    exact this) r h) fun r s' hq => ?_)
  cases r with
  | error e => exact hx pins H s e s' I hq
  | ok fl =>
    cases fl with
    | ret w => exact I.after hq
    | next => exact False.elim hq
    | brk => exact False.elim hq
    | cont => exact False.elim hq
/-! ### o[k] -/
def tGetO (C : Addr) (sp : Sp) (E : L2.St → XK) (ta tb : TE) : TE := fun σ H Q => ta σ H fun x H1 => tb σ H1 fun y H2 => ∃ a dx fs, x = V.ref a ∧ H2 a = some (.ins C dx fs) ∧ sp [.ref a, y] H2 Q (E σ)
theorem pe_getO {E : L2.St → XK} {a b : Expr} {ta tb : TE} {pos : Pos} (D : DunC X.K C "__getitem__" f) (F : FnOk X.prog X.w X.K X.mg X.base CX k f fd ps sp) (hr : Room (k + 1) X.A) (hb : Binds X.K fd ps []) (hx : ∀ σ, PassesAt CX X σ (E σ)) (pa : PE X a ta) (pb : PE X b tb)
    (hs : ∀ (x : Addr) (u : Value), subscripted b true (.ref x) u = runValue (.builtin "lifetime.subscript" ⟨[.ref x, u], []⟩)) : PE X (.Subscript a b pos) (tGetO C sp E ta tb) := by
  refine ⟨fun pins s σ H Q I h => ?_⟩
  refine Subscript_ (binT pa pb I (R := fun x y H2 => ∃ a dx fs, x = V.ref a ∧ H2 a = some (.ins C dx fs) ∧ sp [.ref a, y] H2 Q (E σ)) h fun v u s2 x y H2 I2 rx ry q => ?_)
  obtain ⟨p, dx, fs, rfl, ea, q⟩ := q
  obtain rfl : v = Value.ref p := rx
  obtain ⟨mA, J, _⟩ := ins_get I2.hok ea
  obtain ⟨od, J, _⟩ := J.look
  obtain ⟨m, hF⟩ := I2.fr
  exact PySem.W.sub_K hF I2.ok.mod.kin J D.at_ D.fi D.fn (run_own1S (vs := [V.ref p, y]) F hr hb (hx σ) I2 (.cons rfl (.cons ry .nil)) q) (hs p u)
/-! ### k in o -/
def rInI (C : Addr) (sp : Sp) (E : XK) (neg : Bool) : R2 := fun x y H Q => ∃ a dx fs, y = V.ref a ∧ H a = some (.ins C dx fs) ∧ sp [.ref a, x] H (fun v H' => ∃ b, v = .bl b ∧ Q (.bl (if neg then !b else b)) H') E
theorem op_inO (D : DunC X.K C "__contains__" f) (F : FnOk X.prog X.w X.K X.mg X.base CX k f fd ps sp) (hr : Room k X.A) (hb : Binds X.K fd ps []) (hx : Passes CX X E) : OpR X (compareOp .In) (rInI C sp E false) := by
  intro pins s σ H x y v u Q I rx ry h
  obtain ⟨p, dx, fs, rfl, ea, q⟩ := h
  obtain rfl : u = Value.ref p := ry
  obtain ⟨mA, J, _⟩ := ins_get I.hok ea
  obtain ⟨od, J, _⟩ := J.look
  obtain ⟨m, hF⟩ := I.fr
  refine PySem.W.in_K hF I.ok.mod.kin J D.at_ D.fn (wpAny_mono (run_ownS (vs := [V.ref p, x]) F hr hb (passesAtOf hx σ) I (.cons rfl (.cons rx .nil)) q) (fun r s' hr' => ?_) fun _ _ e => e)
  obtain ⟨z, H2, I2, rz, b, ez, q2⟩ := hr'
  subst ez
  obtain rfl : r = Value.bool b := rz
  exact wpAny_truthy_bool ⟨.bl b, H2, I2, rfl, q2⟩
theorem op_notInO (D : DunC X.K C "__contains__" f) (F : FnOk X.prog X.w X.K X.mg X.base CX k f fd ps sp) (hr : Room k X.A) (hb : Binds X.K fd ps []) (hx : Passes CX X E) : OpR X (compareOp .NotIn) (rInI C sp E true) := by
  intro pins s σ H x y v u Q I rx ry h
  obtain ⟨p, dx, fs, rfl, ea, q⟩ := h
  obtain rfl : u = Value.ref p := ry
  obtain ⟨mA, J, _⟩ := ins_get I.hok ea
  obtain ⟨od, J, _⟩ := J.look
  obtain ⟨m, hF⟩ := I.fr
  refine PySem.W.notIn_K hF I.ok.mod.kin J D.at_ D.fn (wpAny_mono (run_ownS (vs := [V.ref p, x]) F hr hb (passesAtOf hx σ) I (.cons rfl (.cons rx .nil)) q) (fun r s' hr' => ?_) fun _ _ e => e)
  obtain ⟨z, H2, I2, rz, b, ez, q2⟩ := hr'
  subst ez
  obtain rfl : r = Value.bool b := rz
  exact wpAny_truthy_bool ⟨.bl (!b), H2, I2, rfl, q2⟩
/-! ### len(o) -/
def rLenO (C : Addr) (sp : Sp) (E : XK) : List V → Hp → VK → Prop := fun xs H Q => ∃ a dx fs, xs = [V.ref a] ∧ H a = some (.ins C dx fs) ∧ sp [.ref a] H (fun v H' => ∃ n : Int, v = .int n ∧ 0 ≤ n ∧ n < 2 ^ 63 ∧ Q (.int n) H') E
theorem call_lenO (D : DunC X.K C "__len__" f) (F : FnOk X.prog X.w X.K X.mg X.base CX k f fd ps sp) (hr : Room (k + 1) X.A) (hb : Binds X.K fd ps []) (hx : Passes CX X E) : CallR X (.builtin "len") (rLenO C sp E) := by
  intro pins s σ H xs us Q I r h
  obtain ⟨p, dx, fs, rfl, ea, q⟩ := h
  obtain ⟨u, rfl, rx⟩ := vals1 r
  obtain rfl : u = Value.ref p := rx
  obtain ⟨mA, J, _⟩ := ins_get I.hok ea
  obtain ⟨od, J, _⟩ := J.look
  obtain ⟨m, hF⟩ := I.fr
  refine PySem.W.len_K hF I.ok.mod.kin J D.at_ D.fn (wpAny_mono (run_own1S (vs := [V.ref p]) F hr hb (passesAtOf hx σ) I (.cons rfl .nil) q) (fun r s' hr' => ?_) fun _ _ e => e)
  obtain ⟨z, H2, I2, rz, n, ez, n0, n1, q2⟩ := hr'
  subst ez
  obtain ⟨t, rfl⟩ := rz
  exact ⟨⟨n0, n1⟩, .int n, H2, I2.tok _, ⟨_, rfl⟩, q2⟩
/-! ### o[k] = v -/
def gSetO (C : Addr) (sp : Sp) (E : L2.St → XK) (to ti : TE) : TG := fun v σ H Q => to σ H fun o H1 => ti σ H1 fun i H2 => ∃ a dx fs, o = V.ref a ∧ H2 a = some (.ins C dx fs) ∧ sp [.ref a, i, v] H2 (fun _ H3 => Q σ H3) (E σ)
theorem pg_setO {E : L2.St → XK} {o i : Expr} {to ti : TE} {pos : Pos} (D : DunC X.K C "__setitem__" f) (F : FnOk X.prog X.w X.K X.mg X.base CX k f fd ps sp) (hr : Room k X.A) (hb : Binds X.K fd ps []) (hx : ∀ σ, PassesAt CX X σ (E σ)) (ho : PE X o to) (hi : PE X i ti)
    (ha : ∀ v, assign (.Subscript o i pos) X.env v = (do
      let ov ← holding [v] (eval o X.env)
      let iv ← holding [v, ov] (eval i X.env)
      standAt pos
      holding [v, ov, iv] (setItem ov iv v)
      release [v, ov, iv] []) := by intro _; rfl) : PG X (.Subscript o i pos) (gSetO C sp E to ti) := by
  refine ⟨fun pins s σ H v u Q I r h => ?_⟩
  rw [ha]
  refine wpAny_bind (wpAny_holding (thn (ho.run pins s σ H _ I h) fun ov s1 ⟨x, H1, I1, r1, q1⟩ => ?_))
  refine wpAny_bind (wpAny_holding (thn (hi.run pins s1 σ H1 _ I1 q1) fun iv s2 ⟨y, H2, I2, r2, q2⟩ => ?_))
  obtain ⟨p, dx, fs, rfl, ea, q⟩ := q2
  obtain rfl : ov = Value.ref p := r1
  obtain ⟨mA, J, _⟩ := ins_get I2.hok ea
  obtain ⟨od, J, _⟩ := J.look
  obtain ⟨m, hF⟩ := I2.fr
  refine wpAny_bind (wpAny_standAt (wpAny_bind (wpAny_holding (PySem.W.ksp_setItem hF I2.ok.mod.kin J D.ns D.at_ D.fn (wpAny_mono (run_ownS (vs := [V.ref p, y, v]) F hr hb (hx σ) I2 (.cons rfl (.cons r2 (.cons r .nil))) q) (fun r s3 hr' => ?_) fun _ _ e => e)))))
  obtain ⟨z, H3, I3, rz, q3⟩ := hr'
  exact wpAny_release ⟨σ, H3, I3, q3⟩
end
end My

/-! My own rules: a dict's display that begins with another dict; tuple(d) of a dict. -/
namespace My
open PySem PySem.Spec PyProof.Rows L2
section
variable {prog : Program} {w : World} {K : Type} [DecidableEq K] {knd : KeyKind prog w K} {A : Around} {E : Value → Shared → Prop} {s : Shared}
/-- one entry laid by the display's merge -/
theorem put_kv {a : Addr} {ps : List (K × Value)} {x : K} {u y : Value} {R : Unit → Shared → Prop} (hx : knd.is x u = true) (D : s.heap.DictOf knd a ps) (hl : ps.length ≤ sizeLine)
    (q : ∀ g, g.DictOf knd a (stored ps x y) → Heap.SameBut a s.heap g → R () { s with heap := g }) : wpAny (model prog w) A (dictPut a (knd.hash x) u y) R E s := by
  obtain ⟨ob, en, ep, e1, e2, e3, e4, e5, e6⟩ := D
  have len : en.size ≤ sizeLine := by
    have t := e5.length
    rw [Array.length_toList] at t
    omega
  have same : (en.findIdx? fun z => knd.is x z.key) = ps.findIdx? fun z => decide (z.1 = x) := by
    have t := e5.findIdx x
    obtain ⟨l⟩ := en
    simpa using t
  unfold dictPut
  refine wpAny_bind (wpAny_dictFind_of hx e1 e3 e4 ?_)
  cases hi : en.findIdx? fun z => knd.is x z.key with
  | none =>
    have out : x ∉ ps.map (·.1) := not_mem_of_findIdx_none (same ▸ hi)
    have none' : ¬ (ps.any fun z => decide (z.1 = x)) = true := fun t => by
      obtain ⟨z, z1, z2⟩ := List.any_eq_true.mp t
      exact out (List.mem_map.mpr ⟨z, z1, of_decide_eq_true z2⟩)
    refine wpAny_updateDictKeys (hz := len) e1 e3 (q _ ?_ (Heap.SameBut.update ..))
    refine ⟨_, _, ep + 1, Heap.get?_update_self _ e1 (Obj.isFreed_of_dict (Obj.data_mapDictKeys e3 _)), e2.mapDictKeys _, Obj.data_mapDictKeys e3 _, e4.push hx _, ?_, ?_⟩
    · rw [stored, if_neg none']
      have t := e5.append hx (knd.hash x) y
      obtain ⟨l⟩ := en
      simpa using t
    · rw [stored, if_neg none', List.map_append]
      refine List.nodup_append.mpr ⟨e6, by simp, fun c hc b hb => ?_⟩
      simp only [List.map_cons, List.map_nil, List.mem_singleton] at hb
      rw [hb]
      exact fun t => out (t ▸ hc)
  | some i =>
    have there := any_of_findIdx_some (same ▸ hi)
    have hi' : (en.toList.findIdx? fun z => knd.is x z.key) = some i := by
      rw [← hi]
      obtain ⟨l⟩ := en
      simp
    refine wpAny_updateDict e1 e3 (q _ ?_ (Heap.SameBut.update ..))
    refine ⟨_, _, ep, Heap.get?_update_self _ e1 (Obj.isFreed_of_dict (Obj.data_mapDict e3 _)), e2.mapDict _, Obj.data_mapDict e3 _, e4.modify _ _, ?_, ?_⟩
    · rw [stored, if_pos there]
      have t := e5.modify e6 hi' y
      obtain ⟨l⟩ := en
      simpa using t
    · rw [stored, if_pos there, keys_map_store]
      exact e6
theorem not_ref {P : Program} {W : World} {T : Type} [DecidableEq T] {kd : KeyKind P W T} {en : Array DictEntry} (h : KeysOf kd en) : ∀ z ∈ en.toList, ∀ a, z.key ≠ .ref a := fun z hz a e => by
  obtain ⟨x, hx, _⟩ := h z (by simpa using hz)
  have t := kd.byValue x z.key hx
  rw [e] at t
  cases t
/-- the display's merge of a whole dict into another -/
theorem merge_kv {a b : Addr} {ps qs : List (K × Value)} {R : Unit → Shared → Prop} (hab : a ≠ b) (hb : (b == sysModules) = false) (Da : s.heap.DictOf knd a ps) (Db : s.heap.DictOf knd b qs)
    (hl : ps.length + qs.length ≤ sizeLine) (q : ∀ g, g.DictOf knd a (merged ps qs) → Heap.SameBut a s.heap g → R () { s with heap := g }) :
    wpAny (model prog w) A (mergeMapping a (.ref b) false) R E s := by
  obtain ⟨oa, ea, epa, a1, a2, a3, a4, a5, a6⟩ := id Da
  obtain ⟨ob, eb, epb, b1, b2, b3, b4, b5, b6⟩ := id Db
  have lenb : eb.size = qs.length := by rw [← b5.length, Array.length_toList]
  unfold mergeMapping
  refine wpAny_bind (wpAny_isInstance Db.typeIs isSubtype_dict_dict ?_)
  dsimp only
  simp only [if_true]
  refine wpAny_bind (wpAny_specialOf Db.typeIs F.slot_dict_iter.lookup (wpAny_bind (wpAny_pure ?_)))
  rw [show (some (Value.builtin "dict.__iter__") == some (Value.builtin "dict.__iter__")) = true from beq_self_eq_true _]
  simp only [hb, Bool.false_eq_true, if_false]
  refine wpAny_bind (wpAny_dictEntries a1 a3 ?_)
  have main : ∀ s0 : Shared, s0 = s → wpAny (model prog w) A (do
      let l ← dictEntries b
      let e0 ← dictEpoch b
      forIn (List.range l.size) PUnit.unit fun i (_ : PUnit) => (do
          let l2 ← dictEntries b
          match l2[i]? with
            | some z => do
              holding [z.key, z.val] (dictPut a z.hash z.key z.val)
              let e2 ← dictEpoch b
              if (e2 != e0) = true then do
                  (unsupported "dict.changed-during-merge" : Sem PUnit)
                  pure (ForInStep.yield PUnit.unit)
                else pure (ForInStep.yield PUnit.unit)
            | _ => do
              (unsupported "dict.changed-during-merge" : Sem PUnit)
              pure (ForInStep.yield PUnit.unit) : Sem (ForInStep PUnit))
      pure ()) R E s0 := by
    intro s0 e0
    rw [e0]
    clear e0 s0
    refine wpAny_bind (wpAny_dictEntries b1 b3 ?_)
    refine wpAny_bind (wpAny_dictEpoch b1 b3 ?_)
    refine wpAny_bind ?_
    rw [List.range_eq_range']
    refine wpAny_forIn_list _ (fun left _ t => ∃ g n, t = { s with heap := g } ∧ left = List.range' n (eb.size - n) ∧ n ≤ eb.size ∧ g.DictOf knd a (merged ps (qs.take n)) ∧ g.get? b = some ob ∧ Heap.SameBut a s.heap g)
      _ ?_ ?_ _ _ ⟨s.heap, 0, rfl, by simp, Nat.zero_le _, by simpa [merged] using Da, b1, Heap.SameBut.refl _ _⟩
    · rintro n0 left _ t ⟨g, n, rfl, hr, hn, Dg, bg, sg⟩
      have lt : n < eb.size := by
        refine Nat.lt_of_le_of_ne hn fun e => ?_
        rw [e, Nat.sub_self] at hr
        cases hr
      have hr2 : n0 :: left = n :: List.range' (n + 1) (eb.size - (n + 1)) := by
        rw [hr, show eb.size - n = (eb.size - (n + 1)) + 1 from by omega, List.range'_succ]
      injection hr2 with r1 r2
      subst r1
      refine wpAny_bind (wpAny_dictEntries bg b3 ?_)
      rw [Array.getElem?_eq_getElem lt]
      have ltq : n0 < qs.length := by omega
      obtain ⟨⟨x, y⟩, hq⟩ : ∃ z, qs[n0]? = some z := ⟨qs[n0]'ltq, List.getElem?_eq_getElem _⟩
      obtain ⟨hk, hv⟩ := b5.get? (e := eb[n0]) (by simp [lt]) hq
      obtain ⟨x2, hk2, hh⟩ := b4 eb[n0] (Array.getElem_mem lt)
      have ex : x2 = x := knd.inj _ _ _ hk2 hk
      subst ex
      have few : (merged ps (qs.take n0)).length ≤ sizeLine := by
        have t1 := merged_length_le ps (qs.take n0)
        rw [List.length_take] at t1
        omega
      show wpAny _ _ (holding [eb[n0].key, eb[n0].val] (dictPut a eb[n0].hash eb[n0].key eb[n0].val) >>= _) _ _ _
      rw [hh, hv]
      refine wpAny_bind (wpAny_holding (put_kv hk Dg few fun g2 D2 s2 => ?_))
      have bg2 : g2.get? b = some ob := (s2.2 b (Ne.symm hab)).trans bg
      refine wpAny_bind (wpAny_dictEpoch bg2 b3 ?_)
      rw [if_neg (by simp)]
      exact wpAny_pure ⟨g2, n0 + 1, rfl, r2, lt, by rw [merged_take_succ ps qs n0 (x2, y) hq]; exact D2, bg2, sg.trans s2⟩
    · rintro _ t ⟨g, n, rfl, hr, hn, Dg, bg, sg⟩
      have en : n = eb.size := by
        refine Nat.le_antisymm hn (Nat.le_of_not_lt fun lt => ?_)
        rw [show eb.size - n = (eb.size - (n + 1)) + 1 from by omega, List.range'_succ] at hr
        cases hr
      refine wpAny_pure (q g ?_ sg)
      rw [en, lenb, List.take_length] at Dg
      exact Dg
  split
  · refine wpAny_bind (wpAny_dictEntries b1 b3 ?_)
    refine wpAny_bind ?_
    rw [← Array.forIn_toList]
    refine wpAny_forIn_list _ (fun left _ t => t = s ∧ ∀ z ∈ left, ∀ c, z.key ≠ .ref c) _ ?_ ?_ _ _ ⟨rfl, not_ref b4⟩
    · rintro z left _ t ⟨rfl, hz⟩
      split
      · rename_i c hc
        exact absurd hc (hz z List.mem_cons_self c)
      · exact wpAny_pure ⟨rfl, fun z2 h2 => hz z2 (List.mem_cons_of_mem _ h2)⟩
    · rintro _ t ⟨ht, _⟩
      exact main t ht
  · exact main _ rfl
end
section
variable {prog : Program} {w : World} {K : Type} [DecidableEq K] {knd : KeyKind prog w K} {A : Around} {E : Value → Shared → Prop} {s : Shared}
theorem display_kv {m k v : Sem Value} {R : Value → Shared → Prop}
    (h : wpAny (model prog w) A m (fun x s1 => ∃ b qs, x = .ref b ∧ s.heap.objs.size ≠ b ∧ (b == sysModules) = false ∧ s1.heap.DictOf knd s.heap.objs.size [] ∧ s1.heap.DictOf knd b qs ∧ qs.length < sizeLine ∧
      ∀ g, g.DictOf knd s.heap.objs.size qs → Heap.SameBut s.heap.objs.size s1.heap g →
        wpAny (model prog w) A k (fun y s2 => wpAny (model prog w) A v (fun z s3 => s.heap.objs.size ≠ g.objs.size ∧ (g.objs.size == sysModules) = false ∧ s3.heap.DictOf knd g.objs.size [] ∧ ∃ rs, s3.heap.DictOf knd s.heap.objs.size rs ∧ rs.length < sizeLine ∧ ∃ x0, knd.is x0 y = true ∧
          ∀ g2 g3, g2.DictOf knd g.objs.size [(x0, z)] → Heap.SameBut g.objs.size s3.heap g2 → g3.DictOf knd s.heap.objs.size (stored rs x0 z) → Heap.SameBut s.heap.objs.size g2 g3 →
            R (.ref s.heap.objs.size) { s3 with heap := g3, toks := s3.toks + 1 }) E s2) E { s1 with heap := g.push { cls := .type "dict", data := .dict #[] } }) E
      { s with heap := s.heap.push { cls := .type "dict", data := .dict #[] } }) :
    wpAny (model prog w) A (dictDisplay [(none, m), (some k, v)]) R E s := by
  unfold dictDisplay
  dsimp only
  simp only [List.forIn_cons, List.forIn_nil, List.isEmpty_nil, if_true, pure_bind, bind_pure_comp, bind_assoc]
  refine wpAny_bind (wpAny_alloc ?_)
  refine wpAny_bind (wpAny_holding (wpAny_mono h (fun x s1 h1 => ?_) fun _ _ e => e))
  obtain ⟨b, qs, rfl, hb, hsm, d0, db, hl, h1⟩ := h1
  refine wpAny_bind (wpAny_map (wpAny_onRaise (wpAny_tryCatch (wpAny_onRaise (wpAny_holding (merge_kv (knd := knd) hb hsm d0 db ?_ fun g dg sg => ?_))))))
  · rw [List.length_nil]; omega
  have nd : (qs.map (·.1)).Nodup := let ⟨_, _, _, _, _, _, _, _, hn⟩ := db; hn
  rw [merged_nil_of_nodup qs nd] at dg
  have h2 := h1 g dg sg
  clear h1
  dsimp only
  simp only [List.nil_append, List.length_cons, List.length_nil, show ((0 + 1 : Nat) == 17) = false from rfl, Bool.false_eq_true, if_false, pure_bind, List.isEmpty_cons]
  refine wpAny_bind (wpAny_bind (wpAny_holding (wpAny_subDict (knd := knd) (show 1 ≤ 15 from by decide) (evalPairs_cons (wpAny_mono h2 (fun y s2 h3 => wpAny_mono h3 (fun z s3 h4 => evalPairs_nil ?_) fun _ _ e => e) fun _ _ e => e)))))
  obtain ⟨ne, lo, d3, rs, p3, hr, x0, hx, fin⟩ := h4
  refine ⟨[(x0, z)], ⟨hx, rfl, True.intro⟩, d3, fun g2 d2 s2' => wpAny_map (wpAny_onRaise (wpAny_holding (merge_kv (knd := knd) (ps := rs) (qs := [(x0, z)]) ne lo (p3.sameBut s2' ne) d2 ?_ fun g3 d3' s3' => wpAny_pure (fin g2 g3 d2 s2' d3' s3'))))⟩
  rw [List.length_singleton]
  omega
end
section
variable {X : Cx}
/-- {**d, k: v}: p the new dict, q the one of the pair behind it -/
def tDispD (td tk tv : TE) : TE := fun σ H Q => ∀ p, H p = none → td σ (upd H p (.dK [])) fun x H1 => ∃ a kvs, x = .ref a ∧ H1 a = some (.dK kvs) ∧ a ≠ p ∧ H1 p = some (.dK []) ∧ kvs.length < sizeLine ∧
  ∀ q, (upd H1 p (.dK kvs)) q = none → tk σ (upd (upd H1 p (.dK kvs)) q (.dK [])) fun y H2 => tv σ H2 fun z H3 => H3 p = some (.dK kvs) ∧ H3 q = some (.dK []) ∧ ∃ k, y = kV k ∧ Q (.ref p) (upd (upd H3 q (.dK [(k, z)])) p (.dK (putK kvs k z)))
theorem pe_dispD {d k v : Expr} {pos : Pos} {td tk tv : TE} (hd : PE X d td) (hk : PE X k tk) (hv : PE X v tv) : PE X (.Dict [none, some k] [d, v] pos) (tDispD td tk tv) := by
  refine ⟨fun pins s σ H Q I h => ?_⟩
  have hn := I.hok.fresh (Nat.le_refl s.heap.objs.size)
  have I1 := I.laid (a := s.heap.objs.size) (o := .dK []) (h' := s.heap.push { cls := .type "dict", data := .dict #[] }) (t' := s.toks) (fun _ _ q => Heap.get?_push_of_some _ q) (Nat.le_refl _) (dk_empty s.heap I.big)
  rw [arm_eval_Dict]
  refine wpAny_bind (wpAny_standAt ?_)
  show wpAny _ _ (dictDisplay [(none, do let x ← eval d X.env; standAt pos; pure x), (some (eval k X.env), do let x ← eval v X.env; standAt pos; pure x)]) _ _ _
  refine display_kv (knd := mixKind X.prog X.w) (wpAny_bind (thn (hd.run pins _ σ _ _ I1 (h _ hn)) fun u s1 ⟨x, H1, I2, rel, a, kvs, ex, ea, hap, ep, hl, q⟩ => wpAny_bind (wpAny_standAt (wpAny_pure ?_))))
  subst ex
  cases rel
  obtain ⟨z1, lo, vs, r1, da⟩ := dk_of I2.hok ea
  obtain ⟨z2, lo2, vs2, r2, dp⟩ := dk_of I2.hok ep
  cases r2
  refine ⟨a, vs, rfl, Ne.symm hap, lo, dp, da, by rw [← r1.length]; exact hl, fun g dg sg => ?_⟩
  have hz : kvs.length ≤ sizeLine := Nat.le_of_lt hl
  have stays : ∀ {g : Heap} {b : Addr} {ps : List (Key × Value)}, g.DictOf (mixKind X.prog X.w) b ps → ∃ q, g.get? b = some q := fun t => let ⟨q, _, _, hq, _⟩ := t; ⟨q, hq⟩
  have I3 : Inv X pins σ (upd H1 s.heap.objs.size (.dK kvs)) { s1 with heap := g, toks := s1.toks } := d_write I2 (by rw [ep]; exact True.intro) sg (stays dg) (dk_new hz lo2 r1 dg)
  have hn2 := I3.hok.fresh (Nat.le_refl g.objs.size)
  have I4 := I3.laid (a := g.objs.size) (o := .dK []) (h' := g.push { cls := .type "dict", data := .dict #[] }) (t' := s1.toks) (fun _ _ q => Heap.get?_push_of_some _ q) (Nat.le_refl _) (dk_empty g I3.big)
  refine thn (hk.run pins _ σ _ _ I4 (q _ hn2)) fun y s2 ⟨y', H2, I5, ry, q2⟩ => wpAny_bind (thn (hv.run pins s2 σ H2 _ I5 q2) fun w' s3 ⟨z', H3, I6, rz, hp, hq, k0, ek, q3⟩ => wpAny_bind (wpAny_standAt (wpAny_pure ?_)))
  subst ek
  obtain ⟨z4, lo4, vs4, r4, d4⟩ := dk_of I6.hok hq
  cases r4
  obtain ⟨z5, lo5, vs5, r5, d5⟩ := dk_of I6.hok hp
  have ne : s.heap.objs.size ≠ g.objs.size := fun e => by
    rw [← e, upd_same] at hn2
    cases hn2
  have hz5 : vs5.length < sizeLine := by rw [← r5.length]; exact hl
  refine ⟨ne, lo4, d4, vs5, d5, hz5, k0, kV_is ry, fun g2 g3 e2 t2 e3 t3 => ?_⟩
  have I7 : Inv X pins σ (upd H3 g.objs.size (.dK [(k0, z')])) { s3 with heap := g2, toks := s3.toks } :=
    d_write I6 (by rw [hq]; exact True.intro) t2 (stays e2) (dk_new (by rw [List.length_singleton, sizeLine_eq]; omega) lo4 (.cons ⟨rfl, rz⟩ .nil) e2)
  have I8 : Inv X pins σ (upd (upd H3 g.objs.size (.dK [(k0, z')])) s.heap.objs.size (.dK (putK kvs k0 z'))) { s3 with heap := g3, toks := s3.toks + 1 } := by
    have len := length_putK kvs k0 z'
    have t := d_write (t' := s3.toks + 1) I7 (by rw [upd_ne ne, hp]; exact True.intro) t3 (stays e3) (dk_new (by omega) lo5 (r5.put k0 rz) e3)
    exact t
  exact ⟨.ref s.heap.objs.size, _, I8, rfl, q3⟩
end
section
open PySem.W
variable {prog : Program} {w : World} {A : Around} {E : Value → Shared → Prop} {s : Shared} {T : String} {r d : Addr} {n : Nat} {P : Nat → Value → Prop} {OK : Heap → Prop}
/-- what a source of keys gives, gathered -/
theorem gather_src {R : List Value → Shared → Prop} (C : KdlSrc prog w T r d n P OK) (hh : A.handled = none) (ok : OK s.heap) (hn : n ≤ sizeLine)
    (q : ∀ (g : Heap) (tk : Nat) (got : Array Value), (∀ b o, s.heap.get? b = some o → g.get? b = some o) → ItemsOf P got n → R got.toList { s with heap := g, toks := tk }) : wpAny (model prog w) A (collect (.ref r)) R E s := by
  unfold collect
  refine wpAny_bind (wpAny_runValue (codeAny_builtin F.entry_proto_collect ?_))
  rw [Around.under_plainId F.plain_proto_collect _]
  show wpAny _ A.in1 (newList [] >>= fun l => again (.builtin "list.__iadd__" ⟨[l, .ref r], []⟩)) _ _ s
  refine wpAny_bind (wpAny_newObj_type (wpAny_pure ⟨plainId_quiet F.plain_list_iadd _, codeAny_builtin F.entry_list_iadd ?_⟩))
  rw [Around.under_plainId F.plain_list_iadd _]
  show wpAny _ A.in1 (Builtin.List.listExtendWith (.ref s.heap.objs.size) (.ref r) (.ref s.heap.objs.size)) _ _ _
  have lt := C.there _ ok
  have at0 : (s.heap.push { cls := .type "list", data := .seq ([] : List Value).toArray }).get? s.heap.objs.size = some { cls := .type "list", data := .seq #[] 0 } := Heap.get?_push_size _ rfl
  refine wpAny_mono (kdl_extend (A := A) (s := { s with heap := s.heap.push { cls := .type "list", data := .seq ([] : List Value).toArray } })
    (R := fun z t => z = .ok (.ret (.ref s.heap.objs.size)) ∧ ∃ (g : Heap) (tk : Nat) (got : Array Value) (c : Nat), t = { s with heap := g, toks := tk } ∧ (∀ b o, s.heap.get? b = some o → g.get? b = some o) ∧
      g.get? s.heap.objs.size = some { cls := .type "list", dict := none, data := .seq got c, slots := #[] } ∧ ItemsOf P got n)
    C hh (C.keep _ _ ok fun b _ o e => Heap.get?_push_of_some _ e) s.heap.objs.size (Nat.ne_of_gt lt.1) (Nat.ne_of_gt lt.2) _ 0 at0
    (fun g tk got c hk e hi => ⟨rfl, g, tk, got, c, rfl, fun b o u => hk b o (Nat.ne_of_lt (Heap.lt_size u)) (Heap.get?_push_of_some _ u), e, hi⟩) hn) (fun fin t h => ?_) fun e t h => ?_
  · cases fin with
    | done f =>
      obtain ⟨e, g, tk, got, c, rfl, hk, hS, hi⟩ := h
      cases e
      show wpAny _ A (load s.heap.objs.size >>= _) _ _ _
      exact wpAny_bind (wpAny_load hS (wpAny_pure (q g tk got hk hi)))
    | again c' =>
      refine ⟨h.1, codeAny_mono h.2 fun z t' h' => ?_⟩
      obtain ⟨rfl, g, tk, got, c, rfl, hk, hS, hi⟩ := h'
      show wpAny _ A (load s.heap.objs.size >>= _) _ _ _
      exact wpAny_bind (wpAny_load hS (wpAny_pure (q g tk got hk hi)))
  · exact absurd h.1 (by simp)
theorem new_tup_src {R : Value → Shared → Prop} (C : KdlSrc prog w T r d n P OK) (hh : A.handled = none) (ok : OK s.heap) (hn : n ≤ sizeLine)
    (q : ∀ (g : Heap) (tk : Nat) (got : Array Value), (∀ b o, s.heap.get? b = some o → g.get? b = some o) → ItemsOf P got n → R (.ref g.objs.size) { s with heap := g.push { cls := .type "tuple", data := .seq got }, toks := tk }) :
    codeAny (model prog w) A (.call (.builtin "tuple.__new__") ⟨[.type "tuple", .ref r], []⟩) (wants R E) s := by
  refine codeAny_of_tree ?_
  show wpAny _ A.in1 (do checkBuiltinCall "tuple.__new__" ⟨[.type "tuple", .ref r], []⟩; again (.builtin "tuple.__new__" ⟨[.type "tuple", .ref r], []⟩)) _ _ s
  refine wpAny_bind (wpAny_of_eq (F.newCall_tuple_1 _) (wpAny_pure ⟨plainId_quiet F.plain_tuple_new _, codeAny_builtin F.entry_tuple_new ?_⟩))
  rw [Around.under_plainId F.plain_tuple_new _]
  have t1 := sub_tuple_self
  have t2 := init_tuple_lookup
  have t3 := madeHere_tuple
  have t4 := C.type s ok
  have t5 : A.in1.handled = none := hh
  have t6 := C.notTuple
  have t7 := C.notList
  wp_walk using wpAny_typeOf t4, gather_src (A := A.in1) C t5 ok hn
  intro g tk got hk hi
  show wpAny _ _ (Builtin.Tuple.tupleExact got.toList.toArray >>= fun v => ret v) _ _ _
  have e : got.toList.toArray = got := by simp
  unfold Builtin.Tuple.tupleExact
  rw [e]
  exact wpAny_bind (wpAny_newObj_type (wpAny_pure (q g tk got hk hi)) (by show got.size ≤ sizeLine; rw [hi.1]; exact hn))
theorem call_tup_src {R : Value → Shared → Prop} (C : KdlSrc prog w T r d n P OK) (hh : A.handled = none) (ok : OK s.heap) (hn : n ≤ sizeLine)
    (q : ∀ (g : Heap) (tk : Nat) (got : Array Value), (∀ b o, s.heap.get? b = some o → g.get? b = some o) → ItemsOf P got n → R (.ref g.objs.size) { s with heap := g.push { cls := .type "tuple", data := .seq got }, toks := tk }) :
    wpAny (model prog w) A (call (.type "tuple") [.ref r]) R E s := by
  refine callType_codes (Q₁ := fun u t => t.TypeIs u "tuple" ∧ R u t) F.called_tuple (F.typeCall_tuple_1 _) F.entry_object_init
    (new_tup_src (A := A.in1) C hh ok hn fun g tk got hk hi => ⟨⟨_, Heap.get?_push_size _ rfl, rfl⟩, q g tk got hk hi⟩) fun u t h => ?_
  exact ⟨h.1, F.args_object_init_2 u _, object_init_meets F.called_tuple.init.lookup F.called_tuple.made (by decide) prog w A.in1 _ t ⟨h.1, rfl, h.2⟩⟩
end
section
variable {X : Cx}
/-- tuple(d): a dict's keys -/
theorem call_tupD (hc : X.calm = true) : CallR X (.type "tuple") (fun xs H Q => ∃ (a : Addr) (kvs : List (Key × V)), xs = [.ref a] ∧ Rd H a (.dK kvs) ∧ ∀ p, H p = none → Q (.ref p) (upd H p (.tup (kvs.map fun kv => kV kv.1)))) := by
  intro pins s σ H xs us Q I r q
  obtain ⟨a, kvs, ex, hd, q⟩ := q
  subst ex
  obtain ⟨u, eu, rx⟩ := vals1 r
  subst eu
  cases rx
  obtain ⟨z, lo, vs, rel, dd⟩ := dk_rd I.hok hd
  obtain ⟨ep, hat⟩ := dd.dictAt
  have same : (kvs.map fun kv => kV kv.1) = vs.map fun p => kV p.1 := by
    have t := congrArg (List.map kV) rel.keys
    rw [List.map_map, List.map_map] at t
    exact t
  refine call_tup_src (PySem.W.kdl_dict (knd := mixKind X.prog X.w) (kvs := vs) (ep := ep) lo) (I.ok.hd hc) hat (by rw [← rel.length]; exact z) fun g tk got hk hi => ?_
  have rv : Vals (vs.map fun p => kV p.1) got.toList := keys_at (by rw [Array.length_toList]; exact hi.1) fun j v t => hi.2 j v (by rw [← Array.getElem?_toList]; exact t)
  have I1 : Inv X pins σ H { s with heap := g, toks := tk } := I.kept (t' := tk) hk
  have I2 : Inv X pins σ (upd H g.objs.size (.tup (kvs.map fun kv => kV kv.1))) { s with heap := g.push { cls := .type "tuple", data := .seq got }, toks := tk } :=
    I1.laid (t' := tk) (fun b o e => Heap.get?_push_of_some _ e) (Nat.le_refl _) (show ObjOk X.prog X.w _ _ _ (.tup (kvs.map fun kv => kV kv.1)) from ⟨by rw [List.length_map]; exact z, got.toList, by rw [same]; exact rv, by
      have e : got.toList.toArray = got := by simp
      rw [e]
      exact IsTup.new _ _⟩)
  exact ⟨.ref g.objs.size, _, I2, rfl, q _ (I1.hok.fresh (Nat.le_refl _))⟩
end
end My

/-! My own rules: o.m(k = v, ..) where the method may raise; a comprehension over d.items(). -/
namespace My
open PySem PySem.Spec PyProof.Rows L2
section
variable {X : Cx} {CX : CXT} {k : Nat} {C f : Addr} {fd : FuncData} {ps : List Str} {sp : Sp} {E : L2.St → XK}
variable {ks : List Str} {g : List Value → List Value → List Value} {gV : List V → List V → List V} {o : Expr} {m : Str} {pos apos : Pos} {kws : List Keyword} {ta : TE} {tk : TA}
/-- o.m(k = v, ..), nothing by place, what is let out wished for at the caller's slots -/
def tMethKE (C : Addr) (m : Str) (sp : Sp) (gV : List V → List V → List V) (E : L2.St → XK) (ta : TE) (tk : TA) : TE := fun σ H Q => ta σ H fun x H1 => ∃ a dx fs, x = .ref a ∧ H1 a = some (.ins C dx fs) ∧ fs.lookup m = none ∧ tk σ H1 fun zs H2 => sp (gV [x] zs) H2 Q (E σ)
theorem pe_methKE {pl : Sem Bool} (he : PE X o ta) (c : Cls X.K C) (hm : Meth X.K C m f) (F : FnOk X.prog X.w X.K X.mg X.base CX k f fd ps sp) (hr : Room k X.A) (hb : KBinds X.K fd ps ks g gV) (hx : ∀ σ, PassesAt CX X σ (E σ)) (hkw : PK X kws tk)
    (hall : (backToKw pos (keywordEach kws X.env)).all (·.1.isSome) = true := by rfl) (hks : (backToKw pos (keywordEach kws X.env)).filterMap (·.1) = ks := by rfl)
    (hpl : ((backTo pos (starEach [] X.env)).any (·.1) || (backToKw pos (keywordEach kws X.env)).any (·.1.isNone)) = false := by rfl)
    (ht : eval (.Call (.Attribute o m apos) [] kws pos) X.env = (do
      let ov ← eval o X.env
      standAt apos.atName
      let (f, first) ← holding [ov] (getMethod ov m pl)
      callWith pos f first (backTo pos (starEach [] X.env)) (backToKw pos (keywordEach kws X.env))) := by rfl) :
    PE X (.Call (.Attribute o m apos) [] kws pos) (tMethKE C m sp gV E ta tk) := by
  refine ⟨fun pins s σ H Q I h => ?_⟩
  refine PySem.W.methodCall_KW (pl := pl) (thn (he.run pins s σ H _ I h) fun u s1 ⟨x, H1, I1, rx, a, dx, fs, ex, ea, l, q⟩ => ?_) ht
  subst ex
  obtain rfl : u = Value.ref a := rx
  refine getmeth_ok I1 ea c hm l ?_
  refine PySem.W.callWith_KW0 (first := [.ref a]) (h₀ := X.base) I.ok.mod.kin hm.kp hall (thn (hkw.run pos pins s1 σ H1 _ I1 q) fun ws s2 ⟨zs, H2, I2, rz, q2⟩ => ⟨I2.kIn, ?_⟩) hpl
  rw [hks]
  exact run_fnkS (us := [.ref a]) (vs := [.ref a]) F hr hb (hx σ) I2 (.cons rfl .nil) rz q2
end
/-- a dict's comprehension over the items of a dict that is locked -/
theorem dc_items {d : Addr} {o : Obj} {kvs : List (Key × V)} {g : TG} {tt : TT} {tk tv : TE} {vs : List Nat} {σ : L2.St} {H1 : Hp} {D : Addr} {Qd : Hp → Prop} (Pv : Nat → Hp → Prop) (h0 : Pv 0 (upd H1 D (.dK []))) (hl : ∀ i H, i ≤ kvs.length → Pv i H → H d = some (.frz o (.dK kvs)))
    (hs : ∀ i k v T H, kvs[i]? = some (k, v) → Pv i H → H T = none → g (.ref T) (wipe σ vs) (upd H T (.tup [kV k, v])) fun σ2 H2 => wipe σ2 vs = wipe σ vs ∧ tt σ2 H2 fun b H3 =>
      if b = true then tk σ2 H3 fun y H4 => tv σ2 H4 fun z H5 => ∃ kvs k, y = kV k ∧ H5 D = some (.dK kvs) ∧ kvs.length < sizeLine ∧ Pv (i + 1) (upd H5 D (.dK (putK kvs k z))) else Pv (i + 1) H3) (hd : ∀ H, Pv kvs.length H → Qd H) :
    ∃ W : Nat → Nat → Hp → Prop, (∃ m, W 0 m (upd H1 D (.dK []))) ∧ ∀ i m H, W i m H →
      ((Iti d o kvs).stop i H ∧ Qd H) ∨ ((Iti d o kvs).go i H ∧ ∃ Nx : Hp → Prop, (∀ H', Nx H' → ∃ m', m' < m ∧ W (i + 1) m' H') ∧ ∀ x H', (Iti d o kvs).yld i H x H' → g x (wipe σ vs) H' fun σ2 H2 => wipe σ2 vs = wipe σ vs ∧ tt σ2 H2 fun b H3 =>
        if b = true then tk σ2 H3 fun y H4 => tv σ2 H4 fun z H5 => ∃ kvs k, y = kV k ∧ H5 D = some (.dK kvs) ∧ kvs.length < sizeLine ∧ Nx (upd H5 D (.dK (putK kvs k z))) else Nx H3) := by
  refine ⟨fun i m H => m = kvs.length - i ∧ i ≤ kvs.length ∧ Pv i H, ⟨kvs.length, by simp, Nat.zero_le _, h0⟩, ?_⟩
  rintro i m H ⟨rfl, hi, p⟩
  have q := hl i H hi p
  rcases Nat.lt_or_ge i kvs.length with lt | ge
  · refine .inr ⟨⟨q, lt⟩, Pv (i + 1), fun H' p' => ⟨kvs.length - (i + 1), by omega, rfl, lt, p'⟩, ?_⟩
    rintro x H' ⟨T, k, v, e, rfl, nT, rfl⟩
    exact hs i k v T H e p nT
  · have e : i = kvs.length := by omega
    subst e
    exact .inl ⟨⟨q, Nat.le_refl _⟩, hd H p⟩
end My

/-! My own rules: raise X(), X an own exception class without an own __init__; o.m() that may raise. -/
namespace My
open PySem PySem.Spec PyProof.Rows L2
section
variable {X : Cx}
theorem pmk_own0 {C : Addr} {bmB : List Value} {B newId initId : String} {x : Str} {p pos : Pos} (F : ExcBaseFacts B newId initId bmB) (q : PySem.W.excIn X.K C bmB newId = true) (gC : X.mg x = some (.ref C)) (kC : PySem.W.keepIn X.K (.ref C) = true) (r : Raises X (.ref C)) (hg : Gl X x) (hdb : (x == ("__debug__" : Str)) = false := by decide) :
    PMk X (.Call (.Name x p) [] [] pos) (fun _ H Q => Q (.ref C) none H) := by
  intro pins s σ H Q I h
  refine wpAny_Call_Name_kw (ld_glob I hg gC ?_ hdb)
  refine PySem.W.callWith_KW0 (h₀ := X.base) I.ok.mod.kin kC (by rfl) (thn (pk_nil.run pos pins s σ H (fun vs H1 => vs = [] ∧ H1 = H) I ⟨rfl, rfl⟩) fun ws s2 ⟨zs, H2, I2, rz, ez, eH⟩ => ⟨I2.kIn, ?_⟩) (by rfl)
  subst eH
  show wpAny _ _ (call (.ref C) []) _ _ _
  obtain ⟨bm, N, nm, qn, bs, hdct, sn, sub, ab, col, dd, k0, k1, k2, k3, k5, mN, hC, hN, hni, T⟩ := exc_obj I2.kIn q
  exact wpAny_call_exc_subT F T hC hN hni (fun h' e hm => mk_of I2 hm r h (I2.hok.gone hm.new)) (Nat.zero_le _)
end
/-- the receiver alone -/
def kFst {α : Type} (us _ : List α) : List α := us
theorem kbinds_alone {K : PySem.W.Frag} {fd : FuncData} {p1 : Str} (h : ∀ (s : Shared) (u : Value), BindsTo s fd ⟨[u], []⟩ [(p1, u)]) : KBinds K fd [p1] [] kFst kFst where
  to := fun s us ws _ hl => match us, hl with
    | [u], _ => h s u
  rel := fun r _ => r
end My

/-! My own rules: dict comprehensions over a list, list comprehensions over d.items(). -/
namespace My
open PySem PySem.Spec PyProof.Rows L2
/-- {k: v for .. in xs}, xs a list that stays -/
theorem dc_list {K : PySem.W.Frag} {a : Addr} {xs : List V} {g : TG} {tt : TT} {tk tv : TE} {vs : List Nat} {σ : L2.St} {H1 : Hp} {D : Addr} {Qd : Hp → Prop} (Pv : Nat → Hp → Prop) (h0 : Pv 0 (upd H1 D (.dK []))) (hl : ∀ i H, i ≤ xs.length → Pv i H → SqL K H a xs)
    (hs : ∀ i x H, xs[i]? = some x → Pv i H → g x (wipe σ vs) H fun σ2 H2 => wipe σ2 vs = wipe σ vs ∧ tt σ2 H2 fun b H3 =>
      if b = true then tk σ2 H3 fun y H4 => tv σ2 H4 fun z H5 => ∃ kvs k, y = kV k ∧ H5 D = some (.dK kvs) ∧ kvs.length < sizeLine ∧ Pv (i + 1) (upd H5 D (.dK (putK kvs k z))) else Pv (i + 1) H3) (hd : ∀ H, Pv xs.length H → Qd H) :
    ∃ W : Nat → Nat → Hp → Prop, (∃ m, W 0 m (upd H1 D (.dK []))) ∧ ∀ i m H, W i m H →
      ((Itl K a).stop i H ∧ Qd H) ∨ ((Itl K a).go i H ∧ ∃ Nx : Hp → Prop, (∀ H', Nx H' → ∃ m', m' < m ∧ W (i + 1) m' H') ∧ ∀ x H', (Itl K a).yld i H x H' → g x (wipe σ vs) H' fun σ2 H2 => wipe σ2 vs = wipe σ vs ∧ tt σ2 H2 fun b H3 =>
        if b = true then tk σ2 H3 fun y H4 => tv σ2 H4 fun z H5 => ∃ kvs k, y = kV k ∧ H5 D = some (.dK kvs) ∧ kvs.length < sizeLine ∧ Nx (upd H5 D (.dK (putK kvs k z))) else Nx H3) := by
  refine ⟨fun i m H => m = xs.length - i ∧ i ≤ xs.length ∧ Pv i H, ⟨xs.length, by simp, Nat.zero_le _, h0⟩, ?_⟩
  rintro i m H ⟨rfl, hi, p⟩
  have q := hl i H hi p
  rcases Nat.lt_or_ge i xs.length with lt | ge
  · refine .inr ⟨⟨xs, xs[i], q, by simp [lt]⟩, Pv (i + 1), fun H' p' => ⟨xs.length - (i + 1), by omega, rfl, lt, p'⟩, fun x H' y => ?_⟩
    obtain ⟨e, y⟩ := y
    subst e
    exact hs i x _ (y xs q) p
  · have e : i = xs.length := by omega
    subst e
    exact .inl ⟨⟨xs, q, Nat.le_refl _⟩, hd H p⟩
/-- [e for k, v in d.items()], d locked -/
theorem lc_items {d : Addr} {o : Obj} {kvs : List (Key × V)} {g : TG} {tt : TT} {te : TE} {vs : List Nat} {σ : L2.St} {H1 : Hp} {D : Addr} {Qd : Hp → Prop} (Pv : Nat → Hp → Prop) (h0 : Pv 0 (upd H1 D (.lst []))) (hl : ∀ i H, i ≤ kvs.length → Pv i H → H d = some (.frz o (.dK kvs)))
    (hs : ∀ i k v T H, kvs[i]? = some (k, v) → Pv i H → H T = none → g (.ref T) (wipe σ vs) (upd H T (.tup [kV k, v])) fun σ2 H2 => wipe σ2 vs = wipe σ vs ∧ tt σ2 H2 fun b H3 =>
      if b = true then te σ2 H3 fun y H4 => ∃ acc, H4 D = some (.lst acc) ∧ acc.length < sizeLine ∧ Pv (i + 1) (upd H4 D (.lst (acc ++ [y]))) else Pv (i + 1) H3) (hd : ∀ H, Pv kvs.length H → Qd H) :
    ∃ W : Nat → Nat → Hp → Prop, (∃ m, W 0 m (upd H1 D (.lst []))) ∧ ∀ i m H, W i m H →
      ((Iti d o kvs).stop i H ∧ Qd H) ∨ ((Iti d o kvs).go i H ∧ ∃ Nx : Hp → Prop, (∀ H', Nx H' → ∃ m', m' < m ∧ W (i + 1) m' H') ∧ ∀ x H', (Iti d o kvs).yld i H x H' → g x (wipe σ vs) H' fun σ2 H2 => wipe σ2 vs = wipe σ vs ∧ tt σ2 H2 fun b H3 =>
        if b = true then te σ2 H3 fun y H4 => ∃ acc, H4 D = some (.lst acc) ∧ acc.length < sizeLine ∧ Nx (upd H4 D (.lst (acc ++ [y]))) else Nx H3) := by
  refine ⟨fun i m H => m = kvs.length - i ∧ i ≤ kvs.length ∧ Pv i H, ⟨kvs.length, by simp, Nat.zero_le _, h0⟩, ?_⟩
  rintro i m H ⟨rfl, hi, p⟩
  have q := hl i H hi p
  rcases Nat.lt_or_ge i kvs.length with lt | ge
  · refine .inr ⟨⟨q, lt⟩, Pv (i + 1), fun H' p' => ⟨kvs.length - (i + 1), by omega, rfl, lt, p'⟩, ?_⟩
    rintro x H' ⟨T, k, v, e, rfl, nT, rfl⟩
    exact hs i k v T H e p nT
  · have e : i = kvs.length := by omega
    subst e
    exact .inl ⟨⟨q, Nat.le_refl _⟩, hd H p⟩
end My

set_option maxHeartbeats 4000000
/-! My own rules: set(xs) of a list of texts, sorted of such a set. -/
namespace My
open PySem PySem.Spec PyProof.Rows L2
/-- the text of an entry -/
def txOf (e : Int × Value) : Str := match e.2 with | .str k _ => k | _ => Str.empty
def TxE (P : Program) (w : World) (e : Int × Value) : Prop := ∃ k tk, e.2 = Value.str k tk ∧ e.1 = (PySem.strKind P w).hash k
/-- the set at a: its members are the texts ks, some of them maybe twice there -/
def TxSet (P : Program) (w : World) (g : Heap) (a : Addr) (ks : List Str) : Prop :=
  ∃ ob rows ep tb, g.get? a = some ob ∧ ob.ExactSet ∧ ob.data = .set rows ep tb ∧ (∀ e ∈ rows.toList, TxE P w e) ∧ (rows.toList.map txOf).Nodup ∧ (∀ k, k ∈ rows.toList.map txOf ↔ k ∈ ks) ∧
    rows.size ≤ ks.length ∧ rows.size < scanBound ∧ tb.fits rows.size = true ∧ Ris tb.place.toList ∧ (w.params.followText "set-order" = true ∨ tb.led = true)
section
variable {P : Program} {w : World} {g g' : Heap} {a : Addr} {ks : List Str}
theorem TxSet.keep (R : TxSet P w g a ks) (k : ∀ o, g.get? a = some o → g'.get? a = some o) : TxSet P w g' a ks := by
  obtain ⟨ob, rows, ep, tb, ho, rest⟩ := R
  exact ⟨ob, rows, ep, tb, k ob ho, rest⟩
theorem tx_elems {l : List (Int × Value)} (g : ∀ e ∈ l, TxE P w e) : ElemsOf (PySem.strKind P w) l := fun e he => by
  obtain ⟨k, tk, h1, h2⟩ := g e he
  exact ⟨⟨k, by rw [h1]; exact strKind_is P w k tk, h2⟩, by rw [h1] <;> rfl⟩
theorem tx_is {e : Int × Value} (g : TxE P w e) (k : Str) : (PySem.strKind P w).is k e.2 = true ↔ txOf e = k := by
  obtain ⟨k0, tk, h1, _⟩ := g
  unfold txOf
  rw [h1, KeyKind.is_eq_decide (strKind_is P w k0 tk) k]
  simp only [decide_eq_true_eq]
  exact eq_comm
theorem tx_mem {l : List (Int × Value)} (g : ∀ e ∈ l, TxE P w e) (k : Str) : k ∈ l.map txOf ↔ ∃ e ∈ l, (PySem.strKind P w).is k e.2 = true := by
  rw [List.mem_map]
  constructor
  · rintro ⟨e, he, q⟩
    exact ⟨e, he, (tx_is (g e he) k).mpr q⟩
  · rintro ⟨e, he, q⟩
    exact ⟨e, he, (tx_is (g e he) k).mp q⟩
end
section
variable {P : Program} {w : World} {A : Around} {E : Value → Shared → Prop} {s : Shared} {a : Addr} {ks : List Str}
theorem tx_tail {gw : Bool → Sem Unit} (hgw : ∀ (b : Bool) (s₁ : Shared) (Q' : Unit → Shared → Prop), Q' () s₁ → wpAny (model P w) A (gw b) Q' E s₁)
    {ob : Obj} {rows : Array (Int × Value)} {ep : Nat} {tb : SetTable} (ho : s.heap.get? a = some ob) (hx : ob.ExactSet) (hd : ob.data = .set rows ep tb)
    {r1 : Array (Int × Value)} {t2 : SetTable} {ks' : List Str} (g1 : ∀ e ∈ r1.toList, TxE P w e) (nd1 : (r1.toList.map txOf).Nodup) (m1 : ∀ k, k ∈ r1.toList.map txOf ↔ k ∈ ks') (le1 : r1.size ≤ ks'.length)
    (hb1 : r1.size < scanBound) (hf2 : t2.fits r1.size = true) (hr : Ris t2.place.toList) (hl : w.params.followText "set-order" = true ∨ t2.led = true) {dm : Bool} {R : Option Bool → Shared → Prop}
    (hR : ∀ g', Heap.SameBut a s.heap g' → TxSet P w g' a ks' → R (some true) { s with heap := g' }) :
    wpAny (model P w) A (do
        storeSet a r1 t2
        if (!dm && t2.tooFull) = true then do
            gw (relayAll t2 r1 (SetTable.grown r1.size)).2.2
            storeSet a (relayAll t2 r1 (SetTable.grown r1.size)).1 (relayAll t2 r1 (SetTable.grown r1.size)).2.1
            pure (some true)
          else pure (some true)) R E s := by
  refine wpAny_bind (wpAny_storeSet_of ho hd ?_ (fits_of_scanBound hb1))
  have ho1 := store_at (es' := r1) (t' := t2) ho hd
  have sb1 := Heap.SameBut.update s.heap a (Obj.putSet r1 t2)
  split
  · have pm := relayAll_perm t2 r1 (SetTable.grown r1.size)
    have q1 := relayAll_fits t2 r1 (SetTable.grown r1.size)
    have q2 := relayAll_ris t2 r1 (SetTable.grown r1.size)
    have q3 := relayAll_led t2 r1 (SetTable.grown r1.size)
    generalize relayAll t2 r1 (SetTable.grown r1.size) = Z at pm q1 q2 q3 ⊢
    obtain ⟨r2, t3, gave⟩ := Z
    dsimp only at pm q1 q2 q3 ⊢
    have hsz : r2.size = r1.size := by rw [← Array.length_toList, pm.length_eq, Array.length_toList]
    have hb2 : r2.size < scanBound := hsz ▸ hb1
    refine wpAny_bind (hgw _ _ _ ?_)
    refine wpAny_bind (wpAny_storeSet_of ho1 rfl ?_ (fits_of_scanBound hb2))
    have ho2 := store_at (es' := r2) (t' := t3) ho1 rfl
    refine wpAny_pure (hR _ (sb1.trans (Heap.SameBut.update _ a _)) ?_)
    exact ⟨_, r2, _, t3, ho2, hx, rfl, fun e he => g1 e (pm.mem_iff.mp he), (pm.map txOf).nodup_iff.mpr nd1, fun k => (pm.map txOf).mem_iff.trans (m1 k), by rw [hsz]; exact le1, hb2, q1, q2,
      hl.imp id fun z => by rw [q3]; exact z⟩
  · exact wpAny_pure (hR _ sb1 ⟨_, r1, _, t2, ho1, hx, rfl, g1, nd1, m1, le1, hb1, hf2, hr, hl⟩)
theorem tx_add {k : Str} {tk : Tok} {Q : Bool → Shared → Prop} (R : TxSet P w s.heap a ks) (room : ks.length + 1 < scanBound)
    (hQ : ∀ b g', Heap.SameBut a s.heap g' → TxSet P w g' a (ks ++ [k]) → Q b { s with heap := g' }) :
    wpAny (model P w) A (setAddHashed a (.str k tk) ((PySem.strKind P w).hash k)) Q E s := by
  obtain ⟨ob, rows, ep, tb, ho, hx, hd, g, nd, hm, hle, hb, hf, hr, hl⟩ := R
  have hkey : (PySem.strKind P w).is k (.str k tk) = true := strKind_is P w k tk
  have hsc : (Value.str k tk).scannable = true := rfl
  have hel : ElemsOf (PySem.strKind P w) rows.toList := tx_elems g
  unfold setAddHashed setAddHashedIn
  refine wpAny_holding (wpAny_bind (wpAny_setState_of ho hd hf ?_))
  dsimp only
  rw [byScan_of hsc hb hel]
  simp only [↓reduceIte]
  unfold setAddByScan
  refine wpAny_bind ?_
  refine wpAny_bind (wpAny_rule ?_)
  refine wpAny_bind (wpAny_setScan_of hkey ho hd hf hel ?_)
  cases hfi : List.findIdx? (fun e => (PySem.strKind P w).is k e.2) rows.toList with
  | some j =>
    dsimp only
    obtain ⟨hj, pj, _⟩ := List.findIdx?_eq_some_iff_getElem.mp hfi
    have hk : k ∈ ks := (hm k).mp ((tx_mem (P := P) (w := w) g k).mpr ⟨rows.toList[j], List.getElem_mem hj, pj⟩)
    refine wpAny_pure (wpAny_pure ?_)
    refine hQ _ s.heap (Heap.SameBut.refl a s.heap) ⟨ob, rows, ep, tb, ho, hx, hd, g, nd, fun i => ?_, by rw [List.length_append]; omega, hb, hf, hr, hl⟩
    rw [hm i, List.mem_append, List.mem_singleton]
    exact ⟨.inl, fun z => z.elim id fun e => e ▸ hk⟩
  | none =>
    dsimp only
    have hnk : k ∉ rows.toList.map txOf := fun z => by
      obtain ⟨e, he, q⟩ := (tx_mem (P := P) (w := w) g k).mp z
      have c := List.findIdx?_eq_none_iff.mp hfi e he
      rw [q] at c
      cases c
    have hgw : ∀ (b : Bool) {s₁ : Shared} {Q' : Unit → Shared → Prop}, Q' () s₁ → wpAny (model P w) A (match b with | true => rule "set.scan.the-table-gave-way" | false => pure ()) Q' E s₁ :=
      fun b s₁ Q' q => by cases b <;> first | exact wpAny_pure q | exact wpAny_rule q
    have pm := layNew_perm tb rows ((PySem.strKind P w).hash k) (.str k tk)
    have q1 := layNew_fits tb rows ((PySem.strKind P w).hash k) (.str k tk)
    have q2 := layNew_ris tb rows ((PySem.strKind P w).hash k) (.str k tk) hr
    have q3 := layNew_led tb rows ((PySem.strKind P w).hash k) (.str k tk)
    generalize layNew tb rows ((PySem.strKind P w).hash k) (.str k tk) = Z at pm q1 q2 q3 ⊢
    obtain ⟨r1, t1, dm, gave⟩ := Z
    dsimp only at pm q1 q2 q3 ⊢
    rw [Array.toList_push] at pm
    have pc : r1.toList.Perm (((PySem.strKind P w).hash k, Value.str k tk) :: rows.toList) := pm.trans (List.perm_append_singleton _ _)
    have pk : (r1.toList.map txOf).Perm (k :: rows.toList.map txOf) := pc.map txOf
    have g1 : ∀ e ∈ r1.toList, TxE P w e := fun e he => by
      rcases List.mem_cons.mp (pc.mem_iff.mp he) with z | z
      · rw [z]; exact ⟨k, tk, rfl, rfl⟩
      · exact g e z
    have nd1 : (r1.toList.map txOf).Nodup := pk.nodup_iff.mpr (List.nodup_cons.mpr ⟨hnk, nd⟩)
    have m1 : ∀ i, i ∈ r1.toList.map txOf ↔ i ∈ ks ++ [k] := fun i => by
      rw [pk.mem_iff, List.mem_cons, hm i, List.mem_append, List.mem_singleton]
      exact Or.comm
    have hsz : r1.size = rows.size + 1 := by rw [← Array.length_toList, pc.length_eq, List.length_cons, Array.length_toList]
    have le1 : r1.size ≤ (ks ++ [k]).length := by rw [hsz, List.length_append]; show _ ≤ ks.length + 1; omega
    have hb1 : r1.size < scanBound := by omega
    have hled : w.params.followText "set-order" = true ∨ t1.led = true := hl.imp id fun z => by rw [q3]; exact z
    refine wpAny_bind (hgw _ ?_)
    split
    · refine wpAny_bind ?_
      rw [hashByValue_scannable 8 hsc]
      refine wpAny_pure ?_
      refine tx_tail ?_ ho hx hd g1 nd1 m1 le1 hb1 ?_ ?_ ?_ ?_
      · intro b s₁ Q' q; cases b <;> first | exact wpAny_pure q | exact wpAny_rule q
      · first | (split <;> first | exact q1 | exact SetTable.fits_plain_off q1) | exact q1
      · first | (split <;> exact q2) | exact q2
      · first | (split <;> exact hled) | exact hled
      · intro g' sb r; dsimp only; exact wpAny_pure (hQ _ g' sb r)
    · refine wpAny_bind (wpAny_pure ?_)
      simp only [↓reduceIte]
      refine tx_tail ?_ ho hx hd g1 nd1 m1 le1 hb1 q1 q2 hled ?_
      · intro b s₁ Q' q; cases b <;> first | exact wpAny_pure q | exact wpAny_rule q
      · intro g' sb r; dsimp only; exact wpAny_pure (hQ _ g' sb r)
theorem tx_fresh {g : Heap} (ks : List Str) (ho : g.get? a = some { cls := .type "set", dict := none, data := .set #[] 0 (.fresh 0 0 (!w.params.followText "set-order")) }) : TxSet P w g a (ks.take 0) :=
  ⟨_, #[], 0, _, ho, ⟨rfl, rfl, rfl⟩, rfl, (fun e he => by simp at he), (by simp), (fun k => by simp), Nat.zero_le _, (by decide), (by rfl), List.Pairwise.nil, by
    show _ ∨ (!w.params.followText "set-order") = true
    cases w.params.followText "set-order"
    · exact .inr rfl
    · exact .inl rfl⟩
theorem tx_update {I : Addr} {fp wr : List Addr} {G : Array GenState → Array GenState → Prop} {n : Nat} {Pv : Nat → Value → Prop} {St : Nat → Shared → Prop} {R : Result → Shared → Prop}
    (W : WalksS P w A.in1 I fp wr G n Pv St) (D : Addr) (hDf : D ∉ fp) (ks : List Str) (hn : n = ks.length) (hb : ks.length + 1 < scanBound) (hval : ∀ i v, Pv i v → ∃ k t, ks[i]? = some k ∧ v = .str k t) :
    ∀ (m i : Nat) (s : Shared), n - i = m → i ≤ n → St i s → TxSet P w s.heap D (ks.take i) →
      (∀ s', Moved (D :: wr) G s s' → TxSet P w s'.heap D ks → R (.ok (.ret .none)) s') →
      codeAny (model P w) A (.builtin "set.update.loop" ⟨[.ref D, .ref I], []⟩) R s := by
  have hDw : D ∉ wr := fun h => hDf (W.sub _ h)
  have sub : ∀ b ∈ wr, b ∈ D :: wr := fun b hb => List.mem_cons_of_mem _ hb
  intro m
  induction m with
  | zero =>
    intro i s hm hi hst hS hR
    obtain rfl : i = n := by omega
    refine codeAny_builtin F.entry_set_update_loop ?_
    rw [Around.under_plainId F.plain_set_update_loop _]
    show wpAny _ A.in1 (pyNext (.ref I) >>= _) _ _ s
    refine wpAny_bind (W.done s _ _ hst fun s' mv => ?_)
    show wpAny _ A.in1 (ret Value.none) _ _ s'
    have e : ks.take i = ks := List.take_of_length_le (by omega)
    rw [e] at hS
    exact wpAny_pure (hR s' (mv.mono sub) (hS.keep fun o e => mv.heap D o hDw e))
  | succ m ih =>
    intro i s hm hi hst hS hR
    have hlt : i < n := by omega
    refine codeAny_builtin F.entry_set_update_loop ?_
    rw [Around.under_plainId F.plain_set_update_loop _]
    show wpAny _ A.in1 (pyNext (.ref I) >>= _) _ _ s
    refine wpAny_bind (W.item i s _ _ hlt hst fun v s' hP hst' mv => ?_)
    obtain ⟨z, t, hz, rfl⟩ := hval i v hP
    have hS' : TxSet P w s'.heap D (ks.take i) := hS.keep fun o e => mv.heap D o hDw e
    show wpAny _ A.in1 (holding [Value.str z t] (setAdd D (.str z t)) >>= _) _ _ s'
    refine wpAny_bind (wpAny_holding ?_)
    unfold setAdd
    refine wpAny_holding ?_
    refine wpAny_bind ((PySem.strKind P w).pyHash (k := z) (strKind_is _ _ _ _) ?_)
    refine tx_add (s := { s' with toks := s'.toks + 1 }) hS' (by rw [List.length_take]; omega) fun b g' sb hS2 => ?_
    have e : ks.take i ++ [z] = ks.take (i + 1) := by rw [List.take_add_one, hz]; rfl
    rw [e] at hS2
    refine wpAny_pure ⟨plainId_quiet F.plain_set_update_loop _, ih (i + 1) _ (by omega) hlt (W.frame _ s' _ _ hst' (Nat.le_succ _) fun b hb o e => ?_) hS2 fun s'' mv2 hS3 => ?_⟩
    · rw [sb.2 b (fun h : b = D => hDf (by rw [← h]; exact hb))]; exact e
    · refine hR s'' (Moved.trans W.gtrans ((mv.mono sub).then_heap (Nat.le_succ _) fun b o hb e => ?_) mv2) hS3
      rw [sb.2 b (fun h : b = D => hb (by rw [h]; exact List.mem_cons_self))]; exact e
abbrev freshO (w : World) : Obj := { cls := .type "set", dict := none, data := .set #[] 0 (.fresh 0 0 (!w.params.followText "set-order")) }
set_option maxHeartbeats 6400000 in
theorem tx_set {l : Addr} {its : Array Value} (ks : List Str) {Q : Value → Shared → Prop} (hh : A.handled = none) (hl : s.heap.IsList l its) (hit : PyProof.Rows.StrsAre its.toList ks) (hb : ks.length + 1 < scanBound)
    (h : ∀ (g' : Heap) (tk : Nat), TxSet P w g' s.heap.objs.size ks → (∀ b o, s.heap.get? b = some o → g'.get? b = some o) → Q (.ref s.heap.objs.size) { s with heap := g', toks := tk }) :
    wpAny (model P w) A (call (.type "set") [.ref l]) Q E s := by
  have hsz : its.size = ks.length := by
    rw [← PyProof.Rows.StrsAre.len_eq hit, Array.length_toList]
  obtain ⟨c, tl, hmro⟩ := F.called_set.mro
  have hmade := F.called_set.made
  have hsub := F.called_set.sub
  refine wpAny_call (codeAny_of_tree ?_)
  show wpAny _ _ (callAny (.type "set") _) _ _ _
  refine wpAny_pure ⟨Code.quiet_builtin _ (by decide +kernel), codeAny_builtin F.entry_type_call ?_⟩
  rw [Around.under_plain (weight_type_call_type "set" [.ref l] []) rfl]
  have f1 := F.called_set.notType
  have f2 := F.called_set.canCreate
  have f3 := F.typeCall_set_1 (.ref l)
  repeat (any_goals (first | assumption | wp_step))
  generalize hO : ({ cls := .type "set", dict := none, data := .set #[] 0 (.fresh 0 0 (!w.params.followText "set-order")) } : Obj) = O
  refine codeAny_mono (code_set_led1 (.ref l) (E := E) (Q₁ := fun ob s₁ => ob = .ref s.heap.objs.size ∧ s₁ = { s with heap := s.heap.push O }) ⟨rfl, by rw [hO]⟩) fun r s₁ hr => ?_
  cases r with
  | error e => exact hr
  | ok fl =>
    cases fl with
    | ret ob =>
      obtain ⟨rfl, rfl⟩ := hr
      have hcO : O.cls = .type "set" := by rw [← hO]
      have hS : (s.heap.push O).get? s.heap.objs.size = some O := Heap.get?_push_size _ (by rw [← hO]; rfl)
      have hT : Shared.TypeIs { s with heap := s.heap.push O } (.ref s.heap.objs.size) "set" := ⟨_, hS, hcO⟩
      have f4 := F.called_set.init.lookup
      have f5 := F.called_set.init.bind (.ref s.heap.objs.size)
      repeat (any_goals (first | assumption | wp_step))
      refine codeAny_mono (codeAny_call_builtin (R := wants (fun r s₂ => r = .none ∧ ∃ g' tk, s₂ = { s with heap := g', toks := tk } ∧ TxSet P w g' s.heap.objs.size ks ∧
          (∀ b o, s.heap.get? b = some o → g'.get? b = some o)) E) F.called_set.init.plain F.entry_set_init (check_set_init_1 hT ?_)) fun r₂ s₂ hr₂ => ?_
      · subst hO
        obtain ⟨ol, hol, hcl, nl, hdl⟩ := hl
        obtain ⟨ocls, odict, odata, oslots⟩ := ol
        simp only at hcl hdl
        subst hcl; subst hdl
        have hol' : (s.heap.push (freshO w)).get? l = some { cls := .type "list", dict := odict, data := .seq its nl, slots := oslots } := Heap.get?_push_of_some _ hol
        have f6 := F.sub_list_set
        have f7 := F.sub_list_frozenset
        have f8 : (Value.type "list" == Value.type "dict") = false := by decide
        have hl1 : (s.heap.push (freshO w)).IsList l its := ⟨_, hol', rfl, nl, rfl⟩
        unfold Builtin.«set.__init__» noKeywords Builtin.Frozenset.updateFrom
        generalize hPI : pyIter = PI
        wp_walk
        subst hPI
        refine wpAny_pyIter_list hl1 ?_
        refine wpAny_bind (wpAny_runValue ?_)
        have hlt : l < s.heap.objs.size := Heap.lt_size hol
        have hh3 : A.in1.in1.in1.handled = none := by simp [hh]
        have hne : l ≠ (s.heap.push (freshO w)).objs.size := by
          rw [Heap.size_push]; exact Nat.ne_of_lt (Nat.lt_succ_of_lt hlt)
        have hDf : s.heap.objs.size ∉ [(s.heap.push (freshO w)).objs.size, l] := by
          rw [Heap.size_push]; simp only [List.mem_cons, List.mem_singleton, List.not_mem_nil, or_false, not_or]
          exact ⟨Nat.ne_of_lt (Nat.lt_succ_self _), Nat.ne_of_gt hlt⟩
        have hval : ∀ (i : Nat) (v : Value), its[i]? = some v → ∃ k t, ks[i]? = some k ∧ v = .str k t := fun i v hv => by
          have hi : i < ks.length := by rw [← hsz]; exact (Array.getElem?_eq_some_iff.mp hv).1
          obtain ⟨t, e⟩ := SS.strs_at hit i v (by rw [Array.getElem?_toList]; exact hv)
          refine ⟨ks[i], t, List.getElem?_eq_getElem hi, ?_⟩
          rw [e, List.getD_eq_getElem?_getD, List.getElem?_eq_getElem hi] <;> rfl
        refine tx_update ((Walks.list hh3 _ l hne its).toS) s.heap.objs.size
          hDf ks hsz hb hval (its.size - 0) 0 _ (by omega) (Nat.zero_le _)
          ⟨⟨_, Heap.get?_push_size _ rfl, rfl, rfl⟩, (hl1.push _)⟩ ?hS0 ?hR
        case hS0 =>
          have hget : ((s.heap.push (freshO w)).push { cls := .type "list_iterator", data := .fields #[.ref l, .int 0 0] }).get? s.heap.objs.size = some (freshO w) := Heap.get?_push_of_some _ hS
          exact tx_fresh ks hget
        case hR =>
          intro s' mv hS'
          obtain ⟨g', g2, d', tk', os'⟩ := s'
          have eg : g2 = s.gens := mv.gens
          have ed : d' = s.drawn := mv.drawn
          have eo : os' = s.os := mv.os
          subst eg; subst ed; subst eo
          show wpAny _ _ _ _ _ _
          refine wpAny_pure ?_
          show wpAny _ _ (ret Value.none) _ _ _
          refine wpAny_pure ⟨rfl, g', tk', rfl, hS', fun b o e => ?_⟩
          have hb0 : b < s.heap.objs.size := Heap.lt_size e
          have hb1 : b ≠ s.heap.objs.size := Nat.ne_of_lt hb0
          have hb2 : b ≠ (s.heap.push (freshO w)).objs.size := by
            rw [Heap.size_push]; exact Nat.ne_of_lt (Nat.lt_succ_of_lt hb0)
          exact mv.heap b o (by simp only [List.mem_cons, List.mem_singleton, List.not_mem_nil, or_false, not_or]; exact ⟨hb1, hb2⟩) (Heap.get?_push_of_some _ (Heap.get?_push_of_some _ e))
      · cases r₂ with
        | error e => exact hr₂
        | ok fl₂ =>
          cases fl₂ with
          | ret r =>
            obtain ⟨rfl, g', tk, rfl, hS', hk'⟩ := hr₂
            repeat (any_goals (first | assumption | wp_step))
            exact h _ _ hS' hk'
          | _ => exact hr₂.elim
    | _ => exact hr.elim
theorem tx_vals : ∀ (l : List Value), (∀ v ∈ l, ∃ k tk, v = Value.str k tk) → PyProof.Rows.StrsAre l (l.map fun v => txOf (0, v))
  | [], _ => .nil
  | v :: l, h => by
    obtain ⟨k, tk, rfl⟩ := h v List.mem_cons_self
    exact .cons k tk (tx_vals l fun v hv => h v (List.mem_cons_of_mem _ hv))
theorem tx_sorted {ks : List Str} {Q : Value → Shared → Prop} (R : TxSet P w s.heap a ks) (hh : A.handled = none) (h64 : ks.length < 64)
    (hQ : ∀ s' p (out : Array Value) (c : Nat) (ys : List Str), (∀ b o, s.heap.get? b = some o → s'.heap.get? b = some o) → s'.gens = s.gens → s'.os = s.os → s.heap.objs.size ≤ p →
      s'.heap.get? p = some (seqObj "list" out c) → PyProof.Rows.StrsAre out.toList ys → ys.Nodup → (∀ k, k ∈ ys ↔ k ∈ ks) → PyProof.Rows.sortedS ys = true → ys.length ≤ ks.length → Q (.ref p) s') :
    wpAny (model P w) A (call (.builtin "sorted") [.ref a]) Q E s := by
  obtain ⟨ob, rows, ep, tb, ho, hex, hd, g, nd, hm, hle, hb, hf, hr, hl⟩ := R
  refine Calls.call_function_entry kind_sorted plain_sorted entry_sorted (args_sorted1 _) ?_
  unfold Builtin.«sorted»
  refine wpAny_bind (m := checkCount "sorted" 1 1 _) (wpAny_pure ?_)
  refine wpAny_bind (collect_set (A := A.in1) hh ⟨ob, ho, hex.1, hd⟩ hf hb hr hl fun s1 vs k1 hz g1 o1 pm => ?_)
  have hvl : vs.length ≤ ks.length := by rw [pm.length_eq, List.length_map, Array.length_toList]; exact hle
  have hI := tx_vals vs fun v hv => by
    obtain ⟨e, he, q⟩ := List.mem_map.mp (pm.mem_iff.mp hv)
    obtain ⟨k, tk, h1, _⟩ := g e he
    exact ⟨k, tk, by rw [← q]; exact h1⟩
  have pk : (vs.map fun v => txOf (0, v)).Perm (rows.toList.map txOf) := by
    have q := pm.map fun v => txOf (0, v)
    rw [List.map_map] at q
    exact q
  refine wpAny_bind (wpAny_newList ?_ (by rw [sizeLine_eq]; omega))
  have hoL : (s1.heap.push (seqObj "list" vs.toArray 0)).get? s1.heap.objs.size = some (seqObj "list" vs.toArray 0) := Heap.get?_push_size _ rfl
  refine wpAny_bind (wpAny_holding (wpAny_call_entry slot_list_sort ⟨_, hoL, rfl⟩ entry_list_sort (list_sort_treeK strKind_oneLt hoL hI.keysOf (fun v₁ v₂ rest e => keyKind_strs (by rw [← e]; exact hI)) (by omega) fun st' a1 a2 => ⟨_, rfl, ?_⟩) (args_list_sort _)))
  obtain ⟨ys, b1, b2, b3⟩ := sorted_out_str hI a1 a2
  obtain ⟨c, hc⟩ := sortedHeap_at (vs := vs) (out := (arrOf st').map (·.2)) hoL
  have pn : ys.Perm (rows.toList.map txOf) := b2.trans pk
  refine wpAny_pure ⟨_, rfl, hQ _ s1.heap.objs.size _ c ys (fun b u e => ?_) g1 o1 hz hc b1 (pn.nodup_iff.mpr nd) (fun k => by rw [pn.mem_iff, hm k]) b3 ?_⟩
  · have q := k1 b u e
    have hlt := Heap.lt_size q
    show (sortedHeap (s1.heap.push (seqObj "list" vs.toArray 0)) s1.heap.objs.size vs _).get? b = some u
    rw [sortedHeap_old (Nat.ne_of_lt hlt) (by rw [size_push']; exact Nat.lt_succ_of_lt hlt)]
    exact Heap.get?_push_of_some _ q
  · rw [pn.length_eq, List.length_map, Array.length_toList]; exact hle
end
/-- the set of texts at a -/
def TxO (P : Program) (w : World) (a : Addr) (ks : List Str) : HO := .ext fun g => TxSet P w g a ks
section
variable {X : Cx}
theorem txO_new {P : Program} {w : World} {H : Hp} {g : Heap} {a : Addr} {ks : List Str} (R : TxSet P w g a ks) : ObjOk P w H g a (TxO P w a ks) := by
  have ⟨o, _, _, _, ho, _⟩ := R
  exact ⟨R, ⟨o, ho⟩, fun h1 h2 p k => TxSet.keep p k⟩
/-- set(xs), xs a list of texts -/
def rSetTx (K : PySem.W.Frag) (P : Program) (w : World) : List V → Hp → VK → Prop := fun xs H Q => ∃ (l : Addr) (ks : List Str), xs = [V.ref l] ∧ SqL K H l (ks.map V.str) ∧ ks.length < 4000 ∧
  ∀ a, H a = none → Q (.ref a) (upd H a (TxO P w a ks))
theorem cr_setTx (hc : X.calm = true) : CallR X (.type "set") (rSetTx X.K X.prog X.w) := by
  intro pins s σ H xs us Q I r h
  obtain ⟨l, ks, rfl, hl, hf, q⟩ := h
  rw [Vals.ref1 r]
  obtain ⟨its, rv, pl, hz⟩ := I.list hl
  have hn : H s.heap.objs.size = none := I.hok.fresh (Nat.le_refl _)
  refine tx_set (P := X.prog) (w := X.w) ks (I.ok.hd hc) pl.isList rv.strs (by unfold scanBound; omega) fun g' tk R k => ?_
  exact ⟨.ref s.heap.objs.size, upd H s.heap.objs.size (TxO X.prog X.w s.heap.objs.size ks), I.laid (t' := tk) k (Nat.le_refl _) (txO_new R), rfl, q _ hn⟩
/-- sorted of such a set -/
def rSortTx (P : Program) (w : World) : List V → Hp → VK → Prop := fun xs H Q => ∃ (a : Addr) (ks : List Str), xs = [V.ref a] ∧ H a = some (TxO P w a ks) ∧ ks.length < 64 ∧
  ∀ (ys : List Str) (p : Addr), ys.Nodup → (∀ k, k ∈ ys ↔ k ∈ ks) → PyProof.Rows.sortedS ys = true → ys.length ≤ ks.length → H p = none → Q (.ref p) (upd H p (.lst (ys.map V.str)))
theorem cr_sortTx (hc : X.calm = true) : CallR X (.builtin "sorted") (rSortTx X.prog X.w) := by
  intro pins s σ H xs us Q I r h
  obtain ⟨a, ks, rfl, ha, h64, q⟩ := h
  have R : TxSet X.prog X.w s.heap a ks := (I.hok a _ ha).1
  rw [Vals.ref1 r]
  refine tx_sorted R (I.ok.hd hc) h64 fun s' p out c ys k g o hp hg hi hnd hmem hso hle => ?_
  have hlen : (ys.map V.str).length ≤ sizeLine := by rw [List.length_map, sizeLine_eq]; omega
  have hn : H p = none := I.hok.fresh hp
  have J : Inv X pins σ (upd H p (.lst (ys.map V.str))) { s with heap := s'.heap, gens := s'.gens, drawn := s'.drawn, toks := s'.toks } :=
    I.call (ch := []) (Un.laid k hp hn) (I.hok.laid k hp ⟨hlen, out.toList, c, vals_of_strs hi, hg⟩) (by rw [g]; exact I.bare) (fun _ z => nomatch z)
  have e : s' = { s with heap := s'.heap, gens := s'.gens, drawn := s'.drawn, toks := s'.toks } := by
    cases s'
    cases s
    cases o
    rfl
  rw [e]
  exact ⟨.ref p, _, J, rfl, q ys p hnd hmem hso hle hn⟩
end
end My

/-! My own rules: a dict is locked, or was locked before; walks of locked dicts; two fors over a dict's values and each value's items. -/
namespace My
open PySem PySem.Spec PyProof.Rows L2
/-- as under a lock, where the thing may be locked before -/
def tMay (t : TS) : TS := fun D σ H => ∃ d u od, ∃ bk : Hp → Hp,
  ((H d = some u ∧ Mut (some u) ∧ bk = (fun H' => upd H' d u) ∧ ∀ od, t ⟨fun σ' H' => H' d = some (.frz od u) ∧ D.nx σ' (bk H'), fun v H' => H' d = some (.frz od u) ∧ D.rt v (bk H'), fun σ' H' => H' d = some (.frz od u) ∧ D.bk σ' (bk H'), fun σ' H' => H' d = some (.frz od u) ∧ D.ct σ' (bk H')⟩ σ (upd H d (.frz od u))) ∨
    (H d = some (.frz od u) ∧ bk = id ∧ t ⟨fun σ' H' => H' d = some (.frz od u) ∧ D.nx σ' (bk H'), fun v H' => H' d = some (.frz od u) ∧ D.rt v (bk H'), fun σ' H' => H' d = some (.frz od u) ∧ D.bk σ' (bk H'), fun σ' H' => H' d = some (.frz od u) ∧ D.ct σ' (bk H')⟩ σ H))
section
variable {X : Cx}
theorem ps_may {st : Stmt} {t : TS} (h : PS X st t) : PS X st (tMay t) := by
  refine ⟨fun pins s σ H D I hw => ?_⟩
  obtain ⟨d, u, od, bk, ⟨hd, mu, rfl, hw⟩ | ⟨hd, rfl, hw⟩⟩ := hw
  · exact (ps_lock h).run pins s σ H D I ⟨d, u, hd, mu, hw⟩
  · refine thn (h.run pins s σ _ _ I hw) fun f s1 q => ?_
    cases f with
    | next => obtain ⟨σ', H', I2, _, q⟩ := q; exact ⟨σ', H', I2, q⟩
    | brk => obtain ⟨σ', H', I2, _, q⟩ := q; exact ⟨σ', H', I2, q⟩
    | cont => obtain ⟨σ', H', I2, _, q⟩ := q; exact ⟨σ', H', I2, q⟩
    | ret v => obtain ⟨x, σ', H', I2, r, _, q⟩ := q; exact ⟨x, σ', H', I2, r, q⟩
end
theorem may_ask {t : TS} {D : Ends} {σ : L2.St} {H : Hp} {d : Addr} {kvs : List (Key × V)} (hd : Rd H d (.dK kvs))
    (k : ∀ od Hl, ∀ bk : Hp → Hp, Hl d = some (.frz od (.dK kvs)) → (∀ c, c ≠ d → Hl c = H c) → (∀ H' c, c ≠ d → bk H' c = H' c) → (∀ H', H' d = some (.frz od (.dK kvs)) → bk H' d = H d) →
      t ⟨fun σ' H' => H' d = some (.frz od (.dK kvs)) ∧ D.nx σ' (bk H'), fun v H' => H' d = some (.frz od (.dK kvs)) ∧ D.rt v (bk H'), fun σ' H' => H' d = some (.frz od (.dK kvs)) ∧ D.bk σ' (bk H'), fun σ' H' => H' d = some (.frz od (.dK kvs)) ∧ D.ct σ' (bk H')⟩ σ Hl) : tMay t D σ H := by
  rcases hd with hd | ⟨o, hd⟩
  · exact ⟨d, _, default, _, .inl ⟨hd, trivial, rfl, fun od => k od _ _ upd_same (fun c h => upd_ne h) (fun H' c h => upd_ne h) fun H' _ => by rw [hd]; exact upd_same⟩⟩
  · exact ⟨d, _, o, _, .inr ⟨hd, rfl, k o H id hd (fun c _ => rfl) (fun H' c _ => rfl) fun H' e => by rw [hd]; exact e⟩⟩
section
variable {d : Addr} {o : Obj} {kvs : List (Key × V)} {g : TG} {tb : TS} {D : Ends} {σ : L2.St} {H : Hp}
theorem for_vals (Pv : Nat → L2.St → Hp → Prop) (h0 : Pv 0 σ H) (hl : ∀ i σ H, i ≤ kvs.length → Pv i σ H → H d = some (.frz o (.dK kvs)))
    (hs : ∀ i k v σ H, kvs[i]? = some (k, v) → Pv i σ H → g v σ H fun σ2 H2 => tb { D with nx := Pv (i + 1), ct := Pv (i + 1), bk := D.nx } σ2 H2) (hd : ∀ σ H, Pv kvs.length σ H → D.nx σ H) :
    ∃ W : Nat → Nat → L2.St → Hp → Prop, (∃ m, W 0 m σ H) ∧ ∀ i m σ H, W i m σ H →
      ((Itd d o kvs).stop i H ∧ D.nx σ H) ∨ ((Itd d o kvs).go i H ∧ ∃ N : L2.St → Hp → Prop, (∀ σ' H', N σ' H' → ∃ m', m' < m ∧ W (i + 1) m' σ' H') ∧ ∀ x H', (Itd d o kvs).yld i H x H' → g x σ H' fun σ2 H2 => tb { D with nx := N, ct := N, bk := D.nx } σ2 H2) := by
  refine ⟨fun i m σ H => m = kvs.length - i ∧ i ≤ kvs.length ∧ Pv i σ H, ⟨kvs.length, by simp, Nat.zero_le _, h0⟩, ?_⟩
  rintro i m σ H ⟨rfl, hi, p⟩
  have q := hl i σ H hi p
  rcases Nat.lt_or_ge i kvs.length with lt | ge
  · refine .inr ⟨⟨q, lt⟩, Pv (i + 1), fun σ' H' p' => ⟨kvs.length - (i + 1), by omega, rfl, lt, p'⟩, ?_⟩
    rintro x H' ⟨rfl, k, e⟩
    exact hs i k x σ _ e p
  · have e : i = kvs.length := by omega
    subst e
    exact .inl ⟨⟨q, Nat.le_refl _⟩, hd σ H p⟩
theorem for_ents (Pv : Nat → L2.St → Hp → Prop) (h0 : Pv 0 σ H) (hl : ∀ i σ H, i ≤ kvs.length → Pv i σ H → H d = some (.frz o (.dK kvs)))
    (hs : ∀ i k v T σ H, kvs[i]? = some (k, v) → Pv i σ H → H T = none → g (.ref T) σ (upd H T (.tup [kV k, v])) fun σ2 H2 => tb { D with nx := Pv (i + 1), ct := Pv (i + 1), bk := D.nx } σ2 H2) (hd : ∀ σ H, Pv kvs.length σ H → D.nx σ H) :
    ∃ W : Nat → Nat → L2.St → Hp → Prop, (∃ m, W 0 m σ H) ∧ ∀ i m σ H, W i m σ H →
      ((Iti d o kvs).stop i H ∧ D.nx σ H) ∨ ((Iti d o kvs).go i H ∧ ∃ N : L2.St → Hp → Prop, (∀ σ' H', N σ' H' → ∃ m', m' < m ∧ W (i + 1) m' σ' H') ∧ ∀ x H', (Iti d o kvs).yld i H x H' → g x σ H' fun σ2 H2 => tb { D with nx := N, ct := N, bk := D.nx } σ2 H2) := by
  refine ⟨fun i m σ H => m = kvs.length - i ∧ i ≤ kvs.length ∧ Pv i σ H, ⟨kvs.length, by simp, Nat.zero_le _, h0⟩, ?_⟩
  rintro i m σ H ⟨rfl, hi, p⟩
  have q := hl i σ H hi p
  rcases Nat.lt_or_ge i kvs.length with lt | ge
  · refine .inr ⟨⟨q, lt⟩, Pv (i + 1), fun σ' H' p' => ⟨kvs.length - (i + 1), by omega, rfl, lt, p'⟩, ?_⟩
    rintro x H' ⟨T, k, v, e, rfl, nT, rfl⟩
    exact hs i k v T σ H e p nT
  · have e : i = kvs.length := by omega
    subst e
    exact .inl ⟨⟨q, Nat.le_refl _⟩, hd σ H p⟩
theorem for_keys (Pv : Nat → L2.St → Hp → Prop) (h0 : Pv 0 σ H) (hl : ∀ i σ H, i ≤ kvs.length → Pv i σ H → H d = some (.frz o (.dK kvs)))
    (hs : ∀ i k v σ H, kvs[i]? = some (k, v) → Pv i σ H → g (kV k) σ H fun σ2 H2 => tb { D with nx := Pv (i + 1), ct := Pv (i + 1), bk := D.nx } σ2 H2) (hd : ∀ σ H, Pv kvs.length σ H → D.nx σ H) :
    ∃ W : Nat → Nat → L2.St → Hp → Prop, (∃ m, W 0 m σ H) ∧ ∀ i m σ H, W i m σ H →
      ((Itk d o kvs).stop i H ∧ D.nx σ H) ∨ ((Itk d o kvs).go i H ∧ ∃ N : L2.St → Hp → Prop, (∀ σ' H', N σ' H' → ∃ m', m' < m ∧ W (i + 1) m' σ' H') ∧ ∀ x H', (Itk d o kvs).yld i H x H' → g x σ H' fun σ2 H2 => tb { D with nx := N, ct := N, bk := D.nx } σ2 H2) := by
  refine ⟨fun i m σ H => m = kvs.length - i ∧ i ≤ kvs.length ∧ Pv i σ H, ⟨kvs.length, by simp, Nat.zero_le _, h0⟩, ?_⟩
  rintro i m σ H ⟨rfl, hi, p⟩
  have q := hl i σ H hi p
  rcases Nat.lt_or_ge i kvs.length with lt | ge
  · refine .inr ⟨⟨q, lt⟩, Pv (i + 1), fun σ' H' p' => ⟨kvs.length - (i + 1), by omega, rfl, lt, p'⟩, ?_⟩
    rintro x H' ⟨rfl, k, v, e, rfl⟩
    exact hs i k v σ _ e p
  · have e : i = kvs.length := by omega
    subst e
    exact .inl ⟨⟨q, Nat.le_refl _⟩, hd σ H p⟩
end
/-- the outer for of two: over a locked dict's values -/
theorem lc2_vals {d : Addr} {o : Obj} {kvs : List (Key × V)} {g : TG} {vs : List Nat} {σ : L2.St} {H1 : Hp} {D : Addr} {Qd : Hp → Prop} {R : L2.St → Hp → (Hp → Prop) → Prop} (Pv : Nat → Hp → Prop) (h0 : Pv 0 (upd H1 D (.lst []))) (hl : ∀ i H, i ≤ kvs.length → Pv i H → H d = some (.frz o (.dK kvs)))
    (hs : ∀ i k v H, kvs[i]? = some (k, v) → Pv i H → g v (wipe σ vs) H fun σ2 H2 => wipe σ2 vs = wipe σ vs ∧ R σ2 H2 (Pv (i + 1))) (hd : ∀ H, Pv kvs.length H → Qd H) :
    ∃ W : Nat → Nat → Hp → Prop, (∃ m, W 0 m (upd H1 D (.lst []))) ∧ ∀ i m H, W i m H →
      ((Itd d o kvs).stop i H ∧ Qd H) ∨ ((Itd d o kvs).go i H ∧ ∃ Nx : Hp → Prop, (∀ H', Nx H' → ∃ m', m' < m ∧ W (i + 1) m' H') ∧ ∀ x H', (Itd d o kvs).yld i H x H' → g x (wipe σ vs) H' fun σ2 H2 => wipe σ2 vs = wipe σ vs ∧ R σ2 H2 Nx) := by
  refine ⟨fun i m H => m = kvs.length - i ∧ i ≤ kvs.length ∧ Pv i H, ⟨kvs.length, by simp, Nat.zero_le _, h0⟩, ?_⟩
  rintro i m H ⟨rfl, hi, p⟩
  have q := hl i H hi p
  rcases Nat.lt_or_ge i kvs.length with lt | ge
  · refine .inr ⟨⟨q, lt⟩, Pv (i + 1), fun H' p' => ⟨kvs.length - (i + 1), by omega, rfl, lt, p'⟩, ?_⟩
    rintro x H' ⟨rfl, k, e⟩
    exact hs i k x _ e p
  · have e : i = kvs.length := by omega
    subst e
    exact .inl ⟨⟨q, Nat.le_refl _⟩, hd H p⟩
/-- the inner for of two: over a tuple -/
theorem lc2_tup {K : PySem.W.Frag} {a : Addr} {xs : List V} {Nx : Hp → Prop} {H4 : Hp} {R : V → Hp → (Hp → Prop) → Prop} (Pv : Nat → Hp → Prop) (h0 : Pv 0 H4) (hl : ∀ i H, i ≤ xs.length → Pv i H → SqT K H a xs)
    (hs : ∀ i x H, xs[i]? = some x → Pv i H → R x H (Pv (i + 1))) (hd : ∀ H, Pv xs.length H → Nx H) :
    ∃ W : Nat → Nat → Hp → Prop, (∃ m, W 0 m H4) ∧ ∀ j k H, W j k H →
      ((Itt K a).stop j H ∧ Nx H) ∨ ((Itt K a).go j H ∧ ∃ Nx1 : Hp → Prop, (∀ H', Nx1 H' → ∃ k', k' < k ∧ W (j + 1) k' H') ∧ ∀ x H', (Itt K a).yld j H x H' → R x H' Nx1) := by
  refine ⟨fun i m H => m = xs.length - i ∧ i ≤ xs.length ∧ Pv i H, ⟨xs.length, by simp, Nat.zero_le _, h0⟩, ?_⟩
  rintro i m H ⟨rfl, hi, p⟩
  have q := hl i H hi p
  rcases Nat.lt_or_ge i xs.length with lt | ge
  · refine .inr ⟨⟨xs, xs[i], q, by simp [lt]⟩, Pv (i + 1), fun H' p' => ⟨xs.length - (i + 1), by omega, rfl, lt, p'⟩, fun x H' y => ?_⟩
    obtain ⟨e, y⟩ := y
    subst e
    exact hs i x _ (y xs q) p
  · have e : i = xs.length := by omega
    subst e
    exact .inl ⟨⟨xs, q, Nat.le_refl _⟩, hd H p⟩
/-- a, b, c = a tuple or a list -/
def gSeq (K : PySem.W.Frag) (n : Nat) (t : TGs) : TG := fun v σ H Q => gTup K n t v σ H Q ∨ gLst K n t v σ H Q
theorem pg_seq {X : Cx} {pos : Pos} {es : List Expr} {k : Nat} {t : TGs} {n : Nat} (hc : X.calm = true) (h : PGs X es t)
    (hn : (assignEach es X.env).length = n := by rfl) (hst : (assignEach es X.env).findIdx? (·.1) = none := by rfl) : PG X (.Tuple es k pos) (gSeq X.K n t) :=
  ⟨fun pins s σ H v u Q I r hw => hw.elim ((pg_tup hc h hn hst).run pins s σ H v u Q I r) ((pg_lst hc h hn hst).run pins s σ H v u Q I r)⟩
/-- a for over a list or a tuple that stays -/
theorem for_seq {K : PySem.W.Frag} {a : Addr} {xs : List V} {g : TG} {tb : TS} {D : Ends} {σ : L2.St} {H H0 : Hp} (hq : SqL K H0 a xs ∨ SqT K H0 a xs) (Pv : Nat → L2.St → Hp → Prop) (h0 : Pv 0 σ H)
    (hl : ∀ i σ H', Pv i σ H' → (SqL K H0 a xs → SqL K H' a xs) ∧ (SqT K H0 a xs → SqT K H' a xs))
    (hs : ∀ i x σ H, xs[i]? = some x → Pv i σ H → g x σ H fun σ2 H2 => tb { D with nx := Pv (i + 1), ct := Pv (i + 1), bk := D.nx } σ2 H2) (hd : ∀ σ H, Pv xs.length σ H → D.nx σ H) :
    ((∃ xs, SqL K H a xs) ∧ ∃ W : Nat → Nat → L2.St → Hp → Prop, (∃ m, W 0 m σ H) ∧ ∀ i m σ H, W i m σ H →
      ((Itl K a).stop i H ∧ D.nx σ H) ∨ ((Itl K a).go i H ∧ ∃ N : L2.St → Hp → Prop, (∀ σ' H', N σ' H' → ∃ m', m' < m ∧ W (i + 1) m' σ' H') ∧ ∀ x H', (Itl K a).yld i H x H' → g x σ H' fun σ2 H2 => tb { D with nx := N, ct := N, bk := D.nx } σ2 H2)) ∨
    ((∃ xs, SqT K H a xs) ∧ ∃ W : Nat → Nat → L2.St → Hp → Prop, (∃ m, W 0 m σ H) ∧ ∀ i m σ H, W i m σ H →
      ((Itt K a).stop i H ∧ D.nx σ H) ∨ ((Itt K a).go i H ∧ ∃ N : L2.St → Hp → Prop, (∀ σ' H', N σ' H' → ∃ m', m' < m ∧ W (i + 1) m' σ' H') ∧ ∀ x H', (Itt K a).yld i H x H' → g x σ H' fun σ2 H2 => tb { D with nx := N, ct := N, bk := D.nx } σ2 H2)) := by
  rcases hq with hq | hq
  · exact .inl ⟨⟨_, (hl 0 σ H h0).1 hq⟩, for_list Pv h0 (fun i σ H' _ p => (hl i σ H' p).1 hq) hs hd⟩
  · exact .inr ⟨⟨_, (hl 0 σ H h0).2 hq⟩, for_tup Pv h0 (fun i σ H' _ p => (hl i σ H' p).2 hq) hs hd⟩
/-- {k: v for .. in xs}, xs a tuple that stays -/
theorem dc_tup {K : PySem.W.Frag} {a : Addr} {xs : List V} {g : TG} {tt : TT} {tk tv : TE} {vs : List Nat} {σ : L2.St} {H1 : Hp} {D : Addr} {Qd : Hp → Prop} (Pv : Nat → Hp → Prop) (h0 : Pv 0 (upd H1 D (.dK []))) (hl : ∀ i H, i ≤ xs.length → Pv i H → SqT K H a xs)
    (hs : ∀ i x H, xs[i]? = some x → Pv i H → g x (wipe σ vs) H fun σ2 H2 => wipe σ2 vs = wipe σ vs ∧ tt σ2 H2 fun b H3 =>
      if b = true then tk σ2 H3 fun y H4 => tv σ2 H4 fun z H5 => ∃ kvs k, y = kV k ∧ H5 D = some (.dK kvs) ∧ kvs.length < sizeLine ∧ Pv (i + 1) (upd H5 D (.dK (putK kvs k z))) else Pv (i + 1) H3) (hd : ∀ H, Pv xs.length H → Qd H) :
    ∃ W : Nat → Nat → Hp → Prop, (∃ m, W 0 m (upd H1 D (.dK []))) ∧ ∀ i m H, W i m H →
      ((Itt K a).stop i H ∧ Qd H) ∨ ((Itt K a).go i H ∧ ∃ Nx : Hp → Prop, (∀ H', Nx H' → ∃ m', m' < m ∧ W (i + 1) m' H') ∧ ∀ x H', (Itt K a).yld i H x H' → g x (wipe σ vs) H' fun σ2 H2 => wipe σ2 vs = wipe σ vs ∧ tt σ2 H2 fun b H3 =>
        if b = true then tk σ2 H3 fun y H4 => tv σ2 H4 fun z H5 => ∃ kvs k, y = kV k ∧ H5 D = some (.dK kvs) ∧ kvs.length < sizeLine ∧ Nx (upd H5 D (.dK (putK kvs k z))) else Nx H3) := by
  refine ⟨fun i m H => m = xs.length - i ∧ i ≤ xs.length ∧ Pv i H, ⟨xs.length, by simp, Nat.zero_le _, h0⟩, ?_⟩
  rintro i m H ⟨rfl, hi, p⟩
  have q := hl i H hi p
  rcases Nat.lt_or_ge i xs.length with lt | ge
  · refine .inr ⟨⟨xs, xs[i], q, by simp [lt]⟩, Pv (i + 1), fun H' p' => ⟨xs.length - (i + 1), by omega, rfl, lt, p'⟩, fun x H' y => ?_⟩
    obtain ⟨e, y⟩ := y
    subst e
    exact hs i x _ (y xs q) p
  · have e : i = xs.length := by omega
    subst e
    exact .inl ⟨⟨xs, q, Nat.le_refl _⟩, hd H p⟩
/-- {k: v for .. in xs}, xs a list or a tuple that stays -/
theorem dc_seq {K : PySem.W.Frag} {a : Addr} {xs : List V} {g : TG} {tt : TT} {tk tv : TE} {vs : List Nat} {σ : L2.St} {H1 H0 : Hp} {Qd : Addr → Hp → Prop} (hq : SqL K H0 a xs ∨ SqT K H0 a xs) (h1 : Same H0 H1) (Pv : Addr → Nat → Hp → Prop) (h0 : ∀ D, H1 D = none → Pv D 0 (upd H1 D (.dK []))) (hl : ∀ D i H', Pv D i H' → Same H0 H')
    (hs : ∀ D, H1 D = none → ∀ i x H, xs[i]? = some x → Pv D i H → g x (wipe σ vs) H fun σ2 H2 => wipe σ2 vs = wipe σ vs ∧ tt σ2 H2 fun b H3 =>
      if b = true then tk σ2 H3 fun y H4 => tv σ2 H4 fun z H5 => ∃ kvs k, y = kV k ∧ H5 D = some (.dK kvs) ∧ kvs.length < sizeLine ∧ Pv D (i + 1) (upd H5 D (.dK (putK kvs k z))) else Pv D (i + 1) H3) (hd : ∀ D H, H1 D = none → Pv D xs.length H → Qd D H) :
    ((∃ xs, SqL K H1 a xs) ∧ ∀ D, H1 D = none → ∃ W : Nat → Nat → Hp → Prop, (∃ m, W 0 m (upd H1 D (.dK []))) ∧ ∀ i m H, W i m H →
      ((Itl K a).stop i H ∧ Qd D H) ∨ ((Itl K a).go i H ∧ ∃ Nx : Hp → Prop, (∀ H', Nx H' → ∃ m', m' < m ∧ W (i + 1) m' H') ∧ ∀ x H', (Itl K a).yld i H x H' → g x (wipe σ vs) H' fun σ2 H2 => wipe σ2 vs = wipe σ vs ∧ tt σ2 H2 fun b H3 =>
        if b = true then tk σ2 H3 fun y H4 => tv σ2 H4 fun z H5 => ∃ kvs k, y = kV k ∧ H5 D = some (.dK kvs) ∧ kvs.length < sizeLine ∧ Nx (upd H5 D (.dK (putK kvs k z))) else Nx H3)) ∨
    ((∃ xs, SqT K H1 a xs) ∧ ∀ D, H1 D = none → ∃ W : Nat → Nat → Hp → Prop, (∃ m, W 0 m (upd H1 D (.dK []))) ∧ ∀ i m H, W i m H →
      ((Itt K a).stop i H ∧ Qd D H) ∨ ((Itt K a).go i H ∧ ∃ Nx : Hp → Prop, (∀ H', Nx H' → ∃ m', m' < m ∧ W (i + 1) m' H') ∧ ∀ x H', (Itt K a).yld i H x H' → g x (wipe σ vs) H' fun σ2 H2 => wipe σ2 vs = wipe σ vs ∧ tt σ2 H2 fun b H3 =>
        if b = true then tk σ2 H3 fun y H4 => tv σ2 H4 fun z H5 => ∃ kvs k, y = kV k ∧ H5 D = some (.dK kvs) ∧ kvs.length < sizeLine ∧ Nx (upd H5 D (.dK (putK kvs k z))) else Nx H3)) := by
  rcases hq with hq | hq
  · exact .inl ⟨⟨_, h1.seq hq⟩, fun D hD => dc_list (Pv D) (h0 D hD) (fun i H' _ p => (hl D i H' p).seq hq) (hs D hD) fun H p => hd D H hD p⟩
  · exact .inr ⟨⟨_, sqT_on h1 hq⟩, fun D hD => dc_tup (Pv D) (h0 D hD) (fun i H' _ p => sqT_on (hl D i H' p) hq) (hs D hD) fun H p => hd D H hD p⟩
/-- o.m(k1 = a, k2 = b), the names turned round -/
def kSwap {α : Type} : List α → List α → List α
  | [u], [a, b] => [u, b, a]
  | _, _ => []
theorem kbinds_swap {K : PySem.W.Frag} {fd : FuncData} {p0 p1 p2 k1 k2 : Str} (h : ∀ (s : Shared) (u a b : Value), BindsTo s fd ⟨[u], [(k1, a), (k2, b)]⟩ [(p0, u), (p1, b), (p2, a)]) : KBinds K fd [p0, p1, p2] [k1, k2] kSwap kSwap where
  to := fun s us ws _ hl => match us, ws, hl with
    | [u], [a, b], _ => h s u a b
    | [], _, hl => by simp [kSwap] at hl
    | [_], [], hl => by simp [kSwap] at hl
    | [_], [_], hl => by simp [kSwap] at hl
    | [_], _ :: _ :: _ :: _, hl => by simp [kSwap] at hl
    | _ :: _ :: _, _, hl => by simp [kSwap] at hl
  rel := fun {vs us zs ws} r rz => match vs, us, zs, ws, r, rz with
    | [_], [_], [_, _], [_, _], .cons a .nil, .cons b (.cons c .nil) => .cons a (.cons c (.cons b .nil))
    | [], [], _, _, .nil, _ => by simp only [kSwap]; exact .nil
    | [_], [_], [], [], .cons _ .nil, .nil => .nil
    | [_], [_], [_], [_], .cons _ .nil, .cons _ .nil => .nil
    | [_], [_], _ :: _ :: _ :: _, _ :: _ :: _ :: _, .cons _ .nil, .cons _ (.cons _ (.cons _ _)) => .nil
    | _ :: _ :: _, _ :: _ :: _, _, _, .cons _ (.cons _ _), _ => by simp only [kSwap]; exact .nil
end My

/-! My own rule: sorted(xs), xs a list of tuples of three texts. -/
namespace My
open PySem PySem.Spec PyProof.Rows L2
abbrev RowB := Addr × (Str × Str × Str)
def rowE (e : Str × Str × Str) : PyData := .tuple [.str e.1, .str e.2.1, .str e.2.2]
noncomputable def rowLe : RowB → RowB → Bool := PySem.W.dataLe false fun b => rowE b.2
theorem alike_rowE (a b : Str × Str × Str) : PySem.W.alike (rowE a) (rowE b) = true := by
  unfold rowE
  simp [PySem.W.alike, PySem.W.alikeAll]
theorem depth_rowE (a : Str × Str × Str) : (rowE a).depth ≤ 1 := by
  unfold rowE
  simp [PyData.depth, PyData.depthAll]
theorem each_refs {K : PySem.W.Frag} {X : Cx} {pins : List (Addr × Obj)} {σ : L2.St} {H : Hp} {s : Shared} (I : Inv X pins σ H s) : ∀ {bs : List RowB} {us : List Value}, Vals (bs.map fun b => V.ref b.1) us → (∀ b ∈ bs, SqT X.K H b.1 [.str b.2.1, .str b.2.2.1, .str b.2.2.2]) →
    PySem.W.EachIs (fun v b => v = Value.ref b.1) us bs ∧ PySem.W.EachIs (fun v b => ∃ as, Reads s.heap v (rowE b.2) as) us bs
  | [], _, .nil, _ => ⟨.nil, .nil⟩
  | b :: bs, _, .cons r t, h => by
    have r : _ = Value.ref b.1 := r
    subst r
    obtain ⟨e1, e2⟩ := each_refs (K := K) I t fun c hc => h c (List.mem_cons_of_mem _ hc)
    exact ⟨.cons rfl e1, .cons (Dp.reads I _ (V.ref b.1) _ (.tup (h b List.mem_cons_self) (.cons (.str _) (.cons (.str _) (.cons (.str _) .nil)))) rfl) e2⟩
theorem vals_each : ∀ {us : List Value} {bs : List RowB}, PySem.W.EachIs (fun v b => v = Value.ref b.1) us bs → Vals (bs.map fun b => V.ref b.1) us
  | _, _, .nil => .nil
  | _, _, .cons h t => .cons h (vals_each t)
section
variable {X : Cx}
def rSortRows (K : PySem.W.Frag) : List V → Hp → VK → Prop := fun vs H Q => ∃ (a : Addr) (bs : List RowB), vs = [V.ref a] ∧ SqL K H a (bs.map fun b => V.ref b.1) ∧ (∀ b ∈ bs, SqT K H b.1 [.str b.2.1, .str b.2.2.1, .str b.2.2.2]) ∧
  ∀ p, H p = none → Q (.ref p) (upd H p (.lst ((bs.mergeSort rowLe).map fun b => V.ref b.1)))
theorem cr_sortRows (hu : X.A.units + 64 < cLine) : CallR X (.builtin "sorted") (rSortRows X.K) := by
  intro pins s σ H vs us Q I r h
  obtain ⟨a, bs, rfl, hs, hb, q⟩ := h
  obtain ⟨its, rv, hl, hz⟩ := I.list hs
  rw [Vals.ref1 r]
  obtain ⟨e1, e2⟩ := each_refs (K := X.K) I rv hb
  have hlen : bs.length ≤ sizeLine := by rw [List.length_map] at hz; exact hz
  refine PySem.W.sorted_data (enc := fun b : RowB => rowE b.2) hl.isList e1 e2 (PySem.W.AllAlike.of fun b b' => alike_rowE b.2 b'.2) (PySem.W.Sortable.tuples fun b => ⟨_, _, rfl⟩) hlen (fun b _ => by have := depth_rowE b.2; omega) fun out ho e3 => ?_
  obtain ⟨ep, he'⟩ := PyProof.Rows.sortedAll_at s.heap its out.toArray
  have hl2 : ((bs.mergeSort rowLe).map fun b : RowB => V.ref b.1).length ≤ sizeLine := by rw [List.length_map, (List.mergeSort_perm bs rowLe).length_eq]; exact hlen
  exact ⟨.ref _, upd H (s.heap.objs.size + 1) (.lst ((bs.mergeSort rowLe).map fun b => V.ref b.1)), I.laid (t' := s.toks) (fun _ _ => PyProof.Rows.sortedAll_old) (Nat.le_succ _) ⟨hl2, out, ep, vals_each e3, he'⟩, rfl, q _ (I.hok.fresh (Nat.le_succ _))⟩
end
end My

/-! My own rule: for i, x in enumerate(xs, start=k), xs a list, k a whole number that is written there. -/
namespace My
open PySem PySem.Spec PyProof.Rows L2
open PySem.Calls
section
variable {M : Model} {A : Around} {E : Value → Shared → Prop} {s : Shared} {env : Env}
theorem callWith_typeKw {pos : Pos} {T : String} {first : List Value} {args : List (Bool × Sem Value)} {keywords : List (Option Str × Sem Value)} {Q : Value → Shared → Prop}
    (hplain : args.any (·.1) = false) (hkw : keywords.any (·.1.isNone) = false)
    (h : wpAny M A (evalArgs (.type T) true args keywords) (fun a s₁ => wpAny M A (call (.type T) (first ++ a.pos) a.kw) Q E s₁) E s) :
    wpAny M A (callWith pos (.type T) first args keywords) Q E s := by
  unfold callWith
  refine wpAny_bind (wpAny_holding (wpAny_mono h (fun a s₁ h₁ => wpAny_bind (wpAny_standAt ?_)) fun _ _ x => x))
  simp only [hplain, hkw, Bool.or_false]
  refine wpAny_bind (wpAny_pure ?_)
  exact wpAny_bind (wpAny_mono h₁ (fun r s₂ hr => wpAny_bind (wpAny_holding (wpAny_point (wpAny_pure hr)))) fun _ _ x => x)
theorem callWith_typeKw1 {pos : Pos} {T : String} {e : Expr} {rest : List Expr} {kws : List Keyword} {Q : Value → Shared → Prop}
    (h : wpAny M A (spliced (backTo pos (starEach (e :: rest) env))) (fun vs s₁ => wpAny M A (evalAll ((backToKw pos (keywordEach kws env)).map (·.2)))
      (fun kvs s₂ => wpAny M A (call (.type T) vs (((backToKw pos (keywordEach kws env)).filterMap (·.1)).zip kvs)) Q E s₂) E s₁) E s)
    (he : backTo pos (starEach (e :: rest) env) = (false, eval e env) :: backTo pos (starEach rest env) := by rfl)
    (hplain : (backTo pos (starEach (e :: rest) env)).any (·.1) = false := by rfl)
    (hall : (backToKw pos (keywordEach kws env)).all (·.1.isSome) = true := by rfl)
    (hkw : (backToKw pos (keywordEach kws env)).any (·.1.isNone) = false := by rfl) :
    wpAny M A (callWith pos (.type T) [] (backTo pos (starEach (e :: rest) env)) (backToKw pos (keywordEach kws env))) Q E s := by
  refine callWith_typeKw hplain hkw ?_
  rw [he] at h ⊢
  exact evalArgs_kwB hall h
end
/-- a list's items from its first, each with its number, the first one's being k -/
def ItS (K : PySem.W.Frag) (a : Addr) (k : Int) : It where
  go i H := ∃ ys v, SqL K H a ys ∧ ys[i]? = some v
  yld i H v H' := ∃ (pr : Addr) (z : V), v = V.ref pr ∧ H pr = none ∧ H' = upd H pr (HO.tup [V.int (k + (i : Int)), z]) ∧ ∀ ys, SqL K H a ys → ys[i]? = some z
  stop i H := ∃ ys : List V, SqL K H a ys ∧ ys.length ≤ i
/-- the counter at c over the list's iterator at j, at its i-th turn -/
def CntAt (c j a : Addr) (k : Int) (i : Nat) (h : Heap) : Prop := c ≠ j ∧ h.IsListIter j a i ∧ ∃ last, IsEnum h c j (k + (i : Int)) last
theorem two_cells {α : Type} {p : α → Prop} {x y : α} (hx : p x) (hy : p y) : ∀ b ∈ [x, y], p b := by
  simp only [List.mem_cons, List.not_mem_nil, or_false]
  rintro b (rfl | rfl)
  · exact hx
  · exact hy
theorem turn_count {P : Program} {w : World} {K : PySem.W.Frag} {es : List Expr} {n : Nat} {ps : Pos} (a c j : Addr) (k : Int) :
    Turn P w K (.Tuple es n ps) (ItS K a k) [c, j] c (CntAt c j a k) where
  mem := List.mem_cons_self
  obj i h st := two_cells (p := fun b => ∃ o, h.get? b = some o ∧ ∀ v, o.data ≠ .cell v) ⟨_, st.2.2.choose_spec, fun _ q => nomatch q⟩ (by
    obtain ⟨o, h1, _, h2⟩ := st.2.1
    exact ⟨o, h1, fun _ q => by rw [h2] at q; nomatch q⟩)
  keep i h h' st f := ⟨st.1, st.2.1.at fun o => f j (by simp) o, st.2.2.imp fun l q => f c (by simp) _ q⟩
  item := by
    rintro X rfl rfl rfl calm i pins s σ H E I low ⟨cj, hj, l, hc⟩ ⟨ys, v, hys, hv⟩
    obtain ⟨arr, rel, lst, _⟩ := I.list hys
    obtain ⟨u, hu, ruv⟩ := rel.get hv
    have aj : a ≠ j := fun z => by
      obtain ⟨o1, g1, k1, _⟩ := hj
      obtain ⟨o2, g2, k2, _⟩ := lst.isList
      rw [z, g1] at g2
      rw [Option.some.inj g2, k2] at k1
      revert k1
      decide
    have lc := Heap.lt_size hc
    have lj : j < s.heap.objs.size := let ⟨_, q, _⟩ := hj; Heap.lt_size q
    have ca : c ≠ a := fun z => by
      obtain ⟨o2, g2, k2, _⟩ := lst.isList
      have g1 := (show s.heap.get? c = _ from hc)
      rw [z, g2] at g1
      rw [Option.some.inj g1] at k2
      exact absurd (Value.type.inj k2) (by decide)
    have la : c ∉ [j, a] := by simp [cj, ca]
    refine wpAny_pyNext_enum_itemC (Draws.list (A := X.A.in1) (I.ok.hd calm) j a aj arr.toArray) hc ⟨hj, lst.isList⟩ ?_ cj la ?_
    · have := (List.getElem?_eq_some_iff.mp hu).1
      simpa using this
    intro x h1 tk hx out st1 new sz oth
    obtain rfl : u = x := by
      have hx : arr.toArray[i]? = some x := hx
      rw [List.getElem?_toArray, hu] at hx
      exact Option.some.inj hx
    refine ⟨_, rfl, wpAny_letOwnedTupleGo_enum (s := { s with heap := h1, toks := tk + 1 }) out fun h2 cnt same => ?_⟩
    have got : h2.get? s.heap.objs.size = some { cls := .type "tuple", data := .seq #[.int (k + (i : Int)) tk, u] } := (same.2 _ (Nat.ne_of_gt lc)).trans new
    have stays : ∀ b o, b ∉ [c, j] → s.heap.get? b = some o → h2.get? b = some o := fun b o hb q => by
      simp only [List.mem_cons, List.not_mem_nil, or_false, not_or] at hb
      exact (same.2 b hb.1).trans (oth b o hb.1 hb.2 q)
    have mine : ObjOk X.prog X.w (upd H s.heap.objs.size (HO.tup [V.int (k + (i : Int)), v])) h2 s.heap.objs.size (HO.tup [V.int (k + (i : Int)), v]) := ⟨by show 2 ≤ sizeLine; decide, _, .cons ⟨_, rfl⟩ (.cons ruv .nil), ⟨_, got, rfl, _, rfl⟩⟩
    have I2 := I.turnedNew (t' := tk + 1) stays low (Nat.le_refl _) mine
    exact ⟨V.ref s.heap.objs.size, _, I2, rfl, ⟨_, v, rfl, I.hok.fresh (Nat.le_refl _), rfl, fun zs hzs => by rw [I.list_inj hzs hys]; exact hv⟩, ⟨cj, st1.1.at fun o q => (same.2 j (Ne.symm cj)).trans q, u, by rw [show k + ((i + 1 : Nat) : Int) = k + (i : Int) + 1 by omega]; exact cnt⟩, two_cells (p := fun b => (upd H s.heap.objs.size _) b = none) (by rw [upd_ne (Nat.ne_of_lt lc)]; exact (low c (by simp)).1) (by rw [upd_ne (Nat.ne_of_lt lj)]; exact (low j (by simp)).1)⟩
  done := by
    rintro X rfl rfl rfl calm i pins s σ H E I low ⟨cj, hj, l, hc⟩ ⟨ys, hys, hle⟩
    obtain ⟨arr, rel, lst, _⟩ := I.list hys
    have aj : a ≠ j := fun z => by
      obtain ⟨o1, g1, k1, _⟩ := hj
      obtain ⟨o2, g2, k2, _⟩ := lst.isList
      rw [z, g1] at g2
      rw [Option.some.inj g2, k2] at k1
      revert k1
      decide
    have over : arr.toArray[i]? = none := by
      rw [List.getElem?_toArray, List.getElem?_eq_none_iff, ← rel.length]
      exact hle
    obtain ⟨f0, f1, f2, f3, f4, f5⟩ := low j (by simp)
    have D : Draws X.prog X.w X.A.in1 j [j, a] i (fun _ _ => True) (fun m h => m = i ∧ h.IsListIter j a m ∧ h.IsList a arr.toArray) :=
      { live := fun m h st => let ⟨o, g, _⟩ := st.2.1; ⟨o, g⟩
        frame := fun m h h' st f => ⟨st.1, st.2.1.at fun o => f j (by simp) o, st.2.2.at fun o => f a (by simp) o⟩
        item := fun m _ _ _ hm st _ => absurd st.1 (Nat.ne_of_lt hm)
        done := fun s' Q' E' st hE => wpAny_nextOf_list_end (I.ok.hd calm) st.2.1 st.2.2 (by rw [st.1]; exact over) hE }
    exact wpAny_pyNext_enum_endD D hc ⟨rfl, hj, lst.isList⟩ fun h' eb => ⟨rfl, I.turned (t' := s.toks) eb f0 f1 f3 f4 f5⟩
  self A i s Q E st q := wpAny_pyIter_enum st.2.2.choose_spec q
def iEnumS (K : PySem.W.Frag) (k : Int) (ta : TA) : TI := fun σ H R => ta σ H fun vs H1 => ∃ a xs, vs = [.ref a] ∧ SqL K H1 a xs ∧ R (ItS K a k) H1
theorem pi_enumS {X : Cx} {e : Expr} {ta : TA} {p pos tpos kp cp : Pos} {elts : List Expr} {kk : Nat} {k : Int} {c : Nat} (hg : Gl X "enumerate") (hm : X.mg "enumerate" = none) (ha : PA X [e] ta) (hk0 : -(2 ^ 63) ≤ k) (hk1 : k < 2 ^ 63) (he : backTo pos (starEach [e] X.env) = (false, eval e X.env) :: backTo pos (starEach [] X.env) := by rfl) (hpl : (backTo pos (starEach [e] X.env)).any (·.1) = false := by rfl) :
    PI X (.Tuple elts kk tpos) (.Call (.Name "enumerate" p) [e] [⟨some "start", .Constant (.int k) c cp, kp⟩] pos) (iEnumS X.K k ta) := by
  refine ⟨fun pins s σ H R I h => ?_⟩
  refine wpAny_Call_Name_kw (ld_blt I hg hm boot_enumerate ?_)
  refine callWith_typeKw1 (thn (ha.run pos pins s σ H _ I h) fun us s1 ⟨vs, H1, I1, r1, q1⟩ => ?_) he hpl
  obtain ⟨a, xs, ex, hq, q⟩ := q1
  subst ex
  cases r1 with
  | cons r rr =>
    cases rr
    cases r
    obtain ⟨arr, rel, lst, _⟩ := I1.list hq
    refine kwAll_cons (thn ((pe_int (X := X)).run pins s1 σ H1 (fun x H' => x = V.int k ∧ H' = H1) I1 ⟨rfl, rfl⟩) fun u s2 ⟨y, H2, I2, ry, ey, eh⟩ => ?_)
    subst ey eh
    obtain ⟨t, rfl⟩ := ry
    refine kwAll_nil ?_
    show wpAny _ _ (call (.type "enumerate") [.ref a] [(Str.ofString "start", .int k t)]) _ _ _
    obtain ⟨arr2, rel2, lst2, _⟩ := I2.list hq
    refine enum_begins_start (begins_list a arr2.toArray) lst2.isList hk0 hk1 fun h' cnt at0 sz old => wpAny_pyIter_enum cnt ?_
    refine ⟨s2.heap.objs.size + 1, [s2.heap.objs.size + 1, s2.heap.objs.size], _, _, H2, rfl, I2.kept (t' := s2.toks) old, turn_count a (s2.heap.objs.size + 1) s2.heap.objs.size k, ⟨Nat.succ_ne_self _, ⟨_, at0, rfl, rfl⟩, _, by rw [show k + ((0 : Nat) : Int) = k from Int.add_zero k]; exact cnt⟩, ?_, q⟩
    exact two_cells (p := fun b => FpOk X pins H2 b) (I2.fpOk (Nat.le_succ _) (I2.hok.fresh (Nat.le_succ _))) (I2.fpOk (Nat.le_refl _) (I2.hok.fresh (Nat.le_refl _)))
end My

/-! My own rule: o == a text, o an instance whose class has its own __eq__. -/
namespace My
open PySem PySem.Spec PyProof.Rows L2
section
variable {X : Cx} {k : Nat} {C f : Addr} {fd : FuncData} {ps : List Str} {sp : Sp} {CX : CXT} {E : XK}
def rOS (C : Addr) (sp : Sp) (E : XK) : R2 := fun x y H Q => ∃ a dx fs z, x = .ref a ∧ y = .str z ∧ H a = some (.ins C dx fs) ∧ sp [.ref a, .str z] H Q E
theorem cmp_ownS (O : OthC X.K C f) (hn : PySem.W.subIn X.K (.type "str") (.ref C) = some false) (F : FnOk X.prog X.w X.K X.mg X.base CX k f fd ps sp) (hr : Room k X.A) (hb : Binds X.K fd ps []) (hx : Passes CX X E) : OpR X (compareOp .Eq) (rOS C sp E) := by
  intro pins s σ H x y v u Q I rx ry h
  obtain ⟨a, dx, fs, z, rfl, rfl, ea, q⟩ := h
  obtain rfl : v = Value.ref a := rx
  obtain ⟨t, rfl⟩ := ry
  obtain ⟨mA, J, _⟩ := ins_get I.hok ea
  obtain ⟨od, J, _⟩ := J.look
  obtain ⟨m, hF⟩ := I.fr
  show wpAny (model X.prog X.w) X.A (richCompare .Eq (.ref a) (.str z t)) (EP X pins σ Q) X.xe s
  refine PySem.W.cmp_K (op := .Eq) (tb := .type "str") hr.units0 hF I.ok.mod.kin J (PySem.W.Looks.of_pure rfl) ?_ O.eq O.fn ?_
  · simp [PySem.W.notFirst, hn]
  · exact wpAny_mono (run_own (vs := [V.ref a, V.str z]) F hr hb hx I (.cons rfl (.cons ⟨t, rfl⟩ .nil)) q) (fun _ _ w => back_of w) fun _ _ e => e
end
end My

set_option maxHeartbeats 2000000
/-! My own rules: a def that raises nothing called within an except suite (k not in o there); xs.append(v) within a try. -/
namespace My
open PySem PySem.Spec PyProof.Rows L2
/-- what a def that raises nothing promises, whatever is being handled -/
structure FnC (P : Program) (w : World) (K : PySem.W.Frag) (mg : Str → Option Value) (base : Heap) (k : Nat) (f : Addr) (fd : FuncData) (ps : List Str) (sp : Sp) : Prop where
  lens : ∀ vs H Q E, sp vs H Q E → vs.length = ps.length
  runs : ∀ (A : Around) (outer : List Env) (s : Shared) (H : Hp) (args : Args) (us : List Value) (vs : List V) (Q : VK), L2H.RoomH k A → Env0 P w K mg base A outer s H → BindsTo s fd args (ps.zip us) → Vals vs us → sp vs H Q E0 → codeAny (model P w) A (.call (.ref f) args) (CR CX0 outer P w H s Q E0) s
/-- the context of its body -/
def cxC (P : Program) (w : World) (K : PySem.W.Frag) (mg : Str → Option Value) (base : Heap) (N : List Str) (qual : Str) (scope : Scope) (f : Addr) (cd : Value) (A : Around) (outer : List Env) (s : Shared) (H : Hp) : Cx :=
  { cxOf CX0 P w K mg base N qual scope f cd A outer s H E0 with calm := false, xe := fun _ _ => False }
theorem inv_cold {P : Program} {w : World} {K : PySem.W.Frag} {mg : Str → Option Value} {base : Heap} {N ps : List Str} {qual : Str} {scope : Scope} {f : Addr} {cd : Value} {A : Around} {outer : List Env} {s s1 : Shared} {H : Hp} {us : List Value} {vs : List V}
    (S : FnScope N ps scope) (e : Env0 P w K mg base A outer s H) (hl : vs.length = ps.length) (r : Vals vs us)
    (x : InCallC s s.heap.objs.size (bindL (envOfC qual scope s.heap.objs.size f cd).kindOf (ps.zip us) fun _ => none) (cellsFrom (s.heap.objs.size + 1) scope.names []) (bindC (envOfC qual scope s.heap.objs.size f cd).kindOf (ps.zip us) fun _ => none) s1) :
    Inv (cxC P w K mg base N qual scope f cd A outer s H) [] (L2.start N vs) H s1 := by
  have I := inv_start (CX := CX0) (E := E0) (f := f) (cd := cd) (A := { A with handled := none }) S rfl ⟨e.frames, e.mod, e.bs, e.bsz, e.funs, e.frf, e.hok, e.bare⟩ hl r x
  have o := I.ok
  exact ⟨⟨o.mod, o.kind, o.glob, o.blt, o.above, o.inj, o.has, o.cab, (fun z => nomatch z), o.frames, o.stk, o.exf, o.bs, o.bsz, o.noex, o.exfs, o.funs, o.frf⟩, I.os, I.bare, I.base, I.loc, I.cell, I.free, I.freeC, I.pin, I.hok, I.len⟩
theorem okC {P : Program} {w : World} {K : PySem.W.Frag} {mg : Str → Option Value} {base : Heap} {x qual : Str} {st : Stmt} {f : Addr} {fd : FuncData} {N ps : List Str} {k : Nat} {sp : Sp} (F : Fun K x qual st f fd) (S : FnScope N ps (defScope st)) (len : ∀ vs H Q E, sp vs H Q E → vs.length = ps.length)
    (hbody : ∀ (cdv : Value) (A : Around) (outer : List Env) (s : Shared) (H : Hp) (vs : List V) (Q : VK), L2H.RoomH k (A.deeper (envOfC qual (defScope st) s.heap.objs.size f cdv)) → sp vs H Q E0 →
      ∃ t, PSs (cxC P w K mg base N qual (defScope st) f cdv A outer s H) (defBody st) t ∧ t { nx := fun _ H' => Q .non H', rt := Q } (L2.start N vs) H) : FnC P w K mg base (k + 1) f fd ps sp := by
  obtain ⟨oc, od, kV, doc, pm, an, cdv, ct, osl, rfl, lk, hcd⟩ := F.ex
  refine ⟨len, fun A outer s H args us vs Q room e0 hb r hs => ?_⟩
  have inK : K.In s.heap := e0.mod.kin.keeps fun b o z => (e0.bs b o z).1
  have noL : s.heap.NoLimit := e0.mod.nolimit.keeps fun b o z => (e0.bs b o z).1
  refine codeAny_call_function room.depth (inK _ _ lk) rfl S.co S.gen rfl (PySem.W.codeRec_of inK hcd) (hb _ _ _ _ ?_)
  refine wpAny_newFunctionEnv_cells S.kind (fun ⟨n, v⟩ hy => ?_) fun env he s1 x => ?_
  · rcases S.par n (List.of_mem_zip hy).1 with q | q
    · exact .inl q
    · exact .inr ⟨q, PySem.W.cellsFrom_some _ _ _ (.inl q)⟩
  subst he
  refine ⟨noL.keeps x.toInCall.keep, codeAny_func ?_⟩
  obtain ⟨t, ht, hq⟩ := hbody cdv A outer s H vs Q (room.deeper _) hs
  have I := inv_cold (f := f) (cd := cdv) (A := A) S e0 (len _ _ _ _ hs) r x
  refine wpAny_mono (ht.run [] s1 (L2.start N vs) H _ I hq) (fun fl s' h2 => ?_) fun _ _ z => z.elim
  cases fl with
  | ret u =>
    obtain ⟨v, σ', H', J, rv, q⟩ := h2
    exact ⟨v, H', J.os, J.bare, J.base, J.hok, rv, q⟩
  | next =>
    obtain ⟨σ', H', J, q⟩ := h2
    exact ⟨.non, H', J.os, J.bare, J.base, J.hok, rfl, q⟩
  | brk =>
    obtain ⟨_, _, _, q⟩ := h2
    exact q.elim
  | cont =>
    obtain ⟨_, _, _, q⟩ := h2
    exact q.elim
section
variable {X : Cx} {k : Nat} {C f : Addr} {fd : FuncData} {ps : List Str} {sp : Sp}
theorem run_cold {pins : List (Addr × Obj)} {s : Shared} {σ : L2.St} {H : Hp} {Q : VK} {us : List Value} {vs : List V} (F : FnC X.prog X.w X.K X.mg X.base k f fd ps sp) (hr : L2H.RoomH k X.A) (hb : Binds X.K fd ps [])
    (I : Inv X pins σ H s) (r : Vals vs us) (h : sp vs H Q E0) : wpAny (model X.prog X.w) X.A (call (.ref f) us) (EP X pins σ Q) X.xe s := by
  have b := hb s us I.kIn (by rw [List.append_nil, ← F.lens _ _ _ _ h]; exact r.length.symm)
  rw [List.append_nil] at b
  refine wpAny_call (codeAny_mono (F.runs X.A X.stack s H ⟨us, []⟩ us vs _ hr I.env0 b r h) fun r s' hq => ?_)
  cases r with
  | error e => exact False.elim hq
  | ok fl =>
    cases fl with
    | ret w => exact I.after hq
    | next => exact False.elim hq
    | brk => exact False.elim hq
    | cont => exact False.elim hq
theorem op_notInC (D : DunC X.K C "__contains__" f) (F : FnC X.prog X.w X.K X.mg X.base k f fd ps sp) (hr : L2H.RoomH k X.A) (hb : Binds X.K fd ps []) : OpR X (compareOp .NotIn) (rInI C sp E0 true) := by
  intro pins s σ H x y v u Q I rx ry h
  obtain ⟨p, dx, fs, rfl, ea, q⟩ := h
  obtain rfl : u = Value.ref p := ry
  obtain ⟨mA, J, _⟩ := ins_get I.hok ea
  obtain ⟨od, J, _⟩ := J.look
  obtain ⟨m, hF⟩ := I.fr
  refine PySem.W.notIn_K hF I.ok.mod.kin J D.at_ D.fn (wpAny_mono (run_cold (vs := [V.ref p, x]) F hr hb I (.cons rfl (.cons rx .nil)) q) (fun r s' hr' => ?_) fun _ _ e => e)
  obtain ⟨z, H2, I2, rz, b, ez, q2⟩ := hr'
  subst ez
  obtain rfl : r = Value.bool b := rz
  exact wpAny_truthy_bool ⟨.bl (!b), H2, I2, rfl, q2⟩
end
theorem huH {A : Around} {k : Nat} (hr : L2H.RoomH k A) : A.units + 1 < cLine := by have := hr.un; omega
theorem roomC {k : Nat} {A : Around} (r : Room k A) (h : Option Value) : L2H.RoomH k (A.mark h) := ⟨r.dp, r.un⟩
/-- xs.append(v) within a try: what it asks names the outer context's kinds -/
theorem pe_bmT {X : Cx} {pn : List (Addr × Obj)} {xe : Value → Shared → Prop} {T : String} {name : Str} {o e : Expr} {es : List Expr} {to : TE} {t : TA} {r : V → List V → Hp → VK → Prop} {apos cpos : Pos} (h : PE (X.tr pn xe) (.Call (.Attribute o name apos) (e :: es) [] cpos) (tBM (X.tr pn xe).K T r to t)) :
    PE (X.tr pn xe) (.Call (.Attribute o name apos) (e :: es) [] cpos) (tBM X.K T r to t) := h
/-- is not, of truth values -/
def rNotB : R2 := fun x y H Q => ∃ a b, x = V.bl a ∧ y = V.bl b ∧ Q (.bl (a != b)) H
theorem op_notB {X : Cx} : OpR X (compareOp .IsNot) rNotB := by
  intro pins s σ H x y v u Q I rx ry h
  obtain ⟨a, b, rfl, rfl, q⟩ := h
  obtain rfl : v = Value.bool a := rx
  obtain rfl : u = Value.bool b := ry
  exact wpAny_isNot_plain rfl (fin_bl I q (by cases a <;> cases b <;> rfl))
end My

namespace My
open PySem PySem.Spec PyProof.Rows L2
def topS (i : Nat) : Stmt := PySem.Challenge.pw_extralink_k11_network_parts.main.body.getD i (.Pass ⟨0, 0, 0, 0⟩)
abbrev s_valid_name : Stmt := topS 15
theorem sc_valid_name : FnScope ["text", "char"] ["text"] (defScope s_valid_name) := ⟨rfl, rfl, rfl, by decide +kernel, rfl, by decide +kernel, by decide +kernel⟩
abbrev s_ordered_places : Stmt := topS 19
theorem sc_ordered_places : FnScope ["table", "start", "end", "inner", "ends", "place"] ["table", "start", "end"] (defScope s_ordered_places) := ⟨rfl, rfl, rfl, by decide +kernel, rfl, by decide +kernel, by decide +kernel⟩
abbrev s_places_behind : Stmt := topS 20
theorem sc_places_behind : FnScope ["table", "first", "found", "waiting", "place", "tail", "head"] ["table", "first"] (defScope s_places_behind) := ⟨rfl, rfl, rfl, by decide +kernel, rfl, by decide +kernel, by decide +kernel⟩
abbrev s_useful_names : Stmt := topS 21
theorem sc_useful_names : FnScope ["table", "start", "end", "reached", "name", "tail", "head"] ["table", "start", "end"] (defScope s_useful_names) := ⟨rfl, rfl, rfl, by decide +kernel, rfl, by decide +kernel, by decide +kernel⟩
abbrev s_check_ends : Stmt := topS 22
theorem sc_check_ends : FnScope ["start", "end", "place"] ["start", "end"] (defScope s_check_ends) := ⟨rfl, rfl, rfl, by decide +kernel, rfl, by decide +kernel, by decide +kernel⟩
abbrev s_check_names : Stmt := topS 23
theorem sc_check_names : FnScope ["links", "known", "name", "tail", "head", "place"] ["links"] (defScope s_check_names) := ⟨rfl, rfl, rfl, by decide +kernel, rfl, by decide +kernel, by decide +kernel⟩
abbrev s_check_rounds : Stmt := topS 24
theorem sc_check_rounds : FnScope ["table", "name", "tail", "head"] ["table"] (defScope s_check_rounds) := ⟨rfl, rfl, rfl, by decide +kernel, rfl, by decide +kernel, by decide +kernel⟩
abbrev s_check_use : Stmt := topS 25
theorem sc_check_use : FnScope ["table", "start", "end", "useful", "name"] ["table", "start", "end"] (defScope s_check_use) := ⟨rfl, rfl, rfl, by decide +kernel, rfl, by decide +kernel, by decide +kernel⟩
abbrev s_start : Stmt := topS 29
theorem sc_start : FnScope ["_law_script", "_law_cell"] ["_law_script"] (defScope s_start) := ⟨rfl, rfl, rfl, by decide +kernel, rfl, by decide +kernel, by decide +kernel⟩
abbrev s_draw : Stmt := topS 30
theorem sc_draw : FnScope ["_law_state", "_law_size", "_law_digit", "_law_cell", "_law_one"] ["_law_state", "_law_size"] (defScope s_draw) := ⟨rfl, rfl, rfl, by decide +kernel, rfl, by decide +kernel, by decide +kernel⟩
abbrev s_names : Stmt := topS 31
theorem sc_names : FnScope ["_law_state", "_law_count", "_law_signs", "_law_stem", "_law_k", "_law_letter", "_law_offset", "_law_stride", "_law_plan", "_law_words", "_law_sign", "_law_rest"] ["_law_state", "_law_count"] (defScope s_names) := ⟨rfl, rfl, rfl, by decide +kernel, rfl, by decide +kernel, by decide +kernel⟩
abbrev s_grown : Stmt := topS 32
theorem sc_grown : FnScope ["_law_state", "_law_turns", "_law_cross", "_law_most", "_law_order", "_law_pairs", "_law_turn", "_law_step", "_law_spot", "_law_a", "_law_b", "_law_fresh", "_law_low", "_law_k"] ["_law_state", "_law_turns", "_law_cross", "_law_most"] (defScope s_grown) := ⟨rfl, rfl, rfl, by decide +kernel, rfl, by decide +kernel, by decide +kernel⟩
abbrev s_shuffled : Stmt := topS 33
theorem sc_shuffled : FnScope ["_law_state", "_law_items", "_law_rest", "_law_told", "_law_k"] ["_law_state", "_law_items"] (defScope s_shuffled) := ⟨rfl, rfl, rfl, by decide +kernel, rfl, by decide +kernel, by decide +kernel⟩
abbrev s_net : Stmt := topS 34
theorem sc_net : FnScope ["_law_state", "_law_turns", "_law_cross", "_law_most", "_law_pairs", "_law_count", "_law_spots_here", "_law_labels", "_law_rows", "_law_k"] ["_law_state", "_law_turns", "_law_cross", "_law_most"] (defScope s_net) := ⟨rfl, rfl, rfl, by decide +kernel, rfl, by decide +kernel, by decide +kernel⟩
abbrev s_after : Stmt := topS 35
theorem sc_after : FnScope ["_law_rows", "_law_place", "_law_found", "_law_waiting", "_law_here", "_law_row"] ["_law_rows", "_law_place"] (defScope s_after) := ⟨rfl, rfl, rfl, by decide +kernel, rfl, by decide +kernel, by decide +kernel⟩
abbrev s_useful : Stmt := topS 36
theorem sc_useful : FnScope ["_law_rows", "_law_first", "_law_last", "_law_ahead", "_law_row"] ["_law_rows", "_law_first", "_law_last"] (defScope s_useful) := ⟨rfl, rfl, rfl, by decide +kernel, rfl, by decide +kernel, by decide +kernel⟩
abbrev s_spots : Stmt := topS 37
theorem sc_spots : FnScope ["_law_rows", "_law_row"] ["_law_rows"] (defScope s_spots) := ⟨rfl, rfl, rfl, by decide +kernel, rfl, by decide +kernel, by decide +kernel⟩
abbrev s_rewired : Stmt := topS 38
theorem sc_rewired : FnScope ["_law_state", "_law_rows", "_law_first", "_law_last", "_law_spots_here", "_law_turn", "_law_k", "_law_a", "_law_b", "_law_more", "_law_rounds", "_law_labels", "_law_row"] ["_law_state", "_law_rows", "_law_first", "_law_last"] (defScope s_rewired) := ⟨rfl, rfl, rfl, by decide +kernel, rfl, by decide +kernel, by decide +kernel⟩
abbrev s_missing : Stmt := topS 39
theorem sc_missing : FnScope ["_law_net_here", "_law_word", "_law_found", "e"] ["_law_net_here", "_law_word"] (defScope s_missing) := ⟨rfl, rfl, rfl, by decide +kernel, rfl, by decide +kernel, by decide +kernel⟩
abbrev s_parts : Stmt := topS 40
theorem sc_parts : FnScope ["_law_net_here", "_law_rows", "_law_first", "_law_last", "_law_labels", "_law_row", "_law_spots_here", "_law_inner", "_law_word", "_law_place"] ["_law_net_here", "_law_rows", "_law_first", "_law_last"] (defScope s_parts) := ⟨rfl, rfl, rfl, by decide +kernel, rfl, by decide +kernel, by decide +kernel⟩
abbrev s_exchanged : Stmt := topS 41
theorem sc_exchanged : FnScope ["_law_state", "_law_rows", "_law_first", "_law_last", "_law_inner", "_law_k", "_law_a", "_law_b", "_law_table", "_law_place", "_law_row"] ["_law_state", "_law_rows", "_law_first", "_law_last"] (defScope s_exchanged) := ⟨rfl, rfl, rfl, by decide +kernel, rfl, by decide +kernel, by decide +kernel⟩
abbrev s_law : Stmt := topS 42
theorem sc_law : FnScope ["_law_script", "_law_state", "_law_rows", "_law_first", "_law_last", "_law_passed", "_law_net_here", "_law_spot", "_law_labels", "_law_fresh", "_law_near", "_law_others", "_law_other", "_law_alike", "_law_row", "_law_word", "_law_k"] ["_law_script"] (defScope s_law) := ⟨rfl, rfl, rfl, by decide +kernel, rfl, by decide +kernel, by decide +kernel⟩
abbrev s_BadName_init : Stmt := inClass (topS 3) 0
theorem sc_BadName_init : FnScope ["self", "name"] ["self", "name"] (defScope s_BadName_init) := ⟨rfl, rfl, rfl, by decide +kernel, rfl, by decide +kernel, by decide +kernel⟩
abbrev s_DuplicateName_init : Stmt := inClass (topS 4) 0
theorem sc_DuplicateName_init : FnScope ["self", "name"] ["self", "name"] (defScope s_DuplicateName_init) := ⟨rfl, rfl, rfl, by decide +kernel, rfl, by decide +kernel, by decide +kernel⟩
abbrev s_UnknownName_init : Stmt := inClass (topS 5) 0
theorem sc_UnknownName_init : FnScope ["self", "name"] ["self", "name"] (defScope s_UnknownName_init) := ⟨rfl, rfl, rfl, by decide +kernel, rfl, by decide +kernel, by decide +kernel⟩
abbrev s_BadCount_init : Stmt := inClass (topS 6) 0
theorem sc_BadCount_init : FnScope ["self", "count"] ["self", "count"] (defScope s_BadCount_init) := ⟨rfl, rfl, rfl, by decide +kernel, rfl, by decide +kernel, by decide +kernel⟩
abbrev s_HasRound_init : Stmt := inClass (topS 8) 0
theorem sc_HasRound_init : FnScope ["self", "name"] ["self", "name"] (defScope s_HasRound_init) := ⟨rfl, rfl, rfl, by decide +kernel, rfl, by decide +kernel, by decide +kernel⟩
abbrev s_UselessLink_init : Stmt := inClass (topS 9) 0
theorem sc_UselessLink_init : FnScope ["self", "name"] ["self", "name"] (defScope s_UselessLink_init) := ⟨rfl, rfl, rfl, by decide +kernel, rfl, by decide +kernel, by decide +kernel⟩
abbrev s_Network_init : Stmt := inClass (topS 17) 2
theorem sc_Network_init : FnScope ["self", "links", "start", "end", "given", "table", "places", "name", "tail", "head", "place"] ["self", "links", "start", "end"] (defScope s_Network_init) := ⟨rfl, rfl, rfl, by decide +kernel, rfl, by decide +kernel, by decide +kernel⟩
abbrev s_Network_start : Stmt := inClass (topS 17) 4
theorem sc_Network_start : FnScope ["self"] ["self"] (defScope s_Network_start) := ⟨rfl, rfl, rfl, by decide +kernel, rfl, by decide +kernel, by decide +kernel⟩
abbrev s_Network_end : Stmt := inClass (topS 17) 5
theorem sc_Network_end : FnScope ["self"] ["self"] (defScope s_Network_end) := ⟨rfl, rfl, rfl, by decide +kernel, rfl, by decide +kernel, by decide +kernel⟩
abbrev s_Network_names : Stmt := inClass (topS 17) 6
theorem sc_Network_names : FnScope ["self"] ["self"] (defScope s_Network_names) := ⟨rfl, rfl, rfl, by decide +kernel, rfl, by decide +kernel, by decide +kernel⟩
abbrev s_Network_places : Stmt := inClass (topS 17) 7
theorem sc_Network_places : FnScope ["self"] ["self"] (defScope s_Network_places) := ⟨rfl, rfl, rfl, by decide +kernel, rfl, by decide +kernel, by decide +kernel⟩
abbrev s_Network_triples : Stmt := inClass (topS 17) 10
theorem sc_Network_triples : FnScope ["self", "name", "tail", "head"] ["self"] (defScope s_Network_triples) := ⟨rfl, rfl, rfl, by decide +kernel, rfl, by decide +kernel, by decide +kernel⟩
abbrev s_Network_getitem : Stmt := inClass (topS 17) 13
theorem sc_Network_getitem : FnScope ["self", "name"] ["self", "name"] (defScope s_Network_getitem) := ⟨rfl, rfl, rfl, by decide +kernel, rfl, by decide +kernel, by decide +kernel⟩
abbrev s_Network_contains : Stmt := inClass (topS 17) 15
theorem sc_Network_contains : FnScope ["self", "name"] ["self", "name"] (defScope s_Network_contains) := ⟨rfl, rfl, rfl, by decide +kernel, rfl, by decide +kernel, by decide +kernel⟩
abbrev s_Network_len : Stmt := inClass (topS 17) 16
theorem sc_Network_len : FnScope ["self"] ["self"] (defScope s_Network_len) := ⟨rfl, rfl, rfl, by decide +kernel, rfl, by decide +kernel, by decide +kernel⟩
abbrev s_Network_eq : Stmt := inClass (topS 17) 17
theorem sc_Network_eq : FnScope ["self", "other"] ["self", "other"] (defScope s_Network_eq) := ⟨rfl, rfl, rfl, by decide +kernel, rfl, by decide +kernel, by decide +kernel⟩
abbrev s_Network_str : Stmt := inClass (topS 17) 18
theorem sc_Network_str : FnScope ["self", "rows", "name", "tail", "head"] ["self"] (defScope s_Network_str) := ⟨rfl, rfl, rfl, by decide +kernel, rfl, by decide +kernel, by decide +kernel⟩
set_option maxHeartbeats 0 in
structure Txt (K : PySem.W.Frag) (mg : Str → Option Value) where
  f_BadName : Addr
  m_BadName : mg "BadName" = some (.ref f_BadName)
  f_DuplicateName : Addr
  m_DuplicateName : mg "DuplicateName" = some (.ref f_DuplicateName)
  f_UnknownName : Addr
  m_UnknownName : mg "UnknownName" = some (.ref f_UnknownName)
  f_BadCount : Addr
  m_BadCount : mg "BadCount" = some (.ref f_BadCount)
  f_HasRound : Addr
  m_HasRound : mg "HasRound" = some (.ref f_HasRound)
  f_UselessLink : Addr
  m_UselessLink : mg "UselessLink" = some (.ref f_UselessLink)
  f_Network : Addr
  m_Network : mg "Network" = some (.ref f_Network)
  cl_Network : Cls K f_Network
  ic_Network : C8.InsC K f_Network
  na_Network_start : NoAttr K f_Network "_start"
  na_Network_end : NoAttr K f_Network "_end"
  na_Network_links : NoAttr K f_Network "_links"
  na_Network_places : NoAttr K f_Network "_places"
  na_Network_behind : NoAttr K f_Network "_behind"
  sn_Network_str : PySem.W.subIn K (.type "str") (.ref f_Network) = some false
  ki_Network_str : PySem.W.kitOne K (.type "str") (.ref f_Network) = some false
  f_valid_name : Addr
  d_valid_name : FuncData
  F_valid_name : Fun K "valid_name" "valid_name" s_valid_name f_valid_name d_valid_name
  b_valid_name : Binds K d_valid_name ["text"] []
  m_valid_name : mg "valid_name" = some (.ref f_valid_name)
  f_ordered_places : Addr
  d_ordered_places : FuncData
  F_ordered_places : Fun K "ordered_places" "ordered_places" s_ordered_places f_ordered_places d_ordered_places
  b_ordered_places : Binds K d_ordered_places ["table", "start", "end"] []
  m_ordered_places : mg "ordered_places" = some (.ref f_ordered_places)
  f_places_behind : Addr
  d_places_behind : FuncData
  F_places_behind : Fun K "places_behind" "places_behind" s_places_behind f_places_behind d_places_behind
  b_places_behind : Binds K d_places_behind ["table", "first"] []
  m_places_behind : mg "places_behind" = some (.ref f_places_behind)
  f_useful_names : Addr
  d_useful_names : FuncData
  F_useful_names : Fun K "useful_names" "useful_names" s_useful_names f_useful_names d_useful_names
  b_useful_names : Binds K d_useful_names ["table", "start", "end"] []
  m_useful_names : mg "useful_names" = some (.ref f_useful_names)
  f_check_ends : Addr
  d_check_ends : FuncData
  F_check_ends : Fun K "check_ends" "check_ends" s_check_ends f_check_ends d_check_ends
  b_check_ends : Binds K d_check_ends ["start", "end"] []
  m_check_ends : mg "check_ends" = some (.ref f_check_ends)
  f_check_names : Addr
  d_check_names : FuncData
  F_check_names : Fun K "check_names" "check_names" s_check_names f_check_names d_check_names
  b_check_names : Binds K d_check_names ["links"] []
  m_check_names : mg "check_names" = some (.ref f_check_names)
  f_check_rounds : Addr
  d_check_rounds : FuncData
  F_check_rounds : Fun K "check_rounds" "check_rounds" s_check_rounds f_check_rounds d_check_rounds
  b_check_rounds : Binds K d_check_rounds ["table"] []
  m_check_rounds : mg "check_rounds" = some (.ref f_check_rounds)
  f_check_use : Addr
  d_check_use : FuncData
  F_check_use : Fun K "check_use" "check_use" s_check_use f_check_use d_check_use
  b_check_use : Binds K d_check_use ["table", "start", "end"] []
  m_check_use : mg "check_use" = some (.ref f_check_use)
  f_start : Addr
  d_start : FuncData
  F_start : Fun K "_law_start" "_law_start" s_start f_start d_start
  b_start : Binds K d_start ["_law_script"] []
  m_start : mg "_law_start" = some (.ref f_start)
  f_draw : Addr
  d_draw : FuncData
  F_draw : Fun K "_law_draw" "_law_draw" s_draw f_draw d_draw
  b_draw : Binds K d_draw ["_law_state", "_law_size"] []
  m_draw : mg "_law_draw" = some (.ref f_draw)
  f_names : Addr
  d_names : FuncData
  F_names : Fun K "_law_names" "_law_names" s_names f_names d_names
  b_names : Binds K d_names ["_law_state", "_law_count"] []
  m_names : mg "_law_names" = some (.ref f_names)
  f_grown : Addr
  d_grown : FuncData
  F_grown : Fun K "_law_grown" "_law_grown" s_grown f_grown d_grown
  b_grown : Binds K d_grown ["_law_state", "_law_turns", "_law_cross", "_law_most"] []
  m_grown : mg "_law_grown" = some (.ref f_grown)
  f_shuffled : Addr
  d_shuffled : FuncData
  F_shuffled : Fun K "_law_shuffled" "_law_shuffled" s_shuffled f_shuffled d_shuffled
  b_shuffled : Binds K d_shuffled ["_law_state", "_law_items"] []
  m_shuffled : mg "_law_shuffled" = some (.ref f_shuffled)
  f_net : Addr
  d_net : FuncData
  F_net : Fun K "_law_net" "_law_net" s_net f_net d_net
  b_net : Binds K d_net ["_law_state", "_law_turns", "_law_cross", "_law_most"] []
  m_net : mg "_law_net" = some (.ref f_net)
  f_after : Addr
  d_after : FuncData
  F_after : Fun K "_law_after" "_law_after" s_after f_after d_after
  b_after : Binds K d_after ["_law_rows", "_law_place"] []
  m_after : mg "_law_after" = some (.ref f_after)
  f_useful : Addr
  d_useful : FuncData
  F_useful : Fun K "_law_useful" "_law_useful" s_useful f_useful d_useful
  b_useful : Binds K d_useful ["_law_rows", "_law_first", "_law_last"] []
  m_useful : mg "_law_useful" = some (.ref f_useful)
  f_spots : Addr
  d_spots : FuncData
  F_spots : Fun K "_law_spots" "_law_spots" s_spots f_spots d_spots
  b_spots : Binds K d_spots ["_law_rows"] []
  m_spots : mg "_law_spots" = some (.ref f_spots)
  f_rewired : Addr
  d_rewired : FuncData
  F_rewired : Fun K "_law_rewired" "_law_rewired" s_rewired f_rewired d_rewired
  b_rewired : Binds K d_rewired ["_law_state", "_law_rows", "_law_first", "_law_last"] []
  m_rewired : mg "_law_rewired" = some (.ref f_rewired)
  f_missing : Addr
  d_missing : FuncData
  F_missing : Fun K "_law_missing" "_law_missing" s_missing f_missing d_missing
  b_missing : Binds K d_missing ["_law_net_here", "_law_word"] []
  m_missing : mg "_law_missing" = some (.ref f_missing)
  f_parts : Addr
  d_parts : FuncData
  F_parts : Fun K "_law_parts" "_law_parts" s_parts f_parts d_parts
  b_parts : Binds K d_parts ["_law_net_here", "_law_rows", "_law_first", "_law_last"] []
  m_parts : mg "_law_parts" = some (.ref f_parts)
  f_exchanged : Addr
  d_exchanged : FuncData
  F_exchanged : Fun K "_law_exchanged" "_law_exchanged" s_exchanged f_exchanged d_exchanged
  b_exchanged : Binds K d_exchanged ["_law_state", "_law_rows", "_law_first", "_law_last"] []
  m_exchanged : mg "_law_exchanged" = some (.ref f_exchanged)
  f_BadName_init : Addr
  d_BadName_init : FuncData
  F_BadName_init : Fun K "__init__" "BadName.__init__" s_BadName_init f_BadName_init d_BadName_init
  b_BadName_init : Binds K d_BadName_init ["self", "name"] []
  a_BadName_init : PySem.W.findIn K (.ref f_BadName) "__init__" = some (some (.ref f_BadName_init))
  i_BadName_init : PySem.W.isFn K (.ref f_BadName_init) = true
  f_DuplicateName_init : Addr
  d_DuplicateName_init : FuncData
  F_DuplicateName_init : Fun K "__init__" "DuplicateName.__init__" s_DuplicateName_init f_DuplicateName_init d_DuplicateName_init
  b_DuplicateName_init : Binds K d_DuplicateName_init ["self", "name"] []
  a_DuplicateName_init : PySem.W.findIn K (.ref f_DuplicateName) "__init__" = some (some (.ref f_DuplicateName_init))
  i_DuplicateName_init : PySem.W.isFn K (.ref f_DuplicateName_init) = true
  f_UnknownName_init : Addr
  d_UnknownName_init : FuncData
  F_UnknownName_init : Fun K "__init__" "UnknownName.__init__" s_UnknownName_init f_UnknownName_init d_UnknownName_init
  b_UnknownName_init : Binds K d_UnknownName_init ["self", "name"] []
  a_UnknownName_init : PySem.W.findIn K (.ref f_UnknownName) "__init__" = some (some (.ref f_UnknownName_init))
  i_UnknownName_init : PySem.W.isFn K (.ref f_UnknownName_init) = true
  f_BadCount_init : Addr
  d_BadCount_init : FuncData
  F_BadCount_init : Fun K "__init__" "BadCount.__init__" s_BadCount_init f_BadCount_init d_BadCount_init
  b_BadCount_init : Binds K d_BadCount_init ["self", "count"] []
  a_BadCount_init : PySem.W.findIn K (.ref f_BadCount) "__init__" = some (some (.ref f_BadCount_init))
  i_BadCount_init : PySem.W.isFn K (.ref f_BadCount_init) = true
  f_HasRound_init : Addr
  d_HasRound_init : FuncData
  F_HasRound_init : Fun K "__init__" "HasRound.__init__" s_HasRound_init f_HasRound_init d_HasRound_init
  b_HasRound_init : Binds K d_HasRound_init ["self", "name"] []
  a_HasRound_init : PySem.W.findIn K (.ref f_HasRound) "__init__" = some (some (.ref f_HasRound_init))
  i_HasRound_init : PySem.W.isFn K (.ref f_HasRound_init) = true
  f_UselessLink_init : Addr
  d_UselessLink_init : FuncData
  F_UselessLink_init : Fun K "__init__" "UselessLink.__init__" s_UselessLink_init f_UselessLink_init d_UselessLink_init
  b_UselessLink_init : Binds K d_UselessLink_init ["self", "name"] []
  a_UselessLink_init : PySem.W.findIn K (.ref f_UselessLink) "__init__" = some (some (.ref f_UselessLink_init))
  i_UselessLink_init : PySem.W.isFn K (.ref f_UselessLink_init) = true
  f_Network_init : Addr
  d_Network_init : FuncData
  F_Network_init : Fun K "__init__" "Network.__init__" s_Network_init f_Network_init d_Network_init
  b_Network_init : Binds K d_Network_init ["self", "links", "start", "end"] []
  a_Network_init : PySem.W.findIn K (.ref f_Network) "__init__" = some (some (.ref f_Network_init))
  i_Network_init : PySem.W.isFn K (.ref f_Network_init) = true
  mk_Network : Mk K f_Network f_Network_init
  f_Network_start : Addr
  d_Network_start : FuncData
  F_Network_start : Fun K "start" "Network.start" s_Network_start f_Network_start d_Network_start
  b_Network_start : Binds K d_Network_start ["self"] []
  p0_Network_start : Addr
  p_Network_start : PropOf K f_Network "start" p0_Network_start f_Network_start
  f_Network_end : Addr
  d_Network_end : FuncData
  F_Network_end : Fun K "end" "Network.end" s_Network_end f_Network_end d_Network_end
  b_Network_end : Binds K d_Network_end ["self"] []
  p0_Network_end : Addr
  p_Network_end : PropOf K f_Network "end" p0_Network_end f_Network_end
  f_Network_names : Addr
  d_Network_names : FuncData
  F_Network_names : Fun K "names" "Network.names" s_Network_names f_Network_names d_Network_names
  b_Network_names : Binds K d_Network_names ["self"] []
  p0_Network_names : Addr
  p_Network_names : PropOf K f_Network "names" p0_Network_names f_Network_names
  f_Network_places : Addr
  d_Network_places : FuncData
  F_Network_places : Fun K "places" "Network.places" s_Network_places f_Network_places d_Network_places
  b_Network_places : Binds K d_Network_places ["self"] []
  p0_Network_places : Addr
  p_Network_places : PropOf K f_Network "places" p0_Network_places f_Network_places
  f_Network_triples : Addr
  d_Network_triples : FuncData
  F_Network_triples : Fun K "triples" "Network.triples" s_Network_triples f_Network_triples d_Network_triples
  b_Network_triples : Binds K d_Network_triples ["self"] []
  a_Network_triples : PySem.W.findIn K (.ref f_Network) "triples" = some (some (.ref f_Network_triples))
  i_Network_triples : PySem.W.isFn K (.ref f_Network_triples) = true
  f_Network_getitem : Addr
  d_Network_getitem : FuncData
  F_Network_getitem : Fun K "__getitem__" "Network.__getitem__" s_Network_getitem f_Network_getitem d_Network_getitem
  b_Network_getitem : Binds K d_Network_getitem ["self", "name"] []
  a_Network_getitem : PySem.W.findIn K (.ref f_Network) "__getitem__" = some (some (.ref f_Network_getitem))
  i_Network_getitem : PySem.W.isFn K (.ref f_Network_getitem) = true
  f_Network_contains : Addr
  d_Network_contains : FuncData
  F_Network_contains : Fun K "__contains__" "Network.__contains__" s_Network_contains f_Network_contains d_Network_contains
  b_Network_contains : Binds K d_Network_contains ["self", "name"] []
  a_Network_contains : PySem.W.findIn K (.ref f_Network) "__contains__" = some (some (.ref f_Network_contains))
  i_Network_contains : PySem.W.isFn K (.ref f_Network_contains) = true
  f_Network_len : Addr
  d_Network_len : FuncData
  F_Network_len : Fun K "__len__" "Network.__len__" s_Network_len f_Network_len d_Network_len
  b_Network_len : Binds K d_Network_len ["self"] []
  a_Network_len : PySem.W.findIn K (.ref f_Network) "__len__" = some (some (.ref f_Network_len))
  i_Network_len : PySem.W.isFn K (.ref f_Network_len) = true
  f_Network_eq : Addr
  d_Network_eq : FuncData
  F_Network_eq : Fun K "__eq__" "Network.__eq__" s_Network_eq f_Network_eq d_Network_eq
  b_Network_eq : Binds K d_Network_eq ["self", "other"] []
  a_Network_eq : PySem.W.findIn K (.ref f_Network) "__eq__" = some (some (.ref f_Network_eq))
  i_Network_eq : PySem.W.isFn K (.ref f_Network_eq) = true
  f_Network_str : Addr
  d_Network_str : FuncData
  F_Network_str : Fun K "__str__" "Network.__str__" s_Network_str f_Network_str d_Network_str
  b_Network_str : Binds K d_Network_str ["self"] []
  a_Network_str : PySem.W.findIn K (.ref f_Network) "__str__" = some (some (.ref f_Network_str))
  i_Network_str : PySem.W.isFn K (.ref f_Network_str) = true
  me_Network_triples : Meth K f_Network "triples" f_Network_triples
  oth_Network : OthC K f_Network f_Network_eq
  none_Network : NoNe K f_Network f_Network_eq
  cr_Network : ClX.CRead K f_Network (.type "type")
  tv_Network_MOST_LINKS : Tok
  cv_Network_MOST_LINKS : ClX.CVal K f_Network (.type "type") "MOST_LINKS" (V.int 10) (.int 10 tv_Network_MOST_LINKS)
  tv_Network_MOST_PLACES : Tok
  cv_Network_MOST_PLACES : ClX.CVal K f_Network (.type "type") "MOST_PLACES" (V.int 8) (.int 8 tv_Network_MOST_PLACES)
  kb_Network_init_links_end_start : KBn K d_Network_init ["self", "links", "start", "end"] (0 + 1) ["links", "end", "start"] (fun us ws => us ++ permL [0, 2, 1] ws) (fun vs zs => vs ++ permL [0, 2, 1] zs)
  dn_Network_getitem : DunC K f_Network "__getitem__" f_Network_getitem
  dn_Network_contains : DunC K f_Network "__contains__" f_Network_contains
  dn_Network_len : DunC K f_Network "__len__" f_Network_len
  kbm_Network_triples : KBinds K d_Network_triples ["self"] [] kFst kFst
  ox_BadName : OexC K f_BadName
  ix_BadName : PySem.W.findIn K (.ref f_BadName) "__init__" = some (some (.ref f_BadName_init))
  tx_BadName : PySem.W.typeIn K (.ref f_BadName_init) = some (.type "function")
  xf_BadName : XfC K f_BadName
  ec_BadName : ExcC K f_BadName
  no_BadName_name : PySem.W.findIn K (.ref f_BadName) "name" = some none
  ox_DuplicateName : OexC K f_DuplicateName
  ix_DuplicateName : PySem.W.findIn K (.ref f_DuplicateName) "__init__" = some (some (.ref f_DuplicateName_init))
  tx_DuplicateName : PySem.W.typeIn K (.ref f_DuplicateName_init) = some (.type "function")
  xf_DuplicateName : XfC K f_DuplicateName
  ec_DuplicateName : ExcC K f_DuplicateName
  no_DuplicateName_name : PySem.W.findIn K (.ref f_DuplicateName) "name" = some none
  ox_UnknownName : OexC K f_UnknownName
  ix_UnknownName : PySem.W.findIn K (.ref f_UnknownName) "__init__" = some (some (.ref f_UnknownName_init))
  tx_UnknownName : PySem.W.typeIn K (.ref f_UnknownName_init) = some (.type "function")
  xf_UnknownName : XfC K f_UnknownName
  ec_UnknownName : ExcC K f_UnknownName
  no_UnknownName_name : PySem.W.findIn K (.ref f_UnknownName) "name" = some none
  ox_BadCount : OexC K f_BadCount
  ix_BadCount : PySem.W.findIn K (.ref f_BadCount) "__init__" = some (some (.ref f_BadCount_init))
  tx_BadCount : PySem.W.typeIn K (.ref f_BadCount_init) = some (.type "function")
  xf_BadCount : XfC K f_BadCount
  ec_BadCount : ExcC K f_BadCount
  no_BadCount_count : PySem.W.findIn K (.ref f_BadCount) "count" = some none
  ox_HasRound : OexC K f_HasRound
  ix_HasRound : PySem.W.findIn K (.ref f_HasRound) "__init__" = some (some (.ref f_HasRound_init))
  tx_HasRound : PySem.W.typeIn K (.ref f_HasRound_init) = some (.type "function")
  xf_HasRound : XfC K f_HasRound
  ec_HasRound : ExcC K f_HasRound
  no_HasRound_name : PySem.W.findIn K (.ref f_HasRound) "name" = some none
  ox_UselessLink : OexC K f_UselessLink
  ix_UselessLink : PySem.W.findIn K (.ref f_UselessLink) "__init__" = some (some (.ref f_UselessLink_init))
  tx_UselessLink : PySem.W.typeIn K (.ref f_UselessLink_init) = some (.type "function")
  xf_UselessLink : XfC K f_UselessLink
  ec_UselessLink : ExcC K f_UselessLink
  no_UselessLink_name : PySem.W.findIn K (.ref f_UselessLink) "name" = some none
  es_UnknownName_UnknownName : PySem.W.subIn K (.ref f_UnknownName) (.ref f_UnknownName) = some true
  xi_UnknownName_UnknownName : PySem.W.isClsIn K f_UnknownName = true
  xt_UnknownName_UnknownName : PySem.W.typeIn K (.ref f_UnknownName) = some (.type "type")
  t_DIGITS : Tok
  c_DIGITS : mg "DIGITS" = some (.str ("0123456789" : Str) t_DIGITS)
  t_LETTERS : Tok
  c_LETTERS : mg "LETTERS" = some (.str ("abcdefghijklmnopqrstuvwxyz" : Str) t_LETTERS)
  t_LONGEST_NAME : Tok
  c_LONGEST_NAME : mg "LONGEST_NAME" = some (.int 6 t_LONGEST_NAME)
  n_abs : mg "abs" = none
  n_all : mg "all" = none
  n_int : mg "int" = none
  n_isinstance : mg "isinstance" = none
  n_len : mg "len" = none
  n_list : mg "list" = none
  n_range : mg "range" = none
  n_set : mg "set" = none
  n_sorted : mg "sorted" = none
  n_str : mg "str" = none
  n_tuple : mg "tuple" = none
/-! ### the law's own draws: a list of great numbers, a list of cells, a count -/
section
variable {P : Program} {w : World} {K : PySem.W.Frag} {mg : Str → Option Value} {base : Heap}
/-- the state's objects as they stand; G is what else is known, the state is none of it -/
structure DS (G H : Hp) (s b c : Addr) (gs cs : List Int) (n : Nat) : Prop where
  same : Same G H
  fs : G s = none
  fb : G b = none
  fc : G c = none
  hs : H s = some (.lst [.ref b, .ref c, .int (n : Int)])
  hb : H b = some (.lst (gs.map V.int))
  hc : H c = some (.lst (cs.map V.int))
  ne : b ≠ c
  pos : 0 < cs.length
theorem DS.sb {G H : Hp} {s b c : Addr} {gs cs : List Int} {n : Nat} (d : DS G H s b c gs cs n) : s ≠ b := ne_of d.hs d.hb (by cases gs <;> simp)
theorem DS.sc {G H : Hp} {s b c : Addr} {gs cs : List Int} {n : Nat} (d : DS G H s b c gs cs n) : s ≠ c := ne_of d.hs d.hc (by cases cs <;> simp)
/-- at most m draws were made -/
def DSt (G H : Hp) (s : Addr) (m : Nat) : Prop := ∃ (b c : Addr) (gs cs : List Int) (n : Nat), DS G H s b c gs cs n ∧ n ≤ m
theorem DSt.same {G H : Hp} {s : Addr} {m : Nat} (d : DSt G H s m) : Same G H := let ⟨_, _, _, _, _, d, _⟩ := d; d.same
theorem DSt.mono {G H : Hp} {s : Addr} {m m' : Nat} (d : DSt G H s m) (h : m ≤ m') : DSt G H s m' := let ⟨b, c, gs, cs, n, d, hn⟩ := d; ⟨b, c, gs, cs, n, d, Nat.le_trans hn h⟩
/-- a new object comes beside, known from then on -/
theorem DSt.new {G H : Hp} {s : Addr} {m : Nat} {p : Addr} {o : HO} (d : DSt G H s m) (hp : H p = none) : DSt (upd G p o) (upd H p o) s m := by
  obtain ⟨b, c, gs, cs, n, d, hn⟩ := d
  have n1 : s ≠ p := ne_of_none d.hs hp
  have n2 : b ≠ p := ne_of_none d.hb hp
  have n3 : c ≠ p := ne_of_none d.hc hp
  refine ⟨b, c, gs, cs, n, ⟨fun a u e => ?_, ?_, ?_, ?_, ?_, ?_, ?_, d.ne, d.pos⟩, hn⟩
  · by_cases ha : a = p
    · subst ha; rw [upd_same] at e ⊢; exact e
    · rw [upd_ne ha] at e ⊢; exact d.same a u e
  · rw [upd_ne n1]; exact d.fs
  · rw [upd_ne n2]; exact d.fb
  · rw [upd_ne n3]; exact d.fc
  · rw [upd_ne n1]; exact d.hs
  · rw [upd_ne n2]; exact d.hb
  · rw [upd_ne n3]; exact d.hc
/-- a known object changes -/
theorem DSt.put {G H : Hp} {s : Addr} {m : Nat} {p : Addr} {o u : HO} (d : DSt G H s m) (hp : G p = some u) : DSt (upd G p o) (upd H p o) s m := by
  obtain ⟨b, c, gs, cs, n, d, hn⟩ := d
  have n1 : s ≠ p := fun e => by rw [← e, d.fs] at hp; cases hp
  have n2 : b ≠ p := fun e => by rw [← e, d.fb] at hp; cases hp
  have n3 : c ≠ p := fun e => by rw [← e, d.fc] at hp; cases hp
  refine ⟨b, c, gs, cs, n, ⟨fun a v e => ?_, ?_, ?_, ?_, ?_, ?_, ?_, d.ne, d.pos⟩, hn⟩
  · by_cases ha : a = p
    · subst ha; rw [upd_same] at e ⊢; exact e
    · rw [upd_ne ha] at e ⊢; exact d.same a v e
  · rw [upd_ne n1]; exact d.fs
  · rw [upd_ne n2]; exact d.fb
  · rw [upd_ne n3]; exact d.fc
  · rw [upd_ne n1]; exact d.hs
  · rw [upd_ne n2]; exact d.hb
  · rw [upd_ne n3]; exact d.hc
/-- what else is known of the heap may be less, the rest may be more -/
theorem DSt.less {G G' H : Hp} {s : Addr} {m : Nat} (d : DSt G H s m) (h : Same G' G) : DSt G' H s m := by
  obtain ⟨b, c, gs, cs, n, d, hn⟩ := d
  have fr : ∀ a, G a = none → G' a = none := fun a e => h.free e
  exact ⟨b, c, gs, cs, n, ⟨h.trans d.same, fr _ d.fs, fr _ d.fb, fr _ d.fc, d.hs, d.hb, d.hc, d.ne, d.pos⟩, hn⟩
/-- all that stands behind stays; known is what was known -/
theorem DSt.on {G H H' : Hp} {s : Addr} {m : Nat} (d : DSt G H s m) (h : Same H H') : DSt G H' s m := by
  obtain ⟨b, c, gs, cs, n, d, hn⟩ := d
  exact ⟨b, c, gs, cs, n, ⟨d.same.trans h, d.fs, d.fb, d.fc, h _ _ d.hs, h _ _ d.hb, h _ _ d.hc, d.ne, d.pos⟩, hn⟩
theorem DSt.free {G H : Hp} {s : Addr} {m : Nat} {p : Addr} (d : DSt G H s m) (hp : H p = none) : G p = none := d.same.free hp

def spStart (K : PySem.W.Frag) : Sp := fun vs H Q _ => ∃ (a : Addr) (ns : List Int), vs = [.ref a] ∧ SqL K H a (ns.map V.int) ∧ ns.length ≤ 63 ∧ ∀ (s : Addr) (H' : Hp), DSt H H' s 0 → Q (.ref s) H'
def spDraw : Sp := fun vs H Q _ => ∃ (G : Hp) (s : Addr) (m : Nat) (sz : Int), vs = [.ref s, .int sz] ∧ DSt G H s m ∧ m < 1000000 ∧ 0 < sz ∧ sz < 2 ^ 200 ∧
  ∀ (r : Int) (H' : Hp), 0 ≤ r → r < sz → DSt G H' s (m + 1) → Q (.int r) H'

theorem take_more {α : Type} : ∀ {l : List α} {i : Nat} {x : α}, l[i]? = some x → l.take (i + 1) = l.take i ++ [x]
  | [], i, x, h => by simp at h
  | a :: l, 0, x, h => by
    have e : a = x := Option.some.inj h
    subst e
    rfl
  | a :: l, i + 1, x, h => by
    have ih := take_more (l := l) (i := i) (x := x) h
    show a :: l.take (i + 1) = a :: l.take i ++ [x]
    rw [ih]
    rfl
theorem pow_lt (c n : Int) (hc : 0 ≤ c) (hc2 : c < 2147483647) (hn : 0 ≤ n) (hn2 : n ≤ 1000001) : (c * 48271 + n * 69621 + 7).natAbs < 2 ^ 64 := by omega
theorem pow_lt2 (c n : Int) (hc : 0 ≤ c) (hc2 : c < 2147483647) (hn : 0 ≤ n) (hn2 : n ≤ 1000001) : (c * 16807 + n * 40692 + 13).natAbs < 2 ^ 64 := by omega

theorem cut1 (xs : List V) : cutV xs (some 1) none = xs.drop 1 := by
  unfold cutV
  rw [show HT.sIx xs.length 0 (some 1) = min 1 xs.length from HT.sIx_nat xs.length 0 1, HT.sIx_none]
  cases xs with
  | nil => rfl
  | cons x r =>
    rw [show min 1 (x :: r).length = 1 by
      rw [List.length_cons]
      omega]
    show (List.take ((x :: r).length - 1) r) = r
    rw [List.length_cons, Nat.add_sub_cancel]
    exact List.take_length
theorem big1 : (0 : Int) < 2147483647 := by decide
theorem big2 : (0 : Int) < 2147483629 := by decide
theorem ok_start (T : Txt K mg) : FnOk P w K mg base CX0 1 T.f_start T.d_start ["_law_script"] (spStart K) := by
  refine T.F_start.ok sc_start (fun vs H Q E h => ?_) (fun cdv A outer s H vs Q E hr h => ?_)
  · obtain ⟨a, ns, rfl, _⟩ := h
    rfl
  · obtain ⟨a, ns, rfl, hS, hlen, k⟩ := h
    refine ⟨_, (pss_one (ps_ret (pe_lst (pa_cons (pe_lc (own := [("_law_cell", 1)]) (g := gName 1) rfl sc_start.nd (pi_list (pv 0)) (blkOk_by (N := ["_law_script", "_law_cell"]) (sc := defScope s_start) (by decide +kernel)) (fun _ _ _ _ _ => pg_name (i := 1) sc_start.nd rfl (Or.inl rfl)) (fun _ _ _ _ _ => pts_one (pt_cmpR op_ge (pe_callB call_abs (by rfl) T.n_abs (by decide +kernel) (pa_cons (pv 1) pa_nil)) (pe_op op_pow pe_int pe_int) (nomark _))) (fun _ _ _ _ _ => (pe_callB call_abs (by rfl) T.n_abs (by decide +kernel) (pa_cons (pv 1) pa_nil)))) (pa_cons (pe_op op_cat (pe_callTy call_list_of (by rfl) T.n_list (by decide +kernel) (pa_cons (pv 0) pa_nil)) (pe_lst (pa_cons pe_int pa_nil))) (pa_cons pe_int pa_nil)))))), ?_⟩
    refine ⟨_, rfl, a, rfl, ⟨_, hS⟩, fun D hD => ?_⟩
    refine lc_list (K := K) (a := a) (xs := ns.map V.int) (fun i H1 => ∃ gs : List Int, gs.length ≤ i ∧ H1 D = some (.lst (gs.map V.int)) ∧ Same H H1) ⟨[], Nat.le_refl _, upd_same, same_upd hD⟩ (fun i H1 _ ⟨_, _, _, sm⟩ => sm.seq hS) ?_ ?_
    · intro i x H1 hi ⟨gs, hg, eD, sm⟩
      obtain ⟨z, rfl⟩ : ∃ z, x = V.int z := by
        rw [List.getElem?_map] at hi
        cases e : ns[i]? with
        | none =>
          rw [e] at hi
          cases hi
        | some z =>
          rw [e] at hi
          exact ⟨z, (Option.some.inj hi).symm⟩
      have hi63 : i < 63 := by
        have := (List.getElem?_eq_some_iff.mp hi).1
        rw [List.length_map] at this
        omega
      refine ⟨rfl, _, rfl, z, rfl, 10, 18, rfl, rfl, ⟨by decide, by decide, by decide⟩, _, _, rfl, rfl, _, rfl, ?_⟩
      refine ite2 (fun _ => ?_) fun _ => ?_
      · refine ⟨_, rfl, z, rfl, gs.map V.int, eD, small1000 (by rw [List.length_map]; omega), gs ++ [if z < 0 then -z else z], by rw [List.length_append]; exact Nat.add_le_add_right hg 1, ?_, same_mut sm hD⟩
        rw [upd_same, List.map_append]
        rfl
      · exact ⟨gs, Nat.le_succ_of_le hg, eD, sm⟩
    · intro H1 ⟨gs, hg, eD, sm⟩
      refine ⟨_, rfl, a, _, rfl, .inl (sm.seq hS), fun l hl => ?_⟩
      refine ⟨by show 1 ≤ sizeLine; decide, fun o ho => ?_⟩
      have nlo : l ≠ o := fun e => by
        rw [← e, upd_same] at ho
        cases ho
      refine ⟨l, o, _, _, rfl, rfl, by rw [upd_ne nlo]; exact upd_same, upd_same, Nat.le_of_lt (small1000 ?_), fun c hc => ?_⟩
      · rw [List.length_map]
        show ns.length + 1 ≤ 1000
        omega
      refine ⟨by show 3 ≤ sizeLine; decide, fun st hst => ?_⟩
      have eDo : (upd (upd H1 l (.lst (ns.map V.int))) o (.lst [V.int 5])) D = some (.lst (gs.map V.int)) := same_upd ho _ _ (same_upd hl _ _ eD)
      have nDc : D ≠ c := ne_of_none eDo hc
      have hcs := hst
      have ncst : c ≠ st := fun e => by
        rw [← e, upd_same] at hst
        cases hst
      have nDst : D ≠ st := ne_of_none (same_upd hc _ _ eDo) hst
      have sm4 : Same H (upd (upd (upd H1 l (.lst (ns.map V.int))) o (.lst [V.int 5])) c (.lst (ns.map V.int ++ [V.int 5]))) := ((sm.trans (same_upd hl)).trans (same_upd ho)).trans (same_upd hc)
      refine k st _ ⟨D, c, gs, ns ++ [5], 0, ⟨sm4.trans (same_upd hst), sm4.free hst, hD, ((sm.trans (same_upd hl)).trans (same_upd ho)).free hc, upd_same, ?_, ?_, nDc, by rw [List.length_append]; exact Nat.succ_pos _⟩, Nat.le_refl _⟩
      · rw [upd_ne nDst]
        exact same_upd hc _ _ eDo
      · rw [upd_ne ncst, upd_same, List.map_append]
        rfl

theorem ok_draw (T : Txt K mg) : FnOk P w K mg base CX0 1 T.f_draw T.d_draw ["_law_state", "_law_size"] spDraw := by
  refine T.F_draw.ok sc_draw (fun vs H Q E h => ?_) (fun cdv A outer s H vs Q E hr h => ?_)
  · obtain ⟨G, a, m, sz, rfl, _⟩ := h
    rfl
  · obtain ⟨G, a, m, sz, rfl, ⟨b0, c, gs0, cs, n, d0, hn⟩, hm, hs0, hs2, k⟩ := h
    refine ⟨_, (pss_cons (ps_augS (pv 0) pe_int get_list pe_int ip_add set_list)
    (C8.pss_cut (ps_while PassesOwn.never (PW.pt (pw_and (pt_cmpR (op_neD hr.units) (pe_ix ix_list (pv 0) pe_int (fun _ _ => rfl)) (pe_lst pa_nil) (nomark _)) (pw_and1 (pt_cmpR op_eq (pe_ix ix_list (pe_ix ix_list (pv 0) pe_int (fun _ _ => rfl)) pe_int (fun _ _ => rfl)) pe_int (nomark _)))))
      (pss_one (ps_asg (pe_slice sl_list (pe_ix ix_list (pv 0) pe_int (fun _ _ => rfl)) (po_some pe_int) po_none) (pg_sub (pv 0) pe_int set_list))))
    (pss_cons (ps_if (pt_cmpR (op_neD hr.units) (pe_ix ix_list (pv 0) pe_int (fun _ _ => rfl)) (pe_lst pa_nil) (nomark _))
      (pss_cons (ps_set (i := 2) sc_draw.nd rfl (Or.inl rfl) (pe_op op_mod (pe_callTy call_int1 (by rfl) T.n_int (by decide +kernel) (pa_cons (pe_ix ix_list (pe_ix ix_list (pv 0) pe_int (fun _ _ => rfl)) pe_int (fun _ _ => rfl)) pa_nil)) (pv 1)))
    (pss_cons (ps_asg (pe_op op_fdivW (pe_ix ix_list (pe_ix ix_list (pv 0) pe_int (fun _ _ => rfl)) pe_int (fun _ _ => rfl)) (pv 1)) (pg_sub (pe_ix ix_list (pv 0) pe_int (fun _ _ => rfl)) pe_int set_list))
    (pss_one (ps_ret (pv 2)))))
      pss_nil)
    (pss_cons (ps_set (i := 3) sc_draw.nd rfl (Or.inl rfl) (pe_op op_mod (pe_callTy call_int1 (by rfl) T.n_int (by decide +kernel) (pa_cons (pe_ix ix_list (pe_ix ix_list (pv 0) pe_int (fun _ _ => rfl)) (pe_op op_mod (pe_callTy call_int1 (by rfl) T.n_int (by decide +kernel) (pa_cons (pe_ix ix_list (pv 0) pe_int (fun _ _ => rfl)) pa_nil)) (pe_callB call_len_seq (by rfl) T.n_len (by decide +kernel) (pa_cons (pe_ix ix_list (pv 0) pe_int (fun _ _ => rfl)) pa_nil))) (fun _ _ => rfl)) pa_nil)) pe_int))
    (pss_cons (ps_set (i := 4) sc_draw.nd rfl (Or.inl rfl) (pe_op op_mod (pe_callTy call_int1 (by rfl) T.n_int (by decide +kernel) (pa_cons (pe_op op_pow (pe_op op_add (pe_op op_add (pe_op op_mul (pv 3) pe_int) (pe_op op_mul (pe_ix ix_list (pv 0) pe_int (fun _ _ => rfl)) pe_int)) pe_int) pe_int) pa_nil)) pe_int))
    (pss_one (ps_ret (pe_op op_mod (pe_op op_mod (pe_callTy call_int1 (by rfl) T.n_int (by decide +kernel) (pa_cons (pe_op op_pow (pe_op op_add (pe_op op_add (pe_op op_mul (pv 4) pe_int) (pe_op op_mul (pe_ix ix_list (pv 0) pe_int (fun _ _ => rfl)) pe_int)) pe_int) pe_int) pa_nil)) pe_int) (pv 1))))))))), ?_⟩
    -- the count
    refine ⟨_, rfl, a, _, 2, _, rfl, rfl, SqL.of d0.hs, by decide, rfl, (n : Int), 1, rfl, rfl, a, _, 2, 2, rfl, rfl, d0.hs, rfl, ?_⟩
    have d1 : DS G (upd H a (.lst [V.ref b0, V.ref c, V.int ((n + 1 : Nat) : Int)])) a b0 c gs0 cs (n + 1) :=
      ⟨same_mut d0.same d0.fs, d0.fs, d0.fb, d0.fc, upd_same, by rw [upd_ne d0.sb.symm]; exact d0.hb, by rw [upd_ne d0.sc.symm]; exact d0.hc, d0.ne, d0.pos⟩
    -- the noughts ahead go
    refine ⟨fun σ H2 => σ = [some (.ref a), some (.int sz), none, none, none] ∧ ∃ (b : Addr) (gs : List Int), DS G H2 a b c gs cs (n + 1), ?_, ?_⟩
    · refine ⟨fun j σ H2 => σ = [some (.ref a), some (.int sz), none, none, none] ∧ ∃ (b : Addr) (gs : List Int), gs.length = j ∧ DS G H2 a b c gs cs (n + 1), ⟨_, rfl, b0, gs0, rfl, d1⟩, ?_⟩
      rintro j σ H2 ⟨rfl, b, gs, rfl, d⟩
      refine ⟨_, rfl, a, _, 0, _, rfl, rfl, SqL.of d.hs, rfl, Nat.zero_le _, fun p hp => ?_⟩
      have sp : Same H2 (upd H2 p (.lst [])) := same_upd hp
      have d2 : DS G (upd H2 p (.lst [])) a b c gs cs (n + 1) := ⟨d.same.trans sp, d.fs, d.fb, d.fc, sp _ _ d.hs, sp _ _ d.hb, sp _ _ d.hc, d.ne, d.pos⟩
      cases gs with
      | nil =>
        refine ⟨.list [], .list [], .lst (SqL.of d2.hb) .nil, .lst (SqL.of upd_same) .nil, shaped_ints [], shaped_ints [], false, by simp [PyData.eqv, PyData.eqvAll], iteF (iteF (⟨rfl, b, [], d2⟩))⟩
      | cons g r =>
        refine ⟨.list ((g :: r).map PyData.int), .list [], .lst (SqL.of d2.hb) (dp_ints _), .lst (SqL.of upd_same) .nil, shaped_ints _, shaped_ints [], true, by simp [PyData.eqv, PyData.eqvAll], iteT ?_⟩
        refine ⟨_, rfl, a, _, 0, _, rfl, rfl, SqL.of d2.hs, rfl, b, _, 0, .int g, rfl, rfl, SqL.of d2.hb, at0, rfl, _, rfl, ite2 (fun _ => ?_) fun _ => ⟨rfl, b, _, d2⟩⟩
        -- state[0] = state[0][1:]
        refine ⟨fun σ H3 => σ = [some (.ref a), some (.int sz), none, none, none] ∧ ∃ (b : Addr) (gs : List Int), gs.length = r.length ∧ DS G H3 a b c gs cs (n + 1), fun σ' H' h' => ⟨r.length, Nat.lt_succ_self _, h'⟩, ?_⟩
        refine ⟨_, rfl, a, _, 0, _, rfl, rfl, SqL.of d2.hs, rfl, 1, rfl, b, _, rfl, SqL.of d2.hb, fun q hq => ?_⟩
        have n1 : a ≠ q := ne_of_none d2.hs hq
        have n3 : c ≠ q := ne_of_none d2.hc hq
        refine ⟨_, rfl, a, _, 0, 0, rfl, rfl, by rw [upd_ne n1]; exact d2.hs, rfl, rfl, q, r, rfl, ?_⟩
        exact ⟨same_mut (d2.same.trans (same_upd hq)) d2.fs, d2.fs, d2.same.free hq, d2.fc, upd_same, by rw [upd_ne n1.symm, upd_same, cut1]; rfl, by rw [upd_ne d2.sc.symm, upd_ne n3]; exact d2.hc, n3.symm, d2.pos⟩
    · rintro σ H2 ⟨rfl, b, gs, d⟩
      refine ⟨_, rfl, a, _, 0, _, rfl, rfl, SqL.of d.hs, rfl, Nat.zero_le _, fun p hp => ?_⟩
      have sp : Same H2 (upd H2 p (.lst [])) := same_upd hp
      have d2 : DS G (upd H2 p (.lst [])) a b c gs cs (n + 1) := ⟨d.same.trans sp, d.fs, d.fb, d.fc, sp _ _ d.hs, sp _ _ d.hb, sp _ _ d.hc, d.ne, d.pos⟩
      cases gs with
      | cons g r =>
        refine ⟨.list ((g :: r).map PyData.int), .list [], .lst (SqL.of d2.hb) (dp_ints _), .lst (SqL.of upd_same) .nil, shaped_ints _, shaped_ints [], true, by simp [PyData.eqv, PyData.eqvAll], iteT ?_⟩
        refine ⟨_, rfl, a, _, 0, _, rfl, rfl, SqL.of d2.hs, rfl, b, _, 0, .int g, rfl, rfl, SqL.of d2.hb, at0, .inl ⟨g, rfl, ?_⟩⟩
        refine ⟨_, rfl, g, sz, rfl, rfl, hs0, ?_⟩
        refine ⟨_, rfl, a, _, 0, _, rfl, rfl, SqL.of d2.hs, rfl, b, _, 0, .int g, rfl, rfl, SqL.of d2.hb, at0, _, rfl, g, sz, rfl, rfl, wide_div (b := 200) hs0 (by omega) (by decide) (by decide), ?_⟩
        refine ⟨_, rfl, a, _, 0, _, rfl, rfl, SqL.of d2.hs, rfl, b, _, 0, 0, rfl, rfl, d2.hb, ix0 (Nat.succ_pos _), ?_⟩
        refine ⟨_, rfl, k _ _ (Int.emod_nonneg _ (by omega)) (Int.emod_lt_of_pos _ hs0) ⟨b, c, g / sz :: r, cs, n + 1, ?_, Nat.succ_le_succ hn⟩⟩
        exact ⟨same_mut d2.same d2.fb, d2.fs, d2.fb, d2.fc, by rw [upd_ne d2.sb]; exact d2.hs, upd_same, by rw [upd_ne d2.ne.symm]; exact d2.hc, d2.ne, d2.pos⟩
      | nil =>
        refine ⟨.list [], .list [], .lst (SqL.of d2.hb) .nil, .lst (SqL.of upd_same) .nil, shaped_ints [], shaped_ints [], false, by simp [PyData.eqv, PyData.eqvAll], iteF ?_⟩
        have hl : (0 : Int) < (cs.length : Int) := by have := d.pos; omega
        have i0 : 0 ≤ ((n + 1 : Nat) : Int) % (cs.length : Int) := Int.emod_nonneg _ (by omega)
        have i1 : ((n + 1 : Nat) : Int) % (cs.length : Int) < (cs.length : Int) := Int.emod_lt_of_pos _ hl
        obtain ⟨j, ej⟩ : ∃ j : Nat, ((n + 1 : Nat) : Int) % (cs.length : Int) = (j : Int) := ⟨(((n + 1 : Nat) : Int) % (cs.length : Int)).toNat, by omega⟩
        have hj : j < cs.length := by omega
        refine ⟨_, rfl, a, _, 1, _, rfl, rfl, SqL.of d2.hs, rfl, _, rfl, a, _, 2, _, rfl, rfl, SqL.of d2.hs, rfl, .inl ⟨_, rfl, ?_⟩⟩
        refine ⟨_, rfl, a, _, 1, _, rfl, rfl, SqL.of d2.hs, rfl, c, _, rfl, .inl (SqL.of d2.hc), _, _, rfl, rfl, by rw [List.length_map]; exact hl, ?_⟩
        refine ⟨c, _, _, .int cs[j], rfl, rfl, SqL.of d2.hc, by rw [List.length_map]; exact at_of ej (by rw [List.getElem?_map, List.getElem?_eq_getElem hj]; rfl), .inl ⟨_, rfl, _, _, rfl, rfl, big1, ?_⟩⟩
        have c0 : 0 ≤ cs[j] % 2147483647 := Int.emod_nonneg _ (by decide)
        have c1 : cs[j] % 2147483647 < 2147483647 := Int.emod_lt_of_pos _ (by decide)
        refine ⟨_, rfl, _, _, rfl, rfl, .inr ⟨by decide, by decide⟩, _, rfl, a, _, 2, _, rfl, rfl, SqL.of d2.hs, rfl, _, _, rfl, rfl, .inr ⟨by decide, by decide⟩, _, _, rfl, rfl, _, _, rfl, rfl, _, _, rfl, rfl, ⟨by decide, by decide, pow_lt _ _ c0 c1 (by omega) (by omega)⟩, .inl ⟨_, rfl, _, _, rfl, rfl, big1, ?_⟩⟩
        have e0 : ∀ z : Int, 0 ≤ z % 2147483647 := fun z => Int.emod_nonneg _ (by decide)
        have e1 : ∀ z : Int, z % 2147483647 < 2147483647 := fun z => Int.emod_lt_of_pos _ (by decide)
        refine ⟨_, rfl, _, _, rfl, rfl, .inr ⟨by decide, by decide⟩, _, rfl, a, _, 2, _, rfl, rfl, SqL.of d2.hs, rfl, _, _, rfl, rfl, .inr ⟨by decide, by decide⟩, _, _, rfl, rfl, _, _, rfl, rfl, _, _, rfl, rfl, ⟨by decide, by decide, pow_lt2 _ _ (e0 _) (e1 _) (by omega) (by omega)⟩, .inl ⟨_, rfl, _, _, rfl, rfl, big2, ?_⟩⟩
        refine ⟨_, rfl, _, sz, rfl, rfl, hs0, ?_⟩
        exact k _ _ (Int.emod_nonneg _ (by omega)) (Int.emod_lt_of_pos _ hs0) ⟨b, c, [], cs, n + 1, d2, Nat.succ_le_succ hn⟩
end

/-! ### names -/
def lets : Str := "abcdefghijklmnopqrstuvwxyz"
def digs : Str := "0123456789"
def inNm (c : Nat) : Bool := decide (c ∈ lets.cps.toList) || decide (c ∈ digs.cps.toList)
def vnL : List Nat → Bool
  | [] => false
  | c :: r => decide (c ∈ lets.cps.toList) && (c :: r).all inNm
def vn (z : Str) : Bool := decide (1 ≤ z.length ∧ z.length ≤ 6) && vnL z.cps.toList
section
variable {P : Program} {w : World} {K : PySem.W.Frag} {mg : Str → Option Value} {base : Heap}
def spName : Sp := fun vs H Q _ => ∃ z : Str, vs = [.str z] ∧ z.length ≤ 1000 ∧ (∀ c ∈ z.cps.toList, c < 128) ∧ ∀ H', Same H H' → Q (.bl (vn z)) H'
theorem head_of {z : Str} (h : 1 ≤ z.length) : ∃ c r, z.cps.toList = c :: r := by
  cases e : z.cps.toList with
  | nil =>
    have : z.length = z.cps.toList.length := by simp [Str.length]
    rw [e] at this
    rw [this] at h
    exact absurd h (by decide)
  | cons c r => exact ⟨c, r, rfl⟩
theorem len_of (z : Str) : z.length = z.cps.toList.length := by simp [Str.length]
theorem ok_valid (T : Txt K mg) : FnOk P w K mg base CX0 1 T.f_valid_name T.d_valid_name ["text"] spName := by
  refine T.F_valid_name.ok sc_valid_name (fun vs H Q E h => ?_) (fun cdv A outer s H vs Q E hr h => ?_)
  · obtain ⟨z, rfl, _⟩ := h
    rfl
  · obtain ⟨z, rfl, hz, hc, k⟩ := h
    refine ⟨_, (pss_cons (ps_if (pt_not (pt_chain op_le op_le pe_int (pe_callB call_len_str (by rfl) T.n_len (by decide +kernel) (pa_cons (pv 0) pa_nil)) (pe_glob (v := V.int 6) rfl T.c_LONGEST_NAME ⟨_, rfl⟩)))
      (pss_one (ps_ret pe_bl))
      pss_nil)
    (pss_one (ps_ret (pe_and (pe_cmpR op_in_sign (pe_ix ix_str (pv 0) pe_int (fun _ _ => rfl)) (pe_glob (v := V.str "abcdefghijklmnopqrstuvwxyz") rfl T.c_LETTERS ⟨_, rfl⟩) rfl) (pe_one (pe_callB (cr_all rfl) (by rfl) T.n_all (by decide +kernel) (pa_cons (pe_lc (own := [("char", 1)]) (g := gName 1) (tt := tYes) rfl sc_valid_name.nd (pi_str (pv 0)) (blkOk_by (N := ["text", "char"]) (sc := defScope s_valid_name) (by decide +kernel)) (fun _ _ _ _ _ => pg_name (i := 1) sc_valid_name.nd rfl (Or.inl rfl)) (fun _ _ _ _ _ => pts_nil) (fun _ _ _ _ _ => (pe_or (pe_cmpR op_in_sign (pv 1) (pe_glob (v := V.str "abcdefghijklmnopqrstuvwxyz") rfl T.c_LETTERS ⟨_, rfl⟩) rfl) (pe_one (pe_cmpR op_in_sign (pv 1) (pe_glob (v := V.str "0123456789") rfl T.c_DIGITS ⟨_, rfl⟩) rfl))))) pa_nil))))))), ?_⟩
    have hzl : z.length ≤ sizeLine := Nat.le_of_lt (small1000 hz)
    -- the length
    refine ⟨_, rfl, z, rfl, hzl, 1, (z.length : Int), rfl, rfl, _, rfl, ite2 (fun h1 => ?_) fun h1 => ?_⟩
    · have h1' : (1 : Int) ≤ z.length := of_decide_eq_true h1
      refine ⟨_, 6, rfl, rfl, _, rfl, ite2 (fun h2 => ?_) fun h2 => ?_⟩
      · have h2' : ¬ (z.length : Int) ≤ 6 := by simpa using h2
        have e : vn z = false := by
          unfold vn
          rw [decide_eq_false (by omega), Bool.false_and]
        have := k H (Same.refl H)
        rw [e] at this
        exact this
      · have h2' : (z.length : Int) ≤ 6 := by simpa using h2
        obtain ⟨c, r, ez⟩ := head_of (z := z) (by omega)
        have ev : vn z = vnL (c :: r) := by
          unfold vn
          rw [decide_eq_true (by omega), Bool.true_and, ez]
        refine ⟨_, rfl, z, 0, c, rfl, rfl, hzl, by rw [ez]; exact at0, c, lets, rfl, rfl, _, rfl, ite2 (fun hl => ?_) fun hl => ?_⟩
        · refine ⟨_, rfl, z, rfl, fun D hD => ?_⟩
          refine lc_str (fun i H1 => H1 D = some (.lst ((z.cps.toList.take i).map fun c => V.bl (inNm c))) ∧ Same H H1) ⟨upd_same, same_upd hD⟩ ?_ ?_
          · intro i d H1 hi ⟨eD, sm⟩
            have hi2 : i < 1000 := by
              have := (List.getElem?_eq_some_iff.mp hi).1
              rw [← len_of] at this
              omega
            have fin : ∀ b : Bool, b = inNm d → ∃ acc, H1 D = some (.lst acc) ∧ acc.length < sizeLine ∧ (upd H1 D (.lst (acc ++ [V.bl b]))) D = some (.lst ((z.cps.toList.take (i + 1)).map fun c => V.bl (inNm c))) ∧ Same H (upd H1 D (.lst (acc ++ [V.bl b]))) := by
              intro b eb
              refine ⟨_, eD, small1000 (by rw [List.length_map, List.length_take]; omega), ?_, same_mut sm hD⟩
              rw [upd_same, take_more hi, List.map_append, eb]
              rfl
            refine ⟨rfl, _, rfl, d, lets, rfl, rfl, _, rfl, ite2 (fun h => ?_) fun h => ?_⟩
            · exact fin true (by unfold inNm; rw [h, Bool.true_or])
            · exact ⟨_, rfl, d, digs, rfl, rfl, fin _ (by unfold inNm; rw [Bool.eq_false_iff.mpr h, Bool.false_or])⟩
          · intro H1 ⟨eD, sm⟩
            have et : z.cps.toList.take z.cps.size = z.cps.toList := List.take_of_length_le (by simp)
            rw [et] at eD
            refine ⟨D, z.cps.toList.map inNm, rfl, SqL.of (by rw [eD, List.map_map]; rfl), ?_⟩
            have e2 : vn z = ((z.cps.toList.map inNm).all id) := by
              rw [ev, ez]
              show (decide (c ∈ lets.cps.toList) && (c :: r).all inNm) = _
              rw [hl, Bool.true_and, List.all_map]
              rfl
            rw [← e2]
            exact k H1 sm
        · have e : vn z = false := by
            rw [ev]
            show (decide (c ∈ lets.cps.toList) && (c :: r).all inNm) = false
            rw [Bool.eq_false_iff.mpr hl, Bool.false_and]
          have := k H (Same.refl H)
          rw [e] at this
          exact this
    · have h1' : ¬ (1 : Int) ≤ z.length := fun q => h1 (decide_eq_true q)
      refine ⟨_, rfl, iteT ?_⟩
      have e : vn z = false := by
        unfold vn
        rw [decide_eq_false (by omega), Bool.false_and]
      have := k H (Same.refl H)
      rw [e] at this
      exact this
theorem vn_eq {z : Str} {c : Nat} {r : List Nat} (h : 1 ≤ z.length ∧ z.length ≤ 6) (ez : z.cps.toList = c :: r) (hl : decide (c ∈ lets.cps.toList) = true) : vn z = (c :: r).all inNm := by
  unfold vn
  rw [decide_eq_true h, Bool.true_and, ez]
  show (decide (c ∈ lets.cps.toList) && (c :: r).all inNm) = _
  rw [hl, Bool.true_and]
theorem vn_no {z : Str} {c : Nat} {r : List Nat} (ez : z.cps.toList = c :: r) (hl : ¬ decide (c ∈ lets.cps.toList) = true) : vn z = false := by
  unfold vn
  rw [ez]
  show (_ && (decide (c ∈ lets.cps.toList) && (c :: r).all inNm)) = false
  rw [Bool.eq_false_iff.mpr hl, Bool.false_and, Bool.and_false]
theorem vn_len {z : Str} (h : ¬ (1 ≤ z.length ∧ z.length ≤ 6)) : vn z = false := by
  unfold vn
  rw [decide_eq_false h, Bool.false_and]
end

/-! ### the errors' own constructors -/
section
variable {P : Program} {w : World} {K : PySem.W.Frag} {mg : Str → Option Value} {base : Heap}
def spErr (nm : Str) (C : Addr) : Sp := fun vs H Q _ => ∃ (a : Addr) (v : V), vs = [.ref a, v] ∧ H a = some (exo a C none) ∧ ∀ dx H', H dx = none → dx ≠ a → H' = upd (upd H dx (exd dx [(nm, v)])) a (exo a C (some dx)) → Q .non H'
theorem ok_eBadName (T : Txt K mg) : FnOk P w K mg base CX0 1 T.f_BadName_init T.d_BadName_init ["self", "name"] (spErr "name" T.f_BadName) := by
  refine T.F_BadName_init.ok sc_BadName_init (fun vs H Q E h => ?_) (fun cdv A outer s H vs Q E hr h => ?_)
  · obtain ⟨a, v, rfl, _⟩ := h
    rfl
  · obtain ⟨a, v, rfl, ha, k⟩ := h
    refine ⟨_, (pss_one (ps_ost (pv 0) (pv 1))), ?_⟩
    exact ⟨_, rfl, _, rfl, a, T.f_BadName, rfl, T.ox_BadName, T.no_BadName_name, .inl ⟨ha, fun dx nd ne => k dx _ nd ne rfl⟩⟩
theorem ok_eDuplicateName (T : Txt K mg) : FnOk P w K mg base CX0 1 T.f_DuplicateName_init T.d_DuplicateName_init ["self", "name"] (spErr "name" T.f_DuplicateName) := by
  refine T.F_DuplicateName_init.ok sc_DuplicateName_init (fun vs H Q E h => ?_) (fun cdv A outer s H vs Q E hr h => ?_)
  · obtain ⟨a, v, rfl, _⟩ := h
    rfl
  · obtain ⟨a, v, rfl, ha, k⟩ := h
    refine ⟨_, (pss_one (ps_ost (pv 0) (pv 1))), ?_⟩
    exact ⟨_, rfl, _, rfl, a, T.f_DuplicateName, rfl, T.ox_DuplicateName, T.no_DuplicateName_name, .inl ⟨ha, fun dx nd ne => k dx _ nd ne rfl⟩⟩
theorem ok_eUnknownName (T : Txt K mg) : FnOk P w K mg base CX0 1 T.f_UnknownName_init T.d_UnknownName_init ["self", "name"] (spErr "name" T.f_UnknownName) := by
  refine T.F_UnknownName_init.ok sc_UnknownName_init (fun vs H Q E h => ?_) (fun cdv A outer s H vs Q E hr h => ?_)
  · obtain ⟨a, v, rfl, _⟩ := h
    rfl
  · obtain ⟨a, v, rfl, ha, k⟩ := h
    refine ⟨_, (pss_one (ps_ost (pv 0) (pv 1))), ?_⟩
    exact ⟨_, rfl, _, rfl, a, T.f_UnknownName, rfl, T.ox_UnknownName, T.no_UnknownName_name, .inl ⟨ha, fun dx nd ne => k dx _ nd ne rfl⟩⟩
theorem ok_eBadCount (T : Txt K mg) : FnOk P w K mg base CX0 1 T.f_BadCount_init T.d_BadCount_init ["self", "count"] (spErr "count" T.f_BadCount) := by
  refine T.F_BadCount_init.ok sc_BadCount_init (fun vs H Q E h => ?_) (fun cdv A outer s H vs Q E hr h => ?_)
  · obtain ⟨a, v, rfl, _⟩ := h
    rfl
  · obtain ⟨a, v, rfl, ha, k⟩ := h
    refine ⟨_, (pss_one (ps_ost (pv 0) (pv 1))), ?_⟩
    exact ⟨_, rfl, _, rfl, a, T.f_BadCount, rfl, T.ox_BadCount, T.no_BadCount_count, .inl ⟨ha, fun dx nd ne => k dx _ nd ne rfl⟩⟩
/-- an exception's own dict, new -/
def Raised (H : Hp) (nm : Str) (v : V) (D : Addr) (E : XK) : Prop := ∀ d H', H d = none → Same H H' → H' d = some (.xd [(nm, v)]) → E (.ref D) (some d) H'
theorem Raised.on {H H2 : Hp} {nm : Str} {v : V} {D : Addr} {E : XK} (r : Raised H nm v D E) (s : Same H H2) : Raised H2 nm v D E := fun d H' nd sm e => r d H' (s.free nd) (s.trans sm) e
/-- what a raise asks -/
theorem raise_asks {H : Hp} {nm : Str} {v : V} {D a : Addr} {E : XK} (na : H a = none) (k : Raised H nm v D E) (d : Addr) (H' : Hp) (nd : (upd H a (exo a D none)) d = none) (ne : d ≠ a) (e : H' = upd (upd (upd H a (exo a D none)) d (exd d [(nm, v)])) a (exo a D (some d))) :
    H' a = some (exo a D (some d)) ∧ H' d = some (exd d [(nm, v)]) ∧ H d = none ∧ E (.ref D) (some d) (upd (del H' a) d (.xd [(nm, v)])) := by
  have nd' : H d = none := by rw [upd_ne ne] at nd; exact nd
  refine ⟨by rw [e]; exact upd_same, by rw [e, upd_ne ne]; exact upd_same, nd', k d _ nd' (fun b o hb => ?_) upd_same⟩
  have n1 : b ≠ d := ne_of_none hb nd'
  have n2 : b ≠ a := ne_of_none hb na
  rw [upd_ne n1, del_ne n2, e, upd_ne n2, upd_ne n1, upd_ne n2]
  exact hb
/-- of the raising reading the calm one -/
theorem calm_of {k : Nat} {f : Addr} {fd : FuncData} {ps : List Str} {sp : Sp} (F : FnOk P w K mg base (L2.CX P w) k f fd ps sp) : FnOk P w K mg base CX0 k f fd ps (fun vs H Q _ => sp vs H Q E0) := by
  refine ⟨fun vs H Q E q => F.len vs H Q E0 q, fun A outer s H args us vs Q E hr he hb hv hs => codeAny_mono (F.run A outer s H args us vs Q E0 hr he hb hv hs) fun r s' q => ?_⟩
  cases r with
  | ok fl => cases fl <;> exact q
  | error e =>
    obtain ⟨_, _, _, _, _, _, _, _, _, _, _, _, z⟩ := q
    exact z.elim
end

/-! ### the errors of networks -/
section
variable {P : Program} {w : World} {K : PySem.W.Frag} {mg : Str → Option Value} {base : Heap}
theorem ok_eHasRound (T : Txt K mg) : FnOk P w K mg base CX0 1 T.f_HasRound_init T.d_HasRound_init ["self", "name"] (spErr "name" T.f_HasRound) := by
  refine T.F_HasRound_init.ok sc_HasRound_init (fun vs H Q E h => ?_) (fun cdv A outer s H vs Q E hr h => ?_)
  · obtain ⟨a, v, rfl, _⟩ := h
    rfl
  · obtain ⟨a, v, rfl, ha, k⟩ := h
    refine ⟨_, (pss_one (ps_ost (pv 0) (pv 1))), ?_⟩
    exact ⟨_, rfl, _, rfl, a, T.f_HasRound, rfl, T.ox_HasRound, T.no_HasRound_name, .inl ⟨ha, fun dx nd ne => k dx _ nd ne rfl⟩⟩
theorem ok_eUselessLink (T : Txt K mg) : FnOk P w K mg base CX0 1 T.f_UselessLink_init T.d_UselessLink_init ["self", "name"] (spErr "name" T.f_UselessLink) := by
  refine T.F_UselessLink_init.ok sc_UselessLink_init (fun vs H Q E h => ?_) (fun cdv A outer s H vs Q E hr h => ?_)
  · obtain ⟨a, v, rfl, _⟩ := h
    rfl
  · obtain ⟨a, v, rfl, ha, k⟩ := h
    refine ⟨_, (pss_one (ps_ost (pv 0) (pv 1))), ?_⟩
    exact ⟨_, rfl, _, rfl, a, T.f_UselessLink, rfl, T.ox_UselessLink, T.no_UselessLink_name, .inl ⟨ha, fun dx nd ne => k dx _ nd ne rfl⟩⟩
end

/-! ### links in a dict -/
/-- a link: its name, its ends -/
abbrev Ent := Str × Str × Str
section
variable {P : Program} {w : World} {K : PySem.W.Frag} {mg : Str → Option Value} {base : Heap}
/-- an entry of a dict: the name, the tuple of both ends -/
def EntOk (H : Hp) (q : Key × V) (e : Ent) : Prop := q.1 = .inr e.1 ∧ ∃ p, q.2 = .ref p ∧ H p = some (.tup [.str e.2.1, .str e.2.2])
theorem EntOk.on {H H' : Hp} {q : Key × V} {e : Ent} (r : EntOk H q e) (s : ∀ c o, H c = some (.tup o) → H' c = some (.tup o)) : EntOk H' q e := let ⟨h1, p, h2, h3⟩ := r; ⟨h1, p, h2, s _ _ h3⟩
/-- the links as a dict -/
def DictAt (H : Hp) (d : Addr) (es : List Ent) : Prop := ∃ kvs, H d = some (.dK kvs) ∧ Paired (EntOk H) kvs es
def names (es : List Ent) : List Str := es.map (·.1)
/-- fine links: names that differ, at most ten -/
structure FineE (es : List Ent) : Prop where
  nd : (names es).Nodup
  few : es.length ≤ 10
theorem paired_on {α β : Type} {F G : α → β → Prop} (h : ∀ a b, F a b → G a b) : ∀ {xs : List α} {ys : List β}, Paired F xs ys → Paired G xs ys
  | _, _, .nil => .nil
  | _, _, .cons a r => .cons (h _ _ a) (paired_on h r)
theorem DictAt.on {H H' : Hp} {d : Addr} {es : List Ent} (r : DictAt H d es) (s : ∀ c o, H c = some (.tup o) → H' c = some (.tup o)) (hd : ∀ kvs, H d = some (.dK kvs) → H' d = some (.dK kvs)) : DictAt H' d es :=
  let ⟨kvs, h1, h2⟩ := r; ⟨kvs, hd _ h1, paired_on (fun _ _ e => e.on s) h2⟩
theorem DictAt.same {H H' : Hp} {d : Addr} {es : List Ent} (r : DictAt H d es) (s : Same H H') : DictAt H' d es := r.on (fun c o e => s c _ e) fun _ e => s _ _ e
/-- what a dict tells of a name -/
def found (es : List Ent) (n : Str) : Option (Str × Str) := (es.find? fun e => decide (e.1 = n)).map (·.2)
theorem val_found {H : Hp} {n : Str} : ∀ {kvs : List (Key × V)} {es : List Ent}, Paired (EntOk H) kvs es →
    (found es n = none ∧ valV kvs (.inr n : Key) = none) ∨ ∃ e p, found es n = some e ∧ valV kvs (.inr n : Key) = some (.ref p) ∧ H p = some (.tup [.str e.1, .str e.2])
  | _, _, .nil => .inl ⟨rfl, rfl⟩
  | (k, v) :: kvs, e :: es, .cons a r => by
    obtain ⟨h1, p, h2, h3⟩ := a
    have h1 : k = .inr e.1 := h1
    have h2 : v = .ref p := h2
    subst h1 h2
    by_cases q : e.1 = n
    · right
      refine ⟨e.2, p, ?_, valV_pos (by rw [q]), h3⟩
      unfold found
      rw [List.find?_cons_of_pos (by simp [q])]
      rfl
    · have f : found (e :: es) n = found es n := by
        unfold found
        rw [List.find?_cons_of_neg (by simp [q])]
      have g : valV ((.inr e.1, V.ref p) :: kvs) (.inr n : Key) = valV kvs (.inr n) := valV_neg (fun z => q (Sum.inr.inj z))
      rw [f, g]
      exact val_found r
theorem found_some {es : List Ent} {n : Str} : (found es n).isSome = decide (n ∈ names es) := by
  unfold found names
  induction es with
  | nil => rfl
  | cons e r ih =>
    by_cases q : e.1 = n
    · rw [List.find?_cons_of_pos (by simp [q])]
      simp [q]
    · rw [List.find?_cons_of_neg (by simp [q]), ih]
      have : ¬ n = e.1 := fun z => q z.symm
      simp [this]
theorem keys_of {H : Hp} : ∀ {kvs : List (Key × V)} {es : List Ent}, Paired (EntOk H) kvs es → (kvs.map fun kv => kV kv.1) = (names es).map V.str
  | _, _, .nil => rfl
  | (k, v) :: kvs, e :: es, .cons a r => by
    have h1 : k = .inr e.1 := a.1
    subst h1
    show kV (.inr e.1) :: (kvs.map fun kv => kV kv.1) = _
    rw [keys_of r]
    rfl
theorem inV_names (n : Str) (zs : List Str) : inV (.str n) (zs.map V.str) = decide (n ∈ zs) := by
  unfold inV
  induction zs with
  | nil => rfl
  | cons z r ih =>
    rw [List.map_cons, List.any_cons, ih]
    by_cases h : n = z
    · subst h; simp [eqV]
    · have h2 : ¬ z = n := fun q => h q.symm
      simp [eqV, h, h2]
theorem flat_names (zs : List Str) : (zs.map V.str).all flatV = true := by
  rw [List.all_map]
  exact List.all_eq_true.mpr fun _ _ => rfl
theorem names_take {es : List Ent} {i : Nat} {e : Ent} (h : es[i]? = some e) : names (es.take (i + 1)) = names (es.take i) ++ [e.1] := by
  rw [take_more h]
  unfold names
  rw [List.map_append]
  rfl
theorem pair_at {α β : Type} {F : α → β → Prop} : ∀ {xs : List α} {ys : List β}, Paired F xs ys → ∀ {i : Nat} {x : α}, xs[i]? = some x → ∃ y, ys[i]? = some y ∧ F x y
  | _, _, .nil, i, x, h => by simp at h
  | _, _, .cons a r, 0, x, h => ⟨_, rfl, by rw [← Option.some.inj h]; exact a⟩
  | _, _, .cons a r, i + 1, x, h => pair_at r (i := i) h
theorem paired_snoc {α β : Type} {F : α → β → Prop} {a : α} {b : β} (h : F a b) : ∀ {xs : List α} {ys : List β}, Paired F xs ys → Paired F (xs ++ [a]) (ys ++ [b])
  | _, _, .nil => .cons h .nil
  | _, _, .cons a r => .cons a (paired_snoc h r)
/-- a word of few signs, all plain -/
def Wn (z : Str) : Prop := z.length ≤ 1000 ∧ ∀ c ∈ z.cps.toList, c < 128
/-- the first of some words that is no name -/
def bad (zs : List Str) : Option Str := zs.find? fun z => !vn z
def stored (es : List Ent) (n : Str) (e : Str × Str) : List Ent := if n ∈ names es then es.map (fun q => if q.1 = n then (q.1, e) else q) else es ++ [(n, e)]
theorem stored_ok {H : Hp} {kvs : List (Key × V)} {es : List Ent} {n : Str} {e : Str × Str} {q : Addr} (h : Paired (EntOk H) kvs es) (hq : H q = some (.tup [.str e.1, .str e.2])) : Paired (EntOk H) (putK kvs (.inr n : Key) (.ref q)) (stored es n e) := by
  have hany : (kvs.any fun kv => decide (kv.1 = (.inr n : Key))) = decide (n ∈ names es) := by
    rw [valV_any, ← found_some]
    rcases val_found (n := n) h with ⟨e1, e2⟩ | ⟨e, p, e1, e2, _⟩ <;> rw [e1, e2] <;> rfl
  unfold putK stored
  by_cases hn : n ∈ names es
  · rw [hany, decide_eq_true hn, if_pos rfl, if_pos hn]
    clear hany hn
    induction h with
    | nil => exact .nil
    | @cons a b as bs r rr ih =>
      refine .cons ?_ ih
      obtain ⟨h1, p, h2, h3⟩ := r
      show EntOk H (if a.1 = (.inr n : Key) then (a.1, V.ref q) else a) (if b.1 = n then (b.1, e) else b)
      by_cases hb : b.1 = n
      · rw [if_pos (by rw [h1, hb]), if_pos hb]
        exact ⟨by show a.1 = _; exact h1, q, rfl, hq⟩
      · rw [if_neg (fun z => hb (Sum.inr.inj (h1.symm.trans z))), if_neg hb]
        exact ⟨h1, p, h2, h3⟩
  · rw [hany, decide_eq_false hn, if_neg Bool.false_ne_true, if_neg hn]
    exact paired_snoc ⟨rfl, q, rfl, hq⟩ h
theorem bad_at : ∀ {zs : List Str} {i : Nat} {z : Str}, (∀ q ∈ zs.take i, vn q = true) → zs[i]? = some z → ¬ vn z = true → bad zs = some z
  | [], i, z, _, h, _ => by simp at h
  | q :: r, 0, z, _, h, hv => by
    have e : q = z := Option.some.inj h
    subst e
    unfold bad
    rw [List.find?_cons_of_pos (by simpa using hv)]
  | q :: r, i + 1, z, ha, h, hv => by
    have ih := bad_at (zs := r) (i := i) (z := z) (fun q' hq => ha q' (List.mem_cons_of_mem _ hq)) h hv
    unfold bad at ih ⊢
    rw [List.find?_cons_of_neg (by rw [ha q List.mem_cons_self]; decide)]
    exact ih
end

/-! ### what links lead to -/
/-- q is reached from p by one or more links -/
inductive Lead (es : List Ent) : Str → Str → Prop
  | one {e : Ent} : e ∈ es → Lead es e.2.1 e.2.2
  | more {p : Str} {e : Ent} : Lead es p e.2.1 → e ∈ es → Lead es p e.2.2
theorem Lead.step {es : List Ent} {p : Str} {e : Ent} (h : p = e.2.1 ∨ Lead es p e.2.1) (he : e ∈ es) : Lead es p e.2.2 := by
  rcases h with rfl | h
  · exact .one he
  · exact .more h he
theorem Lead.trans {es : List Ent} {p q r : Str} (h : Lead es p q) (h2 : Lead es q r) : Lead es p r := by
  induction h2 with
  | one he => exact .more h he
  | more _ he ih => exact .more (ih h) he
theorem Lead.mono {es fs : List Ent} {p q : Str} (h : Lead es p q) (s : ∀ e ∈ es, e ∈ fs) : Lead fs p q := by
  induction h with
  | one he => exact .one (s _ he)
  | more _ he ih => exact .more ih (s _ he)
theorem Lead.last {es : List Ent} {p q : Str} (h : Lead es p q) : ∃ e ∈ es, e.2.2 = q := by
  cases h with
  | one he => exact ⟨_, he, rfl⟩
  | more _ he => exact ⟨_, he, rfl⟩
theorem Lead.first {es : List Ent} {p q : Str} (h : Lead es p q) : ∃ e ∈ es, e.2.1 = p := by
  induction h with
  | one he => exact ⟨_, he, rfl⟩
  | more _ _ ih => exact ih
theorem Lead.cons {es : List Ent} {p q : Str} (h : Lead es p q) : ∃ e ∈ es, e.2.1 = p ∧ (e.2.2 = q ∨ Lead es e.2.2 q) := by
  induction h with
  | one he => exact ⟨_, he, rfl, .inl rfl⟩
  | more _ he ih =>
    obtain ⟨e, h1, h2, h3⟩ := ih
    exact ⟨e, h1, h2, .inr (h3.elim (fun z => z ▸ .one he) fun z => .more z he)⟩
/-- while what lies behind p is sought: found, waiting -/
structure Seek (es : List Ent) (p : Str) (F W : List Str) : Prop where
  sound : ∀ q ∈ F, Lead es p q
  wait : ∀ q ∈ W, q = p ∨ q ∈ F
  nd : F.Nodup
  clo : ∀ q, q = p ∨ q ∈ F → q ∈ W ∨ ∀ e ∈ es, e.2.1 = q → e.2.2 ∈ F
theorem Seek.start (es : List Ent) (p : Str) : Seek es p [] [p] where
  sound := fun q h => by cases h
  wait := fun q h => .inl (List.mem_singleton.mp h)
  nd := List.nodup_nil
  clo := fun q h => by
    rcases h with h | h
    · exact .inl (List.mem_singleton.mpr h)
    · cases h
theorem Seek.done {es : List Ent} {p : Str} {F : List Str} (s : Seek es p F []) (q : Str) : q ∈ F ↔ Lead es p q := by
  refine ⟨s.sound q, fun h => ?_⟩
  have cl : ∀ q, q = p ∨ q ∈ F → ∀ e ∈ es, e.2.1 = q → e.2.2 ∈ F := fun q h => (s.clo q h).elim (fun z => by cases z) id
  induction h with
  | one he => exact cl _ (.inl rfl) _ he rfl
  | more _ he ih => exact cl _ (.inr (ih ⟨s.sound, s.wait, s.nd, s.clo⟩ cl)) _ he rfl
/-- while the links of one place are walked -/
structure SeekAt (es : List Ent) (p c : Str) (i : Nat) (F W : List Str) : Prop where
  sound : ∀ q ∈ F, Lead es p q
  wait : ∀ q ∈ W, q = p ∨ q ∈ F
  nd : F.Nodup
  at_ : p = c ∨ Lead es p c
  here : ∀ e ∈ es.take i, e.2.1 = c → e.2.2 ∈ F
  clo : ∀ q, q = p ∨ q ∈ F → q ∈ W ∨ q = c ∨ ∀ e ∈ es, e.2.1 = q → e.2.2 ∈ F
theorem Seek.pop {es : List Ent} {p c : Str} {F W : List Str} (s : Seek es p F (W ++ [c])) : SeekAt es p c 0 F W where
  sound := s.sound
  wait := fun q h => s.wait q (List.mem_append_left _ h)
  nd := s.nd
  at_ := by
    rcases s.wait c (List.mem_append_right _ (List.mem_singleton.mpr rfl)) with h | h
    · exact .inl h.symm
    · exact .inr (s.sound c h)
  here := fun e h => by simp at h
  clo := fun q h => by
    rcases s.clo q h with h | h
    · rcases List.mem_append.mp h with h | h
      · exact .inl h
      · exact .inr (.inl (List.mem_singleton.mp h))
    · exact .inr (.inr h)
theorem SeekAt.skip {es : List Ent} {p c : Str} {i : Nat} {e : Ent} {F W : List Str} (s : SeekAt es p c i F W) (he : es[i]? = some e) (h : e.2.1 = c → e.2.2 ∈ F) : SeekAt es p c (i + 1) F W :=
  ⟨s.sound, s.wait, s.nd, s.at_, fun f hf hc => by
    rw [take_more he] at hf
    rcases List.mem_append.mp hf with hf | hf
    · exact s.here f hf hc
    · rw [List.mem_singleton.mp hf] at hc ⊢
      exact h hc, s.clo⟩
theorem SeekAt.add {es : List Ent} {p c : Str} {i : Nat} {e : Ent} {F W : List Str} (s : SeekAt es p c i F W) (he : es[i]? = some e) (h : e.2.1 = c) (hn : e.2.2 ∉ F) : SeekAt es p c (i + 1) (F ++ [e.2.2]) (W ++ [e.2.2]) where
  sound := fun q hq => by
    rcases List.mem_append.mp hq with hq | hq
    · exact s.sound q hq
    · rw [List.mem_singleton.mp hq]
      exact Lead.step (h ▸ s.at_) (List.mem_of_getElem? he)
  wait := fun q hq => by
    rcases List.mem_append.mp hq with hq | hq
    · exact (s.wait q hq).imp id fun z => List.mem_append_left _ z
    · exact .inr (List.mem_append_right _ hq)
  nd := List.nodup_append.mpr ⟨s.nd, (by simp), fun a ha b hb => by rw [List.mem_singleton.mp hb]; exact fun z => hn (z ▸ ha)⟩
  at_ := s.at_
  here := fun f hf hc => by
    rw [take_more he] at hf
    rcases List.mem_append.mp hf with hf | hf
    · exact List.mem_append_left _ (s.here f hf hc)
    · rw [List.mem_singleton.mp hf]
      exact List.mem_append_right _ (List.mem_singleton.mpr rfl)
  clo := fun q hq => by
    have up : ∀ z : Str, z ∈ F → z ∈ F ++ [e.2.2] := fun z => List.mem_append_left _
    have old : q = p ∨ q ∈ F → q ∈ W ++ [e.2.2] ∨ q = c ∨ ∀ f ∈ es, f.2.1 = q → f.2.2 ∈ F ++ [e.2.2] := fun h => by
      rcases s.clo q h with h | h | h
      · exact .inl (List.mem_append_left _ h)
      · exact .inr (.inl h)
      · exact .inr (.inr fun f hf e => up _ (h f hf e))
    rcases hq with hq | hq
    · exact old (.inl hq)
    · rcases List.mem_append.mp hq with hq | hq
      · exact old (.inr hq)
      · exact .inl (List.mem_append_right _ hq)
theorem SeekAt.back {es : List Ent} {p c : Str} {F W : List Str} (s : SeekAt es p c es.length F W) : Seek es p F W := ⟨s.sound, s.wait, s.nd, fun q h => by
  rcases s.clo q h with h | h | h
  · exact .inl h
  · exact .inr fun e he hc => s.here e (by rw [List.take_length]; exact he) (hc.trans h)
  · exact .inr h⟩
theorem nd_len {α : Type} [DecidableEq α] : ∀ {l m : List α}, l.Nodup → (∀ x ∈ l, x ∈ m) → l.length ≤ m.length
  | [], _, _, _ => Nat.zero_le _
  | x :: l, m, nd, s => by
    have hx := s x List.mem_cons_self
    have hl : ∀ y ∈ l, y ∈ m.erase x := fun y hy => by
      have ne : y ≠ x := fun z => (List.nodup_cons.mp nd).1 (z ▸ hy)
      exact (List.mem_erase_of_ne ne).mpr (s y (List.mem_cons_of_mem _ hy))
    have ih := nd_len (List.nodup_cons.mp nd).2 hl
    have e := List.length_erase_of_mem hx
    have pos : 0 < m.length := List.length_pos_of_mem hx
    rw [List.length_cons]
    omega
theorem found_few {es : List Ent} {p : Str} {F : List Str} (nd : F.Nodup) (s : ∀ q ∈ F, Lead es p q) : F.length ≤ es.length := by
  rw [← List.length_map (f := fun e : Ent => e.2.2) (as := es)]
  refine nd_len nd fun q hq => ?_
  obtain ⟨e, he, rfl⟩ := (s q hq).last
  exact List.mem_map.mpr ⟨e, he, rfl⟩

/-! ### the places behind one -/
/-- the links as a dict that may be locked -/
def DictRd (H : Hp) (d : Addr) (es : List Ent) : Prop := ∃ kvs, Rd H d (.dK kvs) ∧ Paired (EntOk H) kvs es
section
variable {P : Program} {w : World} {K : PySem.W.Frag} {mg : Str → Option Value} {base : Heap}
theorem DictAt.rd {H : Hp} {d : Addr} {es : List Ent} (h : DictAt H d es) : DictRd H d es := let ⟨kvs, a, b⟩ := h; ⟨kvs, .inl a, b⟩
theorem Rd.on {H H' : Hp} {d : Addr} {u : HO} (h : Rd H d u) (s : Same H H') : Rd H' d u := h.elim (fun z => .inl (s _ _ z)) fun ⟨o, z⟩ => .inr ⟨o, s _ _ z⟩
theorem DictRd.same {H H' : Hp} {d : Addr} {es : List Ent} (h : DictRd H d es) (s : Same H H') : DictRd H' d es := let ⟨kvs, a, b⟩ := h; ⟨kvs, Rd.on a s, paired_on (fun _ _ e => e.on fun c o => s c _) b⟩
/-- two lists beside what was -/
structure Two2 (H Hc : Hp) (f wt : Addr) (F W : List Str) : Prop where
  same : Same H Hc
  nf : H f = none
  nw : H wt = none
  ne : f ≠ wt
  hf : Hc f = some (.lst (F.map V.str))
  hw : Hc wt = some (.lst (W.map V.str))
theorem Two2.setW {H Hc : Hp} {f wt : Addr} {F W : List Str} (t : Two2 H Hc f wt F W) (W' : List Str) : Two2 H (upd Hc wt (.lst (W'.map V.str))) f wt F W' :=
  ⟨same_mut t.same t.nw, t.nf, t.nw, t.ne, by rw [upd_ne t.ne]; exact t.hf, upd_same⟩
theorem Two2.setF {H Hc : Hp} {f wt : Addr} {F W : List Str} (t : Two2 H Hc f wt F W) (F' : List Str) : Two2 H (upd Hc f (.lst (F'.map V.str))) f wt F' W :=
  ⟨same_mut t.same t.nf, t.nf, t.nw, t.ne, upd_same, by rw [upd_ne t.ne.symm]; exact t.hw⟩
def spBehind : Sp := fun vs H Q _ => ∃ (d : Addr) (es : List Ent) (p : Str), vs = [.ref d, .str p] ∧ DictRd H d es ∧ es.length ≤ 100 ∧ ∀ (l : Addr) (F : List Str) (H' : Hp), H l = none → Same H H' → H' l = some (.lst (F.map V.str)) → F.Nodup → (∀ q, q ∈ F ↔ Lead es p q) → Q (.ref l) H'
theorem ok_behind (T : Txt K mg) : FnOk P w K mg base CX0 1 T.f_places_behind T.d_places_behind ["table", "first"] spBehind := by
  refine T.F_places_behind.ok sc_places_behind (fun vs H Q E h => ?_) (fun cdv A outer s H vs Q E hr h => ?_)
  · obtain ⟨d, es, p, rfl, _⟩ := h
    rfl
  · obtain ⟨d, es, p, rfl, ⟨kvs, hd, hp⟩, hfew, k⟩ := h
    refine ⟨_, (pss_cons (ps_set (i := 2) sc_places_behind.nd rfl (Or.inl rfl) (pe_lst pa_nil))
    (pss_cons (ps_set (i := 3) sc_places_behind.nd rfl (Or.inl rfl) (pe_lst (pa_cons (pv 1) pa_nil)))
    (C8.pss_cut (ps_while PassesOwn.never (pt_cmpR op_gt (pe_callB call_len_seq (by rfl) T.n_len (by decide +kernel) (pa_cons (pv 3) pa_nil)) pe_int (nomark _))
      (pss_cons (ps_set (i := 4) sc_places_behind.nd rfl (Or.inl rfl) (pe_bm0 PySem.F.plainAttrs_list PySem.F.slot_list_pop PySem.F.type_list_pop mt_pop (pv 3)))
    (pss_one (ps_may (ps_for PassesOwn.never rfl (pi_values (pv 0)) (pg_tup rfl (pgs_cons (pg_name (i := 5) sc_places_behind.nd rfl (Or.inl rfl)) (pgs_cons (pg_name (i := 6) sc_places_behind.nd rfl (Or.inl rfl)) pgs_nil)))
      (pss_one (ps_if (PW.pt (pw_and (pt_cmpR op_eq (pv 5) (pv 4) (nomark _)) (pw_and1 (pt_cmpR op_notIn_seq (pv 6) (pv 2) (by with_unfolding_all rfl)))))
      (pss_cons (ps_expr (pe_bm PySem.F.plainAttrs_list PySem.F.slot_list_append PySem.F.type_list_append mt_append (pv 2) (pa_cons (pv 6) pa_nil)))
    (pss_one (ps_expr (pe_bm PySem.F.plainAttrs_list PySem.F.slot_list_append PySem.F.type_list_append mt_append (pv 3) (pa_cons (pv 6) pa_nil)))))
      pss_nil)))))))
    (pss_one (ps_ret (pv 2)))))), ?_⟩
    refine ⟨by show 0 ≤ sizeLine; decide, fun f nf => ?_⟩
    refine ⟨_, rfl, by show 1 ≤ sizeLine; decide, fun wt nw => ?_⟩
    refine ⟨fun σ Hc => ∃ F x4 x5 x6, σ = [some (.ref d), some (.str p), some (.ref f), some (.ref wt), x4, x5, x6] ∧ Seek es p F [] ∧ Two2 H Hc f wt F [], ?_, ?_⟩
    · refine ⟨fun m σ Hc => ∃ F W x4 x5 x6, σ = [some (.ref d), some (.str p), some (.ref f), some (.ref wt), x4, x5, x6] ∧ Seek es p F W ∧ Two2 H Hc f wt F W ∧ W.length + (es.length - F.length) ≤ 101 ∧ m = W.length + (es.length - F.length), ⟨_, [], [p], none, none, none, rfl, Seek.start es p, ?_, by show 1 + es.length ≤ 101; omega, rfl⟩, ?_⟩
      · have n1 : H wt = none := by
          by_cases e : wt = f
          · rw [e]; exact nf
          · rw [upd_ne e] at nw; exact nw
        have ne : f ≠ wt := fun e => by rw [← e, upd_same] at nw; cases nw
        exact ⟨(same_upd nf).trans (same_upd nw), nf, n1, ne, by rw [upd_ne ne]; exact upd_same, upd_same⟩
      rintro m σ Hc ⟨F, W, x4, x5, x6, rfl, sk, tw, hm1, rfl⟩
      have hcount : ∀ G : List Str, (G.map V.str).length = G.length := fun G => List.length_map _
      refine ⟨_, rfl, wt, _, rfl, .inl (SqL.of tw.hw), _, 0, rfl, rfl, _, rfl, ite2 (fun hpos => ?_) fun hpos => ?_⟩
      · obtain ⟨W', c, rfl⟩ : ∃ W' c, W = W' ++ [c] := by
          rcases List.eq_nil_or_concat W with rfl | ⟨W', c, rfl⟩
          · revert hpos; simp
          · exact ⟨W', c, by rw [List.concat_eq_append]⟩
        have hfF := found_few sk.nd sk.sound
        refine ⟨fun σ H' => ∃ F2 W2 x4 x5 x6, σ = [some (.ref d), some (.str p), some (.ref f), some (.ref wt), x4, x5, x6] ∧ Seek es p F2 W2 ∧ Two2 H H' f wt F2 W2 ∧ W2.length + (es.length - F2.length) < (W' ++ [c]).length + (es.length - F.length), fun σ' H' ⟨F2, W2, y4, y5, y6, e, s2, t2, lt⟩ => ⟨_, lt, F2, W2, y4, y5, y6, e, s2, t2, Nat.le_trans (Nat.le_of_lt lt) hm1, rfl⟩, ?_⟩
        refine ⟨_, rfl, .inl ⟨rfl, _, SqL.of tw.hw⟩, wt, _, .str c, rfl, rfl, tw.hw, by simp, ?_⟩
        have ew : (((W' ++ [c]).map V.str).dropLast) = W'.map V.str := by rw [List.map_append]; exact List.dropLast_concat
        have t1 := tw.setW W'
        rw [← ew] at t1
        rw [ew] at t1 ⊢
        generalize upd Hc wt (.lst (W'.map V.str)) = H1 at t1
        refine may_ask (kvs := kvs) (Rd.on hd t1.same) fun od Hl bk hl o1 b1 b2 => ?_
        have dne : ∀ {a : Addr}, H a = none → a ≠ d := fun {a} ha e => by
          rw [e] at ha
          rcases hd with z | ⟨o, z⟩ <;> rw [ha] at z <;> cases z
        have elen : kvs.length = es.length := hp.length
        have keep : ∀ {H' : Hp}, (∀ a o, a ≠ d → H a = some o → H' a = some o) → H' d = some (.frz od (.dK kvs)) → Same H (bk H') := fun {H'} h1 h2 a o ha => by
          by_cases e : a = d
          · rw [e] at ha ⊢; rw [b2 H' h2]; exact t1.same _ _ ha
          · rw [b1 H' a e]; exact h1 a o e ha
        refine ⟨_, rfl, d, od, kvs, rfl, hl, ?_⟩
        refine for_vals (fun i σ H' => ∃ F2 W2 x5 x6, σ = [some (.ref d), some (.str p), some (.ref f), some (.ref wt), some (.str c), x5, x6] ∧ SeekAt es p c i F2 W2 ∧ H' d = some (.frz od (.dK kvs)) ∧ (∀ a o, a ≠ d → H a = some o → H' a = some o) ∧
          H' f = some (.lst (F2.map V.str)) ∧ H' wt = some (.lst (W2.map V.str)) ∧ W2.length + F.length = W'.length + F2.length) ?_ (fun i σ H' _ ⟨_, _, _, _, _, _, h, _⟩ => h) ?_ ?_
        · exact ⟨F, W', x5, x6, rfl, sk.pop, hl, fun a o ne ha => (o1 a ne).trans (t1.same _ _ ha), (o1 f (dne t1.nf)).trans t1.hf, (o1 wt (dne t1.nw)).trans t1.hw, rfl⟩
        · rintro i kk v σ H' hi ⟨F2, W2, y5, y6, rfl, sa, h1, h2, h3, h4, h5⟩
          have hf2 := found_few sa.nd sa.sound
          have hw2 : W2.length ≤ 300 := by rw [List.length_append] at hm1; omega
          obtain ⟨e, he, ⟨rfl, q, rfl, hq⟩⟩ := L2.paired_get hp hi
          have nq : q ≠ d := fun z => by
            rw [z] at hq
            rcases hd with z | ⟨o, z⟩ <;> rw [hq] at z <;> cases z
          refine ⟨q, _, rfl, SqT.of (h2 q _ nq hq), rfl, _, _, rfl, _, _, rfl, rfl, ?_⟩
          refine ⟨_, rfl, _, rfl, rfl, _, rfl, ?_⟩
          by_cases hc : e.2.1 = c
          · rw [decide_eq_true (by rw [hc])]
            refine iteT ?_
            refine ⟨_, rfl, _, rfl, f, _, rfl, .inl (SqL.of h3), rfl, flat_names F2, _, rfl, ?_⟩
            rw [inV_names, if_pos rfl]
            by_cases hm : e.2.2 ∈ F2
            · rw [decide_eq_true hm]
              exact iteF ⟨F2, W2, _, _, rfl, sa.skip he fun _ => hm, h1, h2, h3, h4, h5⟩
            · rw [decide_eq_false hm]
              refine iteT ?_
              refine ⟨_, rfl, .inl ⟨rfl, _, SqL.of h3⟩, _, rfl, f, _, _, rfl, rfl, h3, small1000 (by rw [hcount]; omega), ?_⟩
              have h4' : (upd H' f (.lst (F2.map V.str ++ [V.str e.2.2]))) wt = some (.lst (W2.map V.str)) := by rw [upd_ne tw.ne.symm]; exact h4
              refine ⟨_, rfl, .inl ⟨rfl, _, SqL.of h4'⟩, _, rfl, wt, _, _, rfl, rfl, h4', small1000 (by rw [hcount]; omega), ?_⟩
              refine ⟨F2 ++ [e.2.2], W2 ++ [e.2.2], _, _, rfl, sa.add he hc hm, ?_, fun a o ne ha => ?_, ?_, ?_, ?_⟩
              · rw [upd_ne (dne tw.nw).symm, upd_ne (dne tw.nf).symm]; exact h1
              · rw [upd_ne (ne_of_none ha tw.nw), upd_ne (ne_of_none ha tw.nf)]; exact h2 a o ne ha
              · rw [upd_ne tw.ne, upd_same, List.map_append]; rfl
              · rw [upd_same, List.map_append]; rfl
              · rw [List.length_append, List.length_append]; show W2.length + 1 + _ = _ + (F2.length + 1); omega
          · rw [decide_eq_false (fun z => hc (V.str.inj z))]
            exact iteF ⟨F2, W2, _, _, rfl, sa.skip he fun z => absurd z hc, h1, h2, h3, h4, h5⟩
        · rintro σ H' ⟨F2, W2, y5, y6, rfl, sa, h1, h2, h3, h4, h5⟩
          rw [elen] at sa
          have hf2 := found_few sa.nd sa.sound
          refine ⟨h1, F2, W2, _, _, _, rfl, sa.back, ⟨keep h2 h1, tw.nf, tw.nw, tw.ne, by rw [b1 _ _ (dne tw.nf)]; exact h3, by rw [b1 _ _ (dne tw.nw)]; exact h4⟩, ?_⟩
          rw [List.length_append]
          show _ < W'.length + 1 + _
          omega
      · have h0 : W = [] := by
          cases W with
          | nil => rfl
          | cons z r => exact absurd (by simp : decide ((0:Int) < ((((z :: r).map V.str).length : Nat) : Int)) = true) hpos
        subst h0
        exact ⟨F, x4, x5, x6, rfl, sk, tw⟩
    · rintro σ Hc ⟨F, x4, x5, x6, rfl, sk, tw⟩
      exact ⟨_, rfl, k f F Hc tw.nf tw.same tw.hf sk.nd sk.done⟩
end

/-! ### useful links -/
/-- the link lies on a way from s to t -/
def Useful (es : List Ent) (s t : Str) (e : Ent) : Prop := (e.2.1 = s ∨ Lead es s e.2.1) ∧ (e.2.2 = t ∨ Lead es e.2.2 t)
open Classical in
noncomputable def usefulB (es : List Ent) (s t : Str) (e : Ent) : Bool := decide (Useful es s t e)
open Classical in
theorem useful_yes {es : List Ent} {s t : Str} {e : Ent} (h : Useful es s t e) : usefulB es s t e = true := by unfold usefulB; exact decide_eq_true h
open Classical in
theorem of_useful {es : List Ent} {s t : Str} {e : Ent} (h : usefulB es s t e = true) : Useful es s t e := by unfold usefulB at h; exact of_decide_eq_true h
section
variable {P : Program} {w : World} {K : PySem.W.Frag} {mg : Str → Option Value} {base : Heap}
def spUseful : Sp := fun vs H Q _ => ∃ (d : Addr) (es : List Ent) (s t : Str), vs = [.ref d, .str s, .str t] ∧ DictAt H d es ∧ es.length ≤ 100 ∧ ∀ (l : Addr) (H' : Hp), H l = none → Same H H' → H' l = some (.lst ((names (es.filter (usefulB es s t))).map V.str)) → Q (.ref l) H'
theorem ok_useful (T : Txt K mg) : FnOk P w K mg base CX0 2 T.f_useful_names T.d_useful_names ["table", "start", "end"] spUseful := by
  have G_places_behind : FnOk P w K mg base CX0 1 T.f_places_behind T.d_places_behind ["table", "first"] spBehind := ok_behind T
  refine T.F_useful_names.ok sc_useful_names (fun vs H Q E h => ?_) (fun cdv A outer s H vs Q E hr h => ?_)
  · obtain ⟨d, es, s, t, rfl, _⟩ := h
    rfl
  · obtain ⟨d, es, s, t, rfl, ⟨kvs, hd, hp⟩, hfew, k⟩ := h
    refine ⟨_, (pss_cons (ps_set (i := 3) sc_useful_names.nd rfl (Or.inr rfl) (pe_lst (pa_cons (pv 1) (StX.pa_star (pe_call G_places_behind (hr.mono (by decide)) rfl T.m_places_behind T.F_places_behind.kp T.b_places_behind .nil pass0 (pa_cons (pv 0) (pa_cons (pv 1) pa_nil))) pa_nil))))
    (pss_one (ps_ret (pe_lock (pe_lc (own := [("name", 4), ("tail", 5), ("head", 6)]) (g := gTup K 2 (gCons (gName 4) (gCons (gTup K 2 (gCons (gName 5) (gCons (gName 6) gNil))) gNil))) rfl sc_useful_names.nd (pi_items (pv 0)) (blkOk_by (N := ["table", "start", "end", "reached", "name", "tail", "head"]) (sc := defScope s_useful_names) (by decide +kernel)) (fun _ _ _ _ _ => (pg_tup rfl (pgs_cons (pg_name (i := 4) sc_useful_names.nd rfl (Or.inl rfl)) (pgs_cons (pg_tup rfl (pgs_cons (pg_name (i := 5) sc_useful_names.nd rfl (Or.inl rfl)) (pgs_cons (pg_name (i := 6) sc_useful_names.nd rfl (Or.inl rfl)) pgs_nil))) pgs_nil)))) (fun _ _ _ _ _ => pts_one (PW.pt (pw_and (pt_cmpR (show OpR _ _ (rIn K false) from op_in_seq) (pv 5) (pv 3) (by with_unfolding_all rfl)) (pw_and1 (pt_cmpR (show OpR _ _ (rIn K false) from op_in_seq) (pv 2) (pe_lst (pa_cons (pv 6) (show PA _ (.Starred _ _ :: _) (StX.tStar K _ _) from (StX.pa_star (pe_call G_places_behind (hr.mono (by decide)) rfl T.m_places_behind T.F_places_behind.kp T.b_places_behind .nil pass0 (pa_cons (pv 0) (pa_cons (pv 6) pa_nil))) pa_nil)))) (by with_unfolding_all rfl)))))) (fun _ _ _ _ _ => (pv 4))))))), ?_⟩
    refine ⟨_, rfl, _, rfl, _, rfl, d, es, s, rfl, ⟨kvs, .inl hd, hp⟩, hfew, fun b F H1 nb s1 hb ndF hF => ?_⟩
    refine ⟨b, _, rfl, .inr (SqL.of hb), ?_⟩
    have hfF := found_few ndF fun q hq => (hF q).mp hq
    refine ⟨Nat.le_of_lt (small1000 (by simp only [List.length_cons, List.length_append, List.length_map, List.length_nil]; omega)), fun L nL => ?_⟩
    rw [List.append_nil]
    have nLH : H L = none := s1.free nL
    have s2 : Same H (upd H1 L (.lst (V.str s :: F.map V.str))) := s1.trans (same_upd nL)
    generalize hH2 : upd H1 L (.lst (V.str s :: F.map V.str)) = H2 at s2
    have hL2 : H2 L = some (.lst (V.str s :: F.map V.str)) := by rw [← hH2]; exact upd_same
    refine ⟨d, _, s2 _ _ hd, trivial, fun od => ?_⟩
    have Ld : L ≠ d := fun z => by rw [z, s2 _ _ hd] at hL2; cases hL2
    refine ⟨_, rfl, d, od, kvs, rfl, upd_same, fun D hD => ?_⟩
    have Dd : D ≠ d := fun z => by rw [z, upd_same] at hD; cases hD
    have nD : H2 D = none := by rw [upd_ne Dd] at hD; exact hD
    refine lc_items (kvs := kvs) (fun i H' => H' d = some (.frz od (.dK kvs)) ∧ (∀ c o, c ≠ d → H2 c = some o → H' c = some o) ∧ H' D = some (.lst ((names ((es.take i).filter (usefulB es s t))).map V.str))) ⟨?_, ?_, upd_same⟩ (fun i H' _ h => h.1) ?_ ?_
    · rw [upd_ne Dd.symm]; exact upd_same
    · intro c o cd hc
      rw [upd_ne (ne_of_none hc nD), upd_ne cd]; exact hc
    · rintro i kk v U H' hi ⟨h1, h2, h3⟩ nU
      obtain ⟨e, he, ⟨rfl, q, rfl, hq⟩⟩ := L2.paired_get hp hi
      have nq : q ≠ d := fun z => by rw [z, hd] at hq; cases hq
      have hU : Same H' (upd H' U (.tup [kV (.inr e.1), .ref q])) := same_upd nU
      have h2' : ∀ c o, c ≠ d → H c = some o → (upd H' U (.tup [kV (.inr e.1), .ref q])) c = some o := fun c o cd hc => hU _ _ (h2 c o cd (s2 _ _ hc))
      have h1' := hU _ _ h1
      refine ⟨U, _, rfl, SqT.of upd_same, rfl, _, _, rfl, _, _, rfl, q, _, rfl, SqT.of (h2' q _ nq hq), rfl, _, _, rfl, _, _, rfl, rfl, rfl, rfl, ?_⟩
      generalize upd H' U (.tup [kV (.inr e.1), .ref q]) = H3 at hU h1' h2' ⊢
      have tk := take_more he
      have hD3 : H3 D = some (.lst ((names ((es.take i).filter (usefulB es s t))).map V.str)) := hU _ _ h3
      have no : ∀ {H4 : Hp}, Same H3 H4 → ¬ Useful es s t e → H4 d = some (.frz od (.dK kvs)) ∧ (∀ c o, c ≠ d → H2 c = some o → H4 c = some o) ∧ H4 D = some (.lst ((names ((es.take (i + 1)).filter (usefulB es s t))).map V.str)) := fun {H4} sm hn => by
        refine ⟨sm _ _ h1', fun c o cd hc => sm _ _ (hU _ _ (h2 c o cd hc)), ?_⟩
        rw [tk, List.filter_append, show [e].filter (usefulB es s t) = [] from List.filter_cons_of_neg (fun z => hn (of_useful z)), List.append_nil]
        exact sm _ _ hD3
      have hfew2 : (names ((es.take i).filter (usefulB es s t))).length < 1000 := by
        unfold names
        rw [List.length_map]
        have a := List.length_filter_le (usefulB es s t) (es.take i)
        rw [List.length_take] at a
        omega
      refine ⟨_, rfl, _, rfl, L, _, rfl, .inl (SqL.of (hU _ _ (h2 L _ Ld hL2))), rfl, (flat_names (s :: F)), _, rfl, ?_⟩
      rw [if_neg (by decide), show inV (.str e.2.1) (V.str s :: F.map V.str) = decide (e.2.1 ∈ s :: F) from inV_names _ (s :: F)]
      by_cases ha : e.2.1 ∈ s :: F
      · rw [decide_eq_true ha]
        have ha' : e.2.1 = s ∨ Lead es s e.2.1 := (List.mem_cons.mp ha).imp id (hF _).mp
        refine iteT ?_
        refine ⟨_, rfl, _, rfl, _, rfl, _, rfl, d, es, e.2.2, rfl, ⟨kvs, .inr ⟨od, h1'⟩, paired_on (fun _ _ z => z.on fun c o hc => h2' c _ (fun z => by rw [z, hd] at hc; cases hc) hc) hp⟩, hfew, fun b2 F2 H4 nb2 s4 hb2 nd2 hF2 => ?_⟩
        have hf2 := found_few nd2 fun q hq => (hF2 q).mp hq
        refine ⟨b2, _, rfl, .inr (SqL.of hb2), Nat.le_of_lt (small1000 (by simp only [List.length_cons, List.length_append, List.length_map, List.length_nil]; omega)), fun L2 nL2 => ?_⟩
        rw [List.append_nil]
        refine ⟨L2, _, rfl, .inl (SqL.of upd_same), rfl, (flat_names (e.2.2 :: F2)), _, rfl, ?_⟩
        have s5 := s4.trans (same_upd (o := .lst (V.str e.2.2 :: F2.map V.str)) nL2)
        rw [if_neg (by decide), show inV (.str t) (V.str e.2.2 :: F2.map V.str) = decide (t ∈ e.2.2 :: F2) from inV_names _ (e.2.2 :: F2)]
        by_cases hb : t ∈ e.2.2 :: F2
        · rw [decide_eq_true hb]
          have hb' : e.2.2 = t ∨ Lead es e.2.2 t := (List.mem_cons.mp hb).imp Eq.symm (hF2 _).mp
          refine iteT ⟨_, rfl, _, s5 _ _ hD3, small1000 (by rw [List.length_map]; exact Nat.le_of_lt hfew2), ?_, fun c o cd hc => ?_, ?_⟩
          · rw [upd_ne Dd.symm]; exact s5 _ _ h1'
          · rw [upd_ne (ne_of_none hc nD)]; exact s5 _ _ (hU _ _ (h2 c o cd hc))
          · rw [upd_same, tk, List.filter_append, show [e].filter (usefulB es s t) = [e] from List.filter_cons_of_pos (useful_yes ⟨ha', hb'⟩)]
            unfold names
            rw [List.map_append, List.map_append]
            rfl
        · rw [decide_eq_false hb]
          exact iteF (no s5 fun z => hb (List.mem_cons.mpr (z.2.imp Eq.symm (hF2 _).mpr)))
      · rw [decide_eq_false ha]
        exact iteF (no (Same.refl _) fun z => ha (List.mem_cons.mpr (z.1.imp id (hF _).mpr)))
    · rintro H' ⟨h1, h2, h3⟩
      rw [show es.take kvs.length = es from by rw [hp.length]; exact List.take_length] at h3
      refine ⟨h1, k D _ (s2.free nD) (fun c o hc => ?_) (by rw [upd_ne Dd]; exact h3)⟩
      by_cases e : c = d
      · rw [e] at hc ⊢; rw [upd_same, ← hd, hc]
      · rw [upd_ne e]; exact h2 c o e (s2 _ _ hc)
end

/-! ### the places in their order -/
def innOf (s t : Str) (qs : List Str) : List Str := qs.filter fun q => !(decide (q = s) || decide (q = t))
def endsOf (es : List Ent) : List Str := es.flatMap fun e => [e.2.1, e.2.2]
/-- the places of links from s to t in the order in which they are told -/
def Places (es : List Ent) (s t : Str) (ps : List Str) : Prop := ∃ ys : List Str, ps = s :: (ys ++ [t]) ∧ ys.Nodup ∧ PyProof.Rows.sortedS ys = true ∧ ∀ q, q ∈ ys ↔ q ∈ endsOf es ∧ q ≠ s ∧ q ≠ t
theorem mem_inn {s t : Str} {qs : List Str} {q : Str} : q ∈ innOf s t qs ↔ q ∈ qs ∧ q ≠ s ∧ q ≠ t := by
  unfold innOf
  rw [List.mem_filter]
  simp
theorem inn_len (s t : Str) (qs : List Str) : (innOf s t qs).length ≤ qs.length := List.length_filter_le _ _
theorem inn_no {s t z : Str} (qs : List Str) (h : z ∈ [s, t]) : innOf s t (qs ++ [z]) = innOf s t qs := by
  unfold innOf
  rw [List.filter_append, List.filter_cons_of_neg, List.filter_nil, List.append_nil]
  rcases List.mem_cons.mp h with h | h
  · simp [h]
  · simp [List.mem_singleton.mp h]
theorem inn_yes {s t z : Str} (qs : List Str) (n1 : z ≠ s) (n2 : z ≠ t) : innOf s t (qs ++ [z]) = innOf s t qs ++ [z] := by
  unfold innOf
  rw [List.filter_append, List.filter_cons_of_pos, List.filter_nil]
  simp [n1, n2]
theorem ends_len (es : List Ent) : (endsOf es).length = 2 * es.length := by
  induction es with
  | nil => rfl
  | cons e r ih =>
    show (endsOf (e :: r)).length = 2 * (r.length + 1)
    unfold endsOf at ih ⊢
    rw [List.flatMap_cons, List.length_append, ih]
    show 2 + _ = _
    omega
section
variable {P : Program} {w : World} {K : PySem.W.Frag} {mg : Str → Option Value} {base : Heap}
def spPlaces : Sp := fun vs H Q _ => ∃ (d : Addr) (es : List Ent) (s t : Str), vs = [.ref d, .str s, .str t] ∧ DictAt H d es ∧ es.length ≤ 20 ∧ ∀ (l : Addr) (ps : List Str) (H' : Hp), H l = none → Same H H' → H' l = some (.tup (ps.map V.str)) → Places es s t ps → Q (.ref l) H'
theorem ok_places (T : Txt K mg) : FnOk P w K mg base CX0 1 T.f_ordered_places T.d_ordered_places ["table", "start", "end"] spPlaces := by
  refine T.F_ordered_places.ok sc_ordered_places (fun vs H Q E h => ?_) (fun cdv A outer s H vs Q E hr h => ?_)
  · obtain ⟨d, es, s, t, rfl, _⟩ := h
    rfl
  · obtain ⟨d, es, s, t, rfl, ⟨kvs, hd, hp⟩, hfew, k⟩ := h
    refine ⟨_, (pss_cons (ps_lock (ps_setLc2 (i := 3) (own := [("ends", 4), ("place", 5)]) (vs1 := [5]) (g := gName 4) (g1 := gName 5) (tt := tYes) rfl sc_ordered_places.nd rfl rfl (sw_true rfl rfl rfl (by decide +kernel)) (pi_values (pv 0)) (blkOk_by (N := ["table", "start", "end", "inner", "ends", "place"]) (sc := defScope s_ordered_places) (by decide +kernel)) (by decide) (fun _ _ _ _ _ => (pg_name (i := 4) sc_ordered_places.nd rfl (Or.inl rfl))) (fun _ _ _ _ _ => pts_nil) (fun _ _ _ _ _ => (show PI _ _ _ (iTup K _) from (pi_tup (pv 4)))) (fun _ _ _ _ _ => (pg_name (i := 5) sc_ordered_places.nd rfl (Or.inl rfl))) (fun _ _ _ _ _ => pts_one (pt_cmpR (show OpR _ _ (rIn K true) from op_notIn_seq) (pv 5) (pe_tup (pa_cons (pv 1) (pa_cons (pv 2) pa_nil))) (by with_unfolding_all rfl))) (fun _ _ _ _ _ => (pv 5))))
    (pss_one (ps_ret (pe_tup (pa_cons (pv 1) (StX.pa_star (pe_callB (cr_sortTx rfl) (by rfl) T.n_sorted (by decide +kernel) (pa_cons (pe_callTy (cr_setTx rfl) (by rfl) T.n_set (by decide +kernel) (pa_cons (pv 3) pa_nil)) pa_nil)) (pa_cons (pv 2) pa_nil))))))), ?_⟩
    refine ⟨d, _, hd, trivial, fun od => ?_⟩
    refine ⟨_, rfl, d, od, kvs, rfl, upd_same, fun D hD => ?_⟩
    have Dd : D ≠ d := fun z => by rw [z, upd_same] at hD; cases hD
    have nD : H D = none := by rw [upd_ne Dd] at hD; exact hD
    refine lc2_vals (kvs := kvs) (fun i H' => H' d = some (.frz od (.dK kvs)) ∧ (∀ c o, c ≠ d → H c = some o → H' c = some o) ∧ H' D = some (.lst ((innOf s t (endsOf (es.take i))).map V.str))) ⟨?_, ?_, upd_same⟩ (fun i H' _ h => h.1) ?_ ?_
    · rw [upd_ne Dd.symm]; exact upd_same
    · intro c o cd hc
      rw [upd_ne (ne_of_none hc nD), upd_ne cd]; exact hc
    · rintro i kk v H' hi ⟨h1, h2, h3⟩
      obtain ⟨e, he, ⟨rfl, q, rfl, hq⟩⟩ := L2.paired_get hp hi
      have nq : q ≠ d := fun z => by rw [z, hd] at hq; cases hq
      have tk : endsOf (es.take (i + 1)) = endsOf (es.take i) ++ [e.2.1, e.2.2] := by
        rw [take_more he]
        unfold endsOf
        rw [List.flatMap_append, List.flatMap_singleton]
      have hlt := (List.getElem?_eq_some_iff.mp he).1
      refine ⟨rfl, _, rfl, q, rfl, ⟨_, SqT.of (h2 q _ nq hq)⟩, ?_⟩
      refine lc2_tup (K := K) (a := q) (xs := [V.str e.2.1, .str e.2.2]) (fun j H' => H' d = some (.frz od (.dK kvs)) ∧ (∀ c o, c ≠ d → H c = some o → H' c = some o) ∧ H' D = some (.lst ((innOf s t (endsOf (es.take i) ++ [e.2.1, e.2.2].take j)).map V.str))) ⟨h1, h2, by rw [List.take_zero, List.append_nil]; exact h3⟩ (fun j H' _ h => SqT.of (h.2.1 q _ nq hq)) ?_ ?_
      · rintro j x H' hj ⟨h1, h2, h3⟩
        obtain ⟨z, hz, rfl⟩ : ∃ z, [e.2.1, e.2.2][j]? = some z ∧ x = V.str z := by
          have hlt := (List.getElem?_eq_some_iff.mp hj).1
          match j, hlt, hj with
          | 0, _, hj => exact ⟨_, rfl, (Option.some.inj hj).symm⟩
          | 1, _, hj => exact ⟨_, rfl, (Option.some.inj hj).symm⟩
        have tz := take_more hz
        have sml : (innOf s t (endsOf (es.take i) ++ [e.2.1, e.2.2].take j)).length ≤ 100 := by
          have a := inn_len s t (endsOf (es.take i) ++ [e.2.1, e.2.2].take j)
          rw [List.length_append, ends_len, List.length_take, List.length_take] at a
          have : [e.2.1, e.2.2].length = 2 := rfl
          omega
        refine ⟨rfl, _, rfl, _, rfl, _, rfl, by show 2 ≤ sizeLine; decide, fun U nU => ?_⟩
        refine ⟨U, _, rfl, .inr (SqT.of upd_same), rfl, rfl, _, rfl, ?_⟩
        rw [if_pos rfl, show inV (.str z) [V.str s, .str t] = decide (z ∈ [s, t]) from inV_names z [s, t], tz]
        have sU : Same H' (upd H' U (.tup [V.str s, .str t])) := same_upd nU
        by_cases hz2 : z ∈ [s, t]
        · rw [decide_eq_true hz2]
          refine iteF ⟨sU _ _ h1, fun c o cd hc => sU _ _ (h2 c o cd hc), ?_⟩
          rw [← List.append_assoc, inn_no _ hz2]
          exact sU _ _ h3
        · rw [decide_eq_false hz2]
          have n1 : z ≠ s := fun h => hz2 (h ▸ List.mem_cons_self)
          have n2 : z ≠ t := fun h => hz2 (h ▸ List.mem_cons_of_mem _ List.mem_cons_self)
          refine iteT ⟨_, rfl, _, sU _ _ h3, small1000 (by rw [List.length_map]; omega), ?_, fun c o cd hc => ?_, ?_⟩
          · rw [upd_ne Dd.symm]; exact sU _ _ h1
          · rw [upd_ne (ne_of_none hc nD)]; exact sU _ _ (h2 c o cd hc)
          · rw [upd_same]
            rw [← List.append_assoc, inn_yes _ n1 n2, List.map_append]
            rfl
      · rintro H' ⟨h1, h2, h3⟩
        exact ⟨h1, h2, by rw [tk]; exact h3⟩
    · rintro H' ⟨h1, h2, h3⟩
      rw [show es.take kvs.length = es from by rw [hp.length]; exact List.take_length] at h3
      have s1 : Same H (upd H' d (.dK kvs)) := fun c o hc => by
        by_cases e : c = d
        · rw [e] at hc ⊢; rw [upd_same, ← hd, hc]
        · rw [upd_ne e]; exact h2 c o e hc
      refine ⟨h1, ?_⟩
      have h3' : (upd H' d (.dK kvs)) D = some (.lst ((innOf s t (endsOf es)).map V.str)) := by rw [upd_ne Dd]; exact h3
      generalize upd H' d (.dK kvs) = H1 at s1 h3' ⊢
      have sml := inn_len s t (endsOf es)
      rw [ends_len] at sml
      refine ⟨_, rfl, _, rfl, D, _, rfl, SqL.of h3', by omega, fun S nS => ?_⟩
      refine ⟨S, _, rfl, upd_same, by omega, fun ys L nd hm so hle nL => ?_⟩
      have s2 := (s1.trans (same_upd (o := TxO P w S (innOf s t (endsOf es))) nS)).trans (same_upd (o := .lst (ys.map V.str)) nL)
      refine ⟨L, _, rfl, .inr (SqL.of upd_same), _, rfl, ?_⟩
      refine ⟨Nat.le_of_lt (small1000 (by simp only [List.length_cons, List.length_append, List.length_map, List.length_nil]; omega)), fun p np => ?_⟩
      refine k p (s :: (ys ++ [t])) _ (s2.free np) (s2.trans (same_upd np)) (by rw [upd_same, List.map_cons, List.map_append]; rfl) ⟨ys, rfl, nd, so, fun q => ?_⟩
      rw [hm q, mem_inn]
end

/-! ### the checks of a network's links -/
/-- the thing at q tells a link -/
def RowAt (K : PySem.W.Frag) (H : Hp) (q : Addr) (e : Ent) : Prop := SqT K H q [.str e.1, .str e.2.1, .str e.2.2] ∨ SqL K H q [.str e.1, .str e.2.1, .str e.2.2]
def Rows (K : PySem.W.Frag) (H : Hp) (a : Addr) (es : List Ent) : Prop := ∃ qs : List Addr, (SqL K H a (qs.map V.ref) ∨ SqT K H a (qs.map V.ref)) ∧ Paired (RowAt K H) qs es
theorem RowAt.on {K : PySem.W.Frag} {H H' : Hp} {q : Addr} {e : Ent} (h : RowAt K H q e) (s : Same H H') : RowAt K H' q e := h.elim (fun z => .inl (sqT_on s z)) fun z => .inr (s.seq z)
theorem Rows.on {K : PySem.W.Frag} {H H' : Hp} {a : Addr} {es : List Ent} (h : Rows K H a es) (s : Same H H') : Rows K H' a es := let ⟨qs, a, b⟩ := h; ⟨qs, a.elim (fun z => .inl (s.seq z)) (fun z => .inr (sqT_on s z)), paired_on (fun _ _ e => e.on s) b⟩
theorem seq_ask {K : PySem.W.Frag} {H : Hp} {a : Addr} {xs : List V} {n : Nat} {t : TGs} {σ : L2.St} {Q : L2.St → Hp → Prop} (h : SqT K H a xs ∨ SqL K H a xs) (hn : xs.length = n) (k : t xs σ H Q) : gSeq K n t (.ref a) σ H Q :=
  h.elim (fun z => .inl ⟨a, xs, rfl, z, hn, k⟩) fun z => .inr ⟨a, xs, rfl, z, hn, k⟩
theorem drop_at {α : Type} {l : List α} {i : Nat} {x : α} (h : l[i]? = some x) : l.drop i = x :: l.drop (i + 1) := by
  obtain ⟨hl, e⟩ := List.getElem?_eq_some_iff.mp h
  rw [List.drop_eq_getElem_cons hl, e]
/-- the error that the names of links are due: no name (true), a name twice (false) -/
def nmErr : List Str → List Ent → Option (Bool × Str)
  | _, [] => none
  | ks, e :: r => if vn e.1 = true then (if e.1 ∈ ks then some (false, e.1) else (bad [e.2.1, e.2.2]).elim (nmErr (ks ++ [e.1]) r) fun z => some (true, z)) else some (true, e.1)
def WnE (e : Ent) : Prop := Wn e.1 ∧ Wn e.2.1 ∧ Wn e.2.2
def flagKs (ns : List Str) : List (Key × V) := ns.map fun n => (.inr n, .bl true)
theorem flag_val (ns : List Str) (n : Str) : (valV (flagKs ns) (.inr n : Key)).isSome = decide (n ∈ ns) := by
  induction ns with
  | nil => rfl
  | cons m r ih =>
    show (valV ((.inr m, .bl true) :: flagKs r) (.inr n : Key)).isSome = _
    by_cases h : m = n
    · rw [valV_pos (by rw [h])]
      simp [h]
    · have h2 : ¬ n = m := fun z => h z.symm
      rw [valV_neg (fun z => h (Sum.inr.inj z)), ih]
      simp [h2]
theorem flag_put {ns : List Str} {n : Str} (h : n ∉ ns) : putK (flagKs ns) (.inr n : Key) (.bl true) = flagKs (ns ++ [n]) := by
  have e := flag_val ns n
  rw [decide_eq_false h] at e
  unfold putK
  rw [valV_any, e, if_neg Bool.false_ne_true]
  unfold flagKs
  rw [List.map_append]
  rfl
section
variable {P : Program} {w : World} {K : PySem.W.Frag} {mg : Str → Option Value} {base : Heap}
def spNames (K : PySem.W.Frag) (DB DD : Addr) : Sp := fun vs H Q E => ∃ (a : Addr) (es : List Ent), vs = [.ref a] ∧ Rows K H a es ∧ es.length ≤ 100 ∧ (∀ e ∈ es, WnE e) ∧ (∀ z, nmErr [] es = some (true, z) → Raised H "name" (.str z) DB E) ∧
  (∀ z, nmErr [] es = some (false, z) → Raised H "name" (.str z) DD E) ∧ (nmErr [] es = none → ∀ H', Same H H' → Q .non H')
theorem ok_names (T : Txt K mg) : FnOk P w K mg base (L2.CX P w) 3 T.f_check_names T.d_check_names ["links"] (spNames K T.f_BadName T.f_DuplicateName) := by
  have G_BadName_init : FnOk P w K mg base CX0 1 T.f_BadName_init T.d_BadName_init ["self", "name"] (spErr "name" T.f_BadName) := ok_eBadName T
  have G_DuplicateName_init : FnOk P w K mg base CX0 1 T.f_DuplicateName_init T.d_DuplicateName_init ["self", "name"] (spErr "name" T.f_DuplicateName) := ok_eDuplicateName T
  have G_valid_name : FnOk P w K mg base CX0 1 T.f_valid_name T.d_valid_name ["text"] spName := ok_valid T
  refine T.F_check_names.okX sc_check_names (fun vs H Q E h => ?_) (fun cdv A outer s H vs Q E hr h => ?_)
  · obtain ⟨a, es, rfl, _⟩ := h
    rfl
  · obtain ⟨a, es, rfl, ⟨qs, hq, hp⟩, hfew, hw, k1, k2, k3⟩ := h
    refine ⟨_, (pss_cons (ps_set (i := 1) sc_check_names.nd rfl (Or.inl rfl) pe_dnewK)
    (pss_one (ps_for (passes_of rfl) rfl (pi_seq (pv 0)) (pg_seq rfl (pgs_cons (pg_name (i := 2) sc_check_names.nd rfl (Or.inl rfl)) (pgs_cons (pg_name (i := 3) sc_check_names.nd rfl (Or.inl rfl)) (pgs_cons (pg_name (i := 4) sc_check_names.nd rfl (Or.inl rfl)) pgs_nil))))
      (pss_cons (ps_if (pt_not (pt_val (pe_call G_valid_name (hr.mono (by decide)) rfl T.m_valid_name T.F_valid_name.kp T.b_valid_name .nil pass0 (pa_cons (pv 2) pa_nil))))
      (pss_one (ps_raise rfl (takes_of rfl rfl rfl rfl) (pmk_oex T.ox_BadName T.ix_BadName T.tx_BadName G_BadName_init (hr.mono (by decide)) T.b_BadName_init .nil pass0 rfl T.m_BadName (pa_cons (pv 2) pa_nil))))
      pss_nil)
    (pss_cons (ps_if (pt_cmp (pc_din (hu_of hr) (pv 2) (pv 1)))
      (pss_one (ps_raise rfl (takes_of rfl rfl rfl rfl) (pmk_oex T.ox_DuplicateName T.ix_DuplicateName T.tx_DuplicateName G_DuplicateName_init (hr.mono (by decide)) T.b_DuplicateName_init .nil pass0 rfl T.m_DuplicateName (pa_cons (pv 2) pa_nil))))
      pss_nil)
    (C8.pss_cut (ps_for (passes_of rfl) rfl (pi_tup (pe_tup (pa_cons (pv 3) (pa_cons (pv 4) pa_nil)))) (pg_name (i := 5) sc_check_names.nd rfl (Or.inl rfl))
      (pss_one (ps_if (pt_not (pt_val (pe_call G_valid_name (hr.mono (by decide)) rfl T.m_valid_name T.F_valid_name.kp T.b_valid_name .nil pass0 (pa_cons (pv 5) pa_nil))))
      (pss_one (ps_raise rfl (takes_of rfl rfl rfl rfl) (pmk_oex T.ox_BadName T.ix_BadName T.tx_BadName G_BadName_init (hr.mono (by decide)) T.b_BadName_init .nil pass0 rfl T.m_BadName (pa_cons (pv 5) pa_nil))))
      pss_nil)))
    (pss_one (ps_asg pe_bl (pg_sub (pv 1) (pv 2) (set_dict (hu_of hr))))))))))), ?_⟩
    refine fun kn nk => ?_
    have al : ∀ {H' : Hp}, Same H H' → (SqL K H a (qs.map V.ref) → SqL K H' a (qs.map V.ref)) ∧ (SqT K H a (qs.map V.ref) → SqT K H' a (qs.map V.ref)) := fun s => ⟨s.seq, fun z => sqT_on s z⟩
    refine ⟨_, rfl, a, rfl, ?_⟩
    refine for_seq hq (xs := qs.map V.ref) (fun i σ H' => ∃ x2 x3 x4 x5, σ = [some (.ref a), some (.ref kn), x2, x3, x4, x5] ∧ Same H H' ∧ H' kn = some (.dK (flagKs (names (es.take i)))) ∧ nmErr [] es = nmErr (names (es.take i)) (es.drop i)) ⟨_, _, _, _, rfl, same_upd nk, upd_same, rfl⟩ (fun i σ H' ⟨_, _, _, _, _, h, _⟩ => al h) ?_ ?_
    · rintro i x σ H' hi ⟨x2, x3, x4, x5, rfl, s1, hk, he⟩
      obtain ⟨q, hq, rfl⟩ : ∃ q, qs[i]? = some q ∧ x = V.ref q := by
        rw [List.getElem?_map] at hi
        cases e : qs[i]? with
        | none => rw [e] at hi; cases hi
        | some q => rw [e] at hi; exact ⟨q, rfl, (Option.some.inj hi).symm⟩
      obtain ⟨e, hei, hr⟩ := L2.paired_get hp hq
      rw [drop_at hei] at he
      refine seq_ask (hr.on s1) rfl ⟨_, _, rfl, _, _, rfl, _, _, rfl, rfl, ?_⟩
      have we := hw e (List.mem_of_getElem? hei)
      refine ⟨_, rfl, e.1, rfl, we.1.1, we.1.2, fun H2 s2 => ?_⟩
      refine ⟨vn e.1, rfl, ?_⟩
      have s02 : Same H H2 := s1.trans s2
      by_cases hv : vn e.1 = true
      · rw [hv]
        refine iteF ?_
        refine ⟨_, rfl, _, rfl, kn, _, rfl, DGet.k (k := .inr e.1) (s2 _ _ hk), ?_⟩
        rw [flag_val]
        by_cases hm : e.1 ∈ names (es.take i)
        · rw [decide_eq_true hm]
          refine ⟨_, rfl, iteT ?_⟩
          refine ⟨_, rfl, (by show 1 ≤ 1000; decide), fun a na => ?_⟩
          refine ⟨a, .str e.1, rfl, upd_same, fun d H' nd ne eq => ⟨rfl, d, [("name", .str e.1)], ?_⟩⟩
          exact raise_asks na ((k2 e.1 (by rw [he]; simp [nmErr, hv, hm])).on s02) d H' nd ne eq
        · rw [decide_eq_false hm]
          refine ⟨_, rfl, iteF ?_⟩
          refine ⟨fun σ H' => ∃ x5, σ = [some (.ref a), some (.ref kn), some (.str e.1), some (.str e.2.1), some (.str e.2.2), x5] ∧ Same H2 H' ∧ bad [e.2.1, e.2.2] = none, ?_, ?_⟩
          · refine ⟨_, rfl, _, rfl, by show 2 ≤ sizeLine; decide, fun tu ntu => ?_⟩
            refine ⟨tu, rfl, ⟨_, SqT.of upd_same⟩, ?_⟩
            refine for_tup (K := K) (a := tu) (xs := [V.str e.2.1, V.str e.2.2]) (fun i σ H' => ∃ x5, σ = [some (.ref a), some (.ref kn), some (.str e.1), some (.str e.2.1), some (.str e.2.2), x5] ∧ Same (upd H2 tu (.tup [V.str e.2.1, .str e.2.2])) H' ∧ ∀ z ∈ [e.2.1, e.2.2].take i, vn z = true) ⟨_, rfl, Same.refl _, fun z hz => by simp at hz⟩ (fun i σ H' _ ⟨_, _, s, _⟩ => SqT.of (s _ _ upd_same)) ?_ ?_
            · rintro i v σ H' hi ⟨x5, rfl, s3, hz⟩
              obtain ⟨z, rfl, ez, wz⟩ : ∃ z, v = .str z ∧ [e.2.1, e.2.2][i]? = some z ∧ Wn z := by
                have hlt := (List.getElem?_eq_some_iff.mp hi).1
                match i, hlt, hi with
                | 0, _, hi => exact ⟨_, (Option.some.inj hi).symm, rfl, we.2.1⟩
                | 1, _, hi => exact ⟨_, (Option.some.inj hi).symm, rfl, we.2.2⟩
              refine ⟨_, rfl, z, rfl, wz.1, wz.2, fun H4 s4 => ?_⟩
              refine ⟨vn z, rfl, ?_⟩
              have s04 : Same H H4 := ((s02.trans (same_upd ntu)).trans s3).trans s4
              by_cases hvz : vn z = true
              · rw [hvz]
                refine iteF ⟨_, rfl, s3.trans s4, fun q hq => ?_⟩
                rw [take_more ez] at hq
                rcases List.mem_append.mp hq with hq | hq
                · exact hz q hq
                · rw [List.mem_singleton.mp hq]; exact hvz
              · rw [Bool.eq_false_iff.mpr hvz]
                refine iteT ?_
                refine ⟨_, rfl, (by show 1 ≤ 1000; decide), fun a na => ?_⟩
                refine ⟨a, .str z, rfl, upd_same, fun d H' nd ne eq => ⟨rfl, d, [("name", .str z)], ?_⟩⟩
                exact raise_asks na ((k1 z (by rw [he]; simp [nmErr, hv, hm, bad_at hz ez hvz])).on s04) d H' nd ne eq
            · rintro σ H' ⟨x5, rfl, s3, hz⟩
              refine ⟨x5, rfl, (same_upd ntu).trans s3, ?_⟩
              unfold bad
              rw [List.find?_eq_none]
              intro z hmz
              rw [hz z hmz]
              decide
          · rintro σ H3 ⟨x5, rfl, s3, hb⟩
            have s03 := s02.trans s3
            have hk3 := s3 _ _ (s2 _ _ hk)
            have nkH : H kn = none := nk
            refine ⟨_, rfl, _, rfl, kn, _, rfl, DPut.k (k := .inr e.1) hk3 (small1000 (by unfold flagKs names; rw [List.length_map, List.length_map, List.length_take]; omega)), ?_⟩
            refine ⟨_, _, _, _, rfl, same_mut s03 nkH, ?_, ?_⟩
            · rw [upd_same, flag_put hm, names_take hei]
            · rw [he, names_take hei]
              simp [nmErr, hv, hm, hb]
      · rw [Bool.eq_false_iff.mpr hv]
        refine iteT ?_
        refine ⟨_, rfl, (by show 1 ≤ 1000; decide), fun a na => ?_⟩
        refine ⟨a, .str e.1, rfl, upd_same, fun d H' nd ne eq => ⟨rfl, d, [("name", .str e.1)], ?_⟩⟩
        exact raise_asks na ((k1 e.1 (by rw [he]; simp [nmErr, hv])).on s02) d H' nd ne eq
    · rintro σ H' ⟨x2, x3, x4, x5, rfl, s1, hk, he⟩
      rw [List.length_map, hp.length, List.take_length, List.drop_length] at he
      exact k3 he H' s1
end

/-! ### no round, no useless link -/
open Classical in
noncomputable def roundB (es : List Ent) (e : Ent) : Bool := decide (Lead es e.2.2 e.2.1)
open Classical in
theorem round_yes {es : List Ent} {e : Ent} (h : Lead es e.2.2 e.2.1) : roundB es e = true := by unfold roundB; exact decide_eq_true h
open Classical in
theorem of_round {es : List Ent} {e : Ent} (h : roundB es e = true) : Lead es e.2.2 e.2.1 := by unfold roundB at h; exact of_decide_eq_true h
noncomputable def rdErr (es : List Ent) : Option Str := (es.find? (roundB es)).map (·.1)
noncomputable def useErr (es : List Ent) (s t : Str) : Option Str := (es.find? fun e => !usefulB es s t e).map (·.1)
/-- an exception's own dict, new; the thing at a may have changed -/
def RaisedX (a : Addr) (H : Hp) (nm : Str) (v : V) (D : Addr) (E : XK) : Prop := ∀ d H', H d = none → (∀ c o, c ≠ a → H c = some o → H' c = some o) → H' d = some (.xd [(nm, v)]) → E (.ref D) (some d) H'
theorem Raised.but {a : Addr} {H0 H : Hp} {nm : Str} {v : V} {D : Addr} {E : XK} (r : Raised H0 nm v D E) (s : Same H0 H) (n : H0 a = none) : RaisedX a H nm v D E := fun d H' nd k e => r d H' (s.free nd) (fun c o hc => k c o (ne_of_none hc n) (s _ _ hc)) e
theorem raiseX_asks {a0 : Addr} {H H2 : Hp} {nm : Str} {v : V} {D a : Addr} {E : XK} (na : H2 a = none) (k : RaisedX a0 H nm v D E) (kp : ∀ c o, c ≠ a0 → H c = some o → H2 c = some o) (ka : H2 a0 ≠ none) (d : Addr) (H' : Hp) (nd : (upd H2 a (exo a D none)) d = none) (ne : d ≠ a) (e : H' = upd (upd (upd H2 a (exo a D none)) d (exd d [(nm, v)])) a (exo a D (some d))) :
    H' a = some (exo a D (some d)) ∧ H' d = some (exd d [(nm, v)]) ∧ H2 d = none ∧ E (.ref D) (some d) (upd (del H' a) d (.xd [(nm, v)])) := by
  have nd' : H2 d = none := by rw [upd_ne ne] at nd; exact nd
  have nH : ∀ {x : Addr}, H2 x = none → H x = none := fun {x} hx => by
    cases q : H x with
    | none => rfl
    | some o =>
      by_cases e0 : x = a0
      · rw [e0] at hx; exact absurd hx ka
      · rw [kp _ _ e0 q] at hx; cases hx
  refine ⟨by rw [e]; exact upd_same, by rw [e, upd_ne ne]; exact upd_same, nd', k d _ (nH nd') (fun b o ba hb => ?_) upd_same⟩
  have hb2 := kp b o ba hb
  have n1 : b ≠ d := ne_of_none hb2 nd'
  have n2 : b ≠ a := ne_of_none hb2 na
  rw [upd_ne n1, del_ne n2, e, upd_ne n2, upd_ne n1, upd_ne n2]
  exact hb2
theorem find_at {α : Type} {p : α → Bool} : ∀ {l : List α} {i : Nat} {x : α}, (∀ y ∈ l.take i, p y = false) → l[i]? = some x → p x = true → l.find? p = some x
  | [], i, x, _, h, _ => by simp at h
  | y :: l, 0, x, _, h, hp => by
    obtain rfl : y = x := Option.some.inj h
    exact List.find?_cons_of_pos hp
  | y :: l, i + 1, x, hn, h, hp => by
    rw [List.find?_cons_of_neg (by rw [hn y List.mem_cons_self]; decide)]
    exact find_at (fun z hz => hn z (List.mem_cons_of_mem _ hz)) h hp
section
variable {P : Program} {w : World} {K : PySem.W.Frag} {mg : Str → Option Value} {base : Heap}
def spRounds (DR : Addr) : Sp := fun vs H Q E => ∃ (d : Addr) (es : List Ent), vs = [.ref d] ∧ DictAt H d es ∧ es.length ≤ 100 ∧ (∀ z, rdErr es = some z → RaisedX d H "name" (.str z) DR E) ∧ (rdErr es = none → ∀ H', Same H H' → Q .non H')
theorem ok_rounds (T : Txt K mg) : FnOk P w K mg base (L2.CX P w) 3 T.f_check_rounds T.d_check_rounds ["table"] (spRounds T.f_HasRound) := by
  have G_HasRound_init : FnOk P w K mg base CX0 1 T.f_HasRound_init T.d_HasRound_init ["self", "name"] (spErr "name" T.f_HasRound) := ok_eHasRound T
  have G_places_behind : FnOk P w K mg base CX0 1 T.f_places_behind T.d_places_behind ["table", "first"] spBehind := ok_behind T
  refine T.F_check_rounds.okX sc_check_rounds (fun vs H Q E h => ?_) (fun cdv A outer s H vs Q E hr h => ?_)
  · obtain ⟨d, es, rfl, _⟩ := h
    rfl
  · obtain ⟨d, es, rfl, ⟨kvs, hd, hp⟩, hfew, k1, k2⟩ := h
    refine ⟨_, (pss_one (ps_lock (ps_for (passes_of rfl) rfl (pi_items (pv 0)) (pg_tup rfl (pgs_cons (pg_name (i := 1) sc_check_rounds.nd rfl (Or.inl rfl)) (pgs_cons (pg_tup rfl (pgs_cons (pg_name (i := 2) sc_check_rounds.nd rfl (Or.inl rfl)) (pgs_cons (pg_name (i := 3) sc_check_rounds.nd rfl (Or.inl rfl)) pgs_nil))) pgs_nil)))
      (pss_one (ps_if (pt_cmpR op_in_seq (pv 2) (pe_call G_places_behind (hr.mono (by decide)) rfl T.m_places_behind T.F_places_behind.kp T.b_places_behind .nil pass0 (pa_cons (pv 0) (pa_cons (pv 3) pa_nil))) (by with_unfolding_all rfl))
      (pss_one (ps_raise rfl (takes_of rfl rfl rfl rfl) (pmk_oex T.ox_HasRound T.ix_HasRound T.tx_HasRound G_HasRound_init (hr.mono (by decide)) T.b_HasRound_init .nil pass0 rfl T.m_HasRound (pa_cons (pv 1) pa_nil))))
      pss_nil))))), ?_⟩
    refine ⟨d, _, hd, trivial, fun od => ?_⟩
    refine ⟨_, rfl, d, od, kvs, rfl, upd_same, ?_⟩
    refine for_ents (kvs := kvs) (fun i σ H' => ∃ x1 x2 x3, σ = [some (.ref d), x1, x2, x3] ∧ H' d = some (.frz od (.dK kvs)) ∧ (∀ c o, c ≠ d → H c = some o → H' c = some o) ∧ ∀ e ∈ es.take i, roundB es e = false) ⟨_, _, _, rfl, upd_same, fun c o cd hc => by rw [upd_ne cd]; exact hc, fun e he => by simp at he⟩ (fun i σ H' _ ⟨_, _, _, _, h, _⟩ => h) ?_ ?_
    · rintro i kk v U σ H' hi ⟨x1, x2, x3, rfl, h1, h2, h3⟩ nU
      obtain ⟨e, he, ⟨rfl, q, rfl, hq⟩⟩ := L2.paired_get hp hi
      have nq : q ≠ d := fun z => by rw [z, hd] at hq; cases hq
      have hU : Same H' (upd H' U (.tup [kV (.inr e.1), .ref q])) := same_upd nU
      have h2' : ∀ c o, c ≠ d → H c = some o → (upd H' U (.tup [kV (.inr e.1), .ref q])) c = some o := fun c o cd hc => hU _ _ (h2 c o cd hc)
      have h1' := hU _ _ h1
      refine ⟨U, _, rfl, SqT.of upd_same, rfl, _, _, rfl, _, _, rfl, q, _, rfl, SqT.of (h2' q _ nq hq), rfl, _, _, rfl, _, _, rfl, rfl, rfl, ?_⟩
      generalize upd H' U (.tup [kV (.inr e.1), .ref q]) = H3 at hU h1' h2' ⊢
      refine ⟨_, rfl, _, rfl, _, rfl, d, es, e.2.2, rfl, ⟨kvs, .inr ⟨od, h1'⟩, paired_on (fun _ _ z => z.on fun c o hc => h2' c _ (fun z => by rw [z, hd] at hc; cases hc) hc) hp⟩, hfew, fun b2 F2 H4 nb2 s4 hb2 nd2 hF2 => ?_⟩
      refine ⟨b2, _, rfl, .inl (SqL.of hb2), rfl, flat_names F2, _, rfl, ?_⟩
      rw [if_neg (by decide), inV_names]
      have keep4 : ∀ c o, c ≠ d → H c = some o → H4 c = some o := fun c o cd hc => s4 _ _ (h2' c o cd hc)
      by_cases hm : e.2.1 ∈ F2
      · rw [decide_eq_true hm]
        refine iteT ?_
        refine ⟨_, rfl, (by show 1 ≤ 1000; decide), fun a na => ?_⟩
        refine ⟨a, .str e.1, rfl, upd_same, fun dd H' nd ne eq => ⟨rfl, dd, [("name", .str e.1)], ?_⟩⟩
        refine raiseX_asks na (k1 e.1 ?_) keep4 (by rw [s4 _ _ h1']; intro z; cases z) dd H' nd ne eq
        unfold rdErr
        rw [find_at h3 he (round_yes ((hF2 _).mp hm))]
        rfl
      · rw [decide_eq_false hm]
        refine iteF ⟨_, _, _, rfl, s4 _ _ h1', keep4, fun f hf => ?_⟩
        rw [take_more he] at hf
        rcases List.mem_append.mp hf with hf | hf
        · exact h3 f hf
        · rw [List.mem_singleton.mp hf]
          exact Bool.eq_false_iff.mpr fun z => hm ((hF2 _).mpr (of_round z))
    · rintro σ H' ⟨x1, x2, x3, rfl, h1, h2, h3⟩
      rw [show es.take kvs.length = es from by rw [hp.length]; exact List.take_length] at h3
      refine ⟨h1, k2 ?_ _ fun c o hc => ?_⟩
      · unfold rdErr
        rw [List.find?_eq_none.mpr fun e he => by rw [h3 e he]; decide]
        rfl
      · by_cases e : c = d
        · rw [e] at hc ⊢; rw [upd_same, ← hd, hc]
        · rw [upd_ne e]; exact h2 c o e hc
theorem mem_filter_names {p : Ent → Bool} {e : Ent} : ∀ {es : List Ent}, (names es).Nodup → e ∈ es → (e.1 ∈ names (es.filter p) ↔ p e = true)
  | es, nd, he => by
    constructor
    · intro h
      obtain ⟨f, hf, e1⟩ := List.mem_map.mp h
      obtain ⟨hf1, hf2⟩ := List.mem_filter.mp hf
      have : f = e := by
        clear h hf hf2
        induction es with
        | nil => cases he
        | cons g r ih =>
          have nd' : (g.1 :: names r).Nodup := nd
          obtain ⟨n1, n2⟩ := List.nodup_cons.mp nd'
          rcases List.mem_cons.mp hf1 with a | a
          · rcases List.mem_cons.mp he with b | b
            · rw [a, b]
            · exact absurd (List.mem_map.mpr ⟨e, b, e1.symm.trans (by rw [a])⟩) n1
          · rcases List.mem_cons.mp he with b | b
            · exact absurd (List.mem_map.mpr ⟨f, a, e1.trans (by rw [b])⟩) n1
            · exact ih n2 b a
      rw [← this]
      exact hf2
    · intro h
      exact List.mem_map.mpr ⟨e, List.mem_filter.mpr ⟨he, h⟩, rfl⟩
def spUse (DU : Addr) : Sp := fun vs H Q E => ∃ (d : Addr) (es : List Ent) (s t : Str), vs = [.ref d, .str s, .str t] ∧ DictAt H d es ∧ (names es).Nodup ∧ es.length ≤ 100 ∧ (∀ z, useErr es s t = some z → RaisedX d H "name" (.str z) DU E) ∧ (useErr es s t = none → ∀ H', Same H H' → Q .non H')
theorem ok_use (T : Txt K mg) : FnOk P w K mg base (L2.CX P w) 3 T.f_check_use T.d_check_use ["table", "start", "end"] (spUse T.f_UselessLink) := by
  have G_UselessLink_init : FnOk P w K mg base CX0 1 T.f_UselessLink_init T.d_UselessLink_init ["self", "name"] (spErr "name" T.f_UselessLink) := ok_eUselessLink T
  have G_useful_names : FnOk P w K mg base CX0 2 T.f_useful_names T.d_useful_names ["table", "start", "end"] spUseful := ok_useful T
  refine T.F_check_use.okX sc_check_use (fun vs H Q E h => ?_) (fun cdv A outer s H vs Q E hr h => ?_)
  · obtain ⟨d, es, s, t, rfl, _⟩ := h
    rfl
  · obtain ⟨d, es, s, t, rfl, ⟨kvs, hd, hp⟩, nd, hfew, k1, k2⟩ := h
    refine ⟨_, (pss_cons (ps_set (i := 3) sc_check_use.nd rfl (Or.inl rfl) (pe_call G_useful_names (hr.mono (by decide)) rfl T.m_useful_names T.F_useful_names.kp T.b_useful_names .nil pass0 (pa_cons (pv 0) (pa_cons (pv 1) (pa_cons (pv 2) pa_nil)))))
    (pss_one (ps_lock (ps_for (passes_of rfl) rfl (pi_keys (pv 0)) (pg_name (i := 4) sc_check_use.nd rfl (Or.inl rfl))
      (pss_one (ps_if (pt_cmpR op_notIn_seq (pv 4) (pv 3) (by with_unfolding_all rfl))
      (pss_one (ps_raise rfl (takes_of rfl rfl rfl rfl) (pmk_oex T.ox_UselessLink T.ix_UselessLink T.tx_UselessLink G_UselessLink_init (hr.mono (by decide)) T.b_UselessLink_init .nil pass0 rfl T.m_UselessLink (pa_cons (pv 4) pa_nil))))
      pss_nil)))))), ?_⟩
    refine ⟨_, rfl, _, rfl, _, rfl, d, es, s, t, rfl, ⟨kvs, hd, hp⟩, hfew, fun l H1 nl s1 hl => ?_⟩
    have ld : l ≠ d := fun z => by rw [z, hd] at nl; cases nl
    refine ⟨d, _, s1 _ _ hd, trivial, fun od => ?_⟩
    refine ⟨_, rfl, d, od, rfl, .inl ⟨kvs, upd_same, ?_⟩⟩
    refine for_keys (kvs := kvs) (fun i σ H' => ∃ x4, σ = [some (.ref d), some (.str s), some (.str t), some (.ref l), x4] ∧ H' d = some (.frz od (.dK kvs)) ∧ (∀ c o, c ≠ d → H1 c = some o → H' c = some o) ∧ ∀ e ∈ es.take i, usefulB es s t e = true) ⟨_, rfl, upd_same, fun c o cd hc => by rw [upd_ne cd]; exact hc, fun e he => by simp at he⟩ (fun i σ H' _ ⟨_, _, h, _⟩ => h) ?_ ?_
    · rintro i kk v σ H' hi ⟨x4, rfl, h1, h2, h3⟩
      obtain ⟨e, he, ⟨rfl, q, rfl, hq⟩⟩ := L2.paired_get hp hi
      refine ⟨_, rfl, _, rfl, l, _, rfl, .inl (SqL.of (h2 l _ ld hl)), rfl, flat_names _, _, rfl, ?_⟩
      rw [if_pos rfl, show inV (kV (.inr e.1)) ((names (es.filter (usefulB es s t))).map V.str) = decide (e.1 ∈ names (es.filter (usefulB es s t))) from inV_names _ _]
      have me := mem_filter_names (p := usefulB es s t) nd (List.mem_of_getElem? he)
      by_cases hu : usefulB es s t e = true
      · rw [decide_eq_true (me.mpr hu)]
        refine iteF ⟨_, rfl, h1, h2, fun f hf => ?_⟩
        rw [take_more he] at hf
        rcases List.mem_append.mp hf with hf | hf
        · exact h3 f hf
        · rw [List.mem_singleton.mp hf]; exact hu
      · rw [decide_eq_false (fun z => hu (me.mp z))]
        refine iteT ?_
        refine ⟨_, rfl, (by show 1 ≤ 1000; decide), fun a na => ?_⟩
        refine ⟨a, .str e.1, rfl, upd_same, fun dd H' nd ne eq => ⟨rfl, dd, [("name", .str e.1)], ?_⟩⟩
        refine raiseX_asks na (k1 e.1 ?_) (fun c o cd hc => h2 c o cd (s1 _ _ hc)) (by rw [h1]; intro z; cases z) dd H' nd ne eq
        unfold useErr
        rw [find_at (fun f hf => by rw [h3 f hf]; rfl) he (by rw [Bool.eq_false_iff.mpr hu]; rfl)]
        rfl
    · rintro σ H' ⟨x4, rfl, h1, h2, h3⟩
      rw [show es.take kvs.length = es from by rw [hp.length]; exact List.take_length] at h3
      refine ⟨h1, k2 ?_ _ fun c o hc => ?_⟩
      · unfold useErr
        rw [List.find?_eq_none.mpr fun e he => by rw [h3 e he]; decide]
        rfl
      · by_cases e : c = d
        · rw [e] at hc ⊢; rw [upd_same, ← hd, hc]
        · rw [upd_ne e]; exact h2 c o e (s1 _ _ hc)
end

/-! ### both ends -/
section
variable {P : Program} {w : World} {K : PySem.W.Frag} {mg : Str → Option Value} {base : Heap}
def spEnds (DB DD : Addr) : Sp := fun vs H Q E => ∃ s t : Str, vs = [.str s, .str t] ∧ Wn s ∧ Wn t ∧ (∀ z, bad [s, t] = some z → Raised H "name" (.str z) DB E) ∧ (bad [s, t] = none → s = t → Raised H "name" (.str t) DD E) ∧
  (bad [s, t] = none → s ≠ t → ∀ H', Same H H' → Q .non H')
theorem ok_ends (T : Txt K mg) : FnOk P w K mg base (L2.CX P w) 3 T.f_check_ends T.d_check_ends ["start", "end"] (spEnds T.f_BadName T.f_DuplicateName) := by
  have G_BadName_init : FnOk P w K mg base CX0 1 T.f_BadName_init T.d_BadName_init ["self", "name"] (spErr "name" T.f_BadName) := ok_eBadName T
  have G_DuplicateName_init : FnOk P w K mg base CX0 1 T.f_DuplicateName_init T.d_DuplicateName_init ["self", "name"] (spErr "name" T.f_DuplicateName) := ok_eDuplicateName T
  have G_valid_name : FnOk P w K mg base CX0 1 T.f_valid_name T.d_valid_name ["text"] spName := ok_valid T
  refine T.F_check_ends.okX sc_check_ends (fun vs H Q E h => ?_) (fun cdv A outer s H vs Q E hr h => ?_)
  · obtain ⟨s, t, rfl, _⟩ := h
    rfl
  · obtain ⟨s, t, rfl, ws, wt, k1, k2, k3⟩ := h
    refine ⟨_, (C8.pss_cut (ps_for (passes_of rfl) rfl (pi_tup (pe_tup (pa_cons (pv 0) (pa_cons (pv 1) pa_nil)))) (pg_name (i := 2) sc_check_ends.nd rfl (Or.inl rfl))
      (pss_one (ps_if (pt_not (pt_val (pe_call G_valid_name (hr.mono (by decide)) rfl T.m_valid_name T.F_valid_name.kp T.b_valid_name .nil pass0 (pa_cons (pv 2) pa_nil))))
      (pss_one (ps_raise rfl (takes_of rfl rfl rfl rfl) (pmk_oex T.ox_BadName T.ix_BadName T.tx_BadName G_BadName_init (hr.mono (by decide)) T.b_BadName_init .nil pass0 rfl T.m_BadName (pa_cons (pv 2) pa_nil))))
      pss_nil)))
    (pss_one (ps_if (pt_cmpR op_eq (pv 0) (pv 1) (nomark _))
      (pss_one (ps_raise rfl (takes_of rfl rfl rfl rfl) (pmk_oex T.ox_DuplicateName T.ix_DuplicateName T.tx_DuplicateName G_DuplicateName_init (hr.mono (by decide)) T.b_DuplicateName_init .nil pass0 rfl T.m_DuplicateName (pa_cons (pv 1) pa_nil))))
      pss_nil))), ?_⟩
    refine ⟨fun σ H' => ∃ x2, σ = [some (.str s), some (.str t), x2] ∧ Same H H' ∧ bad [s, t] = none, ?_, ?_⟩
    · refine ⟨_, rfl, _, rfl, by show 2 ≤ sizeLine; decide, fun tu ntu => ?_⟩
      have wall : ∀ {i : Nat} {v : V}, [V.str s, V.str t][i]? = some v → ∃ z, v = .str z ∧ [s, t][i]? = some z ∧ Wn z := by
        intro i v hi
        have hlt := (List.getElem?_eq_some_iff.mp hi).1
        match i, hlt, hi with
        | 0, _, hi => exact ⟨s, (Option.some.inj hi).symm, rfl, ws⟩
        | 1, _, hi => exact ⟨t, (Option.some.inj hi).symm, rfl, wt⟩
      refine ⟨tu, rfl, ⟨_, SqT.of upd_same⟩, ?_⟩
      refine for_tup (K := K) (a := tu) (xs := [V.str s, V.str t]) (fun i σ H' => ∃ x2, σ = [some (.str s), some (.str t), x2] ∧ Same (upd H tu (.tup [V.str s, .str t])) H' ∧ ∀ z ∈ [s, t].take i, vn z = true) ⟨_, rfl, Same.refl _, fun z hz => by simp at hz⟩ (fun i σ H' _ ⟨_, _, s, _⟩ => SqT.of (s _ _ upd_same)) ?_ ?_
      · rintro i v σ H' hi ⟨x2, rfl, s1, hz⟩
        obtain ⟨z, rfl, ez, wz⟩ := wall hi
        refine ⟨_, rfl, z, rfl, wz.1, wz.2, fun H2 s2 => ?_⟩
        refine ⟨vn z, rfl, ?_⟩
        have s02 : Same H H2 := ((same_upd ntu).trans s1).trans s2
        by_cases hv : vn z = true
        · rw [hv]
          refine iteF ⟨_, rfl, s1.trans s2, fun q hq => ?_⟩
          rw [take_more ez] at hq
          rcases List.mem_append.mp hq with hq | hq
          · exact hz q hq
          · rw [List.mem_singleton.mp hq]; exact hv
        · rw [Bool.eq_false_iff.mpr hv]
          refine iteT ?_
          refine ⟨_, rfl, (by show 1 ≤ 1000; decide), fun a na => ?_⟩
          refine ⟨a, .str z, rfl, upd_same, fun d H' nd ne e => ⟨rfl, d, [("name", .str z)], ?_⟩⟩
          exact raise_asks na ((k1 z (bad_at hz ez hv)).on s02) d H' nd ne e
      · rintro σ H' ⟨x2, rfl, s1, hz⟩
        refine ⟨x2, rfl, (same_upd ntu).trans s1, ?_⟩
        unfold bad
        rw [List.find?_eq_none]
        intro z hm
        rw [hz z hm]
        decide
    rintro σ H1 ⟨x2, rfl, s1, hg⟩
    refine ⟨_, rfl, _, rfl, rfl, _, rfl, ?_⟩
    by_cases hst : s = t
    · rw [show decide (V.str s = V.str t) = true by rw [hst]; simp]
      refine iteT ?_
      refine ⟨_, rfl, (by show 1 ≤ 1000; decide), fun a na => ?_⟩
      refine ⟨a, .str t, rfl, upd_same, fun d H' nd ne e => ⟨rfl, d, [("name", .str t)], ?_⟩⟩
      exact raise_asks na ((k2 hg hst).on s1) d H' nd ne e
    · rw [show decide (V.str s = V.str t) = false by simp [hst]]
      exact iteF (k3 hg hst H1 s1)
end

/-! ### a new network -/
inductive NE
  | count (n : Nat)
  | name (z : Str)
  | twice (z : Str)
  | round (z : Str)
  | useless (z : Str)
/-- the error that is due for the links' number, the ends, the names -/
def earlyErr (es : List Ent) (s t : Str) : Option NE :=
  if 1 ≤ es.length ∧ es.length ≤ 10 then
    match bad [s, t] with
    | some z => some (.name z)
    | none => if s = t then some (.twice t) else
      match nmErr [] es with
      | some (true, z) => some (.name z)
      | some (false, z) => some (.twice z)
      | none => none
  else some (.count es.length)
/-- the error that is due for rounds and useless links -/
noncomputable def lateErr (es : List Ent) (s t : Str) : Option NE :=
  match rdErr es with
  | some z => some (.round z)
  | none => match useErr es s t with
    | some z => some (.useless z)
    | none => none
structure Errs where
  count : Addr
  name : Addr
  twice : Addr
  round : Addr
  useless : Addr
def RaisedN (D : Errs) (x : NE) (H : Hp) (E : XK) : Prop := match x with
  | .count n => Raised H "count" (.int (n : Int)) D.count E
  | .name z => Raised H "name" (.str z) D.name E
  | .twice z => Raised H "name" (.str z) D.twice E
  | .round z => Raised H "name" (.str z) D.round E
  | .useless z => Raised H "name" (.str z) D.useless E
/-- what lies behind a place -/
def BehOk (ts : List Ent) (H : Hp) (kv : Key × V) (q : Str) : Prop := kv.1 = .inr q ∧ ∃ (l : Addr) (F : List Str), kv.2 = .ref l ∧ H l = some (.lst (F.map V.str)) ∧ ∀ x, x ∈ F ↔ Lead ts q x
/-- a network at n: its links by name, its places -/
def NetAt (C : Addr) (H : Hp) (n : Addr) (s t : Str) (ts : List Ent) (ps : List Str) : Prop :=
  ∃ (dx d p b : Addr) (kvs : List (Key × V)), H n = some (.ins C dx [("_start", .str s), ("_end", .str t), ("_links", .ref d), ("_places", .ref p), ("_behind", .ref b)]) ∧ DictAt H d ts ∧ H p = some (.tup (ps.map V.str)) ∧ H b = some (.dK kvs) ∧ Paired (BehOk ts H) kvs ps
theorem nm_nd : ∀ {es : List Ent} {ks : List Str}, nmErr ks es = none → (names es).Nodup ∧ ∀ e ∈ es, e.1 ∉ ks
  | [], _, _ => ⟨List.nodup_nil, fun e h => by cases h⟩
  | e :: r, ks, h => by
    unfold nmErr at h
    by_cases h1 : vn e.1 = true
    · rw [if_pos h1] at h
      by_cases h2 : e.1 ∈ ks
      · rw [if_pos h2] at h; cases h
      · rw [if_neg h2] at h
        cases hb : bad [e.2.1, e.2.2] with
        | some z => rw [hb] at h; cases h
        | none =>
          rw [hb] at h
          obtain ⟨n1, n2⟩ := nm_nd (es := r) (ks := ks ++ [e.1]) h
          refine ⟨List.nodup_cons.mpr ⟨fun hm => ?_, n1⟩, fun f hf => ?_⟩
          · obtain ⟨f, hf, e1⟩ := List.mem_map.mp hm
            exact n2 f hf (e1 ▸ List.mem_append_right _ (List.mem_singleton.mpr rfl))
          · rcases List.mem_cons.mp hf with z | z
            · rw [z]; exact h2
            · exact fun q => n2 f z (List.mem_append_left _ q)
    · rw [if_neg h1] at h; cases h
theorem nm_nodup {es : List Ent} (h : nmErr [] es = none) : (names es).Nodup := (nm_nd h).1
theorem keys_inr {H : Hp} : ∀ {kvs : List (Key × V)} {es : List Ent}, Paired (EntOk H) kvs es → kvs.map (·.1) = (names es).map Sum.inr
  | _, _, .nil => rfl
  | (k, v) :: kvs, e :: es, .cons a r => by
    have h1 : k = .inr e.1 := a.1
    subst h1
    show (Sum.inr e.1 :: kvs.map (·.1)) = _
    rw [keys_inr r]
    rfl
def tabOf (es : List Ent) (ys : List Str) : List Ent := ys.map fun n => (n, (found es n).getD ("", ""))
theorem tab_names (es : List Ent) (ys : List Str) : names (tabOf es ys) = ys := by
  unfold tabOf names
  rw [List.map_map]
  exact List.map_id _
theorem found_mem : ∀ {es : List Ent} {e : Ent}, (names es).Nodup → e ∈ es → found es e.1 = some e.2
  | f :: es, e, nd, he => by
    have nd' : (f.1 :: names es).Nodup := nd
    obtain ⟨n1, n2⟩ := List.nodup_cons.mp nd'
    unfold found
    rcases List.mem_cons.mp he with z | z
    · rw [z, List.find?_cons_of_pos (by simp)]
      rfl
    · rw [List.find?_cons_of_neg (by
        have : ¬ f.1 = e.1 := fun q => n1 (q ▸ List.mem_map.mpr ⟨e, z, rfl⟩)
        simpa using this)]
      exact found_mem n2 z
theorem tab_perm {es : List Ent} {ys : List Str} (nd : (names es).Nodup) (h : ys.Perm (names es)) : (tabOf es ys).Perm es := by
  have e : tabOf es (names es) = es := by
    unfold tabOf names
    rw [List.map_map]
    have : ∀ e ∈ es, ((fun n => (n, (found es n).getD ("", ""))) ∘ fun e : Ent => e.1) e = id e := fun e he => by
      show (e.1, (found es e.1).getD ("", "")) = e
      rw [found_mem nd he]
      rfl
    rw [List.map_congr_left this]
    exact List.map_id _
  have p := h.map fun n => (n, (found es n).getD ("", ""))
  have : (tabOf es ys).Perm (tabOf es (names es)) := p
  rw [e] at this
  exact this
section
variable {P : Program} {w : World} {K : PySem.W.Frag} {mg : Str → Option Value} {base : Heap}
theorem BehOk.on {ts : List Ent} {H H' : Hp} {kv : Key × V} {q : Str} (h : BehOk ts H kv q) (s : ∀ c o, H c = some (.lst o) → H' c = some (.lst o)) : BehOk ts H' kv q := let ⟨h1, l, F, h2, h3, h4⟩ := h; ⟨h1, l, F, h2, s _ _ h3, h4⟩
theorem beh_any {ts : List Ent} {H : Hp} {q : Str} : ∀ {kvs : List (Key × V)} {qs : List Str}, Paired (BehOk ts H) kvs qs → (kvs.any fun kv => decide (kv.1 = (.inr q : Key))) = decide (q ∈ qs)
  | _, _, .nil => rfl
  | (k, v) :: kvs, m :: qs, .cons a r => by
    have h1 : k = .inr m := a.1
    subst h1
    rw [List.any_cons, beh_any r]
    by_cases e : q = m
    · simp [e]
    · have e2 : ¬ m = q := fun z => e z.symm
      simp [e, e2]
theorem beh_put {ts : List Ent} {H : Hp} {q : Str} {v : V} {kvs : List (Key × V)} {qs : List Str} (h : Paired (BehOk ts H) kvs qs) (hn : q ∉ qs) : putK kvs (.inr q : Key) v = kvs ++ [(.inr q, v)] := by
  unfold putK
  rw [beh_any h, decide_eq_false hn, if_neg Bool.false_ne_true]
theorem places_nodup {es : List Ent} {s t : Str} {ps : List Str} (h : Places es s t ps) (hne : s ≠ t) : ps.Nodup := by
  obtain ⟨ys, rfl, nd, _, hm⟩ := h
  refine List.nodup_cons.mpr ⟨fun z => ?_, List.nodup_append.mpr ⟨nd, by simp, fun a ha b hb => ?_⟩⟩
  · rcases List.mem_append.mp z with z | z
    · exact ((hm s).mp z).2.1 rfl
    · exact hne (List.mem_singleton.mp z)
  · rw [List.mem_singleton.mp hb]
    exact ((hm a).mp ha).2.2
theorem paired_mem {α β : Type} {F G : α → β → Prop} : ∀ {xs : List α} {ys : List β}, (∀ a b, a ∈ xs → F a b → G a b) → Paired F xs ys → Paired G xs ys
  | _, _, _, .nil => .nil
  | _, _, h, .cons a r => .cons (h _ _ List.mem_cons_self a) (paired_mem (fun a b ha => h a b (List.mem_cons_of_mem _ ha)) r)
def spNet (K : PySem.W.Frag) (C : Addr) (D : Errs) : Sp := fun vs H Q E => ∃ (n dx a : Addr) (es : List Ent) (s t : Str), vs = [.ref n, .ref a, .str s, .str t] ∧ H n = some (.ins C dx []) ∧ Rows K H a es ∧ es.length ≤ 100 ∧ (∀ e ∈ es, WnE e) ∧ Wn s ∧ Wn t ∧
  (∀ x, earlyErr es s t = some x → RaisedN D x H E) ∧ (earlyErr es s t = none → ∀ ts, ts.Perm es → PyProof.Rows.sortedS (names ts) = true → (∀ x, lateErr ts s t = some x → RaisedN D x H E) ∧
    (lateErr ts s t = none → ∀ ps, Places ts s t ps → (8 < ps.length → RaisedN D (.count ps.length) H E) ∧ (ps.length ≤ 8 → ∀ H', (∀ c o, c ≠ n → H c = some o → H' c = some o) → NetAt C H' n s t ts ps → (∀ Hx : Hp, (∀ c o, (∀ xs, o ≠ .lst xs) → H' c = some o → Hx c = some o) → (∀ c o, H c = none → H' c = some o → Hx c = some o) → NetAt C Hx n s t ts ps) → Q .non H')))
theorem ok_net (T : Txt K mg) : FnOk P w K mg base (L2.CX P w) 4 T.f_Network_init T.d_Network_init ["self", "links", "start", "end"] (spNet K T.f_Network ⟨T.f_BadCount, T.f_BadName, T.f_DuplicateName, T.f_HasRound, T.f_UselessLink⟩) := by
  have G_BadCount_init : FnOk P w K mg base CX0 1 T.f_BadCount_init T.d_BadCount_init ["self", "count"] (spErr "count" T.f_BadCount) := ok_eBadCount T
  have GX_check_ends : FnOk P w K mg base (L2.CX P w) 3 T.f_check_ends T.d_check_ends ["start", "end"] (spEnds T.f_BadName T.f_DuplicateName) := ok_ends T
  have GX_check_names : FnOk P w K mg base (L2.CX P w) 3 T.f_check_names T.d_check_names ["links"] (spNames K T.f_BadName T.f_DuplicateName) := ok_names T
  have GX_check_rounds : FnOk P w K mg base (L2.CX P w) 3 T.f_check_rounds T.d_check_rounds ["table"] (spRounds T.f_HasRound) := ok_rounds T
  have GX_check_use : FnOk P w K mg base (L2.CX P w) 3 T.f_check_use T.d_check_use ["table", "start", "end"] (spUse T.f_UselessLink) := ok_use T
  have G_ordered_places : FnOk P w K mg base CX0 1 T.f_ordered_places T.d_ordered_places ["table", "start", "end"] spPlaces := ok_places T
  have G_places_behind : FnOk P w K mg base CX0 1 T.f_places_behind T.d_places_behind ["table", "first"] spBehind := ok_behind T
  refine T.F_Network_init.okX sc_Network_init (fun vs H Q E h => ?_) (fun cdv A outer s H vs Q E hr h => ?_)
  · obtain ⟨n, dx, a, es, s, t, rfl, _⟩ := h
    rfl
  · obtain ⟨n, dx, a, es, s, t, rfl, hn, hrw, hfew, hw, ws, wt, k1, k2⟩ := h
    refine ⟨_, (pss_cons (ps_if (pt_not (pt_chain op_le op_le pe_int (pe_callB call_len_seq (by rfl) T.n_len (by decide +kernel) (pa_cons (pv 1) pa_nil)) (ClX.pe_cval (pe_glob (v := .ref T.f_Network) rfl T.m_Network rfl))))
      (pss_one (ps_raise rfl (takes_of rfl rfl rfl rfl) (pmk_oex T.ox_BadCount T.ix_BadCount T.tx_BadCount G_BadCount_init (hr.mono (by decide)) T.b_BadCount_init .nil pass0 rfl T.m_BadCount (pa_cons (pe_callB call_len_seq (by rfl) T.n_len (by decide +kernel) (pa_cons (pv 1) pa_nil)) pa_nil))))
      pss_nil)
    (pss_cons (ps_expr (pe_call GX_check_ends (hr.mono (by decide)) rfl T.m_check_ends T.F_check_ends.kp T.b_check_ends .nil (passX (takes_of rfl rfl rfl rfl)) (pa_cons (pv 2) (pa_cons (pv 3) pa_nil))))
    (pss_cons (ps_expr (pe_call GX_check_names (hr.mono (by decide)) rfl T.m_check_names T.F_check_names.kp T.b_check_names .nil (passX (takes_of rfl rfl rfl rfl)) (pa_cons (pv 1) pa_nil)))
    (pss_cons (ps_set (i := 4) sc_Network_init.nd rfl (Or.inr rfl) (pe_dc (own := [("name", 7), ("tail", 8), ("head", 9)]) (g := gSeq K 3 (gCons (gName 7) (gCons (gName 8) (gCons (gName 9) gNil)))) (tt := tYes) rfl sc_Network_init.nd (pi_seq (pv 1)) (blkOk_by (N := ["self", "links", "start", "end", "given", "table", "places", "name", "tail", "head", "place"]) (sc := defScope s_Network_init) (by decide +kernel)) (fun _ _ _ _ _ => (pg_seq rfl (pgs_cons (pg_name (i := 7) sc_Network_init.nd rfl (Or.inl rfl)) (pgs_cons (pg_name (i := 8) sc_Network_init.nd rfl (Or.inl rfl)) (pgs_cons (pg_name (i := 9) sc_Network_init.nd rfl (Or.inl rfl)) pgs_nil))))) (fun _ _ _ _ _ => pts_nil) (fun _ _ _ _ _ => (pv 7)) (fun _ _ _ _ _ => (pe_tup (pa_cons (pv 8) (pa_cons (pv 9) pa_nil))))))
    (pss_cons (ps_set (i := 5) sc_Network_init.nd rfl (Or.inr rfl) (pe_dc (own := [("name", 7)]) (g := gName 7) (tt := tYes) rfl sc_Network_init.nd (pi_list (pe_callB (call_sortedD rfl) (by rfl) T.n_sorted (by decide +kernel) (pa_cons (pv 4) pa_nil))) (blkOk_by (N := ["self", "links", "start", "end", "given", "table", "places", "name", "tail", "head", "place"]) (sc := defScope s_Network_init) (by decide +kernel)) (fun _ _ _ _ _ => pg_name (i := 7) sc_Network_init.nd rfl (Or.inl rfl)) (fun _ _ _ _ _ => pts_nil) (fun _ _ _ _ _ => (pv 7)) (fun _ _ _ _ _ => (pe_dget (hu_of hr) (pv 4) (pv 7) (fun _ _ => rfl)))))
    (pss_cons (ps_expr (pe_call GX_check_rounds (hr.mono (by decide)) rfl T.m_check_rounds T.F_check_rounds.kp T.b_check_rounds .nil (passX (takes_of rfl rfl rfl rfl)) (pa_cons (pv 5) pa_nil)))
    (pss_cons (ps_expr (pe_call GX_check_use (hr.mono (by decide)) rfl T.m_check_use T.F_check_use.kp T.b_check_use .nil (passX (takes_of rfl rfl rfl rfl)) (pa_cons (pv 5) (pa_cons (pv 2) (pa_cons (pv 3) pa_nil)))))
    (pss_cons (ps_set (i := 6) sc_Network_init.nd rfl (Or.inl rfl) (pe_call G_ordered_places (hr.mono (by decide)) rfl T.m_ordered_places T.F_ordered_places.kp T.b_ordered_places .nil pass0 (pa_cons (pv 5) (pa_cons (pv 2) (pa_cons (pv 3) pa_nil)))))
    (pss_cons (ps_if (pt_cmpR op_gt (pe_callB call_len_seq (by rfl) T.n_len (by decide +kernel) (pa_cons (pv 6) pa_nil)) (ClX.pe_cval (pe_glob (v := .ref T.f_Network) rfl T.m_Network rfl)) (nomark _))
      (pss_one (ps_raise rfl (takes_of rfl rfl rfl rfl) (pmk_oex T.ox_BadCount T.ix_BadCount T.tx_BadCount G_BadCount_init (hr.mono (by decide)) T.b_BadCount_init .nil pass0 rfl T.m_BadCount (pa_cons (pe_callB call_len_seq (by rfl) T.n_len (by decide +kernel) (pa_cons (pv 6) pa_nil)) pa_nil))))
      pss_nil)
    (pss_cons (ps_fld (pv 0) (pv 2) rfl)
    (pss_cons (ps_fld (pv 0) (pv 3) rfl)
    (pss_cons (ps_fld (pv 0) (pv 5) rfl)
    (pss_cons (ps_fld (pv 0) (pv 6) rfl)
    (pss_one (ps_fld (pv 0) (pe_dc (own := [("place", 10)]) (g := gName 10) (tt := tYes) rfl sc_Network_init.nd (pi_tup (pv 6)) (blkOk_by (N := ["self", "links", "start", "end", "given", "table", "places", "name", "tail", "head", "place"]) (sc := defScope s_Network_init) (by decide +kernel)) (fun _ _ _ _ _ => pg_name (i := 10) sc_Network_init.nd rfl (Or.inl rfl)) (fun _ _ _ _ _ => pts_nil) (fun _ _ _ _ _ => (pv 10)) (fun _ _ _ _ _ => (pe_call G_places_behind (hr.mono (by decide)) rfl T.m_places_behind T.F_places_behind.kp T.b_places_behind .nil pass0 (pa_cons (pv 5) (pa_cons (pv 10) pa_nil))))) rfl))))))))))))))), ?_⟩
    obtain ⟨qs, hq, hp⟩ := hrw
    have hql : (qs.map V.ref).length = es.length := by rw [List.length_map, hp.length]
    have hq' : SqL K H a (qs.map V.ref) ∨ SqT K H a (qs.map V.ref) := hq
    have e1 : ¬ (1 ≤ es.length ∧ es.length ≤ 10) → RaisedN ⟨T.f_BadCount, T.f_BadName, T.f_DuplicateName, T.f_HasRound, T.f_UselessLink⟩ (.count es.length) H E := fun h => k1 _ (by unfold earlyErr; rw [if_neg h])
    refine ⟨_, rfl, a, _, rfl, hq, _, _, rfl, rfl, _, rfl, ite2 (fun g1 => ?_) fun g1 => ?_⟩
    · have g1' : (1 : Int) ≤ (qs.map V.ref).length := of_decide_eq_true g1
      refine ⟨T.f_Network, _, _, _, rfl, T.cr_Network, T.cv_Network_MOST_LINKS, _, _, rfl, rfl, _, rfl, ite2 (fun g2 => ?_) fun g2 => ?_⟩
      · have g2' : ¬ ((qs.map V.ref).length : Int) ≤ 10 := by simpa using g2
        refine ⟨_, rfl, a, _, rfl, hq, (by show 1 ≤ 1000; decide), fun a na => ?_⟩
        refine ⟨a, .int (qs.map V.ref).length, rfl, upd_same, fun d H' nd ne e => ⟨rfl, d, [("count", .int (qs.map V.ref).length)], ?_⟩⟩
        refine raise_asks na ?_ d H' nd ne e
        rw [hql]
        exact e1 (by omega)
      · have g2' : ((qs.map V.ref).length : Int) ≤ 10 := by simpa using g2
        have hlen : 1 ≤ es.length ∧ es.length ≤ 10 := by rw [hql] at g1' g2'; omega
        have kn : ∀ z, bad [s, t] = some z → Raised H "name" (.str z) T.f_BadName E := fun z hz => k1 (.name z) (by unfold earlyErr; rw [if_pos hlen, hz])
        have kt : bad [s, t] = none → s = t → Raised H "name" (.str t) T.f_DuplicateName E := fun hb e => k1 (.twice t) (by unfold earlyErr; rw [if_pos hlen, hb]; exact if_pos e)
        refine ⟨_, rfl, _, rfl, s, t, rfl, ws, wt, kn, kt, fun hb hne H1 s1 => ?_⟩
        have kn2 : ∀ z, nmErr [] es = some (true, z) → Raised H1 "name" (.str z) T.f_BadName E := fun z hz => Raised.on (k1 (.name z) (by unfold earlyErr; rw [if_pos hlen, hb]; show (if s = t then _ else _) = _; rw [if_neg hne, hz])) s1
        have kt2 : ∀ z, nmErr [] es = some (false, z) → Raised H1 "name" (.str z) T.f_DuplicateName E := fun z hz => Raised.on (k1 (.twice z) (by unfold earlyErr; rw [if_pos hlen, hb]; show (if s = t then _ else _) = _; rw [if_neg hne, hz])) s1
        refine ⟨_, rfl, a, es, rfl, Rows.on ⟨qs, hq, hp⟩ s1, hfew, hw, kn2, kt2, fun hnm H2 s2 => ?_⟩
        have he0 : earlyErr es s t = none := by unfold earlyErr; rw [if_pos hlen, hb]; show (if s = t then _ else _) = _; rw [if_neg hne, hnm]
        have s02 := s1.trans s2
        have nde : (names es).Nodup := nm_nodup hnm
        refine ⟨_, rfl, a, rfl, ?_⟩
        refine dc_seq (K := K) (H0 := H) (xs := qs.map V.ref) hq s02 (fun D i H' => Same H H' ∧ ∃ kvs, H' D = some (.dK kvs) ∧ Paired (EntOk H') kvs (es.take i)) (fun D hD => ⟨s02.trans (same_upd hD), [], upd_same, .nil⟩) (fun D i H' h => h.1) ?_ ?_
        · rintro D hD i x H' hi ⟨s3, kvs, h1, h2⟩
          obtain ⟨q, hqi, rfl⟩ : ∃ q, qs[i]? = some q ∧ x = V.ref q := by
            rw [List.getElem?_map] at hi
            cases e : qs[i]? with
            | none => rw [e] at hi; cases hi
            | some q => rw [e] at hi; exact ⟨q, rfl, (Option.some.inj hi).symm⟩
          obtain ⟨e, hei, hr⟩ := L2.paired_get hp hqi
          have nDH : H D = none := s02.free hD
          have hkl : kvs.length ≤ 10 := by rw [h2.length, List.length_take]; omega
          refine seq_ask (hr.on s3) rfl ⟨_, _, rfl, _, _, rfl, _, _, rfl, rfl, rfl, _, rfl, _, rfl, _, rfl, by show 2 ≤ sizeLine; decide, fun U nU => ?_⟩
          have hU : Same H' (upd H' U (.tup [V.str e.2.1, .str e.2.2])) := same_upd nU
          have nUD : U ≠ D := fun z => by rw [z, h1] at nU; cases nU
          refine ⟨kvs, .inr e.1, rfl, hU _ _ h1, small1000 (by omega), same_mut (s3.trans hU) nDH, _, upd_same, ?_⟩
          have hs := stored_ok (n := e.1) (e := e.2) (q := U) (paired_on (fun _ _ z => z.on fun c o hc => hU _ _ hc) h2) (by rw [upd_same])
          have hnm2 : e.1 ∉ names (es.take i) := by
            have nd2 := nde
            rw [← List.take_append_drop i es, drop_at hei] at nd2
            unfold names at nd2
            rw [List.map_append, List.map_cons] at nd2
            intro hm
            exact (List.nodup_append.mp nd2).2.2 _ hm _ List.mem_cons_self rfl
          have e2 : stored (es.take i) e.1 e.2 = es.take (i + 1) := by unfold stored; rw [if_neg hnm2, take_more hei]
          rw [e2] at hs
          exact paired_on (fun _ _ z => z.on fun c o hc => by rw [upd_ne (fun z => by rw [z, hU _ _ h1] at hc; cases hc)]; exact hc) hs
        · rintro D H3 hD ⟨s3, kvs, h1, h2⟩
          rw [hql, List.take_length] at h2
          have nDH : H D = none := s02.free hD
          refine ⟨_, rfl, D, kvs, names es, rfl, .inl h1, keys_inr h2, by unfold names; rw [List.length_map]; omega, fun ys L hpm hso nL => ?_⟩
          refine ⟨L, rfl, ⟨_, SqL.of upd_same⟩, fun D2 hD2 => ?_⟩
          have hL3 : Same H3 (upd H3 L (.lst (ys.map V.str))) := same_upd nL
          have hLs : (upd H3 L (.lst (ys.map V.str))) L = some (.lst (ys.map V.str)) := upd_same
          generalize upd H3 L (.lst (ys.map V.str)) = H4 at hL3 hLs hD2 ⊢
          have s04 := s3.trans hL3
          have nD2H : H D2 = none := s04.free hD2
          have hpt : (tabOf es ys).Perm es := tab_perm nde hpm
          have hnt : names (tabOf es ys) = ys := tab_names es ys
          have hlt : (tabOf es ys).length = es.length := hpt.length_eq
          refine dc_list (K := K) (a := L) (xs := ys.map V.str) (fun i H' => Same H4 H' ∧ ∃ kvs2, H' D2 = some (.dK kvs2) ∧ Paired (EntOk H') kvs2 ((tabOf es ys).take i)) ⟨same_upd hD2, [], upd_same, .nil⟩ (fun i H' _ h => SqL.of (h.1 _ _ hLs)) ?_ ?_
          · rintro i x H' hi ⟨s5, kvs2, g1, g2⟩
            obtain ⟨m, hm, rfl⟩ : ∃ m, ys[i]? = some m ∧ x = V.str m := by
              rw [List.getElem?_map] at hi
              cases e : ys[i]? with
              | none => rw [e] at hi; cases hi
              | some q => rw [e] at hi; exact ⟨q, rfl, (Option.some.inj hi).symm⟩
            have hme : m ∈ names es := hpm.mem_iff.mp (List.mem_of_getElem? hm)
            rcases val_found (n := m) h2 with ⟨z1, z2⟩ | ⟨e, p, z1, z2, z3⟩
            · have := found_some (es := es) (n := m)
              rw [z1] at this
              exact absurd hme (of_decide_eq_false this.symm)
            · have hk5 : H' D = some (.dK kvs) := s5 _ _ (hL3 _ _ h1)
              have het : (tabOf es ys)[i]? = some (m, e) := by unfold tabOf; rw [List.getElem?_map, hm]; show some (m, (found es m).getD _) = _; rw [z1]; rfl
              have hkl : kvs2.length ≤ 10 := by rw [g2.length, List.length_take]; omega
              refine ⟨rfl, _, rfl, _, rfl, _, rfl, D, .ref p, rfl, ?_, kvs2, .inr m, rfl, g1, small1000 (by omega), ?_⟩
              · rw [← z2]; exact DGet.k (k := .inr m) hk5
              · refine ⟨same_mut s5 hD2, _, upd_same, ?_⟩
                have hs := stored_ok (n := m) (e := e) (q := p) g2 (s5 _ _ (hL3 _ _ z3))
                have hnm2 : m ∉ names ((tabOf es ys).take i) := by
                  have nd2 : ys.Nodup := hpm.nodup_iff.mpr nde
                  have e1 : names ((tabOf es ys).take i) = ys.take i := by unfold names tabOf; rw [← List.map_take, List.map_map]; exact List.map_id _
                  rw [e1]
                  rw [← List.take_append_drop i ys, drop_at hm] at nd2
                  intro hm
                  exact (List.nodup_append.mp nd2).2.2 _ hm _ List.mem_cons_self rfl
                have e2 : stored ((tabOf es ys).take i) m e = (tabOf es ys).take (i + 1) := by unfold stored; rw [if_neg hnm2, take_more het]
                rw [e2] at hs
                exact paired_on (fun _ _ z => z.on fun c o hc => by rw [upd_ne (fun z => by rw [z, g1] at hc; cases hc)]; exact hc) hs
          · rintro H5 ⟨s5, kvs2, g1, g2⟩
            rw [List.length_map, show ys.length = (tabOf es ys).length from by unfold tabOf; rw [List.length_map], List.take_length] at g2
            have s05 := s04.trans s5
            obtain ⟨kr, k3⟩ := k2 he0 (tabOf es ys) hpt (by rw [hnt]; exact hso)
            generalize tabOf es ys = ts at hpt hnt hlt g2 kr k3
            have ndt : (names ts).Nodup := by rw [hnt]; exact hpm.nodup_iff.mpr nde
            have ht20 : ts.length ≤ 20 := by omega
            have kr1 : ∀ z, rdErr ts = some z → RaisedX D2 H5 "name" (.str z) T.f_HasRound E := fun z hz => Raised.but (kr (.round z) (by unfold lateErr; rw [hz])) s05 nD2H
            refine ⟨_, rfl, D2, ts, rfl, ⟨kvs2, g1, g2⟩, by omega, kr1, fun hrd H6 s6 => ?_⟩
            have s06 := s05.trans s6
            have kr2 : ∀ z, useErr ts s t = some z → RaisedX D2 H6 "name" (.str z) T.f_UselessLink E := fun z hz => Raised.but (kr (.useless z) (by unfold lateErr; rw [hrd]; show (match useErr ts s t with | some z => _ | none => _) = _; rw [hz])) s06 nD2H
            have dt6 : DictAt H6 D2 ts := DictAt.same ⟨kvs2, g1, g2⟩ s6
            refine ⟨_, rfl, _, rfl, _, rfl, D2, ts, s, t, rfl, dt6, ndt, by omega, kr2, fun hus H7 s7 => ?_⟩
            have s07 := s06.trans s7
            have k4 := k3 (by unfold lateErr; rw [hrd]; show (match useErr ts s t with | some z => _ | none => _) = _; rw [hus])
            refine ⟨_, rfl, _, rfl, _, rfl, D2, ts, s, t, rfl, dt6.same s7, ht20, fun pp ps H8 npp s8 hpp hps => ?_⟩
            obtain ⟨k5, k6⟩ := k4 ps hps
            have s08 := s07.trans s8
            have hpl : (ps.map V.str).length = ps.length := List.length_map _
            refine ⟨_, rfl, pp, _, rfl, .inr (SqT.of hpp), T.f_Network, _, _, _, rfl, T.cr_Network, T.cv_Network_MOST_PLACES, _, _, rfl, rfl, _, rfl, ite2 (fun g8 => ?_) fun g8 => ?_⟩
            · have g8' : (8 : Int) < ((ps.map V.str).length : Nat) := of_decide_eq_true g8
              refine ⟨_, rfl, pp, _, rfl, .inr (SqT.of hpp), (by show 1 ≤ 1000; decide), fun a na => ?_⟩
              refine ⟨a, .int (ps.map V.str).length, rfl, upd_same, fun d H' nd ne e => ⟨rfl, d, [("count", .int (ps.map V.str).length)], ?_⟩⟩
              refine raise_asks na ?_ d H' nd ne e
              rw [hpl] at g8' ⊢
              exact Raised.on (k5 (by omega)) s08
            · have g8' : ps.length ≤ 8 := by
                have : ¬ (8 : Int) < ((ps.map V.str).length : Nat) := fun q => g8 (decide_eq_true q)
                rw [hpl] at this
                omega
              have hn8 := s08 _ _ hn
              refine ⟨_, rfl, _, rfl, n, T.f_Network, dx, _, rfl, hn8, T.cl_Network, T.na_Network_start, by show 0 < 1000; decide, ?_⟩
              refine ⟨_, rfl, _, rfl, n, T.f_Network, dx, _, rfl, upd_same, T.cl_Network, T.na_Network_end, by show 1 < 1000; decide, ?_⟩
              refine ⟨_, rfl, _, rfl, n, T.f_Network, dx, _, rfl, upd_same, T.cl_Network, T.na_Network_links, by show 2 < 1000; decide, ?_⟩
              refine ⟨_, rfl, _, rfl, n, T.f_Network, dx, _, rfl, upd_same, T.cl_Network, T.na_Network_places, by show 3 < 1000; decide, ?_⟩
              generalize hHa : upd (upd (upd (upd H8 n _) n _) n _) n _ = Ha
              have hna : Ha n = some (.ins T.f_Network dx [("_start", .str s), ("_end", .str t), ("_links", .ref D2), ("_places", .ref pp)]) := by rw [← hHa]; exact upd_same
              have hka : ∀ c, c ≠ n → Ha c = H8 c := fun c cn => by rw [← hHa, upd_ne cn, upd_ne cn, upd_ne cn, upd_ne cn]
              have nn : ∀ {c : Addr} {o : HO}, H8 c = some o → (∀ C dx fs, o ≠ .ins C dx fs) → c ≠ n := fun {c o} hc hne z => by rw [z, hn8] at hc; cases hc; exact hne _ _ _ rfl
              have dt8 := (dt6.same s7).same s8
              have dta : DictAt Ha D2 ts := dt8.on (fun c o hc => by rw [hka c (nn hc fun _ _ _ z => nomatch z)]; exact hc) fun kvs hc => by rw [hka D2 (nn hc fun _ _ _ z => nomatch z)]; exact hc
              have hpa : Ha pp = some (.tup (ps.map V.str)) := by rw [hka pp (nn hpp fun _ _ _ z => nomatch z)]; exact hpp
              refine ⟨_, rfl, pp, rfl, ⟨_, SqT.of hpa⟩, fun D3 hD3 => ?_⟩
              have ndp : ps.Nodup := places_nodup hps hne
              refine dc_tup (K := K) (a := pp) (xs := ps.map V.str) (fun i H' => Same Ha H' ∧ ∃ kvs3, H' D3 = some (.dK kvs3) ∧ Paired (BehOk ts H') kvs3 (ps.take i) ∧ ∀ kv ∈ kvs3, ∀ l, kv.2 = V.ref l → H l = none) ⟨same_upd hD3, [], upd_same, .nil, fun kv hkv => by cases hkv⟩ (fun i H' _ h => SqT.of (h.1 _ _ hpa)) ?_ ?_
              · rintro i x H' hi ⟨s9, kvs3, g1, g2, g3⟩
                obtain ⟨m, hm, rfl⟩ : ∃ m, ps[i]? = some m ∧ x = V.str m := by
                  rw [List.getElem?_map] at hi
                  cases e : ps[i]? with
                  | none => rw [e] at hi; cases hi
                  | some q => rw [e] at hi; exact ⟨q, rfl, (Option.some.inj hi).symm⟩
                have hkl : kvs3.length ≤ 10 := by rw [g2.length, List.length_take]; omega
                refine ⟨rfl, _, rfl, _, rfl, _, rfl, D2, ts, m, rfl, (dta.same s9).rd, by omega, fun l F H10 nl s10 hl ndF hF => ?_⟩
                refine ⟨kvs3, .inr m, rfl, s10 _ _ g1, small1000 (by omega), same_mut (s9.trans s10) hD3, _, upd_same, ?_⟩
                have hnm : m ∉ ps.take i := by
                  have nd2 := ndp
                  rw [← List.take_append_drop i ps, drop_at hm] at nd2
                  intro hm
                  exact (List.nodup_append.mp nd2).2.2 _ hm _ List.mem_cons_self rfl
                rw [beh_put g2 hnm, take_more hm]
                have up : ∀ c o, H10 c = some (.lst o) → (upd H10 D3 (.dK (kvs3 ++ [(.inr m, V.ref l)]))) c = some (.lst o) := fun c o hc => by rw [upd_ne (fun z => by rw [z, s10 _ _ g1] at hc; cases hc)]; exact hc
                refine ⟨paired_snoc ⟨rfl, l, F, rfl, up _ _ hl, hF⟩ (paired_on (fun _ _ z => z.on fun c o hc => up _ _ (s10 _ _ hc)) g2), fun kv hkv l' e => ?_⟩
                rcases List.mem_append.mp hkv with hkv | hkv
                · exact g3 kv hkv l' e
                · rw [List.mem_singleton.mp hkv] at e
                  obtain rfl : l = l' := V.ref.inj e
                  cases q : H l with
                  | none => rfl
                  | some o =>
                    by_cases en : l = n
                    · rw [en, s9 _ _ hna] at nl; cases nl
                    · rw [s9 _ _ ((hka l en).trans (s08 _ _ q))] at nl; cases nl
              · rintro H9 ⟨s9, kvs3, g1, g2, g3⟩
                rw [List.length_map, List.take_length] at g2
                have hn9 := s9 _ _ hna
                refine ⟨_, rfl, n, T.f_Network, dx, _, rfl, hn9, T.cl_Network, T.na_Network_behind, by show 4 < 1000; decide, ?_⟩
                have up : ∀ c o, (∀ C dx fs, o ≠ .ins C dx fs) → H9 c = some o → (upd H9 n (HO.ins T.f_Network dx (putF "_behind" (V.ref D3) [("_start", .str s), ("_end", .str t), ("_links", .ref D2), ("_places", .ref pp)]))) c = some o := fun c o hne hc => by
                  rw [upd_ne (fun z => by rw [z, hn9] at hc; cases hc; exact hne _ _ _ rfl)]; exact hc
                have hds : DictAt (upd H9 n (HO.ins T.f_Network dx (putF "_behind" (V.ref D3) [("_start", .str s), ("_end", .str t), ("_links", .ref D2), ("_places", .ref pp)]))) D2 ts := (dta.same s9).on (fun c o hc => up _ _ (fun _ _ _ z => nomatch z) hc) fun kvs hc => up _ _ (fun _ _ _ z => nomatch z) hc
                refine k6 g8' _ (fun c o cn hc => ?_) ⟨dx, D2, pp, D3, kvs3, upd_same, ?_, ?_, ?_, ?_⟩ fun Hx x1 x2 => ⟨dx, D2, pp, D3, kvs3, x1 _ _ (fun _ z => nomatch z) upd_same, hds.on (fun c o hc => x1 _ _ (fun _ z => nomatch z) hc) (fun kvs hc => x1 _ _ (fun _ z => nomatch z) hc), x1 _ _ (fun _ z => nomatch z) (up _ _ (fun _ _ _ z => nomatch z) (s9 _ _ hpa)), x1 _ _ (fun _ z => nomatch z) (up _ _ (fun _ _ _ z => nomatch z) g1),
                  paired_mem (fun kv q hkv z => let ⟨h1, l, F, h2, h3, h4⟩ := z; ⟨h1, l, F, h2, x2 _ _ (g3 kv hkv l h2) (up _ _ (fun _ _ _ z => nomatch z) h3), h4⟩) g2⟩
                · rw [upd_ne cn]
                  exact s9 _ _ (by rw [hka c cn]; exact s08 _ _ hc)
                · exact (dta.same s9).on (fun c o hc => up _ _ (fun _ _ _ z => nomatch z) hc) fun kvs hc => up _ _ (fun _ _ _ z => nomatch z) hc
                · exact up _ _ (fun _ _ _ z => nomatch z) (s9 _ _ hpa)
                · exact up _ _ (fun _ _ _ z => nomatch z) g1
                · exact paired_on (fun _ _ z => z.on fun c o hc => up _ _ (fun _ _ _ z => nomatch z) hc) g2
    · have g1' : ¬ (1 : Int) ≤ (qs.map V.ref).length := fun q => g1 (decide_eq_true q)
      refine ⟨_, rfl, iteT ?_⟩
      refine ⟨_, rfl, a, _, rfl, hq, (by show 1 ≤ 1000; decide), fun a na => ?_⟩
      refine ⟨a, .int (qs.map V.ref).length, rfl, upd_same, fun d H' nd ne e => ⟨rfl, d, [("count", .int (qs.map V.ref).length)], ?_⟩⟩
      refine raise_asks na ?_ d H' nd ne e
      rw [hql]
      exact e1 (by omega)
end

section
theorem log_small {n : Int} (h : n.natAbs < 10 ^ 64) : n.natAbs.log2 < 1920 := Nat.lt_of_lt_of_le (PySem.Flt.log2_lt_of (k := 300) (by decide) (Nat.lt_of_lt_of_le h (by decide +kernel))) (by decide)
end

/-! ### drawn names -/
def sgs : Str := "abcdefghijklmnopqrstuvwxyz0123456789"
def sgn (c : Nat) : V := .str ⟨#[c]⟩
theorem sgn_map (l : List Nat) : l.map sgn = (l.map fun c => (⟨#[c]⟩ : Str)).map V.str := by
  rw [List.map_map]
  rfl
theorem sgs_len : sgs.length = 36 := by decide +kernel
theorem sgs_all : (sgs.cps.toList.all fun c => inNm c && decide (c < 128)) = true := by decide +kernel
theorem sgs_26 : ((List.range 26).all fun i => decide (sgs.cps.toList[i]? = some (97 + i)) && decide (97 + i ∈ lets.cps.toList)) = true := by decide +kernel
theorem sgs_at {i : Nat} (h : i < 26) : sgs.cps.toList[i]? = some (97 + i) ∧ 97 + i ∈ lets.cps.toList := by
  have := List.all_eq_true.mp sgs_26 i (List.mem_range.mpr h)
  rw [Bool.and_eq_true, decide_eq_true_eq, decide_eq_true_eq] at this
  exact this
theorem sgs_mem {c : Nat} (h : c ∈ sgs.cps.toList) : inNm c = true ∧ c < 128 := by
  have := List.all_eq_true.mp sgs_all c h
  rw [Bool.and_eq_true, decide_eq_true_eq] at this
  exact this
/-- a sign at a drawn place -/
theorem sgs_draw {r : Int} (h0 : 0 ≤ r) (h1 : r < 36) : ∃ c, atI sgs.cps.toList r = some c ∧ c ∈ sgs.cps.toList := by
  have hl := len_of sgs
  rw [sgs_len] at hl
  obtain ⟨j, rfl⟩ : ∃ j : Nat, r = (j : Int) := ⟨r.toNat, by omega⟩
  have hj : j < sgs.cps.toList.length := by omega
  exact ⟨sgs.cps.toList[j], atI_nat (List.getElem?_eq_getElem hj), List.getElem_mem hj⟩
theorem sgs_draw26 {r : Int} (h0 : 0 ≤ r) (h1 : r < 26) : ∃ j : Nat, j < 26 ∧ atI sgs.cps.toList r = some (97 + j) ∧ r = (j : Int) := by
  obtain ⟨j, rfl⟩ : ∃ j : Nat, r = (j : Int) := ⟨r.toNat, by omega⟩
  exact ⟨j, by omega, atI_nat (sgs_at (by omega)).1, rfl⟩
theorem join_cps (l : List Nat) : Txt.join ⟨#[]⟩ (l.map fun c => (⟨#[c]⟩ : Str)) = ⟨l.toArray⟩ := by
  refine TL.ext_tl ?_
  rw [TL.join_eq]
  induction l with
  | nil => rfl
  | cons a r ih =>
    cases r with
    | nil => rfl
    | cons b q =>
      show TL.tl ((⟨#[a]⟩ : Str) ++ ⟨#[]⟩ ++ Str.join ⟨#[]⟩ ((b :: q).map fun c => (⟨#[c]⟩ : Str))) = _
      rw [TL.tl_append, TL.tl_append, ih]
      rfl
theorem sum_ones (l : List Nat) : ((l.map fun c => (⟨#[c]⟩ : Str)).map (·.length)).sum = l.length := by
  induction l with
  | nil => rfl
  | cons a r ih =>
    rw [List.map_cons, List.map_cons, List.sum_cons, ih, List.length_cons]
    show 1 + r.length = r.length + 1
    omega
/-- the sign of the k-th name -/
def sgIx (o sd : Int) (k : Nat) : Nat := ((o + sd * (k : Int)) % 26).toNat
theorem sgIx_lt (o sd : Int) (k : Nat) : sgIx o sd k < 26 := by
  unfold sgIx
  omega
def Stride (sd : Int) : Prop := sd = 1 ∨ sd = 3 ∨ sd = 5 ∨ sd = 7 ∨ sd = 9 ∨ sd = 11
theorem sgIx_inj {o sd : Int} (hs : Stride sd) {j k : Nat} (hj : j < 26) (hk : k < 26) (h : sgIx o sd j = sgIx o sd k) : j = k := by
  unfold sgIx at h
  rcases hs with rfl | rfl | rfl | rfl | rfl | rfl <;> omega
/-- the k-th name, by its code points -/
def wdCps (stem : List Nat) (lt : Nat) (o sd p : Int) (k : Nat) : List Nat :=
  if p % 2 = 0 then (97 + lt) :: ((if 1 < p ∧ k % 2 = 1 then [] else stem) ++ [97 + sgIx o sd k]) else (97 + sgIx o sd k) :: (if 1 < p ∧ k % 2 = 1 then [] else stem)
def wdAt (stem : List Nat) (lt : Nat) (o sd p : Int) (k : Nat) : Str := ⟨(wdCps stem lt o sd p k).toArray⟩
structure NamesOk (ws : List Str) (n : Nat) : Prop where
  len : ws.length = n
  nd : ws.Nodup
  ok : ∀ z ∈ ws, vn z = true ∧ Wn z
theorem lets_nm {i : Nat} (h : i < 26) : inNm (97 + i) = true ∧ 97 + i < 128 := by
  refine ⟨?_, by omega⟩
  unfold inNm
  rw [decide_eq_true (sgs_at h).2, Bool.true_or]
theorem wd_ok {stem : List Nat} {lt : Nat} {o sd p : Int} {k : Nat} (hs : stem.length ≤ 4) (hm : ∀ c ∈ stem, c ∈ sgs.cps.toList) (hlt : lt < 26) : vn (wdAt stem lt o sd p k) = true ∧ Wn (wdAt stem lt o sd p k) := by
  have hi := sgIx_lt o sd k
  have hr : ∀ c ∈ (if 1 < p ∧ k % 2 = 1 then [] else stem), inNm c = true ∧ c < 128 := by
    intro c hc
    split at hc
    · cases hc
    · exact sgs_mem (hm c hc)
  have hrl : (if 1 < p ∧ k % 2 = 1 then [] else stem : List Nat).length ≤ 4 := by
    split
    · exact Nat.zero_le _
    · exact hs
  have all : ∀ c ∈ wdCps stem lt o sd p k, inNm c = true ∧ c < 128 := by
    intro c hc
    unfold wdCps at hc
    split at hc
    · rcases List.mem_cons.mp hc with h | h
      · rw [h]; exact lets_nm hlt
      · rcases List.mem_append.mp h with h | h
        · exact hr c h
        · rw [List.mem_singleton.mp h]; exact lets_nm hi
    · rcases List.mem_cons.mp hc with h | h
      · rw [h]; exact lets_nm hi
      · exact hr c h
  have len : 1 ≤ (wdCps stem lt o sd p k).length ∧ (wdCps stem lt o sd p k).length ≤ 6 := by
    unfold wdCps
    split
    · rw [List.length_cons, List.length_append, List.length_singleton]; omega
    · rw [List.length_cons]; omega
  have hd : ∃ c r, wdCps stem lt o sd p k = c :: r ∧ c ∈ lets.cps.toList := by
    unfold wdCps
    split
    · exact ⟨_, _, rfl, (sgs_at hlt).2⟩
    · exact ⟨_, _, rfl, (sgs_at hi).2⟩
  obtain ⟨c, r, ec, hc⟩ := hd
  have el : (wdAt stem lt o sd p k).length = (wdCps stem lt o sd p k).length := by rw [len_of]; rfl
  refine ⟨?_, by rw [el]; omega, fun c hc => (all c hc).2⟩
  rw [vn_eq (z := wdAt stem lt o sd p k) (by rw [el]; exact len) (show (wdAt stem lt o sd p k).cps.toList = c :: r from ec) (decide_eq_true hc)]
  exact List.all_eq_true.mpr fun x hx => (all x (ec ▸ hx)).1
theorem wd_inj {stem : List Nat} {lt : Nat} {o sd p : Int} (hs : Stride sd) {j k : Nat} (hj : j < 26) (hk : k < 26) (h : wdAt stem lt o sd p j = wdAt stem lt o sd p k) : j = k := by
  have e : wdCps stem lt o sd p j = wdCps stem lt o sd p k := by
    have := congrArg (fun z : Str => z.cps.toList) h
    exact this
  refine sgIx_inj (o := o) hs hj hk ?_
  unfold wdCps at e
  split at e
  · have e2 := congrArg List.getLast? (List.cons.inj e).2
    rw [List.getLast?_concat, List.getLast?_concat] at e2
    have := Option.some.inj e2
    omega
  · have := (List.cons.inj e).1
    omega
theorem wds_ok {stem : List Nat} {lt : Nat} {o sd p : Int} {n : Nat} (hs : stem.length ≤ 4) (hm : ∀ c ∈ stem, c ∈ sgs.cps.toList) (hlt : lt < 26) (hsd : Stride sd) (hn : n ≤ 26) : NamesOk ((List.range n).map (wdAt stem lt o sd p)) n where
  len := by rw [List.length_map, List.length_range]
  nd := by
    refine List.pairwise_map.mpr (List.Pairwise.imp_of_mem (R := (· < ·)) (fun {a b} ha hb hlt h => ?_) List.pairwise_lt_range)
    have := wd_inj hsd (Nat.lt_of_lt_of_le (List.mem_range.mp ha) hn) (Nat.lt_of_lt_of_le (List.mem_range.mp hb) hn) h
    omega
  ok := fun z hz => by
    obtain ⟨k, _, rfl⟩ := List.mem_map.mp hz
    exact wd_ok hs hm hlt

section
variable {P : Program} {w : World} {K : PySem.W.Frag} {mg : Str → Option Value} {base : Heap}
def spNms : Sp := fun vs H Q _ => ∃ (G : Hp) (st : Addr) (m n : Nat), vs = [.ref st, .int (n : Int)] ∧ DSt G H st m ∧ m < 900000 ∧ n ≤ 26 ∧
  ∀ (l : Addr) (ws : List Str) (H' : Hp), G l = none → DSt (upd G l (.lst (ws.map V.str))) H' st (m + 9) → NamesOk ws n → Q (.ref l) H'
theorem six {r : Int} (h0 : 0 ≤ r) (h1 : r < 6) : ∃ v : Int, atI [V.int 1, .int 3, .int 5, .int 7, .int 9, .int 11] r = some (.int v) ∧ Stride v := by
  have h : r = 0 ∨ r = 1 ∨ r = 2 ∨ r = 3 ∨ r = 4 ∨ r = 5 := by omega
  rcases h with rfl | rfl | rfl | rfl | rfl | rfl
  · exact ⟨1, rfl, .inl rfl⟩
  · exact ⟨3, rfl, .inr (.inl rfl)⟩
  · exact ⟨5, rfl, .inr (.inr (.inl rfl))⟩
  · exact ⟨7, rfl, .inr (.inr (.inr (.inl rfl)))⟩
  · exact ⟨9, rfl, .inr (.inr (.inr (.inr (.inl rfl))))⟩
  · exact ⟨11, rfl, .inr (.inr (.inr (.inr (.inr rfl))))⟩
theorem and_par {a b : Nat} {p : Int} {i : Nat} {σ : L2.St} {H : Hp} {Q : VK} (h8 : σ[a]? = some (some (.int p))) (h4 : σ[b]? = some (some (.int (0 + (i : Int))))) (q : Q (.bl (decide (1 < p ∧ i % 2 = 1))) H) :
    tAndV (tOp (rI0 fun i j => V.bl (decide (j < i))) (tVar a) (tC (V.int 1))) (tOp rEq (tOp (rI (fun x j => 0 < j) fun i j => V.int (i % j)) (tVar b) (tC (V.int 2))) (tC (V.int 1))) σ H Q := by
  refine ⟨_, h8, p, 1, rfl, rfl, _, rfl, ite2 (fun hp => ?_) fun hp => ?_⟩
  · have hp' : 1 < p := of_decide_eq_true hp
    refine ⟨_, h4, _, 2, rfl, rfl, by show (0 : Int) < 2; decide, rfl, ?_⟩
    by_cases hi : i % 2 = 1
    · rw [show decide (V.int ((0 + (i : Int)) % 2) = V.int 1) = true from decide_eq_true (by congr 1; omega)]
      rw [decide_eq_true ⟨hp', hi⟩] at q
      exact q
    · rw [show decide (V.int ((0 + (i : Int)) % 2) = V.int 1) = false from decide_eq_false (fun z => by have := V.int.inj z; omega)]
      rw [decide_eq_false (fun z => hi z.2)] at q
      exact q
  · have hp' : ¬ 1 < p := fun z => hp (decide_eq_true z)
    rw [decide_eq_false (fun z => hp' z.1)] at q
    exact q
theorem ok_nms (T : Txt K mg) : FnOk P w K mg base CX0 2 T.f_names T.d_names ["_law_state", "_law_count"] spNms := by
  have G_draw : FnOk P w K mg base CX0 1 T.f_draw T.d_draw ["_law_state", "_law_size"] spDraw := ok_draw T
  refine T.F_names.ok sc_names (fun vs H Q E h => ?_) (fun cdv A outer s H vs Q E hr h => ?_)
  · obtain ⟨G, st, m, n, rfl, _⟩ := h
    rfl
  · obtain ⟨G, st, m, n, rfl, d0, hm, hn, k⟩ := h
    refine ⟨_, (pss_cons (ps_set (i := 2) sc_names.nd rfl (Or.inr rfl) pe_str)
    (pss_cons (ps_set (i := 3) sc_names.nd rfl (Or.inl rfl) (pe_join pe_str (pe_lc (own := [("_law_k", 4)]) (g := gName 4) (tt := tYes) rfl sc_names.nd (pi_range1 rfl T.n_range (pa_cons (pe_call G_draw (hr.mono (by decide)) rfl T.m_draw T.F_draw.kp T.b_draw .nil pass0 (pa_cons (pv 0) (pa_cons pe_int pa_nil))) pa_nil)) (blkOk_by (N := ["_law_state", "_law_count", "_law_signs", "_law_stem", "_law_k", "_law_letter", "_law_offset", "_law_stride", "_law_plan", "_law_words", "_law_sign", "_law_rest"]) (sc := defScope s_names) (by decide +kernel)) (fun _ _ _ _ _ => pg_name (i := 4) sc_names.nd rfl (Or.inl rfl)) (fun _ _ _ _ _ => pts_nil) (fun _ _ _ _ _ => (pe_ix ix_str (pv 2) (pe_call G_draw (hr.mono (by decide)) rfl T.m_draw T.F_draw.kp T.b_draw .nil pass0 (pa_cons (pv 0) (pa_cons pe_int pa_nil))) (fun _ _ => rfl))))))
    (pss_cons (ps_set (i := 5) sc_names.nd rfl (Or.inl rfl) (pe_ix ix_str (pv 2) (pe_call G_draw (hr.mono (by decide)) rfl T.m_draw T.F_draw.kp T.b_draw .nil pass0 (pa_cons (pv 0) (pa_cons pe_int pa_nil))) (fun _ _ => rfl)))
    (pss_cons (ps_set (i := 6) sc_names.nd rfl (Or.inl rfl) (pe_call G_draw (hr.mono (by decide)) rfl T.m_draw T.F_draw.kp T.b_draw .nil pass0 (pa_cons (pv 0) (pa_cons pe_int pa_nil))))
    (pss_cons (ps_set (i := 7) sc_names.nd rfl (Or.inl rfl) (pe_ix ix_list (pe_lst (pa_cons pe_int (pa_cons pe_int (pa_cons pe_int (pa_cons pe_int (pa_cons pe_int (pa_cons pe_int pa_nil))))))) (pe_call G_draw (hr.mono (by decide)) rfl T.m_draw T.F_draw.kp T.b_draw .nil pass0 (pa_cons (pv 0) (pa_cons pe_int pa_nil))) (fun _ _ => rfl)))
    (pss_cons (ps_set (i := 8) sc_names.nd rfl (Or.inl rfl) (pe_call G_draw (hr.mono (by decide)) rfl T.m_draw T.F_draw.kp T.b_draw .nil pass0 (pa_cons (pv 0) (pa_cons pe_int pa_nil))))
    (pss_cons (ps_set (i := 9) sc_names.nd rfl (Or.inl rfl) (pe_lst pa_nil))
    (C8.pss_cut (ps_for PassesOwn.never rfl (pi_range1 rfl T.n_range (pa_cons (pv 1) pa_nil)) (pg_name (i := 4) sc_names.nd rfl (Or.inl rfl))
      (pss_cons (ps_set (i := 10) sc_names.nd rfl (Or.inl rfl) (pe_ix ix_str (pv 2) (pe_op op_mod (pe_callTy call_int1 (by rfl) T.n_int (by decide +kernel) (pa_cons (pe_op op_add (pv 6) (pe_op op_mulW (pv 7) (pv 4))) pa_nil)) pe_int) (fun _ _ => rfl)))
    (pss_cons (ps_set (i := 11) sc_names.nd rfl (Or.inl rfl) (pe_ix ix_list (pe_lst (pa_cons (pv 3) (pa_cons pe_str pa_nil))) (pe_callTy call_int1 (by rfl) T.n_int (by decide +kernel) (pa_cons (pe_and (pe_cmpR op_gt (pv 8) pe_int (nomark _)) (pe_one (pe_cmpR op_eq (pe_op op_mod (pv 4) pe_int) pe_int (nomark _)))) pa_nil)) (fun _ _ => rfl)))
    (pss_one (ps_expr (pe_bm PySem.F.plainAttrs_list PySem.F.slot_list_append PySem.F.type_list_append mt_append (pv 9) (pa_cons (pe_ix ix_list (pe_lst (pa_cons (pe_op op_add_str (pe_op op_add_str (pv 5) (pv 11)) (pv 10)) (pa_cons (pe_op op_add_str (pv 10) (pv 11)) pa_nil))) (pe_op op_mod (pe_callTy call_int1 (by rfl) T.n_int (by decide +kernel) (pa_cons (pv 8) pa_nil)) pe_int) (fun _ _ => rfl)) pa_nil)))))))
    (pss_one (ps_ret (pv 9))))))))))), ?_⟩
    have hsl : sgs.length ≤ sizeLine := Nat.le_of_lt (small1000 (by rw [sgs_len]; decide))
    refine ⟨⟨_, rfl⟩, _, rfl, ?_⟩
    refine ⟨G, st, m, 5, rfl, d0, by omega, by decide, by decide, fun r5 H1 r0 r1 d1 => ?_⟩
    obtain ⟨j, rfl⟩ : ∃ j : Nat, r5 = (j : Int) := ⟨r5.toNat, by omega⟩
    refine ⟨_, rfl, by omega, by omega, fun D hD => ?_⟩
    refine lc_range (lo := 0) (n := j) (fun i H6 => ∃ cs : List Nat, cs.length = i ∧ (∀ c ∈ cs, c ∈ sgs.cps.toList) ∧ DSt (upd G D (.lst (cs.map sgn))) H6 st (m + 1 + i)) ⟨[], rfl, by simp, d1.new hD⟩ ?_ ?_
    · intro i H6 hi ⟨cs, hc, hb, d6⟩
      refine ⟨rfl, _, rfl, _, rfl, _, st, m + 1 + i, 36, rfl, d6, by omega, by decide, by decide, fun z H7 z0 z1 d7 => ?_⟩
      obtain ⟨c, ec, c1⟩ := sgs_draw z0 z1
      refine ⟨sgs, z, c, rfl, rfl, hsl, ec, cs.map sgn, d7.same _ _ upd_same, small1000 (by rw [List.length_map]; omega), cs ++ [c], by rw [List.length_append, hc]; rfl, ?_, ?_⟩
      · intro x hx
        rcases List.mem_append.mp hx with hx | hx
        · exact hb x hx
        · rw [List.mem_singleton.mp hx]; exact c1
      · have := d7.put (o := .lst (cs.map sgn ++ [sgn c])) upd_same
        rw [upd_upd] at this
        rw [List.map_append]
        exact this
    rintro H6 ⟨cs, hc, hb, d6⟩
    have e6 : H6 D = some (.lst (cs.map sgn)) := d6.same _ _ upd_same
    have d6' : DSt G H6 st (m + 5) := (d6.less (same_upd (d1.free hD))).mono (by omega)
    refine ⟨⟨#[]⟩, D, cs.map fun c => (⟨#[c]⟩ : Str), rfl, rfl, .inl (SqL.of (by rw [← sgn_map]; exact e6)), ?_, ?_⟩
    · rw [sum_ones]
      show cs.length + _ * 0 ≤ _
      omega
    rw [join_cps]
    have hcs : cs.length ≤ 4 := by omega
    -- letter
    refine ⟨_, rfl, _, rfl, G, st, m + 5, 26, rfl, d6', by omega, by decide, by decide, fun z H7 z0 z1 d7 => ?_⟩
    obtain ⟨lt, hlt, elt, rfl⟩ := sgs_draw26 z0 z1
    refine ⟨sgs, _, 97 + lt, rfl, rfl, hsl, elt, ?_⟩
    -- offset
    refine ⟨_, rfl, G, st, m + 6, 26, rfl, d7, by omega, by decide, by decide, fun o H8 o0 o1 d8 => ?_⟩
    -- stride
    refine ⟨by show 6 ≤ sizeLine; decide, fun l6 nl6 => ?_⟩
    refine ⟨_, rfl, upd G l6 _, st, m + 7, 6, rfl, d8.new nl6, by omega, by decide, by decide, fun q H9 q0 q1 d9 => ?_⟩
    obtain ⟨sd, esd, hsd⟩ := six q0 q1
    refine ⟨l6, _, q, .int sd, rfl, rfl, SqL.of (d9.same _ _ upd_same), esd, ?_⟩
    have d9' := d9.less (same_upd (d8.free nl6))
    -- plan
    refine ⟨_, rfl, G, st, m + 8, 4, rfl, d9', by omega, by decide, by decide, fun p H10 p0 p1 d10 => ?_⟩
    refine ⟨Nat.zero_le _, fun W nW => ?_⟩
    have d11 := d10.new (o := .lst []) nW
    have nWG := d10.free nW
    refine ⟨fun σ H' => ∃ x4 x10 x11, σ = [some (.ref st), some (.int n), some (.str sgs), some (.str ⟨cs.toArray⟩), x4, some (.str ⟨#[97 + lt]⟩), some (.int o), some (.int sd), some (.int p), some (.ref W), x10, x11] ∧ DSt (upd G W (.lst (((List.range n).map (wdAt cs lt o sd p)).map V.str))) H' st (m + 9), ?_, ?_⟩
    · refine ⟨_, rfl, _, rfl, by omega, by omega, ?_⟩
      refine for_range (lo := 0) (n := n) (fun i σ H' => ∃ x4 x10 x11, σ = [some (.ref st), some (.int n), some (.str sgs), some (.str ⟨cs.toArray⟩), x4, some (.str ⟨#[97 + lt]⟩), some (.int o), some (.int sd), some (.int p), some (.ref W), x10, x11] ∧ DSt (upd G W (.lst (((List.range i).map (wdAt cs lt o sd p)).map V.str))) H' st (m + 9)) ⟨_, _, _, rfl, d11⟩ ?_ ?_
      · rintro i σ H' hi ⟨x4, x10, x11, rfl, d⟩
        have e0 : o + sd * (0 + (i : Int)) = o + sd * (i : Int) := by rw [Int.zero_add]
        have hx : ((o + sd * (0 + (i : Int))) % 26) = (sgIx o sd i : Int) := by
          rw [e0]; unfold sgIx; omega
        have hmul : CMulW sd (0 + (i : Int)) := by
          have a : sd.natAbs < 10 ^ 64 := by rcases hsd with rfl | rfl | rfl | rfl | rfl | rfl <;> decide
          have b : (0 + (i : Int)).natAbs < 10 ^ 64 := Nat.lt_of_le_of_lt (m := 26) (by omega) (by decide)
          have la := log_small a
          have lb := log_small b
          show _ + _ < 1000000
          omega
        refine ⟨_, rfl, _, rfl, _, rfl, _, rfl, sd, _, rfl, rfl, hmul, o, _, rfl, rfl, .inl ⟨_, rfl, _, 26, rfl, rfl, by show (0 : Int) < 26; decide, sgs, _, 97 + sgIx o sd i, rfl, rfl, hsl, ?_, ?_⟩⟩
        · rw [hx]; exact atI_nat (sgs_at (sgIx_lt o sd i)).1
        refine ⟨_, rfl, by show 2 ≤ sizeLine; decide, fun l2 nl2 => ?_⟩
        have dl2 := d.new (o := .lst [V.str ⟨cs.toArray⟩, V.str ""]) nl2
        refine and_par (p := p) (i := i) rfl rfl ?_
        refine .inr ⟨_, rfl, ?_⟩
        have hrest : ∃ rs : List Nat, rs = (if 1 < p ∧ i % 2 = 1 then [] else cs) ∧ rs.length ≤ 4 ∧ atI [V.str (⟨cs.toArray⟩ : Str), V.str ""] (if decide (1 < p ∧ i % 2 = 1) = true then 1 else 0) = some (V.str ⟨rs.toArray⟩) := by
          by_cases hb : 1 < p ∧ i % 2 = 1
          · rw [decide_eq_true hb, if_pos hb]
            exact ⟨[], rfl, Nat.zero_le _, rfl⟩
          · rw [decide_eq_false hb, if_neg hb]
            exact ⟨cs, rfl, hcs, rfl⟩
        obtain ⟨rs, ers, hrs, eat⟩ := hrest
        refine ⟨l2, _, _, _, rfl, rfl, SqL.of upd_same, eat, ?_⟩
        have dW : DSt (upd G W (.lst (((List.range i).map (wdAt cs lt o sd p)).map V.str))) (upd H' l2 (.lst [V.str ⟨cs.toArray⟩, V.str ""])) st (m + 9) := dl2.less (same_upd (d.free nl2))
        generalize upd H' l2 (.lst [V.str ⟨cs.toArray⟩, V.str ""]) = H2 at dW ⊢
        have hW2 := dW.same W _ upd_same
        have ln1 : (⟨#[97 + lt]⟩ : Str).length = 1 := by rw [len_of]; rfl
        have ln2 : (⟨#[97 + sgIx o sd i]⟩ : Str).length = 1 := by rw [len_of]; rfl
        have ln3 : (⟨rs.toArray⟩ : Str).length ≤ 4 := by rw [len_of]; exact hrs
        have ln4 : ((⟨#[97 + lt]⟩ : Str) ++ ⟨rs.toArray⟩).length ≤ 5 := by rw [len_of, Str.cps_append, Array.toList_append, List.length_append]; show 1 + rs.length ≤ 5; omega
        refine ⟨_, rfl, .inl ⟨rfl, _, SqL.of hW2⟩, _, rfl, _, rfl, _, _, rfl, rfl, Nat.le_of_lt (small1000 (by omega)), _, rfl, _, _, rfl, rfl, Nat.le_of_lt (small1000 (by omega)), _, rfl, _, rfl, _, _, rfl, rfl, Nat.le_of_lt (small1000 (by omega)), by show 2 ≤ sizeLine; decide, fun l3 nl3 => ?_⟩
        have dl3 := dW.new (o := .lst [V.str ((⟨#[97 + lt]⟩ : Str) ++ ⟨rs.toArray⟩ ++ ⟨#[97 + sgIx o sd i]⟩), V.str ((⟨#[97 + sgIx o sd i]⟩ : Str) ++ ⟨rs.toArray⟩)]) nl3
        have eat2 : atI [V.str ((⟨#[97 + lt]⟩ : Str) ++ ⟨rs.toArray⟩ ++ ⟨#[97 + sgIx o sd i]⟩), V.str ((⟨#[97 + sgIx o sd i]⟩ : Str) ++ ⟨rs.toArray⟩)] (p % 2) = some (V.str (wdAt cs lt o sd p i)) := by
          by_cases hp : p % 2 = 0
          · have ew : (⟨#[97 + lt]⟩ : Str) ++ ⟨rs.toArray⟩ ++ ⟨#[97 + sgIx o sd i]⟩ = wdAt cs lt o sd p i := by
              refine TL.ext_tl ?_
              rw [TL.tl_append, TL.tl_append]
              unfold wdAt wdCps
              rw [if_pos hp, ← ers]
              rfl
            rw [hp, ew]
            rfl
          · have hp1 : p % 2 = 1 := by omega
            have ew : (⟨#[97 + sgIx o sd i]⟩ : Str) ++ ⟨rs.toArray⟩ = wdAt cs lt o sd p i := by
              refine TL.ext_tl ?_
              rw [TL.tl_append]
              unfold wdAt wdCps
              rw [if_neg hp, ← ers]
              rfl
            rw [hp1, ew]
            rfl
        refine ⟨_, rfl, .inl ⟨_, rfl, _, 2, rfl, rfl, by show (0 : Int) < 2; decide, l3, _, _, _, rfl, rfl, SqL.of upd_same, eat2, ?_⟩⟩
        have dl3' := dl3.less (same_upd (dW.free nl3))
        have hW3 := dl3'.same W _ upd_same
        refine ⟨W, _, _, rfl, rfl, hW3, small1000 (by simp only [List.length_map, List.length_range]; omega), ?_⟩
        refine ⟨_, _, _, rfl, ?_⟩
        have dd := dl3'.put (o := .lst (((List.range i).map (wdAt cs lt o sd p)).map V.str ++ [V.str (wdAt cs lt o sd p i)])) upd_same
        rw [upd_upd] at dd
        rw [List.range_succ, List.map_append, List.map_append]
        exact dd
      · rintro σ H' ⟨x4, x10, x11, rfl, d⟩
        exact ⟨x4, x10, x11, rfl, d⟩
    · rintro σ H' ⟨x4, x10, x11, rfl, d⟩
      exact ⟨_, rfl, k W _ H' nWG d (wds_ok hcs hb hlt hsd hn)⟩
end

/-! ### a grown network, by numbers -/
inductive Ld (ps : List (Nat × Nat)) : Nat → Nat → Prop
  | one {p : Nat × Nat} : p ∈ ps → Ld ps p.1 p.2
  | more {a : Nat} {p : Nat × Nat} : Ld ps a p.1 → p ∈ ps → Ld ps a p.2
theorem Ld.trans {ps : List (Nat × Nat)} {a b c : Nat} (h : Ld ps a b) (h2 : Ld ps b c) : Ld ps a c := by
  induction h2 with
  | one he => exact .more h he
  | more _ he ih => exact .more (ih h) he
theorem Ld.sub {ps qs : List (Nat × Nat)} {a b : Nat} (h : Ld ps a b) (s : ∀ p ∈ ps, Ld qs p.1 p.2) : Ld qs a b := by
  induction h with
  | one he => exact s _ he
  | more _ he ih => exact ih.trans (s _ he)
theorem Ld.edge {ps : List (Nat × Nat)} {a b : Nat} (h : (a, b) ∈ ps) : Ld ps a b := .one h
structure Grown (ps : List (Nat × Nat)) (ord : List Nat) : Prop where
  nd : ord.Nodup
  all : ∀ v, v ∈ ord ↔ v < ord.length
  two : 2 ≤ ord.length
  up : ∀ p ∈ ps, ∃ i j : Nat, ord[i]? = some p.1 ∧ ord[j]? = some p.2 ∧ i < j
  front : ∀ v ∈ ord, v = 0 ∨ Ld ps 0 v
  back : ∀ v ∈ ord, v = 1 ∨ Ld ps v 1
theorem Grown.start : Grown [(0, 1)] [0, 1] where
  nd := by decide
  all := fun v => by
    rw [List.mem_cons, List.mem_singleton]
    show _ ↔ v < 2
    omega
  two := Nat.le_refl _
  up := fun p hp => by
    rw [List.mem_singleton.mp hp]
    exact ⟨0, 1, rfl, rfl, by decide⟩
  front := fun v hv => by
    rcases List.mem_cons.mp hv with h | h
    · exact .inl h
    · rw [List.mem_singleton.mp h]
      exact .inr (.edge (List.mem_singleton.mpr rfl))
  back := fun v hv => by
    rcases List.mem_cons.mp hv with h | h
    · rw [h]
      exact .inr (.edge (List.mem_singleton.mpr rfl))
    · exact .inl (List.mem_singleton.mp h)
/-- a link more forward -/
theorem Grown.add {ps : List (Nat × Nat)} {ord : List Nat} (g : Grown ps ord) {a b i j : Nat} (hi : ord[i]? = some a) (hj : ord[j]? = some b) (h : i < j) : Grown (ps ++ [(a, b)]) ord where
  nd := g.nd
  all := g.all
  two := g.two
  up := fun p hp => by
    rcases List.mem_append.mp hp with hp | hp
    · exact g.up p hp
    · rw [List.mem_singleton.mp hp]
      exact ⟨i, j, hi, hj, h⟩
  front := fun v hv => (g.front v hv).imp id fun z => z.sub fun p hp => .one (List.mem_append_left _ hp)
  back := fun v hv => (g.back v hv).imp id fun z => z.sub fun p hp => .one (List.mem_append_left _ hp)
def insAt (ord : List Nat) (pos x : Nat) : List Nat := ord.take pos ++ [x] ++ ord.drop pos
theorem ins_lt {ord : List Nat} {pos x i v : Nat} (hp : pos ≤ ord.length) (hi : ord[i]? = some v) (h : i < pos) : (insAt ord pos x)[i]? = some v := by
  unfold insAt
  rw [List.append_assoc, List.getElem?_append_left (by rw [List.length_take]; omega), List.getElem?_take_of_lt h]
  exact hi
theorem ins_at {ord : List Nat} {pos x : Nat} (hp : pos ≤ ord.length) : (insAt ord pos x)[pos]? = some x := by
  unfold insAt
  have e : (ord.take pos).length = pos := by rw [List.length_take]; omega
  rw [List.append_assoc, List.getElem?_append_right (by omega), e, Nat.sub_self]
  rfl
theorem ins_ge {ord : List Nat} {pos x i v : Nat} (hp : pos ≤ ord.length) (hi : ord[i]? = some v) (h : pos ≤ i) : (insAt ord pos x)[i + 1]? = some v := by
  unfold insAt
  have e : (ord.take pos).length = pos := by rw [List.length_take]; omega
  rw [List.getElem?_append_right (by rw [List.length_append, e]; show pos + 1 ≤ i + 1; omega), List.length_append, e, List.getElem?_drop]
  show ord[pos + (i + 1 - (pos + 1))]? = some v
  rw [show pos + (i + 1 - (pos + 1)) = i from by omega]
  exact hi
theorem ins_mem {ord : List Nat} {pos x v : Nat} : v ∈ insAt ord pos x ↔ v ∈ ord ∨ v = x := by
  unfold insAt
  rw [List.mem_append, List.mem_append, List.mem_singleton]
  constructor
  · rintro ((h | h) | h)
    · exact .inl (List.mem_of_mem_take h)
    · exact .inr h
    · exact .inl (List.mem_of_mem_drop h)
  · rintro (h | h)
    · rw [← List.take_append_drop pos ord] at h
      rcases List.mem_append.mp h with h | h
      · exact .inl (.inl h)
      · exact .inr h
    · exact .inl (.inr h)
theorem ins_len {ord : List Nat} {pos x : Nat} : (insAt ord pos x).length = ord.length + 1 := by
  unfold insAt
  rw [List.length_append, List.length_append, List.length_take, List.length_drop]
  show min pos ord.length + 1 + _ = _
  omega
theorem ins_perm (ord : List Nat) (pos x : Nat) : (insAt ord pos x).Perm (x :: ord) := by
  unfold insAt
  have p : (ord.take pos ++ [x] ++ ord.drop pos).Perm ([x] ++ (ord.take pos ++ ord.drop pos)) := by
    rw [← List.append_assoc]
    exact (List.perm_append_comm).append_right _
  rw [List.take_append_drop] at p
  exact p
/-- the link at a spot is split by a new place -/
theorem Grown.split {ps : List (Nat × Nat)} {ord : List Nat} (g : Grown ps ord) {sp a b i j pos : Nat} (hs : ps[sp]? = some (a, b)) (hi : ord[i]? = some a) (hj : ord[j]? = some b) (h1 : i < pos) (h2 : pos ≤ j) :
    Grown (ps.set sp (a, ord.length) ++ [(ord.length, b)]) (insAt ord pos ord.length) := by
  have hjl := (List.getElem?_eq_some_iff.mp hj).1
  have hp : pos ≤ ord.length := by omega
  have hfresh : ord.length ∉ ord := fun z => Nat.lt_irrefl _ ((g.all _).mp z)
  have hsl := (List.getElem?_eq_some_iff.mp hs).1
  have m1 : (a, ord.length) ∈ ps.set sp (a, ord.length) ++ [(ord.length, b)] := List.mem_append_left _ (List.mem_of_getElem? (i := sp) (by rw [List.getElem?_set_self hsl]))
  have m2 : (ord.length, b) ∈ ps.set sp (a, ord.length) ++ [(ord.length, b)] := List.mem_append_right _ (List.mem_singleton.mpr rfl)
  have lift : ∀ p ∈ ps, Ld (ps.set sp (a, ord.length) ++ [(ord.length, b)]) p.1 p.2 := by
    intro p hpm
    obtain ⟨k, hk⟩ := List.mem_iff_getElem?.mp hpm
    by_cases e : k = sp
    · rw [e, hs] at hk
      rw [← Option.some.inj hk]
      exact .more (p := (ord.length, b)) (.one m1) m2
    · exact .one (List.mem_append_left _ (List.mem_of_getElem? (i := k) (by rw [List.getElem?_set_ne (Ne.symm e)]; exact hk)))
  have shift : ∀ {k v : Nat}, ord[k]? = some v → (insAt ord pos ord.length)[if k < pos then k else k + 1]? = some v := by
    intro k v hk
    split
    · exact ins_lt hp hk (by assumption)
    · exact ins_ge hp hk (by omega)
  have ha : a ∈ ord := List.mem_of_getElem? hi
  have hb : b ∈ ord := List.mem_of_getElem? hj
  refine ⟨?_, ?_, ?_, ?_, ?_, ?_⟩
  · exact (ins_perm ord pos ord.length).nodup_iff.mpr (List.nodup_cons.mpr ⟨hfresh, g.nd⟩)
  · intro v
    rw [ins_mem, ins_len, g.all]
    omega
  · rw [ins_len]; have := g.two; omega
  · intro p hpm
    rcases List.mem_append.mp hpm with h | h
    · rcases List.mem_or_eq_of_mem_set h with h | h
      · obtain ⟨x, y, e1, e2, l⟩ := g.up p h
        refine ⟨_, _, shift e1, shift e2, ?_⟩
        split <;> split <;> omega
      · rw [h]
        exact ⟨i, pos, ins_lt hp hi h1, ins_at hp, h1⟩
    · rw [List.mem_singleton.mp h]
      exact ⟨pos, j + 1, ins_at hp, ins_ge hp hj h2, by omega⟩
  · intro v hv
    rcases ins_mem.mp hv with h | h
    · exact (g.front v h).imp id fun z => z.sub lift
    · rw [h]
      refine .inr ?_
      rcases g.front a ha with z | z
      · rw [← z]; exact .one m1
      · exact (z.sub lift).trans (.one m1)
  · intro v hv
    rcases ins_mem.mp hv with h | h
    · exact (g.back v h).imp id fun z => z.sub lift
    · rw [h]
      refine .inr ?_
      rcases g.back b hb with z | z
      · rw [← z]; exact .one m2
      · exact Ld.trans (.one m2) (z.sub lift)

/-- pairs of numbers in a list -/
def PairAt (H : Hp) (q : Addr) (p : Nat × Nat) : Prop := H q = some (.tup [.int (p.1 : Int), .int (p.2 : Int)])
def PairsAt (H : Hp) (l : Addr) (ps : List (Nat × Nat)) : Prop := ∃ qs : List Addr, H l = some (.lst (qs.map V.ref)) ∧ Paired (PairAt H) qs ps
theorem PairsAt.on {H H' : Hp} {l : Addr} {ps : List (Nat × Nat)} (h : PairsAt H l ps) (s : Same H H') : PairsAt H' l ps := let ⟨qs, a, b⟩ := h; ⟨qs, s _ _ a, paired_on (fun _ _ e => s _ _ e) b⟩
structure GrownAt (G0 G : Hp) (o l : Addr) (ps : List (Nat × Nat)) (ord : List Nat) : Prop where
  sm : Same G0 G
  fo : G0 o = none
  fl : G0 l = none
  ne : o ≠ l
  ho : G o = some (.lst (ord.map fun v : Nat => V.int (v : Int)))
  hp : PairsAt G l ps
/-- a new tuple comes, the list of pairs changes -/
theorem pairs_put {G : Hp} {l q : Addr} {qs qs' : List Addr} {ps' : List (Nat × Nat)} (hl : G l = some (.lst (qs.map V.ref))) (h : Paired (PairAt G) qs' ps') : PairsAt (upd G l (.lst (qs'.map V.ref))) l ps' :=
  ⟨qs', upd_same, paired_on (fun a b e => by show upd _ _ _ _ = _; rw [upd_ne (fun z => by rw [z] at e; rw [show G l = _ from e] at hl; cases hl)]; exact e) h⟩
theorem GrownAt.setP {G0 G : Hp} {o l : Addr} {ps ps' : List (Nat × Nat)} {ord : List Nat} {qs' : List Addr} (g : GrownAt G0 G o l ps ord) (h : Paired (PairAt G) qs' ps') : GrownAt G0 (upd G l (.lst (qs'.map V.ref))) o l ps' ord where
  sm := same_mut g.sm g.fl
  fo := g.fo
  fl := g.fl
  ne := g.ne
  ho := by rw [upd_ne g.ne]; exact g.ho
  hp := let ⟨qs, a, _⟩ := g.hp; pairs_put (q := l) a h
theorem GrownAt.setO {G0 G : Hp} {o l : Addr} {ps : List (Nat × Nat)} {ord ord' : List Nat} (g : GrownAt G0 G o l ps ord) : GrownAt G0 (upd G o (.lst (ord'.map fun v : Nat => V.int (v : Int)))) o l ps ord' where
  sm := same_mut g.sm g.fo
  fo := g.fo
  fl := g.fl
  ne := g.ne
  ho := upd_same
  hp := let ⟨qs, a, b⟩ := g.hp; ⟨qs, by rw [upd_ne g.ne.symm]; exact a, paired_on (fun x y e => by show upd _ _ _ _ = _; rw [upd_ne (fun z => by rw [z] at e; have e2 : G o = _ := e; rw [g.ho] at e2; cases e2)]; exact e) b⟩
theorem GrownAt.new {G0 G : Hp} {o l q : Addr} {u : HO} {ps : List (Nat × Nat)} {ord : List Nat} (g : GrownAt G0 G o l ps ord) (nq : G q = none) : GrownAt G0 (upd G q u) o l ps ord where
  sm := g.sm.trans (same_upd nq)
  fo := g.fo
  fl := g.fl
  ne := g.ne
  ho := same_upd nq _ _ g.ho
  hp := g.hp.on (same_upd nq)
theorem app_pair {G0 G1 H3 : Hp} {st o l t : Addr} {m : Nat} {ps : List (Nat × Nat)} {ord : List Nat} {qs : List Addr} (d : DSt G1 H3 st m) (ga : GrownAt G0 G1 o l ps ord) (hl : G1 l = some (.lst (qs.map V.ref))) (hp : Paired (PairAt G1) qs ps) (nt : H3 t = none) (a b : Nat) :
    DSt (upd (upd G1 t (.tup [.int (a : Int), .int (b : Int)])) l (.lst (qs.map V.ref ++ [.ref t]))) (upd (upd H3 t (.tup [.int (a : Int), .int (b : Int)])) l (.lst (qs.map V.ref ++ [.ref t]))) st m ∧
      GrownAt G0 (upd (upd G1 t (.tup [.int (a : Int), .int (b : Int)])) l (.lst (qs.map V.ref ++ [.ref t]))) o l (ps ++ [(a, b)]) ord := by
  have ntG := d.free nt
  have lt : l ≠ t := ne_of_none hl ntG
  refine ⟨(d.new nt).put (p := l) (u := .lst (qs.map V.ref)) (by rw [upd_ne lt]; exact hl), ?_⟩
  have hp' : Paired (PairAt (upd G1 t (.tup [.int (a : Int), .int (b : Int)]))) qs ps := paired_on (fun _ _ e => same_upd ntG _ _ e) hp
  have h1 : PairAt (upd G1 t (.tup [.int (a : Int), .int (b : Int)])) t (a, b) := upd_same
  have g := (ga.new (u := .tup [.int (a : Int), .int (b : Int)]) ntG).setP (paired_snoc h1 hp')
  rw [List.map_append] at g
  exact g
theorem index_ints {ord : List Nat} (nd : ord.Nodup) {v j : Nat} (hj : ord[j]? = some v) : (ord.map fun v : Nat => V.int (v : Int))[j]? = some (V.int (v : Int)) ∧ eqV (V.int (v : Int)) (V.int (v : Int)) = true ∧ ∀ (m : Nat) (z' : V), m < j → (ord.map fun v : Nat => V.int (v : Int))[m]? = some z' → eqV z' (V.int (v : Int)) = false := by
  refine ⟨by rw [List.getElem?_map, hj]; rfl, by show ((v : Int) == (v : Int)) = true; simp, fun m z' hm hz => ?_⟩
  rw [List.getElem?_map] at hz
  cases e : ord[m]? with
  | none => rw [e] at hz; cases hz
  | some x =>
    rw [e] at hz
    have ez : V.int (x : Int) = z' := Option.some.inj hz
    subst ez
    have hne : x ≠ v := fun z => by
      obtain ⟨h1, e1⟩ := List.getElem?_eq_some_iff.mp e
      obtain ⟨h2, e2⟩ := List.getElem?_eq_some_iff.mp hj
      exact List.pairwise_iff_getElem.mp nd m j h1 h2 hm (by rw [e1, e2, z])
    show ((x : Int) == (v : Int)) = false
    exact beq_false_of_ne (by omega)
theorem paired_set {α β : Type} {F : α → β → Prop} {a : α} {b : β} (h : F a b) : ∀ {xs : List α} {ys : List β} {i : Nat}, Paired F xs ys → Paired F (xs.set i a) (ys.set i b)
  | _, _, _, .nil => .nil
  | _ :: _, _ :: _, 0, .cons _ r => .cons h r
  | _ :: _, _ :: _, _ + 1, .cons p r => .cons p (paired_set h r)
theorem flat_nats (ord : List Nat) : (ord.map fun v : Nat => V.int (v : Int)).all flatV = true := by
  rw [List.all_map]
  exact List.all_eq_true.mpr fun _ _ => rfl
section
variable {P : Program} {w : World} {K : PySem.W.Frag} {mg : Str → Option Value} {base : Heap}
def spGrown : Sp := fun vs H Q _ => ∃ (G : Hp) (st : Addr) (m n c mo : Nat), vs = [.ref st, .int (n : Int), .int (c : Int), .int (mo : Int)] ∧ DSt G H st m ∧ m < 900000 ∧ n ≤ 20 ∧ c ≤ 5 ∧ 2 ≤ mo ∧ mo ≤ 20 ∧
  ∀ (t l : Addr) (ps : List (Nat × Nat)) (ord : List Nat) (G' H' : Hp), Same G G' → DSt G' H' st (m + 4 * n) → G' t = some (.tup [.ref l, .int (ord.length : Int)]) → PairsAt G' l ps → Grown ps ord → ps.length = n + 1 → ord.length ≤ mo → Q (.ref t) H'
theorem ok_grown (T : Txt K mg) : FnOk P w K mg base CX0 2 T.f_grown T.d_grown ["_law_state", "_law_turns", "_law_cross", "_law_most"] spGrown := by
  have G_draw : FnOk P w K mg base CX0 1 T.f_draw T.d_draw ["_law_state", "_law_size"] spDraw := ok_draw T
  refine T.F_grown.ok sc_grown (fun vs H Q E h => ?_) (fun cdv A outer s H vs Q E hr h => ?_)
  · obtain ⟨G, st, m, n, c, mo, rfl, _⟩ := h
    rfl
  · obtain ⟨G, st, m, n, c, mo, rfl, d0, hm, hn, hc, hmo, hmo2, k⟩ := h
    refine ⟨_, (pss_cons (ps_set (i := 4) sc_grown.nd rfl (Or.inl rfl) (pe_lst (pa_cons pe_int (pa_cons pe_int pa_nil))))
    (pss_cons (ps_set (i := 5) sc_grown.nd rfl (Or.inl rfl) (pe_lst (pa_cons (pe_tup (pa_cons pe_int (pa_cons pe_int pa_nil))) pa_nil)))
    (C8.pss_cut (ps_for PassesOwn.never rfl (pi_range1 rfl T.n_range (pa_cons (pv 1) pa_nil)) (pg_name (i := 6) sc_grown.nd rfl (Or.inl rfl))
      (pss_cons (ps_set (i := 7) sc_grown.nd rfl (Or.inl rfl) (pe_call G_draw (hr.mono (by decide)) rfl T.m_draw T.F_draw.kp T.b_draw .nil pass0 (pa_cons (pv 0) (pa_cons (pe_op op_add pe_int (pv 2)) pa_nil))))
    (pss_cons (ps_set (i := 8) sc_grown.nd rfl (Or.inl rfl) (pe_call G_draw (hr.mono (by decide)) rfl T.m_draw T.F_draw.kp T.b_draw .nil pass0 (pa_cons (pv 0) (pa_cons (pe_callB call_len_seq (by rfl) T.n_len (by decide +kernel) (pa_cons (pv 5) pa_nil)) pa_nil))))
    (pss_cons (ps_asg (pe_ix ix_list (pv 5) (pv 8) (fun _ _ => rfl)) (pg_tup rfl (pgs_cons (pg_name (i := 9) sc_grown.nd rfl (Or.inl rfl)) (pgs_cons (pg_name (i := 10) sc_grown.nd rfl (Or.inl rfl)) pgs_nil))))
    (pss_one (ps_if (PW.pt (pw_and (pt_cmpR op_eq (pv 7) pe_int (nomark _)) (pw_and1 (pt_cmpR op_lt (pe_callB call_len_seq (by rfl) T.n_len (by decide +kernel) (pa_cons (pv 4) pa_nil)) (pv 3) (nomark _)))))
      (pss_cons (ps_set (i := 11) sc_grown.nd rfl (Or.inl rfl) (pe_callB call_len_seq (by rfl) T.n_len (by decide +kernel) (pa_cons (pv 4) pa_nil)))
    (pss_cons (ps_set (i := 12) sc_grown.nd rfl (Or.inl rfl) (pe_op op_add (pe_bm PySem.F.plainAttrs_list PySem.F.slot_list_index PySem.F.type_list_index mt_index (pv 4) (pa_cons (pv 9) pa_nil)) pe_int))
    (pss_cons (ps_expr (pe_bm PySem.F.plainAttrs_list PySem.F.slot_list_insert PySem.F.type_list_insert mt_insert (pv 4) (pa_cons (pe_op op_add (pv 12) (pe_call G_draw (hr.mono (by decide)) rfl T.m_draw T.F_draw.kp T.b_draw .nil pass0 (pa_cons (pv 0) (pa_cons (pe_op op_sub (pe_op op_add (pe_bm PySem.F.plainAttrs_list PySem.F.slot_list_index PySem.F.type_list_index mt_index (pv 4) (pa_cons (pv 10) pa_nil)) pe_int) (pv 12)) pa_nil)))) (pa_cons (pv 11) pa_nil))))
    (pss_cons (ps_asg (pe_tup (pa_cons (pv 9) (pa_cons (pv 11) pa_nil))) (pg_sub (pv 5) (pv 8) set_list))
    (pss_one (ps_expr (pe_bm PySem.F.plainAttrs_list PySem.F.slot_list_append PySem.F.type_list_append mt_append (pv 5) (pa_cons (pe_tup (pa_cons (pv 11) (pa_cons (pv 10) pa_nil))) pa_nil))))))))
      (pss_one (ps_if (pt_cmpR op_gt (pv 7) pe_int (nomark _))
      (pss_cons (ps_set (i := 13) sc_grown.nd rfl (Or.inl rfl) (pe_call G_draw (hr.mono (by decide)) rfl T.m_draw T.F_draw.kp T.b_draw .nil pass0 (pa_cons (pv 0) (pa_cons (pe_op op_sub (pe_callB call_len_seq (by rfl) T.n_len (by decide +kernel) (pa_cons (pv 4) pa_nil)) pe_int) pa_nil))))
    (pss_one (ps_expr (pe_bm PySem.F.plainAttrs_list PySem.F.slot_list_append PySem.F.type_list_append mt_append (pv 5) (pa_cons (pe_tup (pa_cons (pe_ix ix_list (pv 4) (pv 13) (fun _ _ => rfl)) (pa_cons (pe_ix ix_list (pv 4) (pe_op op_add (pe_op op_add (pv 13) pe_int) (pe_call G_draw (hr.mono (by decide)) rfl T.m_draw T.F_draw.kp T.b_draw .nil pass0 (pa_cons (pv 0) (pa_cons (pe_op op_sub (pe_op op_sub (pe_callB call_len_seq (by rfl) T.n_len (by decide +kernel) (pa_cons (pv 4) pa_nil)) pe_int) (pv 13)) pa_nil)))) (fun _ _ => rfl)) pa_nil))) pa_nil)))))
      (pss_one (ps_expr (pe_bm PySem.F.plainAttrs_list PySem.F.slot_list_append PySem.F.type_list_append mt_append (pv 5) (pa_cons (pe_tup (pa_cons (pv 9) (pa_cons (pv 10) pa_nil))) pa_nil))))))))))))
    (pss_one (ps_ret (pe_tup (pa_cons (pv 5) (pa_cons (pe_callB call_len_seq (by rfl) T.n_len (by decide +kernel) (pa_cons (pv 4) pa_nil)) pa_nil)))))))), ?_⟩
    refine ⟨by show 2 ≤ sizeLine; decide, fun o no => ?_⟩
    have d1 := d0.new (o := .lst [V.int 0, V.int 1]) no
    refine ⟨by show 2 ≤ sizeLine; decide, fun t0 nt0 => ?_⟩
    have d2 := d1.new (o := .tup [V.int 0, V.int 1]) nt0
    refine ⟨by show 1 ≤ sizeLine; decide, fun l nl => ?_⟩
    have d3 := d2.new (o := .lst [V.ref t0]) nl
    have nl2 := nl
    have nlt : l ≠ t0 := fun z => by rw [z, upd_same] at nl; cases nl
    rw [upd_ne nlt] at nl2
    have nlo : l ≠ o := fun z => by rw [z, upd_same] at nl2; cases nl2
    rw [upd_ne nlo] at nl2
    have not_ : t0 ≠ o := fun z => by rw [z, upd_same] at nt0; cases nt0
    have nt2 := nt0
    rw [upd_ne not_] at nt2
    have fo := d0.free no
    have fl := d0.free nl2
    have ft := d0.free nt2
    have ga0 : GrownAt G (upd (upd (upd G o (.lst [V.int 0, V.int 1])) t0 (.tup [V.int 0, V.int 1])) l (.lst [V.ref t0])) o l [(0, 1)] [0, 1] := by
      refine ⟨((same_upd fo).trans (same_upd (by rw [upd_ne not_]; exact ft))).trans (same_upd (by rw [upd_ne nlt, upd_ne nlo]; exact fl)), fo, fl, nlo.symm, ?_, [t0], upd_same, .cons ?_ .nil⟩
      · rw [upd_ne nlo.symm, upd_ne not_.symm, upd_same]; rfl
      · show upd _ _ _ _ = _
        rw [upd_ne nlt.symm, upd_same]; rfl
    refine ⟨fun σ H' => ∃ G' ps ord x6 x7 x8 x9 x10 x11 x12 x13, σ = [some (.ref st), some (.int n), some (.int c), some (.int mo), some (.ref o), some (.ref l), x6, x7, x8, x9, x10, x11, x12, x13] ∧ DSt G' H' st (m + 4 * n) ∧ GrownAt G G' o l ps ord ∧ Grown ps ord ∧ ps.length = n + 1 ∧ ord.length ≤ mo, ?_, ?_⟩
    · refine ⟨_, rfl, _, rfl, by omega, by omega, ?_⟩
      refine for_range (lo := 0) (n := n) (fun i σ H' => ∃ G' ps ord x6 x7 x8 x9 x10 x11 x12 x13, σ = [some (.ref st), some (.int n), some (.int c), some (.int mo), some (.ref o), some (.ref l), x6, x7, x8, x9, x10, x11, x12, x13] ∧ DSt G' H' st (m + 4 * i) ∧ GrownAt G G' o l ps ord ∧ Grown ps ord ∧ ps.length = i + 1 ∧ ord.length ≤ mo)
        ⟨_, _, _, none, none, none, none, none, none, none, none, rfl, d3, ga0, Grown.start, rfl, hmo⟩ ?_ ?_
      · rintro i σ H' hi ⟨G', ps, ord, x6, x7, x8, x9, x10, x11, x12, x13, rfl, d, ga, gr, hpl, hol⟩
        have plus : DSt G' H' st (m + 4 * i) := d
        refine ⟨_, rfl, _, rfl, _, _, rfl, rfl, G', st, m + 4 * i, _, rfl, d, by omega, by omega, Int.lt_of_le_of_lt (b := 100) (by omega) (by decide), fun r H1 r0 r1 d1 => ?_⟩
        obtain ⟨qs, hl1, hps⟩ := ga.hp
        have hql : (qs.map V.ref).length = ps.length := by rw [List.length_map, hps.length]
        refine ⟨_, rfl, _, rfl, l, _, rfl, .inl (SqL.of (d1.same _ _ hl1)), G', st, m + 4 * i + 1, _, rfl, d1, by omega, by rw [hql]; omega, Int.lt_of_le_of_lt (b := 100) (by rw [hql]; omega) (by decide), fun sp H2 s0 s1 d2 => ?_⟩
        rw [hql] at s1
        obtain ⟨sn, rfl⟩ : ∃ sn : Nat, sp = (sn : Int) := ⟨sp.toNat, by omega⟩
        have hsn : sn < ps.length := by omega
        obtain ⟨q, hq⟩ : ∃ q, qs[sn]? = some q := ⟨_, List.getElem?_eq_getElem (by rw [hps.length]; exact hsn)⟩
        obtain ⟨p, hp, hqp⟩ := L2.paired_get hps hq
        obtain ⟨a, b⟩ := p
        have hqp : G' q = some (.tup [.int (a : Int), .int (b : Int)]) := hqp
        refine ⟨_, rfl, _, rfl, l, _, _, .ref q, rfl, rfl, SqL.of (d2.same _ _ hl1), atI_nat (by rw [List.getElem?_map, hq]; rfl), q, _, rfl, SqT.of (d2.same _ _ hqp), rfl, _, _, rfl, _, _, rfl, rfl, ?_⟩
        have hord : (ord.map fun v : Nat => V.int (v : Int)).length = ord.length := List.length_map _
        have ho2 := d2.same _ _ ga.ho
        have hl2 := d2.same _ _ hl1
        obtain ⟨ia, jb, hia, hjb, hij⟩ := gr.up _ (List.mem_of_getElem? hp)
        have hjl := (List.getElem?_eq_some_iff.mp hjb).1
        have htwo := gr.two
        have grs := gr.add hia hjb hij
        have m1 : m + 4 * i + 1 + 1 ≤ m + 4 * (i + 1) := by omega
        refine ⟨_, rfl, rfl, _, rfl, ?_⟩
        by_cases hr0 : r = 0
        · rw [show decide (V.int r = V.int 0) = true from decide_eq_true (by rw [hr0])]
          refine iteT ?_
          refine ⟨_, rfl, o, _, rfl, .inl (SqL.of ho2), _, rfl, _, _, rfl, rfl, _, rfl, ite2 (fun hlt => ?_) fun hlt => ?_⟩
          · have hlt' : ord.length < mo := by
              have := of_decide_eq_true hlt
              rw [hord] at this
              omega
            obtain ⟨xa1, xa2, xa3⟩ := index_ints gr.nd hia
            obtain ⟨xb1, xb2, xb3⟩ := index_ints gr.nd hjb
            refine ⟨_, rfl, o, _, rfl, .inl (SqL.of ho2), ?_⟩
            refine ⟨_, rfl, .inl ⟨rfl, _, SqL.of ho2⟩, _, rfl, o, _, .int (a : Int), ia, _, rfl, rfl, SqL.of ho2, rfl, flat_nats ord, xa1, xa2, xa3, _, 1, rfl, rfl, ?_⟩
            refine ⟨_, rfl, .inl ⟨rfl, _, SqL.of ho2⟩, _, rfl, _, rfl, _, rfl, .inl ⟨rfl, _, SqL.of ho2⟩, _, rfl, o, _, .int (b : Int), jb, _, rfl, rfl, SqL.of ho2, rfl, flat_nats ord, xb1, xb2, xb3, _, 1, rfl, rfl, _, rfl, _, _, rfl, rfl, G', st, m + 4 * i + 1 + 1, _, rfl, d2, by omega, by omega, Int.lt_of_le_of_lt (b := 100) (by omega) (by decide), fun rp H3 p0 p1 d3 => ?_⟩
            obtain ⟨rn, rfl⟩ : ∃ rn : Nat, rp = (rn : Int) := ⟨rp.toNat, by omega⟩
            have p1' : rn < jb - ia := by
              have : (rn : Int) < (jb : Int) + 1 - ((ia : Int) + 1) := p1
              omega
            have ho3 := d3.same _ _ ga.ho
            have epos : ((ia : Int) + 1 + (rn : Int)) = ((ia + 1 + rn : Nat) : Int) := by omega
            refine ⟨_, _, rfl, rfl, _, rfl, o, _, _, _, rfl, rfl, ho3, small1000 (by rw [hord]; omega), by show (0 : Int) ≤ (ia : Int) + 1 + (rn : Int); omega, Int.lt_of_le_of_lt (b := 1000) (by show (ia : Int) + 1 + (rn : Int) ≤ 1000; omega) (by decide), ?_⟩
            have eins : (List.take ((ia : Int) + 1 + (rn : Int)).toNat (ord.map fun v : Nat => V.int (v : Int)) ++ [V.int ((ord.map fun v : Nat => V.int (v : Int)).length : Nat)] ++ List.drop ((ia : Int) + 1 + (rn : Int)).toNat (ord.map fun v : Nat => V.int (v : Int))) = (insAt ord (ia + 1 + rn) ord.length).map fun v : Nat => V.int (v : Int) := by
              rw [epos, Int.toNat_natCast, hord]
              unfold insAt
              rw [List.map_append, List.map_append, List.map_take, List.map_drop]
              rfl
            have dA := d3.put (p := o) (o := .lst ((insAt ord (ia + 1 + rn) ord.length).map fun v : Nat => V.int (v : Int))) ga.ho
            have gA := ga.setO (ord' := insAt ord (ia + 1 + rn) ord.length)
            have hAl : (upd G' o (.lst ((insAt ord (ia + 1 + rn) ord.length).map fun v : Nat => V.int (v : Int)))) l = some (.lst (qs.map V.ref)) := by rw [upd_ne ga.ne.symm]; exact hl1
            have hAp : Paired (PairAt (upd G' o (.lst ((insAt ord (ia + 1 + rn) ord.length).map fun v : Nat => V.int (v : Int))))) qs ps := paired_on (fun x y e => by show upd _ _ _ _ = _; rw [upd_ne (fun z => by rw [z] at e; have e2 : G' o = _ := e; rw [ga.ho] at e2; cases e2)]; exact e) hps
            dsimp only
            rw [eins]
            generalize upd G' o (.lst ((insAt ord (ia + 1 + rn) ord.length).map fun v : Nat => V.int (v : Int))) = GA at dA gA hAl hAp
            generalize upd H3 o (.lst ((insAt ord (ia + 1 + rn) ord.length).map fun v : Nat => V.int (v : Int))) = HA at dA
            refine ⟨_, rfl, _, rfl, by show 2 ≤ sizeLine; decide, fun t nt => ?_⟩
            have dB := dA.new (o := .tup [.int (a : Int), .int (ord.length : Int)]) nt
            have ntG := dA.free nt
            rw [hord]
            have hBl : (upd GA t (.tup [.int (a : Int), .int (ord.length : Int)])) l = some (.lst (qs.map V.ref)) := same_upd ntG _ _ hAl
            have hBp : Paired (PairAt (upd GA t (.tup [.int (a : Int), .int (ord.length : Int)]))) qs ps := paired_on (fun _ _ e => same_upd ntG _ _ e) hAp
            have hBt : PairAt (upd GA t (.tup [.int (a : Int), .int (ord.length : Int)])) t (a, ord.length) := upd_same
            have gB := gA.new (u := .tup [.int (a : Int), .int (ord.length : Int)]) ntG
            have gC := gB.setP (paired_set (i := sn) hBt hBp)
            have dC := dB.put (p := l) (o := .lst ((qs.set sn t).map V.ref)) hBl
            refine ⟨_, rfl, _, rfl, l, _, _, sn, rfl, rfl, dB.same _ _ hBl, ix_nat (by rw [hql]; exact hsn), ?_⟩
            rw [show (qs.map V.ref).set sn (V.ref t) = (qs.set sn t).map V.ref from by rw [List.map_set]]
            have hCl : (upd (upd GA t (.tup [.int (a : Int), .int (ord.length : Int)])) l (.lst ((qs.set sn t).map V.ref))) l = some (.lst ((qs.set sn t).map V.ref)) := upd_same
            obtain ⟨qs2, hCl2, hCp⟩ := gC.hp
            have eq2 : qs2 = qs.set sn t := by
              rw [hCl] at hCl2
              have := HO.lst.inj (Option.some.inj hCl2)
              exact (List.map_inj_right (f := V.ref) (fun x y e => V.ref.inj e)).mp this.symm
            rw [eq2] at hCp
            generalize upd (upd GA t (.tup [.int (a : Int), .int (ord.length : Int)])) l (.lst ((qs.set sn t).map V.ref)) = GC at dC gC hCl hCp
            generalize upd (upd HA t (.tup [.int (a : Int), .int (ord.length : Int)])) l (.lst ((qs.set sn t).map V.ref)) = HC at dC ⊢
            have hClh := dC.same _ _ hCl
            refine ⟨_, rfl, .inl ⟨rfl, _, SqL.of hClh⟩, _, rfl, _, rfl, by show 2 ≤ sizeLine; decide, fun t2 nt2 => ?_⟩
            have hl3 := same_upd (o := .tup [.int (ord.length : Int), .int (b : Int)]) nt2 _ _ hClh
            obtain ⟨dd, gg⟩ := app_pair (dC.mono (m' := m + 4 * (i + 1)) (by omega)) gC hCl hCp nt2 ord.length b
            refine ⟨l, _, _, rfl, rfl, hl3, small1000 (by rw [List.length_map, List.length_set, hps.length]; omega), _, _, _, _, _, _, _, _, _, _, _, rfl, dd, gg, gr.split hp hia hjb (by omega) (by omega), by rw [List.length_append, List.length_set, hpl]; rfl, by rw [ins_len]; omega⟩
          · refine ⟨_, rfl, _, _, rfl, rfl, _, rfl, ?_⟩
            rw [show decide ((1 : Int) < r) = false from decide_eq_false (by omega)]
            refine iteF ?_
            refine ⟨_, rfl, .inl ⟨rfl, _, SqL.of hl2⟩, _, rfl, _, rfl, by show 2 ≤ sizeLine; decide, fun t nt => ?_⟩
            have hl3 := same_upd (o := .tup [.int (a : Int), .int (b : Int)]) nt _ _ hl2
            obtain ⟨dd, gg⟩ := app_pair (d2.mono m1) ga hl1 hps nt a b
            exact ⟨l, _, _, rfl, rfl, hl3, small1000 (by rw [hql]; omega), _, _, _, _, _, _, _, _, _, _, _, rfl, dd, gg, grs, by rw [List.length_append, hpl]; rfl, hol⟩
        · rw [show decide (V.int r = V.int 0) = false from decide_eq_false (fun z => hr0 (V.int.inj z))]
          refine iteF ?_
          refine ⟨_, rfl, _, _, rfl, rfl, _, rfl, ite2 (fun h1 => ?_) fun h1 => ?_⟩
          · refine ⟨_, rfl, _, rfl, o, _, rfl, .inl (SqL.of ho2), _, 1, rfl, rfl, G', st, m + 4 * i + 1 + 1, _, rfl, d2, by omega, by rw [hord]; omega, Int.lt_of_le_of_lt (b := 100) (by rw [hord]; omega) (by decide), fun kp H3 p0 p1 d3 => ?_⟩
            rw [hord] at p1
            obtain ⟨kn, rfl⟩ : ∃ kn : Nat, kp = (kn : Int) := ⟨kp.toNat, by omega⟩
            have hkn : kn + 1 < ord.length := by omega
            have ho3 := d3.same _ _ ga.ho
            refine ⟨_, rfl, .inl ⟨rfl, _, SqL.of (d3.same _ _ hl1)⟩, _, rfl, _, rfl, o, _, _, .int (ord[kn] : Nat), rfl, rfl, SqL.of ho3, atI_nat (by rw [List.getElem?_map, List.getElem?_eq_getElem (by omega)]; rfl), ?_⟩
            refine ⟨_, rfl, _, rfl, _, 1, rfl, rfl, _, rfl, _, rfl, o, _, rfl, .inl (SqL.of ho3), _, 1, rfl, rfl, _, rfl, _, _, rfl, rfl, G', st, m + 4 * i + 1 + 1 + 1, _, rfl, d3, by omega, by rw [hord]; omega, Int.lt_of_le_of_lt (b := 100) (by rw [hord]; omega) (by decide), fun jp H4 j0 j1 d4 => ?_⟩
            rw [hord] at j1
            obtain ⟨jn, rfl⟩ : ∃ jn : Nat, jp = (jn : Int) := ⟨jp.toNat, by omega⟩
            have hjn : kn + 1 + jn < ord.length := by omega
            have ho4 := d4.same _ _ ga.ho
            have eidx : ((kn : Int) + 1 + (jn : Int)) = ((kn + 1 + jn : Nat) : Int) := by omega
            refine ⟨_, _, rfl, rfl, o, _, _, .int (ord[kn + 1 + jn] : Nat), rfl, rfl, SqL.of ho4, (by show atI _ ((kn : Int) + 1 + (jn : Int)) = _; rw [eidx]; exact atI_nat (by rw [List.getElem?_map, List.getElem?_eq_getElem hjn]; rfl)), by show 2 ≤ sizeLine; decide, fun t nt => ?_⟩
            have hl4 := same_upd (o := .tup [.int (ord[kn] : Nat), .int (ord[kn + 1 + jn] : Nat)]) nt _ _ (d4.same _ _ hl1)
            obtain ⟨dd, gg⟩ := app_pair (d4.mono (m' := m + 4 * (i + 1)) (by omega)) ga hl1 hps nt ord[kn] ord[kn + 1 + jn]
            exact ⟨l, _, _, rfl, rfl, hl4, small1000 (by rw [hql]; omega), _, _, _, _, _, _, _, _, _, _, _, rfl, dd, gg, gr.add (List.getElem?_eq_getElem (by omega)) (List.getElem?_eq_getElem hjn) (by omega), by rw [List.length_append, hpl]; rfl, hol⟩
          · rename_i hr
            have hr1 : ¬ (1 : Int) < r := fun z => h1 (decide_eq_true z)
            refine ⟨_, rfl, .inl ⟨rfl, _, SqL.of hl2⟩, _, rfl, _, rfl, by show 2 ≤ sizeLine; decide, fun t nt => ?_⟩
            have hl3 := same_upd (o := .tup [.int (a : Int), .int (b : Int)]) nt _ _ hl2
            obtain ⟨dd, gg⟩ := app_pair (d2.mono m1) ga hl1 hps nt a b
            exact ⟨l, _, _, rfl, rfl, hl3, small1000 (by rw [hql]; omega), _, _, _, _, _, _, _, _, _, _, _, rfl, dd, gg, grs, by rw [List.length_append, hpl]; rfl, hol⟩
      · rintro σ H' ⟨G', ps, ord, x6, x7, x8, x9, x10, x11, x12, x13, e, d, ga, gr, hpl, hol⟩
        exact ⟨G', ps, ord, x6, x7, x8, x9, x10, x11, x12, x13, e, d, ga, gr, hpl, hol⟩
    · rintro σ H' ⟨G', ps, ord, x6, x7, x8, x9, x10, x11, x12, x13, rfl, d, ga, gr, hpl, hol⟩
      have hord : (ord.map fun v : Nat => V.int (v : Int)).length = ord.length := List.length_map _
      refine ⟨_, rfl, _, rfl, o, _, rfl, .inl (SqL.of (d.same _ _ ga.ho)), by show 2 ≤ sizeLine; decide, fun t nt => ?_⟩
      have dd := d.new (o := .tup [.ref l, .int (ord.map fun v : Nat => V.int (v : Int)).length]) nt
      have gg := ga.new (u := .tup [.ref l, .int (ord.map fun v : Nat => V.int (v : Int)).length]) (d.free nt)
      exact k t l ps ord _ _ gg.sm dd (by rw [upd_same, hord]) gg.hp gr hpl hol
end

section
variable {P : Program} {w : World} {K : PySem.W.Frag} {mg : Str → Option Value} {base : Heap}
theorem seqIx {n i : Nat} (h : i < n) : seqIndex? (i : Int) n = some i := by
  unfold seqIndex?
  rw [if_neg (show ¬ (i : Int) < 0 by omega)]
  dsimp only
  rw [if_pos (by simp; exact h)]
  rfl
theorem erase_at {α : Type} : ∀ {l : List α} {k : Nat} {y : α}, l[k]? = some y → (y :: l.eraseIdx k).Perm l
  | [], k, y, h => by simp at h
  | x :: l, 0, y, h => by
    obtain rfl : x = y := Option.some.inj h
    exact List.Perm.refl _
  | x :: l, k + 1, y, h => by
    have ih := erase_at (l := l) (k := k) (y := y) h
    exact (List.Perm.swap x y _).trans (ih.cons x)
def spShuf : Sp := fun vs H Q _ => ∃ (G : Hp) (st a : Addr) (m : Nat) (xs : List V), vs = [.ref st, .ref a] ∧ DSt G H st m ∧ m < 900000 ∧ G a = some (.lst xs) ∧ xs.length ≤ 30 ∧
  ∀ (l : Addr) (ys : List V) (H' : Hp), G l = none → DSt (upd G l (.lst ys)) H' st (m + xs.length) → ys.Perm xs → Q (.ref l) H'
theorem ok_shuf (T : Txt K mg) : FnOk P w K mg base CX0 2 T.f_shuffled T.d_shuffled ["_law_state", "_law_items"] spShuf := by
  have G_draw : FnOk P w K mg base CX0 1 T.f_draw T.d_draw ["_law_state", "_law_size"] spDraw := ok_draw T
  refine T.F_shuffled.ok sc_shuffled (fun vs H Q E h => ?_) (fun cdv A outer s H vs Q E hr h => ?_)
  · obtain ⟨G, st, a, m, xs, rfl, _⟩ := h
    rfl
  · obtain ⟨G, st, a, m, xs, rfl, d0, hm, ha, hx, k⟩ := h
    refine ⟨_, (pss_cons (ps_set (i := 2) sc_shuffled.nd rfl (Or.inl rfl) (pe_callTy call_list_of (by rfl) T.n_list (by decide +kernel) (pa_cons (pv 1) pa_nil)))
    (pss_cons (ps_set (i := 3) sc_shuffled.nd rfl (Or.inl rfl) (pe_lst pa_nil))
    (C8.pss_cut (ps_for PassesOwn.never rfl (pi_range1 rfl T.n_range (pa_cons (pe_callB call_len_seq (by rfl) T.n_len (by decide +kernel) (pa_cons (pv 1) pa_nil)) pa_nil)) (pg_name (i := 4) sc_shuffled.nd rfl (Or.inl rfl))
      (pss_one (ps_expr (pe_bm PySem.F.plainAttrs_list PySem.F.slot_list_append PySem.F.type_list_append mt_append (pv 3) (pa_cons (pe_bm PySem.F.plainAttrs_list PySem.F.slot_list_pop PySem.F.type_list_pop mt_popAt (pv 2) (pa_cons (pe_call G_draw (hr.mono (by decide)) rfl T.m_draw T.F_draw.kp T.b_draw .nil pass0 (pa_cons (pv 0) (pa_cons (pe_callB call_len_seq (by rfl) T.n_len (by decide +kernel) (pa_cons (pv 2) pa_nil)) pa_nil))) pa_nil)) pa_nil)))))
    (pss_one (ps_ret (pv 3)))))), ?_⟩
    refine ⟨_, rfl, a, _, rfl, .inl (SqL.of (d0.same _ _ ha)), fun R nR => ?_⟩
    have d1 := d0.new (o := .lst xs) nR
    refine ⟨Nat.zero_le _, fun L nL => ?_⟩
    have d2 := d1.new (o := .lst []) nL
    have nRG := d0.free nR
    have LR : L ≠ R := fun z => by rw [z, upd_same] at nL; cases nL
    rw [upd_ne LR] at nL
    have nLG := d0.free nL
    have aR : a ≠ R := fun z => by rw [z, nRG] at ha; cases ha
    have aL : a ≠ L := fun z => by rw [z, nLG] at ha; cases ha
    refine ⟨fun σ H' => ∃ x4 ys, σ = [some (.ref st), some (.ref a), some (.ref R), some (.ref L), x4] ∧ DSt (upd (upd G R (.lst [])) L (.lst ys)) H' st (m + xs.length) ∧ ys.Perm xs, ?_, ?_⟩
    · refine ⟨_, rfl, a, _, rfl, .inl (SqL.of (d2.same a _ (by rw [upd_ne aL, upd_ne aR]; exact ha))), _, rfl, by omega, by omega, ?_⟩
      refine for_range (lo := 0) (n := xs.length) (fun i σ H' => ∃ x4 ys zs, σ = [some (.ref st), some (.ref a), some (.ref R), some (.ref L), x4] ∧ DSt (upd (upd G R (.lst zs)) L (.lst ys)) H' st (m + i) ∧ (ys ++ zs).Perm xs ∧ ys.length = i) ⟨_, [], xs, rfl, d2, List.Perm.refl _, rfl⟩ ?_ ?_
      · rintro i σ H' hi ⟨x4, ys, zs, rfl, d, pm, hy⟩
        have hlen : ys.length + zs.length = xs.length := by rw [← List.length_append]; exact pm.length_eq
        have hR : (upd (upd G R (.lst zs)) L (.lst ys)) R = some (.lst zs) := by rw [upd_ne LR.symm, upd_same]
        have hL : (upd (upd G R (.lst zs)) L (.lst ys)) L = some (.lst ys) := upd_same
        refine ⟨_, rfl, .inl ⟨rfl, _, SqL.of (d.same _ _ hL)⟩, _, rfl, .inl ⟨rfl, _, SqL.of (d.same _ _ hR)⟩, _, rfl, _, rfl, R, _, rfl, .inl (SqL.of (d.same _ _ hR)), _, st, m + i, _, rfl, d, by omega, by omega, Int.lt_of_le_of_lt (b := 100) (by omega) (by decide), fun rp H1 r0 r1 d1 => ?_⟩
        obtain ⟨rn, rfl⟩ : ∃ rn : Nat, rp = (rn : Int) := ⟨rp.toNat, by omega⟩
        have hrn : rn < zs.length := by omega
        have hR1 := d1.same _ _ hR
        have hzn : zs[rn]? = some zs[rn] := List.getElem?_eq_getElem hrn
        refine ⟨R, zs, _, rn, zs[rn], rfl, rfl, hR1, by omega, by omega, seqIx hrn, hzn, ?_⟩
        have d2 := d1.put (p := R) (o := .lst (zs.eraseIdx rn)) hR
        have hL2 : (upd (upd (upd G R (.lst zs)) L (.lst ys)) R (.lst (zs.eraseIdx rn))) L = some (.lst ys) := by rw [upd_ne LR]; exact hL
        refine ⟨L, ys, zs[rn], rfl, rfl, d2.same _ _ hL2, small1000 (by omega), ?_⟩
        have d3 := d2.put (p := L) (o := .lst (ys ++ [zs[rn]])) hL2
        refine ⟨_, ys ++ [zs[rn]], zs.eraseIdx rn, rfl, ?_, ?_, by rw [List.length_append, hy]; rfl⟩
        · refine (d3.less fun c o hc => ?_).mono (by omega)
          by_cases e : c = L
          · rw [e] at hc ⊢; rw [upd_same] at hc ⊢; exact hc
          · rw [upd_ne e] at hc ⊢
            by_cases e2 : c = R
            · rw [e2] at hc ⊢; rw [upd_same] at hc ⊢; exact hc
            · rw [upd_ne e2] at hc ⊢
              rw [upd_ne e, upd_ne e2]; exact hc
        · rw [List.append_assoc]
          exact (List.Perm.append_left ys (erase_at hzn)).trans pm
      · rintro σ H' ⟨x4, ys, zs, rfl, d, pm, hy⟩
        have hz : zs = [] := by
          have := pm.length_eq
          rw [List.length_append, hy] at this
          cases zs with
          | nil => rfl
          | cons z r => rw [List.length_cons] at this; omega
        subst hz
        rw [List.append_nil] at pm
        exact ⟨x4, ys, rfl, d, pm⟩
    · rintro σ H' ⟨x4, ys, rfl, d, pm⟩
      refine ⟨_, rfl, k L ys H' nLG (d.less fun c o hc => ?_) pm⟩
      by_cases e : c = L
      · rw [e] at hc ⊢; exact (upd_same).trans (upd_same.symm.trans hc)
      · rw [upd_ne e] at hc ⊢
        rw [upd_ne (fun z => by rw [z, nRG] at hc; cases hc)]
        exact hc
end

/-! ### links that make a network -/
structure NetOk (es : List Ent) (s t : Str) (mo : Nat) : Prop where
  few : 1 ≤ es.length
  nd : (names es).Nodup
  ok : ∀ e ∈ es, (vn e.1 = true ∧ vn e.2.1 = true ∧ vn e.2.2 = true) ∧ WnE e
  hs : vn s = true ∧ Wn s
  ht : vn t = true ∧ Wn t
  ne : s ≠ t
  acy : ∀ p, ¬ Lead es p p
  use : ∀ e ∈ es, Useful es s t e
  sp : ∃ sp : List Str, sp.length ≤ mo ∧ s ∈ sp ∧ t ∈ sp ∧ ∀ e ∈ es, e.2.1 ∈ sp ∧ e.2.2 ∈ sp
theorem Useful.mono {es fs : List Ent} {s t : Str} {e : Ent} (h : Useful es s t e) (m : ∀ e ∈ es, e ∈ fs) : Useful fs s t e := ⟨h.1.imp id fun z => z.mono m, h.2.imp id fun z => z.mono m⟩
theorem NetOk.perm {es fs : List Ent} {s t : Str} {mo : Nat} (h : NetOk es s t mo) (p : fs.Perm es) : NetOk fs s t mo where
  few := by rw [p.length_eq]; exact h.few
  nd := (p.map fun e : Ent => e.1).nodup_iff.mpr h.nd
  ok := fun e he => h.ok e (p.mem_iff.mp he)
  hs := h.hs
  ht := h.ht
  ne := h.ne
  acy := fun q z => h.acy q (z.mono fun e he => p.mem_iff.mp he)
  use := fun e he => (h.use e (p.mem_iff.mp he)).mono fun e he => p.mem_iff.mpr he
  sp := let ⟨sp, a, b, c, d⟩ := h.sp; ⟨sp, a, b, c, fun e he => d e (p.mem_iff.mp he)⟩
def rowAt (ls ws : List Str) (ps : List (Nat × Nat)) (k : Nat) : Ent := (ls.getD k "", ws.getD (ps.getD k (0, 0)).1 "", ws.getD (ps.getD k (0, 0)).2 "")
def rowsOf (ls ws : List Str) (ps : List (Nat × Nat)) : List Ent := (List.range ps.length).map (rowAt ls ws ps)
theorem getD_of {α : Type} {l : List α} {i : Nat} {x d : α} (h : l[i]? = some x) : l.getD i d = x := by rw [List.getD_eq_getElem?_getD, h]; rfl
theorem row_pair {ls ws : List Str} {ps : List (Nat × Nat)} {p : Nat × Nat} (h : p ∈ ps) : ∃ l, (l, ws.getD p.1 "", ws.getD p.2 "") ∈ rowsOf ls ws ps := by
  obtain ⟨k, hk⟩ := List.mem_iff_getElem?.mp h
  refine ⟨ls.getD k "", List.mem_map.mpr ⟨k, List.mem_range.mpr (List.getElem?_eq_some_iff.mp hk).1, ?_⟩⟩
  unfold rowAt
  rw [getD_of hk]
theorem row_of {ls ws : List Str} {ps : List (Nat × Nat)} {e : Ent} (h : e ∈ rowsOf ls ws ps) : ∃ p ∈ ps, e.2.1 = ws.getD p.1 "" ∧ e.2.2 = ws.getD p.2 "" ∧ ∃ k < ps.length, e.1 = ls.getD k "" := by
  obtain ⟨k, hk, rfl⟩ := List.mem_map.mp h
  have hk := List.mem_range.mp hk
  refine ⟨ps[k], List.getElem_mem hk, ?_, ?_, k, hk, rfl⟩
  · unfold rowAt; rw [getD_of (List.getElem?_eq_getElem hk)]
  · unfold rowAt; rw [getD_of (List.getElem?_eq_getElem hk)]
theorem lead_of {ls ws : List Str} {ps : List (Nat × Nat)} {a b : Nat} (h : Ld ps a b) : Lead (rowsOf ls ws ps) (ws.getD a "") (ws.getD b "") := by
  induction h with
  | one hp =>
    obtain ⟨l, hl⟩ := row_pair (ls := ls) (ws := ws) hp
    exact Lead.one hl
  | more _ hp ih =>
    obtain ⟨l, hl⟩ := row_pair (ls := ls) (ws := ws) hp
    exact Lead.more ih hl
theorem names_rows {ls ws : List Str} {ps : List (Nat × Nat)} (h : ls.length = ps.length) : names (rowsOf ls ws ps) = ls := by
  unfold names rowsOf
  rw [List.map_map]
  refine List.ext_getElem? fun k => ?_
  rw [List.getElem?_map]
  by_cases hk : k < ps.length
  · rw [List.getElem?_range hk, List.getElem?_eq_getElem (by omega)]
    show some (ls.getD k "") = _
    rw [getD_of (List.getElem?_eq_getElem (by omega))]
  · rw [List.getElem?_eq_none (by rw [List.length_range]; omega), List.getElem?_eq_none (by omega)]
    rfl
theorem getD_inj {ws : List Str} (nd : ws.Nodup) {a b : Nat} (ha : a < ws.length) (hb : b < ws.length) (h : ws.getD a "" = ws.getD b "") : a = b := by
  rw [getD_of (List.getElem?_eq_getElem ha), getD_of (List.getElem?_eq_getElem hb)] at h
  rcases Nat.lt_trichotomy a b with z | z | z
  · exact absurd h (List.pairwise_iff_getElem.mp nd a b ha hb z)
  · exact z
  · exact absurd h.symm (List.pairwise_iff_getElem.mp nd b a hb ha z)
theorem rows_ok {ls ws : List Str} {ps : List (Nat × Nat)} {ord : List Nat} {mo : Nat} (g : Grown ps ord) (hw : NamesOk ws ord.length) (hl : ls.length = ps.length) (nl : ls.Nodup) (okl : ∀ z ∈ ls, vn z = true ∧ Wn z) (hps : 1 ≤ ps.length) (hmo : ord.length ≤ mo) :
    NetOk (rowsOf ls ws ps) (ws.getD 0 "") (ws.getD 1 "") mo := by
  have two := g.two
  have inw : ∀ v ∈ ord, v < ws.length := fun v hv => by rw [hw.len]; exact (g.all v).mp hv
  have memw : ∀ {v : Nat}, v < ws.length → ws.getD v "" ∈ ws := fun {v} hv => by rw [getD_of (List.getElem?_eq_getElem hv)]; exact List.getElem_mem hv
  have okw : ∀ {v : Nat}, v < ws.length → vn (ws.getD v "") = true ∧ Wn (ws.getD v "") := fun hv => hw.ok _ (memw hv)
  have pin : ∀ p ∈ ps, p.1 ∈ ord ∧ p.2 ∈ ord := fun p hp => by
    obtain ⟨i, j, e1, e2, _⟩ := g.up p hp
    exact ⟨List.mem_of_getElem? e1, List.mem_of_getElem? e2⟩
  have up : ∀ {p q : Str}, Lead (rowsOf ls ws ps) p q → ∃ a b i j : Nat, p = ws.getD a "" ∧ q = ws.getD b "" ∧ ord[i]? = some a ∧ ord[j]? = some b ∧ i < j := by
    intro p q h
    induction h with
    | one he =>
      obtain ⟨p, hp, e1, e2, _⟩ := row_of he
      obtain ⟨i, j, h1, h2, l⟩ := g.up p hp
      exact ⟨p.1, p.2, i, j, e1, e2, h1, h2, l⟩
    | more _ he ih =>
      obtain ⟨a, b, i, j, e1, e2, h1, h2, l⟩ := ih
      obtain ⟨p, hp, f1, f2, _⟩ := row_of he
      obtain ⟨i', j', g1, g2, l'⟩ := g.up p hp
      have eb : b = p.1 := getD_inj hw.nd (inw b (List.mem_of_getElem? h2)) (inw _ (List.mem_of_getElem? g1)) (e2.symm.trans f1)
      have ej : j = i' := by
        rw [eb] at h2
        obtain ⟨x1, y1⟩ := List.getElem?_eq_some_iff.mp h2
        obtain ⟨x2, y2⟩ := List.getElem?_eq_some_iff.mp g1
        rcases Nat.lt_trichotomy j i' with z | z | z
        · exact absurd (y1.trans y2.symm) (List.pairwise_iff_getElem.mp g.nd j i' x1 x2 z)
        · exact z
        · exact absurd (y2.trans y1.symm) (List.pairwise_iff_getElem.mp g.nd i' j x2 x1 z)
      exact ⟨a, p.2, i, j', e1, f2, h1, g2, by omega⟩
  refine ⟨by unfold rowsOf; rw [List.length_map, List.length_range]; exact hps, by rw [names_rows hl]; exact nl, fun e he => ?_, okw (by rw [hw.len]; omega), okw (by rw [hw.len]; omega), fun z => ?_, fun p h => ?_, fun e he => ?_, ws, by rw [hw.len]; exact hmo, memw (by rw [hw.len]; omega), memw (by rw [hw.len]; omega), fun e he => ?_⟩
  · obtain ⟨p, hp, e1, e2, k, hk, e3⟩ := row_of he
    have h1 := okw (inw _ (pin p hp).1)
    have h2 := okw (inw _ (pin p hp).2)
    have h3 := okl (ls.getD k "") (by rw [getD_of (List.getElem?_eq_getElem (show k < ls.length by omega))]; exact List.getElem_mem _)
    rw [← e1] at h1
    rw [← e2] at h2
    rw [← e3] at h3
    exact ⟨⟨h3.1, h1.1, h2.1⟩, h3.2, h1.2, h2.2⟩
  · have := getD_inj hw.nd (by rw [hw.len]; omega) (by rw [hw.len]; omega) z
    omega
  · obtain ⟨a, b, i, j, e1, e2, h1, h2, l⟩ := up h
    have eb : a = b := getD_inj hw.nd (inw a (List.mem_of_getElem? h1)) (inw b (List.mem_of_getElem? h2)) (e1.symm.trans e2)
    rw [eb] at h1
    obtain ⟨x1, y1⟩ := List.getElem?_eq_some_iff.mp h1
    obtain ⟨x2, y2⟩ := List.getElem?_eq_some_iff.mp h2
    exact absurd (y1.trans y2.symm) (List.pairwise_iff_getElem.mp g.nd i j x1 x2 l)
  · obtain ⟨p, hp, e1, e2, _⟩ := row_of he
    obtain ⟨m1, m2⟩ := pin p hp
    refine ⟨?_, ?_⟩
    · rw [e1]
      exact (g.front _ m1).imp (fun z => by rw [z]) fun z => lead_of z
    · rw [e2]
      exact (g.back _ m2).imp (fun z => by rw [z]) fun z => lead_of z
  · obtain ⟨p, hp, e1, e2, _⟩ := row_of he
    obtain ⟨m1, m2⟩ := pin p hp
    rw [e1, e2]
    exact ⟨memw (inw _ m1), memw (inw _ m2)⟩
/-! what the checks of such links say -/
theorem bad_none {zs : List Str} (h : ∀ z ∈ zs, vn z = true) : bad zs = none := by
  unfold bad
  rw [List.find?_eq_none]
  intro z hz
  rw [h z hz]
  decide
theorem nm_none : ∀ {es : List Ent} {ks : List Str}, (names es).Nodup → (∀ e ∈ es, e.1 ∉ ks) → (∀ e ∈ es, vn e.1 = true ∧ vn e.2.1 = true ∧ vn e.2.2 = true) → nmErr ks es = none
  | [], _, _, _, _ => rfl
  | e :: r, ks, nd, hk, ok => by
    have nd' : (e.1 :: names r).Nodup := nd
    obtain ⟨n1, n2⟩ := List.nodup_cons.mp nd'
    obtain ⟨o1, o2, o3⟩ := ok e List.mem_cons_self
    unfold nmErr
    rw [if_pos o1, if_neg (hk e List.mem_cons_self), bad_none (zs := [e.2.1, e.2.2]) (fun z hz => by
      rcases List.mem_cons.mp hz with h | h
      · rw [h]; exact o2
      · rw [List.mem_singleton.mp h]; exact o3)]
    refine nm_none n2 (fun f hf z => ?_) fun f hf => ok f (List.mem_cons_of_mem _ hf)
    rcases List.mem_append.mp z with z | z
    · exact hk f (List.mem_cons_of_mem _ hf) z
    · exact n1 (List.mem_map.mpr ⟨f, hf, List.mem_singleton.mp z⟩)
theorem NetOk.early {es : List Ent} {s t : Str} {mo : Nat} (h : NetOk es s t mo) (h10 : es.length ≤ 10) : earlyErr es s t = none := by
  unfold earlyErr
  rw [if_pos ⟨h.few, h10⟩, bad_none (zs := [s, t]) (fun z hz => by
    rcases List.mem_cons.mp hz with e | e
    · rw [e]; exact h.hs.1
    · rw [List.mem_singleton.mp e]; exact h.ht.1)]
  show (if s = t then _ else _) = _
  rw [if_neg h.ne, nm_none h.nd (fun _ _ => List.not_mem_nil) fun e he => (h.ok e he).1]
theorem NetOk.late {es : List Ent} {s t : Str} {mo : Nat} (h : NetOk es s t mo) : lateErr es s t = none := by
  have h1 : rdErr es = none := by
    unfold rdErr
    rw [List.find?_eq_none.mpr fun e he z => ?_]
    · rfl
    · exact h.acy _ ((of_round z).trans (.one he))
  have h2 : useErr es s t = none := by
    unfold useErr
    rw [List.find?_eq_none.mpr fun e he => by rw [useful_yes (h.use e he)]; decide]
    rfl
  unfold lateErr
  rw [h1]
  show (match useErr es s t with | some z => _ | none => _) = _
  rw [h2]
theorem NetOk.eight {es : List Ent} {s t : Str} {mo : Nat} (h : NetOk es s t mo) {ps : List Str} (hp : Places es s t ps) : ps.length ≤ mo := by
  obtain ⟨sp, a, b, c, d⟩ := h.sp
  refine Nat.le_trans (nd_len (places_nodup hp h.ne) fun q hq => ?_) a
  obtain ⟨ys, rfl, _, _, hm⟩ := hp
  rcases List.mem_cons.mp hq with z | z
  · rw [z]; exact b
  · rcases List.mem_append.mp z with z | z
    · have := ((hm q).mp z).1
      unfold endsOf at this
      obtain ⟨e, he, hq⟩ := List.mem_flatMap.mp this
      rcases List.mem_cons.mp hq with z | z
      · rw [z]; exact (d e he).1
      · rw [List.mem_singleton.mp z]; exact (d e he).2
    · rw [List.mem_singleton.mp z]; exact c

def RowT (H : Hp) (q : Addr) (e : Ent) : Prop := H q = some (.tup [.str e.1, .str e.2.1, .str e.2.2])
/-- links as a list of tuples -/
def RowsL (H : Hp) (l : Addr) (es : List Ent) : Prop := ∃ qs : List Addr, H l = some (.lst (qs.map V.ref)) ∧ Paired (RowT H) qs es
theorem RowsL.on {H H' : Hp} {l : Addr} {es : List Ent} (h : RowsL H l es) (s : Same H H') : RowsL H' l es := let ⟨qs, a, b⟩ := h; ⟨qs, s _ _ a, paired_on (fun _ _ e => s _ _ e) b⟩
theorem RowsL.rows {K : PySem.W.Frag} {H : Hp} {l : Addr} {es : List Ent} (h : RowsL H l es) : Rows K H l es := let ⟨qs, a, b⟩ := h; ⟨qs, .inl (SqL.of a), paired_on (fun _ _ e => .inl (SqT.of e)) b⟩
/-- a row more -/
theorem rows_put {G H : Hp} {st D U : Addr} {m : Nat} {qs : List Addr} {es : List Ent} {e : Ent} (d : DSt G H st m) (hD : G D = some (.lst (qs.map V.ref))) (hp : Paired (RowT G) qs es) (nU : H U = none) :
    DSt (upd (upd G U (.tup [.str e.1, .str e.2.1, .str e.2.2])) D (.lst (qs.map V.ref ++ [V.ref U]))) (upd (upd H U (.tup [.str e.1, .str e.2.1, .str e.2.2])) D (.lst (qs.map V.ref ++ [V.ref U]))) st m ∧
      (upd (upd G U (.tup [.str e.1, .str e.2.1, .str e.2.2])) D (.lst (qs.map V.ref ++ [V.ref U]))) D = some (.lst ((qs ++ [U]).map V.ref)) ∧
      Paired (RowT (upd (upd G U (.tup [.str e.1, .str e.2.1, .str e.2.2])) D (.lst (qs.map V.ref ++ [V.ref U])))) (qs ++ [U]) (es ++ [e]) := by
  have nG := d.free nU
  have DU : D ≠ U := ne_of_none hD nG
  have up : ∀ c o, (upd G U (.tup [.str e.1, .str e.2.1, .str e.2.2])) c = some (.tup o) → (upd (upd G U (.tup [.str e.1, .str e.2.1, .str e.2.2])) D (.lst (qs.map V.ref ++ [V.ref U]))) c = some (.tup o) := fun c o hc => by
    rw [upd_ne (fun z => by rw [z, upd_ne DU, hD] at hc; cases hc)]
    exact hc
  refine ⟨(d.new nU).put (p := D) (u := .lst (qs.map V.ref)) (by rw [upd_ne DU]; exact hD), by rw [upd_same, List.map_append]; rfl, ?_⟩
  exact paired_snoc (show RowT _ U e from up _ _ upd_same) (paired_on (fun _ _ h => up _ _ (same_upd nG _ _ h)) hp)
section
variable {P : Program} {w : World} {K : PySem.W.Frag} {mg : Str → Option Value} {base : Heap}
def spLNet : Sp := fun vs H Q _ => ∃ (G : Hp) (st : Addr) (m n c mo : Nat), vs = [.ref st, .int (n : Int), .int (c : Int), .int (mo : Int)] ∧ DSt G H st m ∧ m < 800000 ∧ n ≤ 9 ∧ c ≤ 5 ∧ 2 ≤ mo ∧ mo ≤ 20 ∧
  ∀ (t l : Addr) (es : List Ent) (a b : Str) (G' H' : Hp), Same G G' → DSt G' H' st (m + 100) → G' t = some (.tup [.ref l, .str a, .str b]) → RowsL G' l es → NetOk es a b mo → es.length = n + 1 → Q (.ref t) H'
theorem paired_perm {α β : Type} {F : α → β → Prop} : ∀ {xs xs' : List α} {ys : List β}, xs'.Perm xs → Paired F xs ys → ∃ ys' : List β, ys'.Perm ys ∧ Paired F xs' ys'
  | _, _, _, .nil, .nil => ⟨[], .nil, .nil⟩
  | _, _, _, .cons x p, .cons (b := y) a r => let ⟨ys', q, r'⟩ := paired_perm p r; ⟨y :: ys', q.cons y, .cons a r'⟩
  | _, _, _, .swap x y l, .cons (b := b1) a1 (.cons (b := b2) a2 r) => ⟨b2 :: b1 :: _, .swap _ _ _, .cons a2 (.cons a1 r)⟩
  | _, _, _, .trans p1 p2, h => let ⟨ys1, q1, r1⟩ := paired_perm p2 h; let ⟨ys2, q2, r2⟩ := paired_perm p1 r1; ⟨ys2, q2.trans q1, r2⟩
theorem paired_map {α β : Type} (f : α → β) : ∀ xs : List α, Paired (fun y x => y = f x) (xs.map f) xs
  | [] => .nil
  | x :: xs => .cons rfl (paired_map f xs)
theorem map_of_paired {α β : Type} {f : α → β} : ∀ {ys : List β} {xs : List α}, Paired (fun y x => y = f x) ys xs → ys = xs.map f
  | _, _, .nil => rfl
  | _, _, .cons a r => by rw [List.map_cons, ← map_of_paired r, a]
theorem map_perm_inv {α β : Type} {f : α → β} {xs : List α} {ys : List β} (h : ys.Perm (xs.map f)) : ∃ zs : List α, zs.Perm xs ∧ ys = zs.map f :=
  let ⟨zs, p, r⟩ := paired_perm h (paired_map f xs); ⟨zs, p, map_of_paired r⟩
theorem ok_lnet (T : Txt K mg) : FnOk P w K mg base CX0 3 T.f_net T.d_net ["_law_state", "_law_turns", "_law_cross", "_law_most"] spLNet := by
  have G_grown : FnOk P w K mg base CX0 2 T.f_grown T.d_grown ["_law_state", "_law_turns", "_law_cross", "_law_most"] spGrown := ok_grown T
  have G_names : FnOk P w K mg base CX0 2 T.f_names T.d_names ["_law_state", "_law_count"] spNms := ok_nms T
  have G_shuffled : FnOk P w K mg base CX0 2 T.f_shuffled T.d_shuffled ["_law_state", "_law_items"] spShuf := ok_shuf T
  refine T.F_net.ok sc_net (fun vs H Q E h => ?_) (fun cdv A outer s H vs Q E hr h => ?_)
  · obtain ⟨G, st, m, n, c, mo, rfl, _⟩ := h
    rfl
  · obtain ⟨G, st, m, n, c, mo, rfl, d0, hm, hn, hc, hmo, hmo2, k⟩ := h
    refine ⟨_, (pss_cons (ps_asg (pe_call G_grown (hr.mono (by decide)) rfl T.m_grown T.F_grown.kp T.b_grown .nil pass0 (pa_cons (pv 0) (pa_cons (pv 1) (pa_cons (pv 2) (pa_cons (pv 3) pa_nil))))) (pg_tup rfl (pgs_cons (pg_name (i := 4) sc_net.nd rfl (Or.inr rfl)) (pgs_cons (pg_name (i := 5) sc_net.nd rfl (Or.inl rfl)) pgs_nil))))
    (pss_cons (ps_set (i := 6) sc_net.nd rfl (Or.inr rfl) (pe_call G_names (hr.mono (by decide)) rfl T.m_names T.F_names.kp T.b_names .nil pass0 (pa_cons (pv 0) (pa_cons (pv 5) pa_nil))))
    (pss_cons (ps_set (i := 7) sc_net.nd rfl (Or.inr rfl) (pe_call G_shuffled (hr.mono (by decide)) rfl T.m_shuffled T.F_shuffled.kp T.b_shuffled .nil pass0 (pa_cons (pv 0) (pa_cons (pe_call G_names (hr.mono (by decide)) rfl T.m_names T.F_names.kp T.b_names .nil pass0 (pa_cons (pv 0) (pa_cons (pe_callB call_len_seq (by rfl) T.n_len (by decide +kernel) (pa_cons (pv 4) pa_nil)) pa_nil))) pa_nil))))
    (pss_cons (ps_setLc (i := 8) (own := [("_law_k", 9)]) (g := gName 9) (tt := tYes) rfl sc_net.nd rfl rfl (sw_true rfl rfl rfl (by decide +kernel)) (pi_range1 rfl T.n_range (pa_cons (pe_callB call_len_seq (by rfl) T.n_len (by decide +kernel) (pa_cons (pv 4) pa_nil)) pa_nil)) (blkOk_by (N := ["_law_state", "_law_turns", "_law_cross", "_law_most", "_law_pairs", "_law_count", "_law_spots_here", "_law_labels", "_law_rows", "_law_k"]) (sc := defScope s_net) (by decide +kernel)) (fun _ _ _ _ _ => pg_name (i := 9) sc_net.nd rfl (Or.inl rfl)) (fun _ _ _ _ _ => pts_nil) (fun _ _ _ _ _ => (pe_tup (pa_cons (pe_ix (show IxR _ (rIxL K) from ix_list) (pv 7) (pv 9) (fun _ _ => rfl)) (pa_cons (pe_ix (show IxR _ (rIxL K) from ix_list) (pv 6) (pe_ix (show IxR _ (rIxT K) from ix_tup) (pe_ix (show IxR _ (rIxL K) from ix_list) (pv 4) (pv 9) (fun _ _ => rfl)) pe_int (fun _ _ => rfl)) (fun _ _ => rfl)) (pa_cons (pe_ix (show IxR _ (rIxL K) from ix_list) (pv 6) (pe_ix (show IxR _ (rIxT K) from ix_tup) (pe_ix (show IxR _ (rIxL K) from ix_list) (pv 4) (pv 9) (fun _ _ => rfl)) pe_int (fun _ _ => rfl)) (fun _ _ => rfl)) pa_nil))))))
    (pss_one (ps_ret (pe_tup (pa_cons (pe_call G_shuffled (hr.mono (by decide)) rfl T.m_shuffled T.F_shuffled.kp T.b_shuffled .nil pass0 (pa_cons (pv 0) (pa_cons (pv 8) pa_nil))) (pa_cons (pe_ix ix_list (pv 6) pe_int (fun _ _ => rfl)) (pa_cons (pe_ix ix_list (pv 6) pe_int (fun _ _ => rfl)) pa_nil)))))))))), ?_⟩
    refine ⟨_, rfl, _, rfl, _, rfl, _, rfl, G, st, m, n, c, mo, rfl, d0, by omega, by omega, hc, hmo, hmo2, fun t l ps ord G1 H1 s1 d1 ht hps gr hpl hol => ?_⟩
    refine ⟨t, _, rfl, SqT.of (d1.same _ _ ht), rfl, _, _, rfl, _, _, rfl, rfl, ?_⟩
    refine ⟨_, rfl, _, rfl, G1, st, m + 4 * n, ord.length, rfl, d1, by omega, by omega, fun W ws H2 nW d2 hw => ?_⟩
    obtain ⟨qs, hl, hpr⟩ := hps
    have hlW : l ≠ W := fun z => by rw [z, nW] at hl; cases hl
    have hql : (qs.map V.ref).length = ps.length := by rw [List.length_map, hpr.length]
    have hl2 : (upd G1 W (.lst (ws.map V.str))) l = some (.lst (qs.map V.ref)) := by rw [upd_ne hlW]; exact hl
    refine ⟨_, rfl, _, rfl, _, rfl, l, _, rfl, .inl (SqL.of (d2.same _ _ hl2)), _, st, m + 4 * n + 9, ps.length, by rw [hql]; rfl, d2, by omega, by omega, fun L0 ls0 H3 nL0 d3 hls0 => ?_⟩
    have hW3 : (upd G1 W (.lst (ws.map V.str))) L0 = none := nL0
    refine ⟨_, st, L0, m + 4 * n + 9 + 9, _, rfl, d3, by omega, upd_same, by rw [List.length_map, hls0.len]; omega, fun L xs H4 nL d4 pxs => ?_⟩
    obtain ⟨ls, pls, rfl⟩ := map_perm_inv pxs
    rw [List.length_map, hls0.len] at d4
    have hlen : ls.length = ps.length := by rw [pls.length_eq, hls0.len]
    generalize hG4 : upd (upd (upd G1 W (.lst (ws.map V.str))) L0 (.lst (ls0.map V.str))) L (.lst (ls.map V.str)) = G4 at d4
    have nLW : L0 ≠ W := fun z => by rw [z, upd_same] at nL0; cases nL0
    have s4 : Same (upd G1 W (.lst (ws.map V.str))) G4 := by rw [← hG4]; exact (same_upd nL0).trans (same_upd nL)
    have hL4 : G4 L = some (.lst (ls.map V.str)) := by rw [← hG4]; exact upd_same
    have hW4 : G4 W = some (.lst (ws.map V.str)) := s4 _ _ upd_same
    have hl4 : G4 l = some (.lst (qs.map V.ref)) := s4 _ _ hl2
    have s14 : Same G1 G4 := (same_upd nW).trans s4
    have d4' := d4.mono (m' := m + 70) (by omega)
    refine ⟨_, rfl, l, _, rfl, .inl (SqL.of (d4.same _ _ hl4)), _, rfl, by omega, by rw [hql]; omega, fun D hD => ?_⟩
    have nDG := d4.free hD
    have hpr4 : Paired (PairAt G4) qs ps := paired_on (fun _ _ e => s14 _ _ e) hpr
    refine lc_range (lo := 0) (n := (qs.map V.ref).length) (fun i H' => ∃ Gi rs, Same G4 Gi ∧ DSt Gi H' st (m + 70) ∧ Gi D = some (.lst (rs.map V.ref)) ∧ Paired (RowT Gi) rs ((List.range i).map (rowAt ls ws ps))) ⟨_, [], same_upd nDG, d4'.new hD, upd_same, .nil⟩ ?_ ?_
    · rintro i H' hi ⟨Gi, rs, si, di, hDi, hri⟩
      rw [hql] at hi
      obtain ⟨q, hq⟩ : ∃ q, qs[i]? = some q := ⟨_, List.getElem?_eq_getElem (by rw [hpr.length]; exact hi)⟩
      obtain ⟨p, hp, hqp⟩ := L2.paired_get hpr4 hq
      have hqp' : G4 q = some (.tup [.int (p.1 : Int), .int (p.2 : Int)]) := hqp
      obtain ⟨x, y, hx, hy, _⟩ := gr.up p (List.mem_of_getElem? hp)
      have hp1 : p.1 < ws.length := by rw [hw.len]; exact (gr.all _).mp (List.mem_of_getElem? hx)
      have hp2 : p.2 < ws.length := by rw [hw.len]; exact (gr.all _).mp (List.mem_of_getElem? hy)
      have up : ∀ {c : Addr} {u : HO}, G4 c = some u → H' c = some u := fun hc => di.same _ _ (si _ _ hc)
      have idx : (0 + (i : Int)) = (i : Int) := Int.zero_add _
      have aL : atI (ls.map V.str) (0 + (i : Int)) = some (V.str (ls.getD i "")) := by rw [idx]; exact atI_nat (by rw [List.getElem?_map, List.getElem?_eq_getElem (show i < ls.length by omega), getD_of (List.getElem?_eq_getElem (show i < ls.length by omega))]; rfl)
      have aP : atI (qs.map V.ref) (0 + (i : Int)) = some (V.ref q) := by rw [idx]; exact atI_nat (by rw [List.getElem?_map, hq]; rfl)
      have aW : ∀ {v : Nat}, v < ws.length → atI (ws.map V.str) (v : Int) = some (V.str (ws.getD v "")) := fun {v} hv => atI_nat (by rw [List.getElem?_map, List.getElem?_eq_getElem hv, getD_of (List.getElem?_eq_getElem hv)]; rfl)
      refine ⟨rfl, _, rfl, _, rfl, L, _, _, _, rfl, rfl, SqL.of (up hL4), aL, ?_⟩
      refine ⟨_, rfl, _, rfl, _, rfl, l, _, _, _, rfl, rfl, SqL.of (up hl4), aP, q, _, _, .int (p.1 : Int), rfl, rfl, SqT.of (up hqp'), rfl, W, _, _, _, rfl, rfl, SqL.of (up hW4), aW hp1, ?_⟩
      refine ⟨_, rfl, _, rfl, _, rfl, l, _, _, _, rfl, rfl, SqL.of (up hl4), aP, q, _, _, .int (p.2 : Int), rfl, rfl, SqT.of (up hqp'), rfl, W, _, _, _, rfl, rfl, SqL.of (up hW4), aW hp2, ?_⟩
      refine ⟨by show 3 ≤ sizeLine; decide, fun U nU => ?_⟩
      have er : rowAt ls ws ps i = (ls.getD i "", ws.getD p.1 "", ws.getD p.2 "") := by unfold rowAt; rw [getD_of hp]
      obtain ⟨d5, h5, p5⟩ := rows_put (e := rowAt ls ws ps i) di hDi hri nU
      rw [er] at d5 h5 p5
      have hrl : (rs.map V.ref).length ≤ 10 := by rw [List.length_map, hri.length, List.length_map, List.length_range]; omega
      refine ⟨_, same_upd nU _ _ (di.same _ _ hDi), small1000 (by omega), _, rs ++ [U], ?_, d5, h5, ?_⟩
      · refine fun c o hc => ?_
        have hci := si _ _ hc
        rw [upd_ne (fun z => by rw [z, nDG] at hc; cases hc), upd_ne (ne_of_none hci (di.free nU))]
        exact hci
      · rw [List.range_succ, List.map_append, List.map_singleton, er]
        exact p5
    · rintro H5 ⟨G5, rs, s5, d5, hD5, hr5⟩
      rw [hql] at hr5
      have hr5 : Paired (RowT G5) rs (rowsOf ls ws ps) := hr5
      have hrl : (rs.map V.ref).length = n + 1 := by rw [List.length_map, hr5.length]; unfold rowsOf; rw [List.length_map, List.length_range, hpl]
      refine ⟨_, rfl, _, rfl, G5, st, D, m + 70, _, rfl, d5, by omega, hD5, by omega, fun L2 ys H6 nL2 d6 pys => ?_⟩
      obtain ⟨zs, pzs, rfl⟩ := map_perm_inv pys
      obtain ⟨es, pes, hes⟩ := paired_perm pzs hr5
      have s56 : Same G5 (upd G5 L2 (.lst (zs.map V.ref))) := same_upd nL2
      have hW6 : H6 W = some (.lst (ws.map V.str)) := d6.same _ _ (s56 _ _ (s5 _ _ hW4))
      have aW : ∀ {v : Nat}, v < ws.length → atI (ws.map V.str) (v : Int) = some (V.str (ws.getD v "")) := fun {v} hv => atI_nat (by rw [List.getElem?_map, List.getElem?_eq_getElem hv, getD_of (List.getElem?_eq_getElem hv)]; rfl)
      have two := gr.two
      refine ⟨_, rfl, W, _, _, _, rfl, rfl, SqL.of hW6, aW (v := 0) (by rw [hw.len]; omega), _, rfl, W, _, _, _, rfl, rfl, SqL.of hW6, aW (v := 1) (by rw [hw.len]; omega), by show 3 ≤ sizeLine; decide, fun t2 nt2 => ?_⟩
      have d7 := (d6.new (o := .tup [.ref L2, .str (ws.getD 0 ""), .str (ws.getD 1 "")]) nt2).mono (m' := m + 100) (by omega)
      have nt2G := d6.free nt2
      have s67 := same_upd (o := .tup [.ref L2, .str (ws.getD 0 ""), .str (ws.getD 1 "")]) nt2G
      have nok := rows_ok gr hw hlen (pls.nodup_iff.mpr hls0.nd) (fun z hz => hls0.ok z (pls.mem_iff.mp hz)) (by omega) hol
      refine k t2 L2 es _ _ _ _ ((((s1.trans s14).trans s5).trans s56).trans s67) d7 upd_same ⟨zs, s67 _ _ upd_same, paired_on (fun _ _ e => s67 _ _ (s56 _ _ e)) hes⟩ (nok.perm pes) ?_
      rw [pes.length_eq]
      unfold rowsOf
      rw [List.length_map, List.length_range, hpl]
end

/-! ### texts and links as data -/
theorem lay_map {α : Type} (f : α → PyData) : ∀ {xs : List α}, (∀ x ∈ xs, (f x).canLay0 = true) → PyData.canLayAll0 (xs.map f) = true
  | [], _ => rfl
  | x :: xs, h => by
    show ((f x).canLay0 && PyData.canLayAll0 (xs.map f)) = true
    rw [h x List.mem_cons_self, lay_map f fun y hy => h y (List.mem_cons_of_mem _ hy)]
    rfl
theorem depth_map {α : Type} (f : α → PyData) (n : Nat) : ∀ {xs : List α}, (∀ x ∈ xs, (f x).depth ≤ n) → PyData.depthAll (xs.map f) ≤ n
  | [], _ => Nat.zero_le _
  | x :: xs, h => by
    show max (f x).depth (PyData.depthAll (xs.map f)) ≤ n
    have a := h x List.mem_cons_self
    have b := depth_map f n fun y hy => h y (List.mem_cons_of_mem _ hy)
    omega
theorem lay_str {z : Str} (h : Wn z) : (PyData.str z).canLay0 = true := by
  simp only [PyData.canLay0, PyData.strOk]
  rw [Array.all_eq_true]
  intro i hi
  have := h.2 z.cps[i] (by simp)
  simp
  omega
theorem dep_str (z : Str) : (PyData.str z).depth = 0 := by simp [PyData.depth]
theorem shaped_l {α : Type} {f : α → PyData} {xs : List α} {n : Nat} (hn : n ≤ 60) (h1 : ∀ x ∈ xs, (f x).canLay0 = true) (h2 : ∀ x ∈ xs, (f x).depth ≤ n) : SeqAt.shaped (.list (xs.map f)) = true := by
  unfold SeqAt.shaped
  rw [show PyData.canLay0 (.list (xs.map f)) = true by simp only [PyData.canLay0]; exact lay_map f h1, Bool.true_and]
  refine decide_eq_true ?_
  have := depth_map f n h2
  simp only [PyData.depth]
  omega
theorem shaped_txts {zs : List Str} (h : ∀ z ∈ zs, Wn z) : SeqAt.shaped (.list (zs.map PyData.str)) = true := shaped_l (n := 0) (by decide) (fun z hz => lay_str (h z hz)) fun z _ => by rw [dep_str]; exact Nat.le_refl _
theorem shaped_nil : SeqAt.shaped (.list []) = true := shaped_txts (zs := []) fun z hz => by cases hz
def rowD (e : Ent) : PyData := .tuple [.str e.1, .str e.2.1, .str e.2.2]
theorem shaped_rows {es : List Ent} (h : ∀ e ∈ es, WnE e) : SeqAt.shaped (.list (es.map rowD)) = true := by
  refine shaped_l (n := 1) (by decide) (fun e he => ?_) fun e _ => ?_
  · have w := h e he
    show PyData.canLay0 (.tuple [.str e.1, .str e.2.1, .str e.2.2]) = true
    simp only [PyData.canLay0]
    show ((PyData.str e.1).canLay0 && ((PyData.str e.2.1).canLay0 && ((PyData.str e.2.2).canLay0 && true))) = true
    rw [lay_str w.1, lay_str w.2.1, lay_str w.2.2]
    rfl
  · show PyData.depth (.tuple [.str e.1, .str e.2.1, .str e.2.2]) ≤ 1
    simp only [PyData.depth]
    show max (PyData.str e.1).depth (max (PyData.str e.2.1).depth (max (PyData.str e.2.2).depth 0)) + 1 ≤ 1
    rw [dep_str, dep_str, dep_str]
    decide
theorem eqv_map {α : Type} [DecidableEq α] {f : α → PyData} (hf : ∀ a b, PyData.eqv (f a) (f b) = decide (a = b)) : ∀ xs ys : List α, PyData.eqvAll (xs.map f) (ys.map f) = decide (xs = ys)
  | [], [] => by simp [PyData.eqvAll]
  | [], y :: ys => by simp [PyData.eqvAll]
  | x :: xs, [] => by simp [PyData.eqvAll]
  | x :: xs, y :: ys => by
    rw [List.map_cons, List.map_cons, PyData.eqvAll, hf, eqv_map hf xs ys]
    by_cases h1 : x = y <;> by_cases h2 : xs = ys <;> simp [h1, h2]
theorem eqv_str (a b : Str) : PyData.eqv (.str a) (.str b) = decide (a = b) := by
  rw [PyData.eqv]
  by_cases h : a = b
  · subst h; simp
  · rw [decide_eq_false h]
    exact beq_false_of_ne h
theorem eqv_row (a b : Ent) : PyData.eqv (rowD a) (rowD b) = decide (a = b) := by
  obtain ⟨a1, a2, a3⟩ := a
  obtain ⟨b1, b2, b3⟩ := b
  unfold rowD
  simp only [PyData.eqv, PyData.eqvAll]
  have e : ∀ x y : Str, (x == y) = decide (x = y) := fun x y => by
    by_cases h : x = y
    · subst h; simp
    · rw [decide_eq_false h]; exact beq_false_of_ne h
  rw [e, e, e]
  by_cases h1 : a1 = b1 <;> by_cases h2 : a2 = b2 <;> by_cases h3 : a3 = b3 <;> simp [h1, h2, h3]
theorem eqv_txts (xs ys : List Str) : PyData.eqv (.list (xs.map PyData.str)) (.list (ys.map PyData.str)) = decide (xs = ys) := by
  rw [PyData.eqv]
  exact eqv_map eqv_str xs ys
theorem eqv_rows (xs ys : List Ent) : PyData.eqv (.list (xs.map rowD)) (.list (ys.map rowD)) = decide (xs = ys) := by
  rw [PyData.eqv]
  exact eqv_map eqv_row xs ys
theorem dp_rows {K : PySem.W.Frag} {H : Hp} : ∀ {qs : List Addr} {es : List Ent}, Paired (RowT H) qs es → DpAll K H (qs.map V.ref) (es.map rowD)
  | _, _, .nil => .nil
  | _, _, .cons a r => .cons (.tup (SqT.of a) (.cons (.str _) (.cons (.str _) (.cons (.str _) .nil)))) (dp_rows r)
theorem dp_rowsL {K : PySem.W.Frag} {H : Hp} {l : Addr} {es : List Ent} (h : RowsL H l es) : Dp K H (.ref l) (.list (es.map rowD)) := let ⟨_, a, b⟩ := h; .lst (SqL.of a) (dp_rows b)
theorem dp_txts {K : PySem.W.Frag} {H : Hp} {l : Addr} {zs : List Str} (h : H l = some (.lst (zs.map V.str))) : Dp K H (.ref l) (.list (zs.map PyData.str)) := .lst (SqL.of h) (dp_strs zs)

section
variable {P : Program} {w : World} {K : PySem.W.Frag} {mg : Str → Option Value} {base : Heap}
def spAfter : Sp := fun vs H Q _ => ∃ (a : Addr) (es : List Ent) (p : Str), vs = [.ref a, .str p] ∧ RowsL H a es ∧ es.length ≤ 100 ∧ (∀ e ∈ es, WnE e) ∧ Wn p ∧
  ∀ (l : Addr) (F : List Str) (H' : Hp), H l = none → Same H H' → H' l = some (.lst (F.map V.str)) → F.Nodup → (∀ q, q ∈ F ↔ Lead es p q) → Q (.ref l) H'
theorem seek_wn {es : List Ent} {p : Str} {F W : List Str} (hw : ∀ e ∈ es, WnE e) (wp : Wn p) (s : Seek es p F W) : ∀ z ∈ W, Wn z := fun z hz => by
  rcases s.wait z hz with h | h
  · rw [h]; exact wp
  · obtain ⟨e, he, rfl⟩ := (s.sound z h).last
    exact (hw e he).2.2
theorem ok_after (T : Txt K mg) : FnOk P w K mg base CX0 1 T.f_after T.d_after ["_law_rows", "_law_place"] spAfter := by
  refine T.F_after.ok sc_after (fun vs H Q E h => ?_) (fun cdv A outer s H vs Q E hr h => ?_)
  · obtain ⟨a, es, p, rfl, _⟩ := h
    rfl
  · obtain ⟨a, es, p, rfl, ⟨qs, ha, hp⟩, hfew, hwn, wp, k⟩ := h
    refine ⟨_, (pss_cons (ps_set (i := 2) sc_after.nd rfl (Or.inl rfl) (pe_lst pa_nil))
    (pss_cons (ps_set (i := 3) sc_after.nd rfl (Or.inl rfl) (pe_lst (pa_cons (pv 1) pa_nil)))
    (C8.pss_cut (ps_while PassesOwn.never (pt_cmpR (op_neD hr.units) (pv 3) (pe_lst pa_nil) (nomark _))
      (pss_cons (ps_set (i := 4) sc_after.nd rfl (Or.inl rfl) (pe_bm0 PySem.F.plainAttrs_list PySem.F.slot_list_pop PySem.F.type_list_pop mt_pop (pv 3)))
    (pss_one (ps_for PassesOwn.never rfl (pi_list (pv 0)) (pg_name (i := 5) sc_after.nd rfl (Or.inl rfl))
      (pss_one (ps_if (PW.pt (pw_and (pt_cmpR op_eq (pe_ix ix_tup (pv 5) pe_int (fun _ _ => rfl)) (pv 4) (nomark _)) (pw_and1 (pt_cmpR op_notIn_seq (pe_ix ix_tup (pv 5) pe_int (fun _ _ => rfl)) (pv 2) (by with_unfolding_all rfl)))))
      (pss_cons (ps_expr (pe_bm PySem.F.plainAttrs_list PySem.F.slot_list_append PySem.F.type_list_append mt_append (pv 2) (pa_cons (pe_ix ix_tup (pv 5) pe_int (fun _ _ => rfl)) pa_nil)))
    (pss_one (ps_expr (pe_bm PySem.F.plainAttrs_list PySem.F.slot_list_append PySem.F.type_list_append mt_append (pv 3) (pa_cons (pe_ix ix_tup (pv 5) pe_int (fun _ _ => rfl)) pa_nil)))))
      pss_nil))))))
    (pss_one (ps_ret (pv 2)))))), ?_⟩
    refine ⟨by show 0 ≤ sizeLine; decide, fun f nf => ?_⟩
    refine ⟨_, rfl, by show 1 ≤ sizeLine; decide, fun wt nw => ?_⟩
    refine ⟨fun σ Hc => ∃ F x4 x5, σ = [some (.ref a), some (.str p), some (.ref f), some (.ref wt), x4, x5] ∧ Seek es p F [] ∧ Two2 H Hc f wt F [], ?_, ?_⟩
    · refine ⟨fun m σ Hc => ∃ F W x4 x5, σ = [some (.ref a), some (.str p), some (.ref f), some (.ref wt), x4, x5] ∧ Seek es p F W ∧ Two2 H Hc f wt F W ∧ W.length + (es.length - F.length) ≤ 101 ∧ m = W.length + (es.length - F.length), ⟨_, [], [p], none, none, rfl, Seek.start es p, ?_, by show 1 + es.length ≤ 101; omega, rfl⟩, ?_⟩
      · have n1 : H wt = none := by
          by_cases e : wt = f
          · rw [e]; exact nf
          · rw [upd_ne e] at nw; exact nw
        have ne : f ≠ wt := fun e => by rw [← e, upd_same] at nw; cases nw
        exact ⟨(same_upd nf).trans (same_upd nw), nf, n1, ne, by rw [upd_ne ne]; exact upd_same, upd_same⟩
      rintro m σ Hc ⟨F, W, x4, x5, rfl, sk, tw, hm1, rfl⟩
      have hcount : ∀ G : List Str, (G.map V.str).length = G.length := fun G => List.length_map _
      refine ⟨_, rfl, Nat.zero_le _, fun z nz => ?_⟩
      have sz : Same Hc (upd Hc z (.lst [])) := same_upd nz
      have tz : Two2 H (upd Hc z (.lst [])) f wt F W := ⟨tw.same.trans sz, tw.nf, tw.nw, tw.ne, sz _ _ tw.hf, sz _ _ tw.hw⟩
      refine ⟨_, _, dp_txts tz.hw, dp_txts (zs := []) upd_same, shaped_txts (seek_wn hwn wp sk), shaped_nil, ?_⟩
      generalize upd Hc z (.lst []) = H0 at tz ⊢
      rw [eqv_txts]
      refine ⟨_, rfl, ?_⟩
      rcases List.eq_nil_or_concat W with rfl | ⟨W', c, hWc⟩
      · exact iteF ⟨F, x4, x5, rfl, sk, tz⟩
      · rw [List.concat_eq_append] at hWc
        subst hWc
        rw [show (!decide (W' ++ [c] = [])) = true from by simp]
        refine iteT ?_
        have hfF := found_few sk.nd sk.sound
        refine ⟨fun σ H' => ∃ F2 W2 x4 x5, σ = [some (.ref a), some (.str p), some (.ref f), some (.ref wt), x4, x5] ∧ Seek es p F2 W2 ∧ Two2 H H' f wt F2 W2 ∧ W2.length + (es.length - F2.length) < (W' ++ [c]).length + (es.length - F.length), fun σ' H' ⟨F2, W2, y4, y5, e, s2, t2, lt⟩ => ⟨_, lt, F2, W2, y4, y5, e, s2, t2, Nat.le_trans (Nat.le_of_lt lt) hm1, rfl⟩, ?_⟩
        refine ⟨_, rfl, .inl ⟨rfl, _, SqL.of tz.hw⟩, wt, _, .str c, rfl, rfl, tz.hw, by simp, ?_⟩
        have ew : (((W' ++ [c]).map V.str).dropLast) = W'.map V.str := by rw [List.map_append]; exact List.dropLast_concat
        have t1 := tz.setW W'
        rw [ew]
        generalize upd H0 wt (.lst (W'.map V.str)) = H1 at t1
        refine ⟨_, rfl, a, rfl, ⟨_, SqL.of (t1.same _ _ ha)⟩, ?_⟩
        refine for_list (K := K) (a := a) (xs := qs.map V.ref) (fun i σ H' => ∃ F2 W2 x5, σ = [some (.ref a), some (.str p), some (.ref f), some (.ref wt), some (.str c), x5] ∧ SeekAt es p c i F2 W2 ∧ Two2 H H' f wt F2 W2 ∧ W2.length + F.length = W'.length + F2.length) ⟨F, W', _, rfl, sk.pop, t1, rfl⟩ (fun i σ H' _ ⟨_, _, _, _, _, t, _⟩ => SqL.of (t.same _ _ ha)) ?_ ?_
        · rintro i v σ H' hi ⟨F2, W2, y5, rfl, sa, t2, h5⟩
          have hf2 := found_few sa.nd sa.sound
          have hw2 : W2.length ≤ 300 := by rw [List.length_append] at hm1; omega
          obtain ⟨q, hqi, rfl⟩ : ∃ q, qs[i]? = some q ∧ v = V.ref q := by
            rw [List.getElem?_map] at hi
            cases e : qs[i]? with
            | none => rw [e] at hi; cases hi
            | some q => rw [e] at hi; exact ⟨q, rfl, (Option.some.inj hi).symm⟩
          obtain ⟨e, he, hq⟩ := L2.paired_get hp hqi
          have hq2 := t2.same _ _ hq
          refine ⟨_, rfl, q, _, 1, .str e.2.1, rfl, rfl, SqT.of hq2, rfl, _, rfl, rfl, _, rfl, ?_⟩
          by_cases hc : e.2.1 = c
          · rw [decide_eq_true (by rw [hc])]
            refine iteT ?_
            refine ⟨_, rfl, q, _, 2, .str e.2.2, rfl, rfl, SqT.of hq2, rfl, _, rfl, f, _, rfl, .inl (SqL.of t2.hf), rfl, flat_names F2, _, rfl, ?_⟩
            rw [inV_names, if_pos rfl]
            by_cases hm : e.2.2 ∈ F2
            · rw [decide_eq_true hm]
              exact iteF ⟨F2, W2, _, rfl, sa.skip he fun _ => hm, t2, h5⟩
            · rw [decide_eq_false hm]
              refine iteT ?_
              have t3 := t2.setF (F2 ++ [e.2.2])
              rw [List.map_append] at t3
              refine ⟨_, rfl, .inl ⟨rfl, _, SqL.of t2.hf⟩, _, rfl, q, _, 2, .str e.2.2, rfl, rfl, SqT.of hq2, rfl, f, _, _, rfl, rfl, t2.hf, small1000 (by rw [hcount]; omega), ?_⟩
              refine ⟨_, rfl, .inl ⟨rfl, _, SqL.of t3.hw⟩, _, rfl, q, _, 2, .str e.2.2, rfl, rfl, SqT.of (t3.same _ _ hq), rfl, wt, _, _, rfl, rfl, t3.hw, small1000 (by rw [hcount]; omega), ?_⟩
              have t4 := t3.setW (W2 ++ [e.2.2])
              rw [List.map_append] at t4
              refine ⟨F2 ++ [e.2.2], W2 ++ [e.2.2], _, rfl, sa.add he hc hm, t4, ?_⟩
              rw [List.length_append, List.length_append]
              show W2.length + 1 + _ = _ + (F2.length + 1)
              omega
          · rw [decide_eq_false (fun z => hc (V.str.inj z))]
            exact iteF ⟨F2, W2, _, rfl, sa.skip he fun z => absurd z hc, t2, h5⟩
        · rintro σ H' ⟨F2, W2, y5, rfl, sa, t2, h5⟩
          rw [List.length_map, hp.length] at sa
          have hf2 := found_few sa.nd sa.sound
          refine ⟨F2, W2, _, _, rfl, sa.back, t2, ?_⟩
          rw [List.length_append]
          show _ < W'.length + 1 + _
          omega
    · rintro σ Hc ⟨F, x4, x5, rfl, sk, tw⟩
      exact ⟨_, rfl, k f F Hc tw.nf tw.same tw.hf sk.nd sk.done⟩
end

section
variable {P : Program} {w : World} {K : PySem.W.Frag} {mg : Str → Option Value} {base : Heap}
def spUsefulL : Sp := fun vs H Q _ => ∃ (a : Addr) (es : List Ent) (s t : Str), vs = [.ref a, .str s, .str t] ∧ RowsL H a es ∧ es.length ≤ 100 ∧ (∀ e ∈ es, WnE e) ∧ Wn s ∧ Wn t ∧
  ∀ (l : Addr) (H' : Hp), H l = none → Same H H' → RowsL H' l (es.filter (usefulB es s t)) → Q (.ref l) H'
theorem ok_usefulL (T : Txt K mg) : FnOk P w K mg base CX0 2 T.f_useful T.d_useful ["_law_rows", "_law_first", "_law_last"] spUsefulL := by
  have G_after : FnOk P w K mg base CX0 1 T.f_after T.d_after ["_law_rows", "_law_place"] spAfter := ok_after T
  refine T.F_useful.ok sc_useful (fun vs H Q E h => ?_) (fun cdv A outer s H vs Q E hr h => ?_)
  · obtain ⟨a, es, s, t, rfl, _⟩ := h
    rfl
  · obtain ⟨a, es, s, t, rfl, ⟨qs, ha, hp⟩, hfew, hwn, ws, wt, k⟩ := h
    refine ⟨_, (pss_cons (ps_set (i := 3) sc_useful.nd rfl (Or.inr rfl) (pe_op op_cat (pe_lst (pa_cons (pv 1) pa_nil)) (pe_call G_after (hr.mono (by decide)) rfl T.m_after T.F_after.kp T.b_after .nil pass0 (pa_cons (pv 0) (pa_cons (pv 1) pa_nil)))))
    (pss_one (ps_ret (pe_lc (own := [("_law_row", 4)]) (g := gName 4) rfl sc_useful.nd (pi_list (pv 0)) (blkOk_by (N := ["_law_rows", "_law_first", "_law_last", "_law_ahead", "_law_row"]) (sc := defScope s_useful) (by decide +kernel)) (fun _ _ _ _ _ => pg_name (i := 4) sc_useful.nd rfl (Or.inl rfl)) (fun _ _ _ _ _ => pts_one (PW.pt (pw_and (pt_cmpR (show OpR _ _ (rIn K false) from op_in_seq) (pe_ix (show IxR _ (rIxT K) from ix_tup) (pv 4) pe_int (fun _ _ => rfl)) (pv 3) (by with_unfolding_all rfl)) (pw_and1 (PW.pt (pw_or (pt_cmpR op_eq (pe_ix (show IxR _ (rIxT K) from ix_tup) (pv 4) pe_int (fun _ _ => rfl)) (pv 2) (nomark _)) (pw_or1 (pt_cmpR (show OpR _ _ (rIn K false) from op_in_seq) (pv 2) (pe_call G_after (hr.mono (by decide)) rfl T.m_after T.F_after.kp T.b_after .nil pass0 (pa_cons (pv 0) (pa_cons (pe_ix (show IxR _ (rIxT K) from ix_tup) (pv 4) pe_int (fun _ _ => rfl)) pa_nil))) (by with_unfolding_all rfl))))))))) (fun _ _ _ _ _ => (pv 4)))))), ?_⟩
    refine ⟨_, rfl, by show 1 ≤ sizeLine; decide, fun l1 nl1 => ?_⟩
    have s1 : Same H (upd H l1 (.lst [V.str s])) := same_upd nl1
    refine ⟨_, rfl, _, rfl, a, es, s, rfl, RowsL.on ⟨qs, ha, hp⟩ s1, hfew, hwn, ws, fun b F H1 nb s2 hb ndF hF => ?_⟩
    have hfF := found_few ndF fun q hq => (hF q).mp hq
    have hl1 : H1 l1 = some (.lst [V.str s]) := s2 _ _ upd_same
    refine ⟨l1, b, _, _, rfl, rfl, hl1, hb, by rw [List.length_map]; exact Nat.le_of_lt (small1000 (by show 1 + F.length ≤ 1000; omega)), fun L nL => ?_⟩
    have s3 := (s1.trans s2).trans (same_upd (o := .lst ([V.str s] ++ F.map V.str)) nL)
    have hL : (upd H1 L (.lst ([V.str s] ++ F.map V.str))) L = some (.lst ((s :: F).map V.str)) := upd_same
    generalize upd H1 L (.lst ([V.str s] ++ F.map V.str)) = H2 at s3 hL ⊢
    refine ⟨_, rfl, a, rfl, ⟨_, SqL.of (s3 _ _ ha)⟩, fun D hD => ?_⟩
    refine lc_list (K := K) (a := a) (xs := qs.map V.ref) (fun i H' => Same H2 H' ∧ ∃ rs : List Addr, H' D = some (.lst (rs.map V.ref)) ∧ Paired (RowT H2) rs ((es.take i).filter (usefulB es s t))) ⟨same_upd hD, [], upd_same, .nil⟩ (fun i H' _ h => SqL.of (h.1 _ _ (s3 _ _ ha))) ?_ ?_
    · intro i x H' hi ⟨s4, rs, hDr, hpr⟩
      obtain ⟨q, hqi, rfl⟩ : ∃ q, qs[i]? = some q ∧ x = V.ref q := by
        rw [List.getElem?_map] at hi
        cases e : qs[i]? with
        | none => rw [e] at hi; cases hi
        | some q => rw [e] at hi; exact ⟨q, rfl, (Option.some.inj hi).symm⟩
      obtain ⟨e, he, hq⟩ := L2.paired_get hp hqi
      have hq2 : H2 q = some (.tup [.str e.1, .str e.2.1, .str e.2.2]) := s3 _ _ hq
      have hq3 := s4 _ _ hq2
      have tk := take_more he
      have hlen : rs.length ≤ 100 := by
        rw [hpr.length]
        have a := List.length_filter_le (usefulB es s t) (es.take i)
        rw [List.length_take] at a
        omega
      have no : ∀ {H4 : Hp}, Same H' H4 → ¬ Useful es s t e → Same H2 H4 ∧ ∃ rs : List Addr, H4 D = some (.lst (rs.map V.ref)) ∧ Paired (RowT H2) rs ((es.take (i + 1)).filter (usefulB es s t)) := fun {H4} sm hn => by
        refine ⟨s4.trans sm, rs, sm _ _ hDr, ?_⟩
        rw [tk, List.filter_append, show [e].filter (usefulB es s t) = [] from List.filter_cons_of_neg (fun z => hn (of_useful z)), List.append_nil]
        exact hpr
      have yes : ∀ {H4 : Hp}, Same H' H4 → Useful es s t e → ∃ acc, H4 D = some (.lst acc) ∧ acc.length < sizeLine ∧ (Same H2 (upd H4 D (.lst (acc ++ [V.ref q]))) ∧ ∃ rs : List Addr, (upd H4 D (.lst (acc ++ [V.ref q]))) D = some (.lst (rs.map V.ref)) ∧ Paired (RowT H2) rs ((es.take (i + 1)).filter (usefulB es s t))) := fun {H4} sm hu => by
        refine ⟨_, sm _ _ hDr, small1000 (by rw [List.length_map]; omega), same_mut (s4.trans sm) hD, rs ++ [q], by rw [upd_same, List.map_append]; rfl, ?_⟩
        rw [tk, List.filter_append, show [e].filter (usefulB es s t) = [e] from List.filter_cons_of_pos (useful_yes hu)]
        exact paired_snoc (F := RowT H2) hq2 hpr
      refine ⟨rfl, _, rfl, q, _, 1, .str e.2.1, rfl, rfl, SqT.of hq3, rfl, _, rfl, L, _, rfl, .inl (SqL.of (s4 _ _ hL)), rfl, flat_names (s :: F), _, rfl, ?_⟩
      rw [if_neg (by decide), inV_names]
      by_cases hae : e.2.1 ∈ s :: F
      · rw [decide_eq_true hae]
        have ha' : e.2.1 = s ∨ Lead es s e.2.1 := (List.mem_cons.mp hae).imp id (hF _).mp
        refine iteT ?_
        refine ⟨_, rfl, q, _, 2, .str e.2.2, rfl, rfl, SqT.of hq3, rfl, _, rfl, rfl, _, rfl, ?_⟩
        by_cases het : e.2.2 = t
        · rw [decide_eq_true (by rw [het])]
          exact iteT ⟨_, rfl, yes (Same.refl _) ⟨ha', .inl het⟩⟩
        · rw [decide_eq_false (fun z => het (V.str.inj z))]
          refine iteF ?_
          refine ⟨_, rfl, _, rfl, _, rfl, q, _, 2, .str e.2.2, rfl, rfl, SqT.of hq3, rfl, a, es, e.2.2, rfl, RowsL.on ⟨qs, ha, hp⟩ (s3.trans s4), hfew, hwn, (hwn e (List.mem_of_getElem? he)).2.2, fun b2 F2 H4 nb2 s5 hb2 nd2 hF2 => ?_⟩
          refine ⟨b2, _, rfl, .inl (SqL.of hb2), rfl, flat_names F2, _, rfl, ?_⟩
          rw [if_neg (by decide), inV_names]
          by_cases hb : t ∈ F2
          · rw [decide_eq_true hb]
            exact iteT ⟨_, rfl, yes s5 ⟨ha', .inr ((hF2 _).mp hb)⟩⟩
          · rw [decide_eq_false hb]
            exact iteF (no s5 fun z => z.2.elim het fun q => hb ((hF2 _).mpr q))
      · rw [decide_eq_false hae]
        exact iteF (no (Same.refl _) fun z => hae (List.mem_cons.mpr (z.1.imp id (hF _).mpr)))
    · intro H5 ⟨s4, rs, hDr, hpr⟩
      rw [List.length_map, hp.length, List.take_length] at hpr
      exact k D H5 (s3.free hD) (s3.trans s4) ⟨rs, hDr, paired_on (fun _ _ e => s4 _ _ e) hpr⟩
end

section
variable {P : Program} {w : World} {K : PySem.W.Frag} {mg : Str → Option Value} {base : Heap}
/-- the places of links, in order -/
structure SpotsOk (es : List Ent) (ys : List Str) : Prop where
  nd : ys.Nodup
  so : PyProof.Rows.sortedS ys = true
  mem : ∀ q, q ∈ ys ↔ q ∈ endsOf es
  few : ys.length ≤ 2 * es.length
theorem mem_ends {es : List Ent} {q : Str} : q ∈ endsOf es ↔ ∃ e ∈ es, e.2.1 = q ∨ e.2.2 = q := by
  unfold endsOf
  rw [List.mem_flatMap]
  constructor
  · rintro ⟨e, he, hq⟩
    rcases List.mem_cons.mp hq with z | z
    · exact ⟨e, he, .inl z.symm⟩
    · exact ⟨e, he, .inr (List.mem_singleton.mp z).symm⟩
  · rintro ⟨e, he, rfl | rfl⟩
    · exact ⟨e, he, List.mem_cons_self⟩
    · exact ⟨e, he, List.mem_cons_of_mem _ (List.mem_singleton.mpr rfl)⟩
def spSpots : Sp := fun vs H Q _ => ∃ (a : Addr) (es : List Ent), vs = [.ref a] ∧ RowsL H a es ∧ es.length ≤ 20 ∧
  ∀ (l : Addr) (ys : List Str) (H' : Hp), H l = none → Same H H' → H' l = some (.lst (ys.map V.str)) → SpotsOk es ys → Q (.ref l) H'
theorem ok_spots (T : Txt K mg) : FnOk P w K mg base CX0 1 T.f_spots T.d_spots ["_law_rows"] spSpots := by
  refine T.F_spots.ok sc_spots (fun vs H Q E h => ?_) (fun cdv A outer s H vs Q E hr h => ?_)
  · obtain ⟨a, es, rfl, _⟩ := h
    rfl
  · obtain ⟨a, es, rfl, ⟨qs, ha, hp⟩, hfew, k⟩ := h
    refine ⟨_, (pss_one (ps_ret (pe_callB (cr_sortTx rfl) (by rfl) T.n_sorted (by decide +kernel) (pa_cons (pe_callTy (cr_setTx rfl) (by rfl) T.n_set (by decide +kernel) (pa_cons (pe_op op_cat (pe_lc (own := [("_law_row", 1)]) (g := gName 1) (tt := tYes) rfl sc_spots.nd (pi_list (pv 0)) (blkOk_by (N := ["_law_rows", "_law_row"]) (sc := defScope s_spots) (by decide +kernel)) (fun _ _ _ _ _ => pg_name (i := 1) sc_spots.nd rfl (Or.inl rfl)) (fun _ _ _ _ _ => pts_nil) (fun _ _ _ _ _ => (pe_ix (show IxR _ (rIxT K) from ix_tup) (pv 1) pe_int (fun _ _ => rfl)))) (pe_lc (own := [("_law_row", 1)]) (g := gName 1) (tt := tYes) rfl sc_spots.nd (pi_list (pv 0)) (blkOk_by (N := ["_law_rows", "_law_row"]) (sc := defScope s_spots) (by decide +kernel)) (fun _ _ _ _ _ => pg_name (i := 1) sc_spots.nd rfl (Or.inl rfl)) (fun _ _ _ _ _ => pts_nil) (fun _ _ _ _ _ => (pe_ix (show IxR _ (rIxT K) from ix_tup) (pv 1) pe_int (fun _ _ => rfl))))) pa_nil)) pa_nil)))), ?_⟩
    refine ⟨_, rfl, a, rfl, ⟨_, SqL.of ha⟩, fun D hD => ?_⟩
    have at_ : ∀ {i : Nat} {x : V}, (qs.map V.ref)[i]? = some x → ∃ q e, x = V.ref q ∧ es[i]? = some e ∧ RowT H q e := fun {i x} hi => by
      rw [List.getElem?_map] at hi
      cases e : qs[i]? with
      | none => rw [e] at hi; cases hi
      | some q =>
        rw [e] at hi
        obtain ⟨f, hf, hq⟩ := L2.paired_get hp e
        exact ⟨q, f, (Option.some.inj hi).symm, hf, hq⟩
    have hqe : (qs.map V.ref).length = es.length := by rw [List.length_map, hp.length]
    refine lc_list (K := K) (a := a) (xs := qs.map V.ref) (fun i H' => Same H H' ∧ H' D = some (.lst (((es.take i).map fun e : Ent => e.2.1).map V.str))) ⟨same_upd hD, upd_same⟩ (fun i H' _ h => SqL.of (h.1 _ _ ha)) ?_ ?_
    · intro i x H' hi ⟨s1, hDr⟩
      obtain ⟨q, e, rfl, he, hq⟩ := at_ hi
      refine ⟨rfl, _, rfl, q, _, 1, .str e.2.1, rfl, rfl, SqT.of (s1 _ _ hq), rfl, _, hDr, small1000 (by rw [List.length_map, List.length_map, List.length_take]; omega), same_mut s1 hD, ?_⟩
      rw [upd_same, take_more he, List.map_append, List.map_append]
      rfl
    intro H1 ⟨s1, hD1⟩
    rw [hqe, List.take_length] at hD1
    refine ⟨_, rfl, a, rfl, ⟨_, SqL.of (s1 _ _ ha)⟩, fun D2 hD2 => ?_⟩
    refine lc_list (K := K) (a := a) (xs := qs.map V.ref) (fun i H' => Same H1 H' ∧ H' D2 = some (.lst (((es.take i).map fun e : Ent => e.2.2).map V.str))) ⟨same_upd hD2, upd_same⟩ (fun i H' _ h => SqL.of (h.1 _ _ (s1 _ _ ha))) ?_ ?_
    · intro i x H' hi ⟨s2, hDr⟩
      obtain ⟨q, e, rfl, he, hq⟩ := at_ hi
      refine ⟨rfl, _, rfl, q, _, 2, .str e.2.2, rfl, rfl, SqT.of (s2 _ _ (s1 _ _ hq)), rfl, _, hDr, small1000 (by rw [List.length_map, List.length_map, List.length_take]; omega), same_mut s2 hD2, ?_⟩
      rw [upd_same, take_more he, List.map_append, List.map_append]
      rfl
    intro H2 ⟨s2, hD2'⟩
    rw [hqe, List.take_length] at hD2'
    have hll : ((es.map fun e : Ent => e.2.1) ++ es.map fun e : Ent => e.2.2).length = 2 * es.length := by rw [List.length_append, List.length_map, List.length_map]; omega
    refine ⟨D, D2, _, _, rfl, rfl, s2 _ _ hD1, hD2', by rw [List.length_map, List.length_map, List.length_map, List.length_map]; exact Nat.le_of_lt (small1000 (by omega)), fun L nL => ?_⟩
    rw [← List.map_append]
    refine ⟨L, _, rfl, SqL.of upd_same, by rw [hll]; omega, fun S nS => ?_⟩
    refine ⟨S, _, rfl, upd_same, by rw [hll]; omega, fun ys M nd hm so hle nM => ?_⟩
    have s3 := (((s1.trans s2).trans (same_upd (o := .lst (((es.map fun e : Ent => e.2.1) ++ es.map fun e : Ent => e.2.2).map V.str)) nL)).trans (same_upd (o := TxO P w S ((es.map fun e : Ent => e.2.1) ++ es.map fun e : Ent => e.2.2)) nS))
    refine k M ys _ (s3.free nM) (s3.trans (same_upd nM)) upd_same ⟨nd, so, fun q => ?_, by rw [hll] at hle; exact hle⟩
    rw [hm, mem_ends, List.mem_append, List.mem_map, List.mem_map]
    constructor
    · rintro (⟨e, he, h⟩ | ⟨e, he, h⟩)
      · exact ⟨e, he, .inl h⟩
      · exact ⟨e, he, .inr h⟩
    · rintro ⟨e, he, h | h⟩
      · exact .inl ⟨e, he, h⟩
      · exact .inr ⟨e, he, h⟩
end

/-! ### links laid elsewhere -/
theorem cut_take (xs : List V) (k : Nat) : cutV xs none (some (k : Int)) = xs.take k := by
  unfold cutV
  rw [HT.sIx_none, HT.sIx_nat, List.drop_zero, Nat.sub_zero]
  by_cases h : k ≤ xs.length
  · rw [Nat.min_eq_left h]
  · rw [Nat.min_eq_right (by omega), List.take_of_length_le (Nat.le_refl _), List.take_of_length_le (by omega)]
theorem cut_drop (xs : List V) (k : Nat) : cutV xs (some (k : Int)) none = xs.drop k := by
  unfold cutV
  rw [HT.sIx_none, HT.sIx_nat]
  by_cases h : k ≤ xs.length
  · rw [Nat.min_eq_left h, List.take_of_length_le (by rw [List.length_drop]; omega)]
  · rw [Nat.min_eq_right (by omega), List.drop_of_length_le (Nat.le_refl _), List.drop_of_length_le (by omega), List.take_nil]
/-- all that stands but the state is known from now on -/
theorem DSt.all {G H H' : Hp} {st : Addr} {m : Nat} (d : DSt G H st m) (sm : Same H H') : ∃ G', Same G G' ∧ DSt G' H' st m ∧ (∀ p o, H p = none → H' p = some o → G' p = some o) ∧ ∀ p o, (∀ xs, o ≠ .lst xs) → H' p = some o → G' p = some o := by
  obtain ⟨b, c, gs, cs, n, d, hn⟩ := d
  refine ⟨fun a => if a = st ∨ a = b ∨ a = c then none else H' a, fun a o e => ?_, ⟨b, c, gs, cs, n, ⟨fun a o e => ?_, by rw [if_pos (.inl rfl)], by rw [if_pos (.inr (.inl rfl))], by rw [if_pos (.inr (.inr rfl))], sm _ _ d.hs, sm _ _ d.hb, sm _ _ d.hc, d.ne, d.pos⟩, hn⟩, fun p o h e => ?_, fun p o h e => ?_⟩
  · show (if a = st ∨ a = b ∨ a = c then none else H' a) = some o
    rw [if_neg]
    · exact sm _ _ (d.same _ _ e)
    · rintro (q | q | q)
      · rw [q, d.fs] at e; cases e
      · rw [q, d.fb] at e; cases e
      · rw [q, d.fc] at e; cases e
  · have e : (if a = st ∨ a = b ∨ a = c then none else H' a) = some o := e
    split at e
    · cases e
    · exact e
  · show (if p = st ∨ p = b ∨ p = c then none else H' p) = some o
    rw [if_neg]
    · exact e
    · rintro (q | q | q)
      · rw [q, d.hs] at h; cases h
      · rw [q, d.hb] at h; cases h
      · rw [q, d.hc] at h; cases h
  · show (if p = st ∨ p = b ∨ p = c then none else H' p) = some o
    rw [if_neg]
    · exact e
    · rintro (q | q | q)
      · rw [q, sm _ _ d.hs] at e; exact h _ (Option.some.inj e).symm
      · rw [q, sm _ _ d.hb] at e; exact h _ (Option.some.inj e).symm
      · rw [q, sm _ _ d.hc] at e; exact h _ (Option.some.inj e).symm

theorem Lead.map {es fs : List Ent} {p q : Str} (h : Lead es p q) (s : ∀ e ∈ es, ∃ f ∈ fs, f.2 = e.2) : Lead fs p q := by
  induction h with
  | one he =>
    obtain ⟨f, hf, e⟩ := s _ he
    have := Lead.one hf
    rw [e] at this
    exact this
  | more _ he ih =>
    obtain ⟨f, hf, e⟩ := s _ he
    have := Lead.more (e := f) (es := fs) (p := ?_) ?_ hf
    · rw [e] at this; exact this
    · rw [e]; exact ih
theorem acy_of {es : List Ent} (h : ∀ e ∈ es, ¬ (e.2.1 = e.2.2 ∨ Lead es e.2.2 e.2.1)) (p : Str) : ¬ Lead es p p := fun z => by
  obtain ⟨e, he, e1, e2⟩ := z.cons
  exact h e he (e2.imp (fun q => e1.trans q.symm) fun q => e1 ▸ q)
def reputAt (es : List Ent) (k : Nat) (x y : Str) : List Ent := es.take k ++ [((es.getD k ("", "", "")).1, x, y)] ++ es.drop (k + 1)
theorem reput_names {es : List Ent} {k : Nat} {x y : Str} (h : k < es.length) : names (reputAt es k x y) = names es := by
  have e : es = es.take k ++ [es[k]] ++ es.drop (k + 1) := by
    rw [List.append_assoc]
    show es = es.take k ++ (es[k] :: es.drop (k + 1))
    rw [← List.drop_eq_getElem_cons h, List.take_append_drop]
  unfold reputAt
  rw [getD_of (List.getElem?_eq_getElem h)]
  conv => rhs; rw [e]
  unfold names
  rw [List.map_append, List.map_append, List.map_append, List.map_append]
  rfl
theorem reput_len {es : List Ent} {k : Nat} {x y : Str} (h : k < es.length) : (reputAt es k x y).length = es.length := by
  have := congrArg List.length (reput_names (x := x) (y := y) h)
  unfold names at this
  rw [List.length_map, List.length_map] at this
  exact this
theorem reput_mem {es : List Ent} {k : Nat} {x y : Str} {e : Ent} (hk : k < es.length) (h : e ∈ reputAt es k x y) : e ∈ es ∨ (e.2 = (x, y) ∧ ∃ f ∈ es, f.1 = e.1) := by
  unfold reputAt at h
  rcases List.mem_append.mp h with h | h
  · rcases List.mem_append.mp h with h | h
    · exact .inl (List.mem_of_mem_take h)
    · rw [List.mem_singleton.mp h]
      exact .inr ⟨rfl, es[k], List.getElem_mem hk, by rw [getD_of (List.getElem?_eq_getElem hk)]⟩
  · exact .inl (List.mem_of_mem_drop h)
theorem reput_wn {es : List Ent} {k : Nat} {x y : Str} (hk : k < es.length) (hw : ∀ e ∈ es, WnE e) (wx : Wn x) (wy : Wn y) : ∀ e ∈ reputAt es k x y, WnE e := fun e he => by
  rcases reput_mem hk he with h | ⟨h, f, hf, h1⟩
  · exact hw e h
  · exact ⟨h1 ▸ (hw f hf).1, by rw [h]; exact wx, by rw [h]; exact wy⟩
theorem NetOk.ends {es : List Ent} {s t : Str} {mo : Nat} (h : NetOk es s t mo) {q : Str} (hq : q ∈ endsOf es) : vn q = true ∧ Wn q := by
  obtain ⟨e, he, rfl | rfl⟩ := mem_ends.mp hq
  · exact ⟨(h.ok e he).1.2.1, (h.ok e he).2.2.1⟩
  · exact ⟨(h.ok e he).1.2.2, (h.ok e he).2.2.2⟩
/-- one link is laid between other places -/
theorem NetOk.reput {es : List Ent} {s t x y : Str} {mo k : Nat} (h : NetOk es s t mo) (hk : k < es.length) (hx : x ∈ endsOf es) (hy : y ∈ endsOf es)
    (h1 : ∀ e ∈ reputAt es k x y, ¬ (e.2.1 = e.2.2 ∨ Lead (reputAt es k x y) e.2.2 e.2.1)) (h2 : ∀ e ∈ reputAt es k x y, Useful (reputAt es k x y) s t e) : NetOk (reputAt es k x y) s t mo where
  few := by rw [reput_len hk]; exact h.few
  nd := by rw [reput_names hk]; exact h.nd
  ok := fun e he => by
    rcases reput_mem hk he with z | ⟨z, f, hf, e1⟩
    · exact h.ok e z
    · have a := h.ok f hf
      have b := h.ends hx
      have c := h.ends hy
      rw [e1] at a
      refine ⟨⟨a.1.1, ?_, ?_⟩, ?_, ?_, ?_⟩
      · rw [z]; exact b.1
      · rw [z]; exact c.1
      · have := a.2.1
        rw [e1] at this
        exact this
      · rw [z]; exact b.2
      · rw [z]; exact c.2
  hs := h.hs
  ht := h.ht
  ne := h.ne
  acy := acy_of h1
  use := h2
  sp := by
    obtain ⟨sp, a, b, c, d⟩ := h.sp
    have inn : ∀ {q : Str}, q ∈ endsOf es → q ∈ sp := fun {q} hq => by
      obtain ⟨e, he, rfl | rfl⟩ := mem_ends.mp hq
      · exact (d e he).1
      · exact (d e he).2
    refine ⟨sp, a, b, c, fun e he => ?_⟩
    rcases reput_mem hk he with z | ⟨z, _⟩
    · exact d e z
    · rw [z]; exact ⟨inn hx, inn hy⟩
/-- the names go round -/
def relab (es : List Ent) (ls : List Str) : List Ent := (List.range es.length).map fun k => (ls.getD k "", (es.getD k ("", "", "")).2.1, (es.getD k ("", "", "")).2.2)
theorem relab_names {es : List Ent} {ls : List Str} (h : ls.length = es.length) : names (relab es ls) = ls := by
  unfold names relab
  rw [List.map_map]
  refine List.ext_getElem? fun k => ?_
  rw [List.getElem?_map]
  by_cases hk : k < es.length
  · rw [List.getElem?_range hk, List.getElem?_eq_getElem (by omega)]
    show some (ls.getD k "") = _
    rw [getD_of (List.getElem?_eq_getElem (by omega))]
  · rw [List.getElem?_eq_none (by rw [List.length_range]; omega), List.getElem?_eq_none (by omega)]
    rfl
theorem relab_of {es : List Ent} {ls : List Str} {f : Ent} (h : f ∈ relab es ls) : ∃ e ∈ es, f.2 = e.2 ∧ ∃ k < es.length, f.1 = ls.getD k "" := by
  obtain ⟨k, hk, rfl⟩ := List.mem_map.mp h
  have hk := List.mem_range.mp hk
  exact ⟨es[k], List.getElem_mem hk, by rw [getD_of (List.getElem?_eq_getElem hk)], k, hk, rfl⟩
theorem relab_to {es : List Ent} {ls : List Str} {e : Ent} (h : e ∈ es) : ∃ f ∈ relab es ls, f.2 = e.2 := by
  obtain ⟨k, hk⟩ := List.mem_iff_getElem?.mp h
  refine ⟨_, List.mem_map.mpr ⟨k, List.mem_range.mpr (List.getElem?_eq_some_iff.mp hk).1, rfl⟩, ?_⟩
  rw [getD_of hk]
theorem NetOk.relab {es : List Ent} {s t : Str} {mo : Nat} {ls : List Str} (h : NetOk es s t mo) (hp : ls.Perm (names es)) : NetOk (relab es ls) s t mo := by
  have hl : ls.length = es.length := by rw [hp.length_eq]; unfold names; rw [List.length_map]
  have back : ∀ {p q : Str}, Lead (My.relab es ls) p q → Lead es p q := fun z => z.map fun f hf => let ⟨e, he, h1, _⟩ := relab_of hf; ⟨e, he, h1.symm⟩
  have forth : ∀ {p q : Str}, Lead es p q → Lead (My.relab es ls) p q := fun z => z.map fun e he => relab_to he
  refine ⟨by unfold My.relab; rw [List.length_map, List.length_range]; exact h.few, by rw [relab_names hl]; exact hp.nodup_iff.mpr h.nd, fun f hf => ?_, h.hs, h.ht, h.ne, fun p z => h.acy p (back z), fun f hf => ?_, ?_⟩
  · obtain ⟨e, he, h1, k, hk, h2⟩ := relab_of hf
    have a := h.ok e he
    have hm : ls.getD k "" ∈ names es := hp.mem_iff.mp (by rw [getD_of (List.getElem?_eq_getElem (show k < ls.length by omega))]; exact List.getElem_mem _)
    obtain ⟨g, hg, h3⟩ := List.mem_map.mp hm
    have b := h.ok g hg
    have h4 : f.1 = g.1 := h2.trans h3.symm
    refine ⟨⟨?_, ?_, ?_⟩, ?_, ?_, ?_⟩
    · rw [h4]; exact b.1.1
    · rw [h1]; exact a.1.2.1
    · rw [h1]; exact a.1.2.2
    · rw [h4]; exact b.2.1
    · rw [h1]; exact a.2.2.1
    · rw [h1]; exact a.2.2.2
  · obtain ⟨e, he, h1, _⟩ := relab_of hf
    have u := h.use e he
    refine ⟨?_, ?_⟩
    · rw [h1]; exact u.1.imp id forth
    · rw [h1]; exact u.2.imp id forth
  · obtain ⟨sp, a, b, c, d⟩ := h.sp
    refine ⟨sp, a, b, c, fun f hf => ?_⟩
    obtain ⟨e, he, h1, _⟩ := relab_of hf
    rw [h1]
    exact d e he

open Classical in
noncomputable def rdB (es : List Ent) (e : Ent) : Bool := decide (e.2.1 = e.2.2 ∨ Lead es e.2.2 e.2.1)
open Classical in
theorem rd_yes {es : List Ent} {e : Ent} (h : e.2.1 = e.2.2 ∨ Lead es e.2.2 e.2.1) : rdB es e = true := by unfold rdB; exact decide_eq_true h
open Classical in
theorem of_rd {es : List Ent} {e : Ent} (h : rdB es e = true) : e.2.1 = e.2.2 ∨ Lead es e.2.2 e.2.1 := by unfold rdB at h; exact of_decide_eq_true h
section
variable {P : Program} {w : World} {K : PySem.W.Frag} {mg : Str → Option Value} {base : Heap}
def spRew : Sp := fun vs H Q _ => ∃ (G : Hp) (st a : Addr) (m mo : Nat) (es : List Ent) (s t : Str), vs = [.ref st, .ref a, .str s, .str t] ∧ DSt G H st m ∧ m < 900000 ∧ RowsL G a es ∧ es.length ≤ 10 ∧ NetOk es s t mo ∧
  ∀ (l : Addr) (fs : List Ent) (G' H' : Hp), Same G G' → DSt G' H' st (m + 27) → RowsL G' l fs → NetOk fs s t mo → fs.length = es.length → names fs = names es ∨ (names fs).Perm (names es) → (∀ q, q ∈ endsOf fs ↔ q ∈ endsOf es) → Q (.ref l) H'
theorem paired_app {α β : Type} {F : α → β → Prop} : ∀ {xs xs' : List α} {ys ys' : List β}, Paired F xs ys → Paired F xs' ys' → Paired F (xs ++ xs') (ys ++ ys')
  | _, _, _, _, .nil, h => h
  | _, _, _, _, .cons a r, h => .cons a (paired_app r h)
theorem paired_take {α β : Type} {F : α → β → Prop} : ∀ {xs : List α} {ys : List β}, Paired F xs ys → ∀ k, Paired F (xs.take k) (ys.take k)
  | _, _, .nil, k => by rw [List.take_nil, List.take_nil]; exact .nil
  | _, _, .cons a r, 0 => .nil
  | _, _, .cons a r, k + 1 => .cons a (paired_take r k)
theorem paired_drop {α β : Type} {F : α → β → Prop} : ∀ {xs : List α} {ys : List β}, Paired F xs ys → ∀ k, Paired F (xs.drop k) (ys.drop k)
  | _, _, .nil, k => by rw [List.drop_nil, List.drop_nil]; exact .nil
  | _, _, .cons a r, 0 => .cons a r
  | _, _, .cons a r, k + 1 => paired_drop r k
theorem ok_rew (T : Txt K mg) : FnOk P w K mg base CX0 3 T.f_rewired T.d_rewired ["_law_state", "_law_rows", "_law_first", "_law_last"] spRew := by
  have G_draw : FnOk P w K mg base CX0 1 T.f_draw T.d_draw ["_law_state", "_law_size"] spDraw := ok_draw T
  have G_after : FnOk P w K mg base CX0 1 T.f_after T.d_after ["_law_rows", "_law_place"] spAfter := ok_after T
  have G_useful : FnOk P w K mg base CX0 2 T.f_useful T.d_useful ["_law_rows", "_law_first", "_law_last"] spUsefulL := ok_usefulL T
  have G_spots : FnOk P w K mg base CX0 1 T.f_spots T.d_spots ["_law_rows"] spSpots := ok_spots T
  refine T.F_rewired.ok sc_rewired (fun vs H Q E h => ?_) (fun cdv A outer s H vs Q E hr h => ?_)
  · obtain ⟨G, st, a, m, mo, es, s, t, rfl, _⟩ := h
    rfl
  · obtain ⟨G, st, a, m, mo, es, s, t, rfl, d0, hm, hra, hfew, nok, k⟩ := h
    have hwn : ∀ e ∈ es, WnE e := fun e he => (nok.ok e he).2
    have hpos := nok.few
    refine ⟨_, (pss_cons (ps_set (i := 4) sc_rewired.nd rfl (Or.inl rfl) (pe_call G_spots (hr.mono (by decide)) rfl T.m_spots T.F_spots.kp T.b_spots .nil pass0 (pa_cons (pv 1) pa_nil)))
    (C8.pss_cut (ps_for PassesOwn.never rfl (pi_range1 rfl T.n_range (pa_cons pe_int pa_nil)) (pg_name (i := 5) sc_rewired.nd rfl (Or.inl rfl))
      (pss_cons (ps_set (i := 6) sc_rewired.nd rfl (Or.inl rfl) (pe_call G_draw (hr.mono (by decide)) rfl T.m_draw T.F_draw.kp T.b_draw .nil pass0 (pa_cons (pv 0) (pa_cons (pe_callB call_len_seq (by rfl) T.n_len (by decide +kernel) (pa_cons (pv 1) pa_nil)) pa_nil))))
    (pss_cons (ps_par (i := 7) (j := 8) (by rfl) sc_rewired.nd rfl rfl (by decide) rfl rfl (pa_cons (pe_ix ix_list (pv 4) (pe_call G_draw (hr.mono (by decide)) rfl T.m_draw T.F_draw.kp T.b_draw .nil pass0 (pa_cons (pv 0) (pa_cons (pe_callB call_len_seq (by rfl) T.n_len (by decide +kernel) (pa_cons (pv 4) pa_nil)) pa_nil))) (fun _ _ => rfl)) (pa_cons (pe_ix ix_list (pv 4) (pe_call G_draw (hr.mono (by decide)) rfl T.m_draw T.F_draw.kp T.b_draw .nil pass0 (pa_cons (pv 0) (pa_cons (pe_callB call_len_seq (by rfl) T.n_len (by decide +kernel) (pa_cons (pv 4) pa_nil)) pa_nil))) (fun _ _ => rfl)) pa_nil)) (by rfl))
    (pss_cons (ps_set (i := 9) sc_rewired.nd rfl (Or.inr rfl) (pe_op op_cat (pe_op op_cat (pe_slice sl_list (pv 1) po_none (po_some (pv 6))) (pe_lst (pa_cons (pe_tup (pa_cons (pe_ix ix_tup (pe_ix ix_list (pv 1) (pv 6) (fun _ _ => rfl)) pe_int (fun _ _ => rfl)) (pa_cons (pv 7) (pa_cons (pv 8) pa_nil)))) pa_nil))) (pe_slice sl_list (pv 1) (po_some (pe_op op_add (pv 6) pe_int)) po_none)))
    (pss_cons (ps_setLc (i := 10) (own := [("_law_row", 12)]) (g := gName 12) rfl sc_rewired.nd rfl rfl (sw_true rfl rfl rfl (by decide +kernel)) (pi_list (pv 9)) (blkOk_by (N := ["_law_state", "_law_rows", "_law_first", "_law_last", "_law_spots_here", "_law_turn", "_law_k", "_law_a", "_law_b", "_law_more", "_law_rounds", "_law_labels", "_law_row"]) (sc := defScope s_rewired) (by decide +kernel)) (fun _ _ _ _ _ => pg_name (i := 12) sc_rewired.nd rfl (Or.inl rfl)) (fun _ _ _ _ _ => pts_one (PW.pt (pw_or (pt_cmpR op_eq (pe_ix (show IxR _ (rIxT K) from ix_tup) (pv 12) pe_int (fun _ _ => rfl)) (pe_ix (show IxR _ (rIxT K) from ix_tup) (pv 12) pe_int (fun _ _ => rfl)) (nomark _)) (pw_or1 (pt_cmpR (show OpR _ _ (rIn K false) from op_in_seq) (pe_ix (show IxR _ (rIxT K) from ix_tup) (pv 12) pe_int (fun _ _ => rfl)) (pe_call G_after (hr.mono (by decide)) rfl T.m_after T.F_after.kp T.b_after .nil pass0 (pa_cons (pv 9) (pa_cons (pe_ix (show IxR _ (rIxT K) from ix_tup) (pv 12) pe_int (fun _ _ => rfl)) pa_nil))) (by with_unfolding_all rfl)))))) (fun _ _ _ _ _ => (pv 12)))
    (pss_one (ps_if (PW.pt (pw_and (pt_cmpR (op_eqD hr.units) (pv 10) (pe_lst pa_nil) (nomark _)) (pw_and (pt_cmpR (op_eqD hr.units) (pe_call G_useful (hr.mono (by decide)) rfl T.m_useful T.F_useful.kp T.b_useful .nil pass0 (pa_cons (pv 9) (pa_cons (pv 2) (pa_cons (pv 3) pa_nil)))) (pv 9) (nomark _)) (pw_and1 (pt_cmpR (op_eqD hr.units) (pe_call G_spots (hr.mono (by decide)) rfl T.m_spots T.F_spots.kp T.b_spots .nil pass0 (pa_cons (pv 9) pa_nil)) (pv 4) (nomark _))))))
      (pss_one (ps_ret (pv 9)))
      pss_nil)))))))
    (pss_cons (ps_set (i := 11) sc_rewired.nd rfl (Or.inr rfl) (pe_lc (own := [("_law_row", 12)]) (g := gName 12) (tt := tYes) rfl sc_rewired.nd (pi_list (pe_op op_cat (pe_slice sl_list (pv 1) (po_some pe_int) po_none) (pe_slice sl_list (pv 1) po_none (po_some pe_int)))) (blkOk_by (N := ["_law_state", "_law_rows", "_law_first", "_law_last", "_law_spots_here", "_law_turn", "_law_k", "_law_a", "_law_b", "_law_more", "_law_rounds", "_law_labels", "_law_row"]) (sc := defScope s_rewired) (by decide +kernel)) (fun _ _ _ _ _ => pg_name (i := 12) sc_rewired.nd rfl (Or.inl rfl)) (fun _ _ _ _ _ => pts_nil) (fun _ _ _ _ _ => (pe_ix (show IxR _ (rIxT K) from ix_tup) (pv 12) pe_int (fun _ _ => rfl)))))
    (pss_one (ps_ret (pe_lc (own := [("_law_k", 6)]) (g := gName 6) (tt := tYes) rfl sc_rewired.nd (pi_range1 rfl T.n_range (pa_cons (pe_callB call_len_seq (by rfl) T.n_len (by decide +kernel) (pa_cons (pv 1) pa_nil)) pa_nil)) (blkOk_by (N := ["_law_state", "_law_rows", "_law_first", "_law_last", "_law_spots_here", "_law_turn", "_law_k", "_law_a", "_law_b", "_law_more", "_law_rounds", "_law_labels", "_law_row"]) (sc := defScope s_rewired) (by decide +kernel)) (fun _ _ _ _ _ => pg_name (i := 6) sc_rewired.nd rfl (Or.inl rfl)) (fun _ _ _ _ _ => pts_nil) (fun _ _ _ _ _ => (pe_tup (pa_cons (pe_ix (show IxR _ (rIxL K) from ix_list) (pv 11) (pv 6) (fun _ _ => rfl)) (pa_cons (pe_ix (show IxR _ (rIxT K) from ix_tup) (pe_ix (show IxR _ (rIxL K) from ix_list) (pv 1) (pv 6) (fun _ _ => rfl)) pe_int (fun _ _ => rfl)) (pa_cons (pe_ix (show IxR _ (rIxT K) from ix_tup) (pe_ix (show IxR _ (rIxL K) from ix_list) (pv 1) (pv 6) (fun _ _ => rfl)) pe_int (fun _ _ => rfl)) pa_nil))))))))))), ?_⟩
    refine ⟨_, rfl, a, es, rfl, hra.on d0.same, by omega, fun L ys H1 nL s1 hL sp => ?_⟩
    obtain ⟨G1, sG1, d1, al1, _⟩ := d0.all s1
    have hL1 : G1 L = some (.lst (ys.map V.str)) := al1 _ _ nL hL
    have hr1 := hra.on sG1
    obtain ⟨qs, ha, hp⟩ := id hr1
    have hqe : (qs.map V.ref).length = es.length := by rw [List.length_map, hp.length]
    have hys : 0 < ys.length := by
      obtain ⟨e, he⟩ : ∃ e, e ∈ es := by
        cases es with
        | nil => simp at hpos
        | cons e r => exact ⟨e, List.mem_cons_self⟩
      exact List.length_pos_of_mem ((sp.mem e.2.1).mpr (mem_ends.mpr ⟨e, he, .inl rfl⟩))
    have hyl : (ys.map V.str).length = ys.length := List.length_map _
    have sfew := sp.few
    refine ⟨fun σ H' => ∃ x5 x6 x7 x8 x9 x10 x11 x12, σ = [some (.ref st), some (.ref a), some (.str s), some (.str t), some (.ref L), x5, x6, x7, x8, x9, x10, x11, x12] ∧ DSt G1 H' st (m + 27), ?_, ?_⟩
    · refine ⟨_, rfl, by omega, by omega, ?_⟩
      refine for_range (lo := 0) (n := 9) (fun i σ H' => ∃ x5 x6 x7 x8 x9 x10 x11 x12, σ = [some (.ref st), some (.ref a), some (.str s), some (.str t), some (.ref L), x5, x6, x7, x8, x9, x10, x11, x12] ∧ DSt G1 H' st (m + 3 * i)) ⟨none, none, none, none, none, none, none, none, rfl, d1⟩ ?_ fun σ H' h => h
      rintro i σ H' hi ⟨x5, x6, x7, x8, x9, x10, x11, x12, rfl, d⟩
      refine ⟨_, rfl, _, rfl, a, _, rfl, .inl (SqL.of (d.same _ _ ha)), G1, st, m + 3 * i, _, rfl, d, by omega, by rw [hqe]; omega, Int.lt_of_le_of_lt (b := 100) (by rw [hqe]; omega) (by decide), fun kp H2 k0 k1 d2 => ?_⟩
      rw [hqe] at k1
      obtain ⟨kn, rfl⟩ : ∃ kn : Nat, kp = (kn : Int) := ⟨kp.toNat, by omega⟩
      have hkn : kn < es.length := by omega
      have pick : ∀ {u : Int}, 0 ≤ u → u < ((ys.map V.str).length : Int) → ∃ x, x ∈ endsOf es ∧ atI (ys.map V.str) u = some (V.str x) := fun {u} u0 u1 => by
        rw [hyl] at u1
        obtain ⟨un, rfl⟩ : ∃ un : Nat, u = (un : Int) := ⟨u.toNat, by omega⟩
        have hun : un < ys.length := by omega
        exact ⟨ys[un], (sp.mem _).mp (List.getElem_mem hun), atI_nat (by rw [List.getElem?_map, List.getElem?_eq_getElem hun]; rfl)⟩
      refine ⟨_, rfl, _, rfl, _, rfl, L, _, rfl, .inl (SqL.of (d2.same _ _ hL1)), G1, st, m + 3 * i + 1, _, rfl, d2, by omega, by rw [hyl]; omega, Int.lt_of_le_of_lt (b := 100) (by rw [hyl]; omega) (by decide), fun u H3 u0 u1 d3 => ?_⟩
      obtain ⟨x, hx, ex⟩ := pick u0 u1
      refine ⟨L, _, _, _, rfl, rfl, SqL.of (d3.same _ _ hL1), ex, ?_⟩
      refine ⟨_, rfl, _, rfl, _, rfl, L, _, rfl, .inl (SqL.of (d3.same _ _ hL1)), G1, st, m + 3 * i + 1 + 1, _, rfl, d3, by omega, by rw [hyl]; omega, Int.lt_of_le_of_lt (b := 100) (by rw [hyl]; omega) (by decide), fun v H4 v0 v1 d4 => ?_⟩
      obtain ⟨y, hy, ey⟩ := pick v0 v1
      refine ⟨L, _, _, _, rfl, rfl, SqL.of (d4.same _ _ hL1), ey, ?_⟩
      have ha4 := d4.same _ _ ha
      refine ⟨_, _, rfl, ?_⟩
      refine ⟨_, rfl, ?_⟩
      obtain ⟨q, hq⟩ : ∃ q, qs[kn]? = some q := ⟨_, List.getElem?_eq_getElem (by rw [hp.length]; exact hkn)⟩
      obtain ⟨e, he, hqe2⟩ := L2.paired_get hp hq
      have egd : es.getD kn ("", "", "") = e := getD_of he
      refine ⟨_, rfl, _, rfl, a, _, rfl, SqL.of ha4, fun p1 np1 => ?_⟩
      rw [cut_take]
      have t1 : Same H4 (upd H4 p1 (.lst ((qs.map V.ref).take kn))) := same_upd np1
      have g1 : (upd H4 p1 (.lst ((qs.map V.ref).take kn))) p1 = some (.lst ((qs.map V.ref).take kn)) := upd_same
      generalize upd H4 p1 (.lst ((qs.map V.ref).take kn)) = J1 at t1 g1 ⊢
      have aq : atI (qs.map V.ref) (kn : Int) = some (V.ref q) := atI_nat (by rw [List.getElem?_map, hq]; rfl)
      refine ⟨_, rfl, _, rfl, a, _, _, .ref q, rfl, rfl, SqL.of (t1 _ _ ha4), aq, q, _, 0, .str e.1, rfl, rfl, SqT.of (t1 _ _ (d4.same _ _ hqe2)), rfl, _, rfl, _, rfl, by show 3 ≤ sizeLine; decide, fun U nU => ?_⟩
      have t2 := t1.trans (same_upd (o := .tup [.str e.1, .str x, .str y]) nU)
      have gU : (upd J1 U (.tup [.str e.1, .str x, .str y])) U = some (.tup [.str e.1, .str x, .str y]) := upd_same
      have g2 := same_upd (o := .tup [.str e.1, .str x, .str y]) nU _ _ g1
      generalize upd J1 U (.tup [.str e.1, .str x, .str y]) = J2 at t2 gU g2 ⊢
      refine ⟨by show 1 ≤ sizeLine; decide, fun l2 nl2 => ?_⟩
      have t3 := t2.trans (same_upd (o := .lst [V.ref U]) nl2)
      have g3 := same_upd (o := .lst [V.ref U]) nl2 _ _ g2
      have gU3 := same_upd (o := .lst [V.ref U]) nl2 _ _ gU
      have gl2 : (upd J2 l2 (.lst [V.ref U])) l2 = some (.lst [V.ref U]) := upd_same
      generalize upd J2 l2 (.lst [V.ref U]) = J3 at t3 g3 gU3 gl2 ⊢
      refine ⟨p1, l2, _, _, rfl, rfl, g3, gl2, Nat.le_of_lt (small1000 (by rw [List.length_take]; show _ + 1 ≤ 1000; omega)), fun p3 np3 => ?_⟩
      have t4 := t3.trans (same_upd (o := .lst ((qs.map V.ref).take kn ++ [V.ref U])) np3)
      have gU4 := same_upd (o := .lst ((qs.map V.ref).take kn ++ [V.ref U])) np3 _ _ gU3
      have g4 : (upd J3 p3 (.lst ((qs.map V.ref).take kn ++ [V.ref U]))) p3 = some (.lst ((qs.map V.ref).take kn ++ [V.ref U])) := upd_same
      generalize upd J3 p3 (.lst ((qs.map V.ref).take kn ++ [V.ref U])) = J4 at t4 gU4 g4 ⊢
      refine ⟨_, rfl, _, rfl, _, 1, rfl, rfl, _, rfl, a, _, rfl, SqL.of (t4 _ _ ha4), fun p4 np4 => ?_⟩
      rw [show ((kn : Int) + 1) = ((kn + 1 : Nat) : Int) from by omega, cut_drop]
      have t5 := t4.trans (same_upd (o := .lst ((qs.map V.ref).drop (kn + 1))) np4)
      have gU5 := same_upd (o := .lst ((qs.map V.ref).drop (kn + 1))) np4 _ _ gU4
      have g5 := same_upd (o := .lst ((qs.map V.ref).drop (kn + 1))) np4 _ _ g4
      have g6 : (upd J4 p4 (.lst ((qs.map V.ref).drop (kn + 1)))) p4 = some (.lst ((qs.map V.ref).drop (kn + 1))) := upd_same
      generalize upd J4 p4 (.lst ((qs.map V.ref).drop (kn + 1))) = J5 at t5 gU5 g5 g6 ⊢
      refine ⟨p3, p4, _, _, rfl, rfl, g5, g6, Nat.le_of_lt (small1000 (by rw [List.length_append, List.length_take, List.length_drop]; show _ + 1 + _ ≤ 1000; omega)), fun M nM => ?_⟩
      have em : (qs.map V.ref).take kn ++ [V.ref U] ++ (qs.map V.ref).drop (kn + 1) = (qs.take kn ++ [U] ++ qs.drop (kn + 1)).map V.ref := by rw [List.map_append, List.map_append, List.map_take, List.map_drop]; rfl
      rw [em]
      have t6 := t5.trans (same_upd (o := .lst ((qs.take kn ++ [U] ++ qs.drop (kn + 1)).map V.ref)) nM)
      have gU6 := same_upd (o := .lst ((qs.take kn ++ [U] ++ qs.drop (kn + 1)).map V.ref)) nM _ _ gU5
      have hM : (upd J5 M (.lst ((qs.take kn ++ [U] ++ qs.drop (kn + 1)).map V.ref))) M = some (.lst ((qs.take kn ++ [U] ++ qs.drop (kn + 1)).map V.ref)) := upd_same
      have nM4 : H4 M = none := t5.free nM
      generalize upd J5 M (.lst ((qs.take kn ++ [U] ++ qs.drop (kn + 1)).map V.ref)) = J6 at t6 gU6 hM ⊢
      have nU4 : H4 U = none := t1.free nU
      have hpM : Paired (RowT J6) (qs.take kn ++ [U] ++ qs.drop (kn + 1)) (reputAt es kn x y) := by
        have up : Paired (RowT J6) qs es := paired_on (fun _ _ z => t6 _ _ (d4.same _ _ z)) hp
        unfold reputAt
        rw [egd]
        exact paired_app (paired_app (paired_take up kn) (.cons gU6 .nil)) (paired_drop up (kn + 1))
      have hrM : RowsL J6 M (reputAt es kn x y) := ⟨_, hM, hpM⟩
      have wfs : ∀ f ∈ reputAt es kn x y, WnE f := reput_wn hkn hwn (nok.ends hx).2 (nok.ends hy).2
      have lfs : (reputAt es kn x y).length = es.length := reput_len hkn
      refine ⟨_, rfl, M, rfl, ⟨_, SqL.of hM⟩, fun D hD => ?_⟩
      generalize hfs : reputAt es kn x y = fs at hpM hrM wfs lfs
      generalize hqs : qs.take kn ++ [U] ++ qs.drop (kn + 1) = qs' at hM hpM
      refine lc_list (K := K) (a := M) (xs := qs'.map V.ref) (fun i H' => Same J6 H' ∧ ∃ rs : List Addr, H' D = some (.lst (rs.map V.ref)) ∧ Paired (RowT J6) rs ((fs.take i).filter (rdB fs))) ⟨same_upd hD, [], upd_same, .nil⟩ (fun i H' _ h => SqL.of (h.1 _ _ hM)) ?_ ?_
      · intro j xv H' hj ⟨s7, rs, hDr, hpr⟩
        obtain ⟨q2, hq2, rfl⟩ : ∃ q, qs'[j]? = some q ∧ xv = V.ref q := by
          rw [List.getElem?_map] at hj
          cases e : qs'[j]? with
          | none => rw [e] at hj; cases hj
          | some q => rw [e] at hj; exact ⟨q, rfl, (Option.some.inj hj).symm⟩
        obtain ⟨f, hf, hfq⟩ := L2.paired_get hpM hq2
        have hfq7 := s7 _ _ hfq
        have tk := take_more hf
        have hlen : rs.length ≤ 100 := by
          rw [hpr.length]
          have b := List.length_filter_le (rdB fs) (fs.take j)
          rw [List.length_take] at b
          omega
        have no : ∀ {H4 : Hp}, Same H' H4 → ¬ (f.2.1 = f.2.2 ∨ Lead fs f.2.2 f.2.1) → Same J6 H4 ∧ ∃ rs : List Addr, H4 D = some (.lst (rs.map V.ref)) ∧ Paired (RowT J6) rs ((fs.take (j + 1)).filter (rdB fs)) := fun {H4} sm hn => by
          refine ⟨s7.trans sm, rs, sm _ _ hDr, ?_⟩
          rw [tk, List.filter_append, show [f].filter (rdB fs) = [] from List.filter_cons_of_neg (fun z => hn (of_rd z)), List.append_nil]
          exact hpr
        have yes : ∀ {H4 : Hp}, Same H' H4 → (f.2.1 = f.2.2 ∨ Lead fs f.2.2 f.2.1) → ∃ acc, H4 D = some (.lst acc) ∧ acc.length < sizeLine ∧ (Same J6 (upd H4 D (.lst (acc ++ [V.ref q2]))) ∧ ∃ rs : List Addr, (upd H4 D (.lst (acc ++ [V.ref q2]))) D = some (.lst (rs.map V.ref)) ∧ Paired (RowT J6) rs ((fs.take (j + 1)).filter (rdB fs))) := fun {H4} sm hu => by
          refine ⟨_, sm _ _ hDr, small1000 (by rw [List.length_map]; omega), same_mut (s7.trans sm) hD, rs ++ [q2], by rw [upd_same, List.map_append]; rfl, ?_⟩
          rw [tk, List.filter_append, show [f].filter (rdB fs) = [f] from List.filter_cons_of_pos (rd_yes hu)]
          exact paired_snoc (F := RowT J6) hfq hpr
        refine ⟨rfl, _, rfl, q2, _, 1, .str f.2.1, rfl, rfl, SqT.of hfq7, rfl, _, rfl, q2, _, 2, .str f.2.2, rfl, rfl, SqT.of hfq7, rfl, rfl, _, rfl, ?_⟩
        by_cases het : f.2.1 = f.2.2
        · rw [decide_eq_true (by rw [het])]
          exact iteT ⟨_, rfl, yes (Same.refl _) (.inl het)⟩
        · rw [decide_eq_false (fun z => het (V.str.inj z))]
          refine iteF ?_
          refine ⟨_, rfl, q2, _, 1, .str f.2.1, rfl, rfl, SqT.of hfq7, rfl, _, rfl, _, rfl, q2, _, 2, .str f.2.2, rfl, rfl, SqT.of hfq7, rfl, M, fs, f.2.2, rfl, hrM.on s7, by omega, wfs, (wfs f (List.mem_of_getElem? hf)).2.2, fun b2 F2 H4 nb2 s8 hb2 nd2 hF2 => ?_⟩
          refine ⟨b2, _, rfl, .inl (SqL.of hb2), rfl, flat_names F2, _, rfl, ?_⟩
          rw [if_neg (by decide), inV_names]
          by_cases hb : f.2.1 ∈ F2
          · rw [decide_eq_true hb]
            exact iteT ⟨_, rfl, yes s8 (.inr ((hF2 _).mp hb))⟩
          · rw [decide_eq_false hb]
            exact iteF (no s8 fun z => z.elim het fun q => hb ((hF2 _).mpr q))
      intro J7 ⟨s7, rs, hDr, hpr⟩
      rw [List.length_map, hpM.length, List.take_length] at hpr
      have next : ∀ {Hz : Hp}, Same H4 Hz → DSt G1 Hz st (m + 3 * (i + 1)) := fun {Hz} z => (d4.on z).mono (by omega)
      have t7 := t6.trans s7
      refine ⟨_, rfl, Nat.zero_le _, fun z1 nz1 => ?_⟩
      have t8 := t7.trans (same_upd (o := .lst []) nz1)
      have s8 := s7.trans (same_upd (o := .lst []) nz1)
      have hD8 := same_upd (o := .lst []) nz1 _ _ hDr
      have hz1 : (upd J7 z1 (.lst [])) z1 = some (.lst []) := upd_same
      generalize upd J7 z1 (.lst []) = J8 at t8 s8 hD8 hz1 ⊢
      have wgs : ∀ f ∈ fs.filter (rdB fs), WnE f := fun f hf => wfs f (List.mem_filter.mp hf).1
      refine ⟨_, _, dp_rowsL ⟨rs, hD8, paired_on (fun _ _ z => s8 _ _ z) hpr⟩, dp_rowsL (es := []) ⟨[], hz1, .nil⟩, shaped_rows wgs, shaped_rows (es := []) (fun e he => by cases he), _, rfl, ?_⟩
      rw [eqv_rows]
      by_cases hg : fs.filter (rdB fs) = []
      · rw [decide_eq_true hg]
        refine iteT ?_
        refine ⟨_, rfl, _, rfl, _, rfl, M, fs, s, t, rfl, hrM.on s8, by omega, wfs, nok.hs.2, nok.ht.2, fun l9 J9 nl9 s9 hl9 => ?_⟩
        have wus : ∀ f ∈ fs.filter (usefulB fs s t), WnE f := fun f hf => wfs f (List.mem_filter.mp hf).1
        refine ⟨_, rfl, _, _, dp_rowsL hl9, dp_rowsL (hrM.on (s8.trans s9)), shaped_rows wus, shaped_rows wfs, _, rfl, ?_⟩
        rw [eqv_rows]
        by_cases hu : fs.filter (usefulB fs s t) = fs
        · rw [decide_eq_true hu]
          refine iteT ?_
          refine ⟨_, rfl, M, fs, rfl, hrM.on (s8.trans s9), by omega, fun l10 zs J10 nl10 s10 hl10 sp2 => ?_⟩
          have t10 := (t8.trans s9).trans s10
          have wz : ∀ z ∈ zs, Wn z := fun z hz => by
            obtain ⟨f, hf, rfl | rfl⟩ := mem_ends.mp ((sp2.mem z).mp hz)
            · exact (wfs f hf).2.1
            · exact (wfs f hf).2.2
          have wy : ∀ z ∈ ys, Wn z := fun z hz => (nok.ends ((sp.mem z).mp hz)).2
          refine ⟨_, rfl, _, _, dp_txts hl10, dp_txts (t10 _ _ (d4.same _ _ hL1)), shaped_txts wz, shaped_txts wy, _, rfl, ?_⟩
          rw [eqv_txts]
          by_cases hz : zs = ys
          · rw [decide_eq_true hz]
            refine iteT ?_
            obtain ⟨G9, sG9, d9, al9, _⟩ := d4.all t10
            have hn1 : ∀ f ∈ fs, ¬ (f.2.1 = f.2.2 ∨ Lead fs f.2.2 f.2.1) := fun f hf z => by
              have : f ∈ fs.filter (rdB fs) := List.mem_filter.mpr ⟨hf, rd_yes z⟩
              rw [hg] at this
              cases this
            have hn2 : ∀ f ∈ fs, Useful fs s t f := fun f hf => by
              rw [← hu] at hf
              exact of_useful (List.mem_filter.mp hf).2
            subst hfs hqs
            have hM10 : G9 M = some (.lst ((qs.take kn ++ [U] ++ qs.drop (kn + 1)).map V.ref)) := al9 _ _ nM4 (((s8.trans s9).trans s10) _ _ hM)
            have hU10 : RowT G9 U (e.1, x, y) := al9 _ _ nU4 (((s8.trans s9).trans s10) _ _ gU6)
            have hrG : RowsL G9 M (reputAt es kn x y) := by
              refine ⟨_, hM10, ?_⟩
              have up : Paired (RowT G9) qs es := paired_on (fun _ _ z => sG9 _ _ z) hp
              unfold reputAt
              rw [egd]
              exact paired_app (paired_app (paired_take up kn) (.cons hU10 .nil)) (paired_drop up (kn + 1))
            exact ⟨_, rfl, k M _ G9 _ (sG1.trans sG9) (d9.mono (by omega)) hrG (nok.reput hkn hx hy hn1 hn2) lfs (.inl (reput_names hkn)) fun q => by rw [← sp2.mem, hz, sp.mem]⟩
          · rw [decide_eq_false hz]
            exact iteF ⟨_, _, _, _, _, _, _, _, rfl, next t10⟩
        · rw [decide_eq_false hu]
          exact iteF ⟨_, _, _, _, _, _, _, _, rfl, next (t8.trans s9)⟩
      · rw [decide_eq_false hg]
        exact iteF ⟨_, _, _, _, _, _, _, _, rfl, next t8⟩
    · rintro σ H' ⟨x5, x6, x7, x8, x9, x10, x11, x12, rfl, d⟩
      have ha' := d.same _ _ ha
      refine ⟨_, rfl, 1, rfl, a, _, rfl, SqL.of ha', fun p1 np1 => ?_⟩
      rw [cut1]
      have t1 : Same H' (upd H' p1 (.lst ((qs.map V.ref).drop 1))) := same_upd np1
      have g1 : (upd H' p1 (.lst ((qs.map V.ref).drop 1))) p1 = some (.lst ((qs.map V.ref).drop 1)) := upd_same
      generalize upd H' p1 (.lst ((qs.map V.ref).drop 1)) = J1 at t1 g1 ⊢
      refine ⟨_, rfl, _, rfl, a, _, rfl, SqL.of (t1 _ _ ha'), fun p2 np2 => ?_⟩
      rw [show cutV (qs.map V.ref) none (some 1) = (qs.map V.ref).take 1 from cut_take _ 1]
      have t2 := t1.trans (same_upd (o := .lst ((qs.map V.ref).take 1)) np2)
      have g2 := same_upd (o := .lst ((qs.map V.ref).take 1)) np2 _ _ g1
      have g3 : (upd J1 p2 (.lst ((qs.map V.ref).take 1))) p2 = some (.lst ((qs.map V.ref).take 1)) := upd_same
      generalize upd J1 p2 (.lst ((qs.map V.ref).take 1)) = J2 at t2 g2 g3 ⊢
      refine ⟨p1, p2, _, _, rfl, rfl, g2, g3, Nat.le_of_lt (small1000 (by rw [List.length_drop, List.length_take]; omega)), fun p3 np3 => ?_⟩
      have em : (qs.map V.ref).drop 1 ++ (qs.map V.ref).take 1 = (qs.drop 1 ++ qs.take 1).map V.ref := by rw [List.map_append, List.map_take, List.map_drop]
      rw [em]
      have t3 := t2.trans (same_upd (o := .lst ((qs.drop 1 ++ qs.take 1).map V.ref)) np3)
      have g4 : (upd J2 p3 (.lst ((qs.drop 1 ++ qs.take 1).map V.ref))) p3 = some (.lst ((qs.drop 1 ++ qs.take 1).map V.ref)) := upd_same
      generalize upd J2 p3 (.lst ((qs.drop 1 ++ qs.take 1).map V.ref)) = J3 at t3 g4 ⊢
      have hp3 : Paired (RowT J3) (qs.drop 1 ++ qs.take 1) (es.drop 1 ++ es.take 1) := by
        have up : Paired (RowT J3) qs es := paired_on (fun _ _ z => t3 _ _ (d.same _ _ z)) hp
        exact paired_app (paired_drop up 1) (paired_take up 1)
      have lrot : (es.drop 1 ++ es.take 1).length = es.length := by rw [List.length_append, List.length_drop, List.length_take]; omega
      refine ⟨p3, rfl, ⟨_, SqL.of g4⟩, fun D hD => ?_⟩
      refine lc_list (K := K) (a := p3) (xs := (qs.drop 1 ++ qs.take 1).map V.ref) (fun i H2 => Same J3 H2 ∧ H2 D = some (.lst ((names ((es.drop 1 ++ es.take 1).take i)).map V.str))) ⟨same_upd hD, upd_same⟩ (fun i H2 _ h => SqL.of (h.1 _ _ g4)) ?_ ?_
      · intro j xv H2 hj ⟨s1, hDr⟩
        obtain ⟨q2, hq2, rfl⟩ : ∃ q, (qs.drop 1 ++ qs.take 1)[j]? = some q ∧ xv = V.ref q := by
          rw [List.getElem?_map] at hj
          cases e : (qs.drop 1 ++ qs.take 1)[j]? with
          | none => rw [e] at hj; cases hj
          | some q => rw [e] at hj; exact ⟨q, rfl, (Option.some.inj hj).symm⟩
        obtain ⟨f, hf, hfq⟩ := L2.paired_get hp3 hq2
        refine ⟨rfl, _, rfl, q2, _, 0, .str f.1, rfl, rfl, SqT.of (s1 _ _ hfq), rfl, _, hDr, small1000 (by unfold names; rw [List.length_map, List.length_map, List.length_take]; omega), same_mut s1 hD, ?_⟩
        rw [upd_same, names_take hf, List.map_append]
        rfl
      intro J4 ⟨s4, hD4⟩
      rw [List.length_map, hp3.length, List.take_length] at hD4
      have t4 := t3.trans s4
      generalize hls : names (es.drop 1 ++ es.take 1) = ls at hD4
      have pls : ls.Perm (names es) := by
        rw [← hls]
        unfold names
        refine List.Perm.map _ ?_
        have : (es.drop 1 ++ es.take 1).Perm (es.take 1 ++ es.drop 1) := List.perm_append_comm
        rw [List.take_append_drop] at this
        exact this
      have hll : ls.length = es.length := by rw [pls.length_eq]; unfold names; rw [List.length_map]
      refine ⟨_, rfl, a, _, rfl, .inl (SqL.of (t4 _ _ ha')), _, rfl, by omega, by rw [hqe]; omega, fun D2 hD2 => ?_⟩
      refine lc_range (lo := 0) (n := (qs.map V.ref).length) (fun i H2 => Same J4 H2 ∧ ∃ rs : List Addr, H2 D2 = some (.lst (rs.map V.ref)) ∧ Paired (RowT H2) rs ((List.range i).map fun k => (ls.getD k "", (es.getD k ("", "", "")).2.1, (es.getD k ("", "", "")).2.2)) ∧ ∀ r ∈ rs, H' r = none) ⟨same_upd hD2, [], upd_same, .nil, fun r hr => by cases hr⟩ ?_ ?_
      · rintro j H2 hj ⟨s5, rs, hDr, hpr, hnr⟩
        rw [hqe] at hj
        obtain ⟨q, hq⟩ : ∃ q, qs[j]? = some q := ⟨_, List.getElem?_eq_getElem (by rw [hp.length]; exact hj)⟩
        obtain ⟨e, he, hqe2⟩ := L2.paired_get hp hq
        have idx : (0 + (j : Int)) = (j : Int) := Int.zero_add _
        have aL : atI (ls.map V.str) (0 + (j : Int)) = some (V.str (ls.getD j "")) := by rw [idx]; exact atI_nat (by rw [List.getElem?_map, List.getElem?_eq_getElem (show j < ls.length by omega), getD_of (List.getElem?_eq_getElem (show j < ls.length by omega))]; rfl)
        have aP : atI (qs.map V.ref) (0 + (j : Int)) = some (V.ref q) := by rw [idx]; exact atI_nat (by rw [List.getElem?_map, hq]; rfl)
        have up : ∀ {c : Addr} {u : HO}, H' c = some u → H2 c = some u := fun hc => s5 _ _ (t4 _ _ hc)
        refine ⟨rfl, _, rfl, _, rfl, D, _, _, _, rfl, rfl, SqL.of (s5 _ _ hD4), aL, ?_⟩
        refine ⟨_, rfl, _, rfl, a, _, _, _, rfl, rfl, SqL.of (up ha'), aP, q, _, 1, .str e.2.1, rfl, rfl, SqT.of (up (d.same _ _ hqe2)), rfl, ?_⟩
        refine ⟨_, rfl, _, rfl, a, _, _, _, rfl, rfl, SqL.of (up ha'), aP, q, _, 2, .str e.2.2, rfl, rfl, SqT.of (up (d.same _ _ hqe2)), rfl, by show 3 ≤ sizeLine; decide, fun U nU => ?_⟩
        have sU := same_upd (o := .tup [.str (ls.getD j ""), .str e.2.1, .str e.2.2]) nU
        have hrl : rs.length ≤ 10 := by rw [hpr.length, List.length_map, List.length_range]; omega
        refine ⟨_, sU _ _ hDr, small1000 (by rw [List.length_map]; omega), same_mut (s5.trans sU) hD2, rs ++ [U], by rw [upd_same, List.map_append]; rfl, ?_, ?_⟩
        · have up2 : ∀ c o, (upd H2 U (.tup [.str (ls.getD j ""), .str e.2.1, .str e.2.2])) c = some (.tup o) → (upd (upd H2 U (.tup [.str (ls.getD j ""), .str e.2.1, .str e.2.2])) D2 (.lst (rs.map V.ref ++ [V.ref U]))) c = some (.tup o) := fun c o hc => by
            rw [upd_ne (fun z => by rw [z, sU _ _ hDr] at hc; cases hc)]; exact hc
          rw [List.range_succ, List.map_append, List.map_singleton]
          refine paired_snoc (F := RowT _) (show RowT _ U _ from ?_) (paired_on (fun _ _ z => up2 _ _ (sU _ _ z)) hpr)
          rw [getD_of he]
          exact up2 _ _ upd_same
        · intro r hr
          rcases List.mem_append.mp hr with hr | hr
          · exact hnr r hr
          · rw [List.mem_singleton.mp hr]
            exact (t4.trans s5).free nU
      · rintro J5 ⟨s5, rs, hDr, hpr, hnr⟩
        rw [hqe] at hpr
        obtain ⟨G9, sG9, d9, al9, _⟩ := d.all (t4.trans s5)
        have nD2 : H' D2 = none := t4.free hD2
        have hrG : RowsL G9 D2 (relab es ls) := ⟨rs, al9 _ _ nD2 hDr, paired_mem (fun r f hr z => al9 _ _ (hnr r hr) z) hpr⟩
        refine k D2 _ G9 _ (sG1.trans sG9) d9 hrG (nok.relab pls) ?_ (.inr ?_) fun q => ?_
        · unfold relab; rw [List.length_map, List.length_range]
        · rw [relab_names hll]; exact pls
        · rw [mem_ends, mem_ends]
          constructor
          · rintro ⟨f, hf, h⟩
            obtain ⟨e, he, h1, _⟩ := relab_of hf
            exact ⟨e, he, by rw [← h1]; exact h⟩
          · rintro ⟨e, he, h⟩
            obtain ⟨f, hf, h1⟩ := relab_to (ls := ls) he
            exact ⟨f, hf, by rw [h1]; exact h⟩
end

theorem NetAt.same {C : Addr} {H H' : Hp} {n : Addr} {s t : Str} {ts : List Ent} {ps : List Str} (h : NetAt C H n s t ts ps) (sm : Same H H') : NetAt C H' n s t ts ps := by
  obtain ⟨dx, d, p, b, kvs, h1, h2, h3, h4, h5⟩ := h
  exact ⟨dx, d, p, b, kvs, sm _ _ h1, h2.same sm, sm _ _ h3, sm _ _ h4, paired_on (fun _ _ z => z.on fun c o hc => sm _ _ hc) h5⟩

theorem nf_places {s t : Str} {d p b : Addr} : ([("_start", V.str s), ("_end", .str t), ("_links", .ref d), ("_places", .ref p), ("_behind", .ref b)] : List (Str × V)).lookup ("_places" : Str) = some (.ref p) := by
  rfl

section
variable {P : Program} {w : World} {K : PySem.W.Frag} {mg : Str → Option Value} {base : Heap}
def spNPlaces (C : Addr) : Sp := fun vs H Q _ => ∃ (n : Addr) (s t : Str) (ts : List Ent) (ps : List Str), vs = [.ref n] ∧ NetAt C H n s t ts ps ∧ ∀ p, H p = some (.tup (ps.map V.str)) → Q (.ref p) H
theorem ok_nplaces (T : Txt K mg) : FnOk P w K mg base CX0 1 T.f_Network_places T.d_Network_places ["self"] (spNPlaces T.f_Network) := by
  refine T.F_Network_places.ok sc_Network_places (fun vs H Q E h => ?_) (fun cdv A outer s H vs Q E hr h => ?_)
  · obtain ⟨n, s, t, ts, ps, rfl, _⟩ := h
    rfl
  · obtain ⟨n, s, t, ts, ps, rfl, ⟨dx, d, pp, b, kvs, h1, h2, h3, h4, h5⟩, k⟩ := h
    refine ⟨_, (pss_one (ps_ret (pe_fld (pv 0) rfl))), ?_⟩
    exact ⟨_, rfl, n, T.f_Network, dx, _, _, rfl, h1, T.cl_Network, T.na_Network_places, nf_places, k pp h3⟩
end

section
variable {P : Program} {w : World} {K : PySem.W.Frag} {mg : Str → Option Value} {base : Heap}
def spNNames (C : Addr) : Sp := fun vs H Q _ => ∃ (n : Addr) (s t : Str) (ts : List Ent) (ps : List Str), vs = [.ref n] ∧ NetAt C H n s t ts ps ∧ ∀ q H', H q = none → Same H H' → H' q = some (.tup ((names ts).map V.str)) → Q (.ref q) H'
theorem ok_nnames (T : Txt K mg) : FnOk P w K mg base CX0 1 T.f_Network_names T.d_Network_names ["self"] (spNNames T.f_Network) := by
  refine T.F_Network_names.ok sc_Network_names (fun vs H Q E h => ?_) (fun cdv A outer s H vs Q E hr h => ?_)
  · obtain ⟨n, s, t, ts, ps, rfl, _⟩ := h
    rfl
  · obtain ⟨n, s, t, ts, ps, rfl, ⟨dx, d, pp, b, kvs, h1, h2, h3, h4, h5⟩, k⟩ := h
    refine ⟨_, (pss_one (ps_ret (pe_callTy (call_tupD rfl) (by rfl) T.n_tuple (by decide +kernel) (pa_cons (pe_fld (pv 0) rfl) pa_nil)))), ?_⟩
    obtain ⟨kvs2, hd, hp⟩ := h2
    refine ⟨_, rfl, n, T.f_Network, dx, _, .ref d, rfl, h1, T.cl_Network, T.na_Network_links, rfl, d, kvs2, rfl, .inl hd, fun q nq => k q _ nq (same_upd nq) ?_⟩
    rw [upd_same]
    have e : kvs2.map (fun kv => kV kv.1) = (kvs2.map (·.1)).map kV := by rw [List.map_map]; rfl
    rw [e, keys_inr hp, List.map_map]
    rfl
end

/-! ### dicts of links compared -/
/-- the same links by name -/
def eqEnts (es fs : List Ent) : Bool := decide (es.length = fs.length) && es.all fun e => decide (found fs e.1 = some e.2)
theorem eq_ents_self {es : List Ent} (nd : (names es).Nodup) : eqEnts es es = true := by
  unfold eqEnts
  rw [decide_eq_true rfl, Bool.true_and, List.all_eq_true]
  exact fun e he => decide_eq_true (found_mem nd he)
def duoD (e : Str × Str) : PyData := .tuple [.str e.1, .str e.2]
theorem eqv_duo (a b : Str × Str) : PyData.eqv (duoD a) (duoD b) = decide (a = b) := by
  obtain ⟨a1, a2⟩ := a
  obtain ⟨b1, b2⟩ := b
  unfold duoD
  rw [PyData.eqv, PyData.eqvAll, PyData.eqvAll, PyData.eqvAll, eqv_str, eqv_str]
  by_cases h1 : a1 = b1 <;> by_cases h2 : a2 = b2 <;> simp [h1, h2]
theorem shaped_duo {e : Str × Str} (h1 : Wn e.1) (h2 : Wn e.2) : SeqAt.shaped (duoD e) = true := by
  unfold SeqAt.shaped
  have h : (duoD e).canLay0 = true := by
    show ((PyData.str e.1).canLay0 && ((PyData.str e.2).canLay0 && true)) = true
    rw [lay_str h1, lay_str h2]
    rfl
  rw [h, Bool.true_and]
  unfold duoD
  simp [PyData.depth, PyData.depthAll]
section
variable {X : Cx} {pins : List (Addr × Obj)} {σ : L2.St} {H : Hp} {s : Shared}
theorem hits_ents (I : Inv X pins σ H s) {A : Around} (hu : A.units + 60 < cLine) {ls : List (Key × V)} {fs : List Ent} (hl : Paired (EntOk H) ls fs) (wf : ∀ f ∈ fs, WnE f) {vb : List (Key × Value)} (rb : KV ls vb) :
    ∀ {ks : List (Key × V)} {es : List Ent} {va : List (Key × Value)}, Paired (EntOk H) ks es → (∀ e ∈ es, WnE e) → KV ks va → PySem.W.KeqHits A s vb va (es.all fun e => decide (found fs e.1 = some e.2))
  | _, _, _, .nil, _, .nil => .nil
  | (_, _) :: ks, e :: es, (kb, u) :: va, .cons ⟨e1, q, e2, hq⟩ r, we, .cons ⟨ek, ru⟩ t => by
    have e1 : _ = Sum.inr e.1 := e1
    have ek : _ = kb := ek
    have e2 : _ = V.ref q := e2
    have ru : RelV _ u := ru
    subst ek e1 e2
    have rest := hits_ents I hu hl wf rb r (fun f hf => we f (List.mem_cons_of_mem _ hf)) t
    have w := we e List.mem_cons_self
    rw [List.all_cons]
    have at_ : RelO (valV ls (.inr e.1 : Key)) (valueAt vb (.inr e.1 : Key)) := rb.val _
    rcases val_found (n := e.1) hl with ⟨f1, f2⟩ | ⟨d, p, f1, f2, f3⟩
    · rw [f2] at at_
      rw [f1, show decide ((none : Option (Str × Str)) = some e.2) = false from rfl, Bool.false_and]
      refine .miss ?_
      cases hv : valueAt vb (.inr e.1 : Key) with
      | none => rfl
      | some y => rw [hv] at at_; exact at_.elim
    · rw [f2] at at_
      obtain ⟨y, hy, ry⟩ := at_.some_of
      obtain ⟨_, ra⟩ := Dp.reads I (duoD e.2) (.ref q) u (.tup (SqT.of hq) (.cons (.str _) (.cons (.str _) .nil))) ru
      obtain ⟨_, rd⟩ := Dp.reads I (duoD d) (.ref p) y (.tup (SqT.of f3) (.cons (.str _) (.cons (.str _) .nil))) ry
      have wd : Wn d.1 ∧ Wn d.2 := by
        unfold found at f1
        obtain ⟨f, hf, ef⟩ := Option.map_eq_some_iff.mp f1
        have := wf f (List.mem_of_find?_eq_some hf)
        rw [← ef]
        exact this.2
      have eq := SeqAt.eqAt_reads (duoD e.2) (duoD d) A s u y _ _ ra rd (SeqAt.canLay_of_shaped (shaped_duo w.2.1 w.2.2)) (SeqAt.canLay_of_shaped (shaped_duo wd.1 wd.2)) (by unfold duoD; simp only [PyData.depth, PyData.depthAll]; omega)
      rw [eqv_duo] at eq
      rw [f1, show decide (some d = some e.2) = decide (e.2 = d) from decide_eq_decide.mpr ⟨fun z => (Option.some.inj z).symm, fun z => by rw [z]⟩]
      exact .hit hy eq rest
end
section
variable {X : Cx}
def rEqEnts : R2 := fun x y H Q => ∃ (a b : Addr) (es fs : List Ent), x = .ref a ∧ y = .ref b ∧ DictAt H a es ∧ DictAt H b fs ∧ (∀ e ∈ es, WnE e) ∧ (∀ e ∈ fs, WnE e) ∧ Q (.bl (eqEnts es fs)) H
theorem op_eqEnts (hu : X.A.units + 64 < cLine) : OpR X (compareOp .Eq) rEqEnts := by
  intro pins s σ H x y v u Q I rx ry h
  obtain ⟨a, b, es, fs, rfl, rfl, ⟨ks, ha, hp⟩, ⟨ls, hb, hq⟩, we, wf, q⟩ := h
  obtain rfl : v = Value.ref a := rx
  obtain rfl : u = Value.ref b := ry
  obtain ⟨_, ya, va, ra, da⟩ := (show ObjOk X.prog X.w H s.heap a (.dK ks) from I.hok a _ ha)
  obtain ⟨_, yb, vb, rb, db⟩ := (show ObjOk X.prog X.w H s.heap b (.dK ls) from I.hok b _ hb)
  have la : va.length = es.length := by rw [← ra.length, hp.length]
  have lb : vb.length = fs.length := by rw [← rb.length, hq.length]
  refine PySem.W.keq_eq (knd := mixKind X.prog X.w) ya yb da db (by omega) (fun _ => hits_ents I (by show X.A.units + 1 + 60 < cLine; omega) hq wf rb hp we ra) (fin_bl I q ?_)
  unfold eqEnts
  rw [la, lb]
  congr 1
end

/-! ### a network's text -/
def rowText (e : Ent) : Str := e.1 ++ ": " ++ e.2.1 ++ " > " ++ e.2.2
def headText (s t : Str) : Str := s ++ " > " ++ t
/-- none of the signs that part a network's text -/
def Plain (z : Str) : Prop := ∀ c ∈ z.cps.toList, c ≠ 10 ∧ c ≠ 32 ∧ c ≠ 58
theorem inNm_plain {c : Nat} (h : inNm c = true) : c ≠ 10 ∧ c ≠ 32 ∧ c ≠ 58 := by
  have key : ∀ d ∈ lets.cps.toList ++ digs.cps.toList, d ≠ 10 ∧ d ≠ 32 ∧ d ≠ 58 := by decide +kernel
  refine key c ?_
  unfold inNm at h
  rw [Bool.or_eq_true, decide_eq_true_eq, decide_eq_true_eq] at h
  exact List.mem_append.mpr h
theorem vn_plain {z : Str} (h : vn z = true) : Plain z := by
  unfold vn at h
  have h := (Bool.and_eq_true_iff.mp h).2
  intro c hc
  cases e : z.cps.toList with
  | nil => rw [e] at hc; cases hc
  | cons d r =>
    rw [e] at h hc
    exact inNm_plain (List.all_eq_true.mp (Bool.and_eq_true_iff.mp h).2 c hc)
theorem tl_cat (a b : Str) : (a ++ b).cps.toList = a.cps.toList ++ b.cps.toList := by rw [Str.cps_append, Array.toList_append]
theorem cat_assoc (a b c : Str) : a ++ b ++ c = a ++ (b ++ c) := TL.ext_tl (by
  show (a ++ b ++ c).cps.toList = (a ++ (b ++ c)).cps.toList
  rw [tl_cat, tl_cat, tl_cat, tl_cat, List.append_assoc])
theorem head_join (s t : Str) : headText s t = Txt.join " > " [s, t] := by
  rw [TL.join_eq]
  rfl
theorem split_head {s t : Str} (hs : Plain s) (ht : Plain t) : Txt.split (headText s t) " > " = [s, t] := by
  rw [head_join]
  refine TL.split_join (y := " > ") (s := 32) (S := [62, 32]) (by decide +kernel) (by decide +kernel) (by simp) fun p hp => ?_
  rcases List.mem_cons.mp hp with e | e
  · rw [e]; exact fun q => (hs _ q).2.1 rfl
  · rw [List.mem_singleton.mp e]; exact fun q => (ht _ q).2.1 rfl
theorem part_row {n r : Str} (hn : Plain n) : Txt.partition (n ++ (": " : Str) ++ r) ": " = (n, (": " : Str), r) :=
  TL.partition_app (y := ": ") (s := 58) (S := [32]) (by decide +kernel) fun q => (hn _ q).2.2 rfl
theorem part_empty : Txt.partition "" ": " = (("" : Str), Str.empty, Str.empty) := TL.partition_none (y := ": ") (s := 58) (S := [32]) (by decide +kernel) (by decide +kernel)
theorem split_lines {parts : List Str} (hne : parts ≠ []) (h : ∀ p ∈ parts, 10 ∉ p.cps.toList) : Txt.split (Txt.join "\n" parts) "\n" = parts :=
  TL.split_join (y := "\n") (s := 10) (S := []) (by decide +kernel) (by decide +kernel) hne h
theorem split_empty : Txt.split "" " > " = [("" : Str)] := by decide +kernel
theorem row_split (e : Ent) : rowText e = e.1 ++ (": " : Str) ++ headText e.2.1 e.2.2 := by
  unfold rowText headText
  rw [cat_assoc (e.1 ++ ": ") e.2.1 " > ", cat_assoc (e.1 ++ ": ") (e.2.1 ++ " > ") e.2.2]
theorem plain_nl {z : Str} (h : Plain z) : 10 ∉ z.cps.toList := fun q => (h _ q).1 rfl
theorem row_nl {e : Ent} (h1 : Plain e.1) (h2 : Plain e.2.1) (h3 : Plain e.2.2) : 10 ∉ (rowText e).cps.toList := by
  unfold rowText
  rw [tl_cat, tl_cat, tl_cat, tl_cat]
  have k1 : 10 ∉ (": " : Str).cps.toList := by decide +kernel
  have k2 : 10 ∉ (" > " : Str).cps.toList := by decide +kernel
  simp only [List.mem_append, not_or]
  exact ⟨⟨⟨⟨plain_nl h1, k1⟩, plain_nl h2⟩, k2⟩, plain_nl h3⟩
theorem head_nl {s t : Str} (h1 : Plain s) (h2 : Plain t) : 10 ∉ (headText s t).cps.toList := by
  unfold headText
  rw [tl_cat, tl_cat]
  have k2 : 10 ∉ (" > " : Str).cps.toList := by decide +kernel
  simp only [List.mem_append, not_or]
  exact ⟨⟨plain_nl h1, k2⟩, plain_nl h2⟩

/-! ### a network told as a text -/
theorem vi_no {i j : Int} (h : ¬ i = j) : decide (V.int i = V.int j) = false := by simp [h]
theorem vi_yes {i j : Int} (h : i = j) : decide (V.int i = V.int j) = true := by simp [h]
theorem len_cat (a b : Str) : (a ++ b).length = a.length + b.length := by rw [len_of, len_of, len_of, tl_cat, List.length_append]

section
variable {P : Program} {w : World} {K : PySem.W.Frag} {mg : Str → Option Value} {base : Heap}
def spTriples (C : Addr) : Sp := fun vs H Q _ => ∃ (n : Addr) (s t : Str) (ts : List Ent) (ps : List Str), vs = [.ref n] ∧ NetAt C H n s t ts ps ∧ ts.length ≤ 100 ∧ ∀ l H', H l = none → Same H H' → RowsL H' l ts → Q (.ref l) H'
theorem ok_triples (T : Txt K mg) : FnOk P w K mg base CX0 1 T.f_Network_triples T.d_Network_triples ["self"] (spTriples T.f_Network) := by
  refine T.F_Network_triples.ok sc_Network_triples (fun vs H Q E h => ?_) (fun cdv A outer s H vs Q E hr h => ?_)
  · obtain ⟨n, s, t, ts, ps, rfl, _⟩ := h
    rfl
  · obtain ⟨n, s, t, ts, ps, rfl, ⟨dx, d, pp, b, kvs, h1, ⟨kvs2, hd, hp⟩, h3, h4, h5⟩, hfew, k⟩ := h
    refine ⟨_, (pss_one (ps_ret (pe_lock (pe_lc (own := [("name", 1), ("tail", 2), ("head", 3)]) (g := gTup K 2 (gCons (gName 1) (gCons (gTup K 2 (gCons (gName 2) (gCons (gName 3) gNil))) gNil))) (tt := tYes) rfl sc_Network_triples.nd (pi_items (pe_fld (pv 0) rfl)) (blkOk_by (N := ["self", "name", "tail", "head"]) (sc := defScope s_Network_triples) (by decide +kernel)) (fun _ _ _ _ _ => (pg_tup rfl (pgs_cons (pg_name (i := 1) sc_Network_triples.nd rfl (Or.inl rfl)) (pgs_cons (pg_tup rfl (pgs_cons (pg_name (i := 2) sc_Network_triples.nd rfl (Or.inl rfl)) (pgs_cons (pg_name (i := 3) sc_Network_triples.nd rfl (Or.inl rfl)) pgs_nil))) pgs_nil)))) (fun _ _ _ _ _ => pts_nil) (fun _ _ _ _ _ => (pe_tup (pa_cons (pv 1) (pa_cons (pv 2) (pa_cons (pv 3) pa_nil))))))))), ?_⟩
    refine ⟨d, _, hd, trivial, fun od => ?_⟩
    have nd : n ≠ d := fun z => by rw [z, hd] at h1; cases h1
    refine ⟨_, rfl, n, T.f_Network, dx, _, .ref d, rfl, by rw [upd_ne nd]; exact h1, T.cl_Network, T.na_Network_links, rfl, d, od, kvs2, rfl, upd_same, fun D hD => ?_⟩
    have Dd : D ≠ d := fun z => by rw [z, upd_same] at hD; cases hD
    have nD : H D = none := by rw [upd_ne Dd] at hD; exact hD
    refine lc_items (kvs := kvs2) (fun i H' => H' d = some (.frz od (.dK kvs2)) ∧ (∀ c o, c ≠ d → H c = some o → H' c = some o) ∧ ∃ rs : List Addr, H' D = some (.lst (rs.map V.ref)) ∧ Paired (RowT H') rs (ts.take i)) ⟨?_, ?_, [], upd_same, .nil⟩ (fun i H' _ h => h.1) ?_ ?_
    · rw [upd_ne Dd.symm]; exact upd_same
    · intro c o cd hc
      rw [upd_ne (ne_of_none hc nD), upd_ne cd]; exact hc
    · rintro i kk v U H' hi ⟨g1, g2, rs, g3, g4⟩ nU
      obtain ⟨e, he, ⟨rfl, q, rfl, hq⟩⟩ := L2.paired_get hp hi
      have nq : q ≠ d := fun z => by rw [z, hd] at hq; cases hq
      have hU : Same H' (upd H' U (.tup [kV (.inr e.1), .ref q])) := same_upd nU
      have g2' : ∀ c o, c ≠ d → H c = some o → (upd H' U (.tup [kV (.inr e.1), .ref q])) c = some o := fun c o cd hc => hU _ _ (g2 c o cd hc)
      refine ⟨U, _, rfl, SqT.of upd_same, rfl, _, _, rfl, _, _, rfl, q, _, rfl, SqT.of (g2' q _ nq hq), rfl, _, _, rfl, _, _, rfl, rfl, rfl, rfl, ?_⟩
      have g1' := hU _ _ g1
      have g3' := hU _ _ g3
      have g4' : Paired (RowT (upd H' U (.tup [kV (.inr e.1), .ref q]))) rs (ts.take i) := paired_on (fun _ _ z => hU _ _ z) g4
      generalize upd H' U (.tup [kV (.inr e.1), .ref q]) = H3 at hU g1' g2' g3' g4' ⊢
      refine ⟨_, rfl, _, rfl, _, rfl, by show 3 ≤ sizeLine; decide, fun Tp nT => ?_⟩
      have sT : Same H3 (upd H3 Tp (.tup [.str e.1, .str e.2.1, .str e.2.2])) := same_upd nT
      have up : ∀ {c : Addr} {o : HO} {o2 : HO}, c ≠ D → (upd H3 Tp (.tup [.str e.1, .str e.2.1, .str e.2.2])) c = some o → (upd (upd H3 Tp (.tup [.str e.1, .str e.2.1, .str e.2.2])) D o2) c = some o := fun hc hx => by rw [upd_ne hc]; exact hx
      have rowD : ∀ {c : Addr} {o : List V}, (upd H3 Tp (.tup [.str e.1, .str e.2.1, .str e.2.2])) c = some (.tup o) → c ≠ D := fun hx z => by rw [z, sT _ _ g3'] at hx; cases hx
      refine ⟨_, sT _ _ g3', small1000 (by rw [List.length_map, g4'.length, List.length_take]; omega), up Dd.symm (sT _ _ g1'), fun c o cd hc => up (ne_of_none hc nD) (sT _ _ (g2' c o cd hc)), rs ++ [Tp], by rw [upd_same, List.map_append]; rfl, ?_⟩
      rw [take_more he]
      exact paired_snoc (show RowT _ Tp e from up (rowD upd_same) upd_same) (paired_on (fun _ _ z => up (rowD (sT _ _ z)) (sT _ _ z)) g4')
    · rintro H' ⟨g1, g2, rs, g3, g4⟩
      rw [show ts.take kvs2.length = ts from by rw [hp.length]; exact List.take_length] at g4
      refine ⟨g1, k D _ nD (fun c o hc => ?_) ⟨rs, by rw [upd_ne Dd]; exact g3, paired_on (fun x y z => ?_) g4⟩⟩
      · by_cases e : c = d
        · rw [e] at hc ⊢; rw [upd_same, ← hd, hc]
        · rw [upd_ne e]; exact g2 c o e hc
      · have z' : H' x = some (.tup [.str y.1, .str y.2.1, .str y.2.2]) := z
        show upd H' d (.dK kvs2) x = _
        rw [upd_ne (fun w => by rw [w, g1] at z'; cases z')]
        exact z'
end

section
variable {P : Program} {w : World} {K : PySem.W.Frag} {mg : Str → Option Value} {base : Heap}
/-! ### str of a network -/
def textOf (s t : Str) (rs : List Str) : Str := Txt.join "\n" (headText s t :: rs)
theorem nf_start {s t : Str} {d p b : Addr} : ([("_start", V.str s), ("_end", .str t), ("_links", .ref d), ("_places", .ref p), ("_behind", .ref b)] : List (Str × V)).lookup ("_start" : Str) = some (.str s) := rfl
theorem nf_end {s t : Str} {d p b : Addr} : ([("_start", V.str s), ("_end", .str t), ("_links", .ref d), ("_places", .ref p), ("_behind", .ref b)] : List (Str × V)).lookup ("_end" : Str) = some (.str t) := rfl
theorem nf_links {s t : Str} {d p b : Addr} : ([("_start", V.str s), ("_end", .str t), ("_links", .ref d), ("_places", .ref p), ("_behind", .ref b)] : List (Str × V)).lookup ("_links" : Str) = some (.ref d) := rfl
theorem row_len {e : Ent} (h : WnE e) : (rowText e).length ≤ 3005 := by
  have l1 := h.1.1
  have l2 := h.2.1.1
  have l3 := h.2.2.1
  unfold rowText
  rw [len_cat, len_cat, len_cat, len_cat]
  show _ + 2 + _ + 3 + _ ≤ 3005
  omega
theorem head_len {s t : Str} (hs : Wn s) (ht : Wn t) : (headText s t).length ≤ 2003 := by
  have l1 := hs.1
  have l2 := ht.1
  unfold headText
  rw [len_cat, len_cat]
  show _ + 3 + _ ≤ 2003
  omega
theorem sum_le (m : Nat) : ∀ l : List Nat, (∀ x ∈ l, x ≤ m) → l.sum ≤ l.length * m
  | [], _ => Nat.zero_le _
  | x :: l, h => by
    have a := h x List.mem_cons_self
    have b := sum_le m l fun y hy => h y (List.mem_cons_of_mem _ hy)
    rw [List.sum_cons, List.length_cons, Nat.succ_mul]
    omega
theorem empty_cat (z : Str) : Str.empty ++ z = z := TL.ext_tl (by
  show (Str.empty ++ z).cps.toList = z.cps.toList
  rw [tl_cat]
  rfl)
def spStr (C : Addr) : Sp := fun vs H Q _ => ∃ (n : Addr) (s t : Str) (ts : List Ent) (ps : List Str), vs = [.ref n] ∧ NetAt C H n s t ts ps ∧ ts.length ≤ 20 ∧ (∀ e ∈ ts, WnE e) ∧ Wn s ∧ Wn t ∧ ∀ H', Same H H' → Q (.str (textOf s t (ts.map rowText))) H'
theorem ok_str (T : Txt K mg) : FnOk P w K mg base CX0 2 T.f_Network_str T.d_Network_str ["self"] (spStr T.f_Network) := by
  have G_Network_triples : FnOk P w K mg base CX0 1 T.f_Network_triples T.d_Network_triples ["self"] (spTriples T.f_Network) := ok_triples T
  refine T.F_Network_str.ok sc_Network_str (fun vs H Q E h => ?_) (fun cdv A outer s H vs Q E hr h => ?_)
  · obtain ⟨n, s, t, ts, ps, rfl, _⟩ := h
    rfl
  · obtain ⟨n, s, t, ts, ps, rfl, hN, hfew, hw, ws, wt, k⟩ := h
    refine ⟨_, (pss_cons (ps_setLc (i := 1) (own := [("name", 2), ("tail", 3), ("head", 4)]) (g := gTup K 3 (gCons (gName 2) (gCons (gName 3) (gCons (gName 4) gNil)))) (tt := tYes) rfl sc_Network_str.nd rfl rfl (sw_true rfl rfl rfl (by decide +kernel)) (pi_list (pe_methK0 (pv 0) T.cl_Network T.me_Network_triples G_Network_triples (hr.mono (by decide)) T.kbm_Network_triples pass0 pk_nil)) (blkOk_by (N := ["self", "rows", "name", "tail", "head"]) (sc := defScope s_Network_str) (by decide +kernel)) (fun _ _ _ _ _ => (pg_tup rfl (pgs_cons (pg_name (i := 2) sc_Network_str.nd rfl (Or.inl rfl)) (pgs_cons (pg_name (i := 3) sc_Network_str.nd rfl (Or.inl rfl)) (pgs_cons (pg_name (i := 4) sc_Network_str.nd rfl (Or.inl rfl)) pgs_nil))))) (fun _ _ _ _ _ => pts_nil) (fun _ _ _ _ _ => (pe_joined (PJ.cons (pe_fmt (pv 2)) (PJ.cons pe_str (PJ.cons (pe_fmt (pv 3)) (PJ.cons pe_str (PJ.cons (pe_fmt (pv 4)) PJ.nil))))))))
    (pss_one (ps_ret (pe_join pe_str (pe_lst (pa_cons (pe_joined (PJ.cons (pe_fmt (pe_fld (pv 0) rfl)) (PJ.cons pe_str (PJ.cons (pe_fmt (pe_fld (pv 0) rfl)) PJ.nil)))) (StX.pa_star (pv 1) pa_nil))))))), ?_⟩
    obtain ⟨dx, d, pp, b, kvs, h1, _⟩ := id hN
    have big : ∀ m : Nat, m ≤ 100000 → m ≤ sizeLine := fun m h => Nat.le_trans h (by decide)
    refine ⟨_, rfl, n, dx, _, rfl, h1, rfl, n, s, t, ts, ps, rfl, hN, by omega, fun l H1 nl s1 hrl => ?_⟩
    obtain ⟨qs, hl, hp⟩ := hrl
    refine ⟨l, rfl, ⟨_, SqL.of hl⟩, fun D hD => ?_⟩
    have acc : ∀ {x y : Str} {a b : Nat}, x.length ≤ a → y.length ≤ b → a + b ≤ 100000 → (x ++ y).length ≤ sizeLine := fun h1 h2 h3 => by rw [len_cat]; exact big _ (by omega)
    refine lc_list (K := K) (a := l) (xs := qs.map V.ref) (te := fun σ H Q => tJs [tFmt (tVar 2), tC (V.str ": "), tFmt (tVar 3), tC (V.str " > "), tFmt (tVar 4)] Str.empty σ H fun out H1 => Q (V.str out) H1) (fun i H' => Same H1 H' ∧ H' D = some (.lst (((ts.take i).map rowText).map V.str))) ⟨same_upd hD, upd_same⟩ (fun i H' _ h => SqL.of (h.1 _ _ hl)) ?_ ?_
    · intro i x H' hi ⟨s2, hDr⟩
      obtain ⟨q, e, rfl, he, hq⟩ : ∃ q e, x = V.ref q ∧ ts[i]? = some e ∧ RowT H1 q e := by
        rw [List.getElem?_map] at hi
        cases e : qs[i]? with
        | none => rw [e] at hi; cases hi
        | some q =>
          rw [e] at hi
          obtain ⟨f, hf, hq⟩ := L2.paired_get hp e
          exact ⟨q, f, (Option.some.inj hi).symm, hf, hq⟩
      have we := hw e (List.mem_of_getElem? he)
      have l1 := we.1.1
      have l2 := we.2.1.1
      have l3 := we.2.2.1
      have m1 : (": " : Str).length = 2 := rfl
      have m2 : (" > " : Str).length = 3 := rfl
      refine ⟨q, _, rfl, SqT.of (s2 _ _ hq), rfl, _, _, rfl, _, _, rfl, _, _, rfl, rfl, rfl, ?_⟩
      refine ⟨_, rfl, .inl ⟨_, rfl, big _ (by omega), _, rfl, big _ (by rw [empty_cat]; omega), ?_⟩⟩
      rw [empty_cat]
      refine ⟨_, rfl, big _ (by rw [len_cat]; omega), _, rfl, .inl ⟨_, rfl, big _ (by omega), _, rfl, big _ (by rw [len_cat, len_cat]; omega), _, rfl, big _ (by rw [len_cat, len_cat, len_cat]; omega), _, rfl, .inl ⟨_, rfl, big _ (by omega), _, rfl, big _ (by rw [len_cat, len_cat, len_cat, len_cat]; omega), ?_⟩⟩⟩
      refine ⟨_, hDr, small1000 (by rw [List.length_map, List.length_map, List.length_take]; omega), same_mut s2 hD, ?_⟩
      rw [upd_same, take_more he, List.map_append, List.map_append]
      rfl
    · intro H2 ⟨s2, hDr⟩
      rw [List.length_map, hp.length, List.take_length] at hDr
      have h12 := s2 _ _ (s1 _ _ h1)
      have l1 := ws.1
      have l2 := wt.1
      have m2 : (" > " : Str).length = 3 := rfl
      refine ⟨⟨_, rfl⟩, _, rfl, n, T.f_Network, dx, _, .str s, rfl, h12, T.cl_Network, T.na_Network_start, nf_start, .inl ⟨_, rfl, big _ (by omega), _, rfl, big _ (by rw [empty_cat]; omega), ?_⟩⟩
      rw [empty_cat]
      refine ⟨_, rfl, big _ (by rw [len_cat]; omega), _, rfl, n, T.f_Network, dx, _, .str t, rfl, h12, T.cl_Network, T.na_Network_end, nf_end, .inl ⟨_, rfl, big _ (by omega), _, rfl, big _ (by rw [len_cat, len_cat]; omega), ?_⟩⟩
      refine ⟨_, rfl, D, _, rfl, .inr (SqL.of hDr), big _ (by simp only [List.length_cons, List.length_append, List.length_map, List.length_nil]; omega), fun L nL => ?_⟩
      rw [List.append_nil]
      have hL : (upd H2 L (.lst ([V.str (headText s t)] ++ (ts.map rowText).map V.str))) L = some (.lst ((headText s t :: ts.map rowText).map V.str)) := upd_same
      refine ⟨_, L, headText s t :: ts.map rowText, rfl, rfl, .inl (SqL.of hL), ?_, k _ ((s1.trans s2).trans (same_upd nL))⟩
      have b := sum_le 3005 ((headText s t :: ts.map rowText).map (·.length)) fun x hx => by
        obtain ⟨z, hz, rfl⟩ := List.mem_map.mp hx
        rcases List.mem_cons.mp hz with e | e
        · rw [e]; exact Nat.le_trans (head_len ws wt) (by decide)
        · obtain ⟨f, hf, rfl⟩ := List.mem_map.mp e
          exact row_len (hw f hf)
      have c : (headText s t :: ts.map rowText).length ≤ 21 := by rw [List.length_cons, List.length_map]; omega
      rw [List.length_map] at b
      have m1 : ("\n" : Str).length = 1 := rfl
      have := Nat.mul_le_mul_right 3005 c
      rw [m1]
      omega
end

theorem net_fine {K : PySem.W.Frag} {C : Addr} {D : Errs} {H : Hp} {Q : VK} {E : XK} {n dx a : Addr} {es : List Ent} {s t : Str} (hn : H n = some (.ins C dx [])) (hr : Rows K H a es) (nok : NetOk es s t 8) (h10 : es.length ≤ 10)
    (k : ∀ ts ps H', ts.Perm es → PyProof.Rows.sortedS (names ts) = true → Places ts s t ps → (∀ c o, c ≠ n → H c = some o → H' c = some o) → NetAt C H' n s t ts ps → (∀ Hx : Hp, (∀ c o, (∀ xs, o ≠ .lst xs) → H' c = some o → Hx c = some o) → (∀ c o, H c = none → H' c = some o → Hx c = some o) → NetAt C Hx n s t ts ps) → Q .non H') : spNet K C D [.ref n, .ref a, .str s, .str t] H Q E := by
  refine ⟨n, dx, a, es, s, t, rfl, hn, hr, by omega, fun e he => (nok.ok e he).2, nok.hs.2, nok.ht.2, fun x hx => ?_, fun _ ts hp hs => ⟨fun x hx => ?_, fun _ ps hps => ⟨fun h8 => ?_, fun _ H' kp hN hV => k ts ps H' hp hs hps kp hN hV⟩⟩⟩
  · rw [nok.early h10] at hx; cases hx
  · rw [(nok.perm hp).late] at hx; cases hx
  · exact absurd ((nok.perm hp).eight hps) (by omega)

/-! ### networks compared, a network read -/
section
variable {P : Program} {w : World} {K : PySem.W.Frag} {mg : Str → Option Value} {base : Heap}
theorem tyRN {C p dx : Addr} {fs : List (Str × V)} {H : Hp} (ic : C8.InsC K C) (hp : H p = some (.ins C dx fs)) : TyX K H (.ref p) (.ref C) := .base (.ins hp ic.cl ic.ha ic.hn ic.htk ic.hm)
def spNEq (C : Addr) : Sp := fun vs H Q _ => ∃ (n : Addr) (s t : Str) (ts : List Ent) (ps : List Str) (n2 : Addr) (s2 t2 : Str) (ts2 : List Ent) (ps2 : List Str), vs = [.ref n, .ref n2] ∧ NetAt C H n s t ts ps ∧ NetAt C H n2 s2 t2 ts2 ps2 ∧ (∀ e ∈ ts, WnE e) ∧ (∀ e ∈ ts2, WnE e) ∧
  Q (.bl (decide (s = s2) && (decide (t = t2) && eqEnts ts ts2))) H
theorem ok_neq (T : Txt K mg) : FnOk P w K mg base CX0 1 T.f_Network_eq T.d_Network_eq ["self", "other"] (spNEq T.f_Network) := by
  refine T.F_Network_eq.ok sc_Network_eq (fun vs H Q E h => ?_) (fun cdv A outer s H vs Q E hr h => ?_)
  · obtain ⟨n, s, t, ts, ps, n2, s2, t2, ts2, ps2, rfl, _⟩ := h
    rfl
  · obtain ⟨n, s, t, ts, ps, n2, s2, t2, ts2, ps2, rfl, ⟨dx, d, pp, b, kvs, h1, hd, _⟩, ⟨dx2, d2, pp2, b2, kvs2, h2, hd2, _⟩, hw, hw2, k⟩ := h
    refine ⟨_, (pss_cons (ps_if (pt_not (pt_val (pe_callB call_isi (by rfl) T.n_isinstance (by decide +kernel) (pa_cons (pv 1) (pa_cons (pe_glob (v := .ref T.f_Network) rfl T.m_Network rfl) pa_nil)))))
      (pss_one (ps_ret pe_bl))
      pss_nil)
    (pss_one (ps_ret (pe_and (pe_cmpR op_eq (pe_fld (pv 0) rfl) (pe_fld (pv 1) rfl) (nomark _)) (pe_and (pe_cmpR op_eq (pe_fld (pv 0) rfl) (pe_fld (pv 1) rfl) (nomark _)) (pe_one (pe_cmpR (op_eqEnts hr.units) (pe_fld (pv 0) rfl) (pe_fld (pv 1) rfl) (nomark _)))))))), ?_⟩
    refine ⟨_, rfl, .ref n2, .ref T.f_Network, .ref T.f_Network, .ref T.f_Network, true, rfl, .own _, tyRN T.ic_Network h2, kit_self, true, rfl, iteF ?_⟩
    refine ⟨_, rfl, n, T.f_Network, dx, _, .str s, rfl, h1, T.cl_Network, T.na_Network_start, nf_start, _, rfl, n2, T.f_Network, dx2, _, .str s2, rfl, h2, T.cl_Network, T.na_Network_start, nf_start, rfl, _, rfl, ?_⟩
    by_cases e1 : s = s2
    · rw [show decide (V.str s = V.str s2) = true by simp [e1]]
      rw [decide_eq_true e1, Bool.true_and] at k
      refine iteT ?_
      refine ⟨_, rfl, n, T.f_Network, dx, _, .str t, rfl, h1, T.cl_Network, T.na_Network_end, nf_end, _, rfl, n2, T.f_Network, dx2, _, .str t2, rfl, h2, T.cl_Network, T.na_Network_end, nf_end, rfl, _, rfl, ?_⟩
      by_cases e2 : t = t2
      · rw [show decide (V.str t = V.str t2) = true by simp [e2]]
        rw [decide_eq_true e2, Bool.true_and] at k
        refine iteT ?_
        exact ⟨_, rfl, n, T.f_Network, dx, _, .ref d, rfl, h1, T.cl_Network, T.na_Network_links, nf_links, _, rfl, n2, T.f_Network, dx2, _, .ref d2, rfl, h2, T.cl_Network, T.na_Network_links, nf_links, d, d2, ts, ts2, rfl, rfl, hd, hd2, hw, hw2, k⟩
      · rw [show decide (V.str t = V.str t2) = false by simp [e2]]
        rw [decide_eq_false e2, Bool.false_and] at k
        exact iteF k
    · rw [show decide (V.str s = V.str s2) = false by simp [e1]]
      rw [decide_eq_false e1, Bool.false_and] at k
      exact iteF k
end

/-! ### links in the order of their names -/
theorem risen : ∀ (p : Str) (l : List Str), PyProof.Rows.risingS p l = true → (p :: l).Pairwise fun a b => a.cps.toList ≤ b.cps.toList
  | p, [], _ => List.pairwise_singleton _ _
  | p, x :: r, h => by
    have h1 : (!PySem.Spec.ltCps x.cps.toList p.cps.toList && PyProof.Rows.risingS x r) = true := h
    rw [Bool.and_eq_true, PyProof.Rows.ltCps_eq] at h1
    have le : p.cps.toList ≤ x.cps.toList := by
      have := h1.1
      rw [Bool.not_eq_true', decide_eq_false_iff_not] at this
      exact List.not_lt.mp this
    have ih := risen x r h1.2
    refine List.pairwise_cons.mpr ⟨fun y hy => ?_, ih⟩
    rcases List.mem_cons.mp hy with e | e
    · rw [e]; exact le
    · exact List.le_trans le ((List.pairwise_cons.mp ih).1 y e)
theorem sorted_pw : ∀ {l : List Str}, PyProof.Rows.sortedS l = true → l.Pairwise fun a b => a.cps.toList ≤ b.cps.toList
  | [], _ => .nil
  | p :: r, h => risen p r h
theorem sorted_one {l m : List Str} (p : l.Perm m) (hl : PyProof.Rows.sortedS l = true) (hm : PyProof.Rows.sortedS m = true) : l = m :=
  List.Perm.eq_of_pairwise (fun a b _ _ h1 h2 => Str.ext' (Array.toList_inj.mp (List.le_antisymm h1 h2))) (sorted_pw hl) (sorted_pw hm) p
theorem perm_tab {es ts : List Ent} (nd : (names es).Nodup) (p : ts.Perm es) : ts = tabOf es (names ts) := by
  unfold tabOf names
  rw [List.map_map]
  refine ((List.map_congr_left fun e he => ?_).trans (List.map_id ts)).symm
  show (e.1, (found es e.1).getD ("", "")) = e
  rw [found_mem nd (p.mem_iff.mp he)]
  rfl
theorem ts_one {es ts us : List Ent} (nd : (names es).Nodup) (p : ts.Perm es) (q : us.Perm es) (ht : PyProof.Rows.sortedS (names ts) = true) (hu : PyProof.Rows.sortedS (names us) = true) : ts = us := by
  have e : names ts = names us := sorted_one ((p.map _).trans (q.map _).symm) ht hu
  rw [perm_tab nd p, perm_tab nd q, e]
theorem rowLe_name {b c : RowB} (h : rowLe b c = true) : PySem.Spec.ltCps c.2.1.cps.toList b.2.1.cps.toList = false := by
  unfold rowLe at h
  rw [PySem.W.dataLe_eq] at h
  have h : (!PySem.W.dataLt (rowE c.2) (rowE b.2)) = true := h
  rw [Bool.not_eq_true'] at h
  unfold rowE at h
  rw [PySem.W.dataLt_tuple, PySem.W.dataLt_cons (by simp [PySem.W.alike])] at h
  rw [PyProof.Rows.ltCps_eq]
  by_cases e : c.2.1 = b.2.1
  · rw [e]
    exact decide_eq_false (List.lt_irrefl _)
  · have h3 : PyData.eqv (.str c.2.1) (.str b.2.1) = false := by rw [eqv_str]; exact decide_eq_false e
    rw [h3, if_neg Bool.false_ne_true, PySem.W.dataLt_str] at h
    exact h
theorem rows_sorted (bs : List RowB) : PyProof.Rows.sortedS (names ((bs.mergeSort rowLe).map (·.2))) = true := by
  refine PyProof.Rows.sortedS_of_pairwise _ ?_
  unfold names
  rw [List.map_map, List.pairwise_map]
  have pw : (bs.mergeSort rowLe).Pairwise fun a b => rowLe a b = true := by
    unfold rowLe PySem.W.dataLe
    exact PySem.W.sort_pairwise (PySem.W.sortLe_total _ _ _) bs
  exact pw.imp fun h => rowLe_name h
theorem paired_zip {α β : Type} {F : α → β → Prop} : ∀ {xs : List α} {ys : List β}, Paired F xs ys → (xs.zip ys).map Prod.fst = xs ∧ (xs.zip ys).map Prod.snd = ys ∧ ∀ b ∈ xs.zip ys, F b.1 b.2
  | _, _, .nil => ⟨rfl, rfl, fun b h => by cases h⟩
  | x :: xs, y :: ys, .cons a r => by
    obtain ⟨h1, h2, h3⟩ := paired_zip r
    refine ⟨by rw [List.zip_cons_cons, List.map_cons, h1], by rw [List.zip_cons_cons, List.map_cons, h2], fun b hb => ?_⟩
    rw [List.zip_cons_cons] at hb
    rcases List.mem_cons.mp hb with e | e
    · rw [e]; exact a
    · exact h3 b e
mutual
theorem dp_same {K : PySem.W.Frag} {H H' : Hp} (sm : Same H H') : ∀ {v : V} {d : PyData}, Dp K H v d → Dp K H' v d
  | _, _, .non => .non
  | _, _, .bl b => .bl b
  | _, _, .int i => .int i
  | _, _, .str x => .str x
  | _, _, .lst a b => .lst (sm.seq a) (dp_sames sm b)
  | _, _, .tup a b => .tup (sqT_on sm a) (dp_sames sm b)
theorem dp_sames {K : PySem.W.Frag} {H H' : Hp} (sm : Same H H') : ∀ {vs : List V} {ds : List PyData}, DpAll K H vs ds → DpAll K H' vs ds
  | _, _, .nil => .nil
  | _, _, .cons a b => .cons (dp_same sm a) (dp_sames sm b)
end

/-! ### a network's links by name -/
section
variable {P : Program} {w : World} {K : PySem.W.Frag} {mg : Str → Option Value} {base : Heap}
def spNGet (C D : Addr) : Sp := fun vs H Q E => ∃ (n : Addr) (s t : Str) (ts : List Ent) (ps : List Str) (z : Str), vs = [.ref n, .str z] ∧ NetAt C H n s t ts ps ∧
  (∀ e p, found ts z = some e → H p = some (.tup [.str e.1, .str e.2]) → Q (.ref p) H) ∧ (found ts z = none → Raised H "name" (.str z) D E)
theorem ok_nget (T : Txt K mg) : FnOk P w K mg base (L2.CX P w) 3 T.f_Network_getitem T.d_Network_getitem ["self", "name"] (spNGet T.f_Network T.f_UnknownName) := by
  have G_UnknownName_init : FnOk P w K mg base CX0 1 T.f_UnknownName_init T.d_UnknownName_init ["self", "name"] (spErr "name" T.f_UnknownName) := ok_eUnknownName T
  refine T.F_Network_getitem.okX sc_Network_getitem (fun vs H Q E h => ?_) (fun cdv A outer s H vs Q E hr h => ?_)
  · obtain ⟨n, s, t, ts, ps, z, rfl, _⟩ := h
    rfl
  · obtain ⟨n, s, t, ts, ps, z, rfl, ⟨dx, d, pp, b, kvs, h1, ⟨kvs2, h2, hp⟩, h3, h4, h5⟩, k, k2⟩ := h
    refine ⟨_, (pss_cons (ps_if (pt_cmp (pc_dnotin (hu_of hr) (pv 1) (pe_fld (pv 0) rfl)))
      (pss_one (ps_raise rfl (takes_of rfl rfl rfl rfl) (pmk_oex T.ox_UnknownName T.ix_UnknownName T.tx_UnknownName G_UnknownName_init (hr.mono (by decide)) T.b_UnknownName_init .nil pass0 rfl T.m_UnknownName (pa_cons (pv 1) pa_nil))))
      pss_nil)
    (pss_one (ps_ret (pe_dget (hu_of hr) (pe_fld (pv 0) rfl) (pv 1) (fun _ _ => rfl))))), ?_⟩
    refine ⟨_, rfl, _, rfl, n, T.f_Network, dx, _, _, rfl, h1, T.cl_Network, T.na_Network_links, nf_links, ?_⟩
    refine ⟨d, valV kvs2 (.inr z : Key), rfl, DGet.k (k := .inr z) h2, ?_⟩
    rcases val_found (n := z) hp with ⟨e1, e2⟩ | ⟨e, p, e1, e2, hpp⟩
    · rw [e2]
      refine ⟨_, rfl, iteT ?_⟩
      refine ⟨_, rfl, (by show 1 ≤ 1000; decide), fun a na => ?_⟩
      refine ⟨a, .str z, rfl, upd_same, fun d H' nd ne e => ⟨rfl, d, [("name", .str z)], ?_⟩⟩
      exact raise_asks na (k2 e1) d H' nd ne e
    · rw [e2]
      refine ⟨_, rfl, iteF ?_⟩
      refine ⟨_, rfl, n, T.f_Network, dx, _, _, rfl, h1, T.cl_Network, T.na_Network_links, nf_links, _, rfl, d, .ref p, rfl, ?_, k e p e1 hpp⟩
      rw [← e2]
      exact DGet.k (k := .inr z) h2
def spNIn (C : Addr) : Sp := fun vs H Q _ => ∃ (n : Addr) (s t : Str) (ts : List Ent) (ps : List Str) (z : Str), vs = [.ref n, .str z] ∧ NetAt C H n s t ts ps ∧ Q (.bl (found ts z).isSome) H
theorem ok_nin (T : Txt K mg) : FnOk P w K mg base CX0 1 T.f_Network_contains T.d_Network_contains ["self", "name"] (spNIn T.f_Network) := by
  refine T.F_Network_contains.ok sc_Network_contains (fun vs H Q E h => ?_) (fun cdv A outer s H vs Q E hr h => ?_)
  · obtain ⟨n, s, t, ts, ps, z, rfl, _⟩ := h
    rfl
  · obtain ⟨n, s, t, ts, ps, z, rfl, ⟨dx, d, pp, b, kvs, h1, ⟨kvs2, h2, hp⟩, h3, h4, h5⟩, k⟩ := h
    refine ⟨_, (pss_one (ps_ret (pe_cmp (pc_din (hu_of hr) (pv 1) (pe_fld (pv 0) rfl))))), ?_⟩
    refine ⟨_, rfl, _, rfl, n, T.f_Network, dx, _, _, rfl, h1, T.cl_Network, T.na_Network_links, nf_links, ?_⟩
    refine ⟨d, valV kvs2 (.inr z : Key), rfl, DGet.k (k := .inr z) h2, ?_⟩
    rcases val_found (n := z) hp with ⟨e1, e2⟩ | ⟨e, p, e1, e2, hpp⟩
    · rw [e2]; rw [e1] at k; exact k
    · rw [e2]; rw [e1] at k; exact k
def spNLen (C : Addr) : Sp := fun vs H Q _ => ∃ (n : Addr) (s t : Str) (ts : List Ent) (ps : List Str), vs = [.ref n] ∧ NetAt C H n s t ts ps ∧ Q (.int (ts.length : Nat)) H
theorem ok_nlen (T : Txt K mg) : FnOk P w K mg base CX0 1 T.f_Network_len T.d_Network_len ["self"] (spNLen T.f_Network) := by
  refine T.F_Network_len.ok sc_Network_len (fun vs H Q E h => ?_) (fun cdv A outer s H vs Q E hr h => ?_)
  · obtain ⟨n, s, t, ts, ps, rfl, _⟩ := h
    rfl
  · obtain ⟨n, s, t, ts, ps, rfl, ⟨dx, d, pp, b, kvs, h1, ⟨kvs2, h2, hp⟩, h3, h4, h5⟩, k⟩ := h
    refine ⟨_, (pss_one (ps_ret (pe_callB call_lenD (by rfl) T.n_len (by decide +kernel) (pa_cons (pe_fld (pv 0) rfl) pa_nil)))), ?_⟩
    refine ⟨_, rfl, n, T.f_Network, dx, _, _, rfl, h1, T.cl_Network, T.na_Network_links, nf_links, d, kvs2, rfl, h2, ?_⟩
    rw [hp.length]
    exact k
end

/-! ### a network compared with a network or a text -/
section
variable {P : Program} {w : World} {K : PySem.W.Frag} {mg : Str → Option Value} {base : Heap}
def spNEqX (C : Addr) : Sp := fun vs H Q E => spNEq C vs H Q E ∨ ∃ (n : Addr) (z : Str), vs = [.ref n, .str z] ∧ Q (.bl false) H
theorem ok_neqX (T : Txt K mg) : FnOk P w K mg base CX0 1 T.f_Network_eq T.d_Network_eq ["self", "other"] (spNEqX T.f_Network) := by
  have F := ok_neq (P := P) (w := w) (base := base) T
  refine T.F_Network_eq.ok sc_Network_eq (fun vs H Q E h => ?_) (fun cdv A outer s H vs Q E hr h => ?_)
  · rcases h with h | ⟨n, z, rfl, _⟩
    · exact F.len vs H Q E h
    · rfl
  · refine ⟨_, (pss_cons (ps_if (pt_not (pt_val (pe_callB call_isi (by rfl) T.n_isinstance (by decide +kernel) (pa_cons (pv 1) (pa_cons (pe_glob (v := .ref T.f_Network) rfl T.m_Network rfl) pa_nil)))))
      (pss_one (ps_ret pe_bl))
      pss_nil)
    (pss_one (ps_ret (pe_and (pe_cmpR op_eq (pe_fld (pv 0) rfl) (pe_fld (pv 1) rfl) (nomark _)) (pe_and (pe_cmpR op_eq (pe_fld (pv 0) rfl) (pe_fld (pv 1) rfl) (nomark _)) (pe_one (pe_cmpR (op_eqEnts hr.units) (pe_fld (pv 0) rfl) (pe_fld (pv 1) rfl) (nomark _)))))))), ?_⟩
    rcases h with ⟨n, s, t, ts, ps, n2, s2, t2, ts2, ps2, rfl, ⟨dx, d, pp, b, kvs, h1, hd, _⟩, ⟨dx2, d2, pp2, b2, kvs2, h2, hd2, _⟩, hw, hw2, k⟩ | ⟨n, z, rfl, k⟩
    · refine ⟨_, rfl, .ref n2, .ref T.f_Network, .ref T.f_Network, .ref T.f_Network, true, rfl, .own _, tyRN T.ic_Network h2, kit_self, true, rfl, iteF ?_⟩
      refine ⟨_, rfl, n, T.f_Network, dx, _, .str s, rfl, h1, T.cl_Network, T.na_Network_start, nf_start, _, rfl, n2, T.f_Network, dx2, _, .str s2, rfl, h2, T.cl_Network, T.na_Network_start, nf_start, rfl, _, rfl, ?_⟩
      by_cases e1 : s = s2
      · rw [show decide (V.str s = V.str s2) = true by simp [e1]]
        rw [decide_eq_true e1, Bool.true_and] at k
        refine iteT ?_
        refine ⟨_, rfl, n, T.f_Network, dx, _, .str t, rfl, h1, T.cl_Network, T.na_Network_end, nf_end, _, rfl, n2, T.f_Network, dx2, _, .str t2, rfl, h2, T.cl_Network, T.na_Network_end, nf_end, rfl, _, rfl, ?_⟩
        by_cases e2 : t = t2
        · rw [show decide (V.str t = V.str t2) = true by simp [e2]]
          rw [decide_eq_true e2, Bool.true_and] at k
          refine iteT ?_
          exact ⟨_, rfl, n, T.f_Network, dx, _, .ref d, rfl, h1, T.cl_Network, T.na_Network_links, nf_links, _, rfl, n2, T.f_Network, dx2, _, .ref d2, rfl, h2, T.cl_Network, T.na_Network_links, nf_links, d, d2, ts, ts2, rfl, rfl, hd, hd2, hw, hw2, k⟩
        · rw [show decide (V.str t = V.str t2) = false by simp [e2]]
          rw [decide_eq_false e2, Bool.false_and] at k
          exact iteF k
      · rw [show decide (V.str s = V.str s2) = false by simp [e1]]
        rw [decide_eq_false e1, Bool.false_and] at k
        exact iteF k
    · refine ⟨_, rfl, .str z, .ref T.f_Network, .type "str", .ref T.f_Network, false, rfl, .own _, .base (.str z), T.ki_Network_str, false, rfl, iteT k⟩
end

section
variable {P : Program} {w : World} {K : PySem.W.Frag} {mg : Str → Option Value} {base : Heap}
def spNStart (C : Addr) : Sp := fun vs H Q _ => ∃ (n : Addr) (s t : Str) (ts : List Ent) (ps : List Str), vs = [.ref n] ∧ NetAt C H n s t ts ps ∧ Q (.str s) H
theorem ok_nstart (T : Txt K mg) : FnOk P w K mg base CX0 1 T.f_Network_start T.d_Network_start ["self"] (spNStart T.f_Network) := by
  refine T.F_Network_start.ok sc_Network_start (fun vs H Q E h => ?_) (fun cdv A outer s H vs Q E hr h => ?_)
  · obtain ⟨n, s, t, ts, ps, rfl, _⟩ := h
    rfl
  · obtain ⟨n, s, t, ts, ps, rfl, ⟨dx, d, pp, b, kvs, h1, h2, h3, h4, h5⟩, k⟩ := h
    refine ⟨_, (pss_one (ps_ret (pe_fld (pv 0) rfl))), ?_⟩
    exact ⟨_, rfl, n, T.f_Network, dx, _, .str s, rfl, h1, T.cl_Network, T.na_Network_start, rfl, k⟩
def spNEnd (C : Addr) : Sp := fun vs H Q _ => ∃ (n : Addr) (s t : Str) (ts : List Ent) (ps : List Str), vs = [.ref n] ∧ NetAt C H n s t ts ps ∧ Q (.str t) H
theorem ok_nend (T : Txt K mg) : FnOk P w K mg base CX0 1 T.f_Network_end T.d_Network_end ["self"] (spNEnd T.f_Network) := by
  refine T.F_Network_end.ok sc_Network_end (fun vs H Q E h => ?_) (fun cdv A outer s H vs Q E hr h => ?_)
  · obtain ⟨n, s, t, ts, ps, rfl, _⟩ := h
    rfl
  · obtain ⟨n, s, t, ts, ps, rfl, ⟨dx, d, pp, b, kvs, h1, h2, h3, h4, h5⟩, k⟩ := h
    refine ⟨_, (pss_one (ps_ret (pe_fld (pv 0) rfl))), ?_⟩
    exact ⟨_, rfl, n, T.f_Network, dx, _, .str t, rfl, h1, T.cl_Network, T.na_Network_end, rfl, k⟩
end

theorem perm_nd : ∀ {l m : List Str}, l.Nodup → m.Nodup → (∀ q, q ∈ l ↔ q ∈ m) → l.Perm m
  | [], m, _, _, h => by
    cases m with
    | nil => exact .nil
    | cons a r => exact absurd ((h a).mpr List.mem_cons_self) (by simp)
  | a :: l, m, hl, hm, h => by
    have ha : a ∈ m := (h a).mp List.mem_cons_self
    refine ((perm_nd (List.nodup_cons.mp hl).2 (hm.erase a) fun q => ?_).cons a).trans (List.perm_cons_erase ha).symm
    rw [hm.mem_erase_iff]
    constructor
    · exact fun hq => ⟨fun e => (List.nodup_cons.mp hl).1 (e ▸ hq), (h q).mp (List.mem_cons_of_mem _ hq)⟩
    · rintro ⟨hne, hq⟩
      exact (List.mem_cons.mp ((h q).mpr hq)).resolve_left hne
theorem places_one {es : List Ent} {s t : Str} {ps qs : List Str} (h1 : Places es s t ps) (h2 : Places es s t qs) : ps = qs := by
  obtain ⟨ys, rfl, n1, o1, m1⟩ := h1
  obtain ⟨zs, rfl, n2, o2, m2⟩ := h2
  rw [sorted_one (perm_nd n1 n2 fun q => (m1 q).trans (m2 q).symm) o1 o2]
theorem tup_ok {zs : List Str} (h : ∀ z ∈ zs, Wn z) : SeqAt.shaped (.tuple (zs.map PyData.str)) = true ∧ PyData.eqv (.tuple (zs.map PyData.str)) (.tuple (zs.map PyData.str)) = true := by
  have lay : PyData.canLay0 (.tuple (zs.map PyData.str)) = true := by
    simp only [PyData.canLay0]
    exact lay_map _ fun z hz => lay_str (h z hz)
  refine ⟨?_, SeqAt.eqv_refl _ lay⟩
  unfold SeqAt.shaped
  rw [lay, Bool.true_and]
  have := depth_map PyData.str 0 (xs := zs) fun z _ => Nat.le_of_eq (dep_str z)
  simp only [PyData.depth]
  exact decide_eq_true (by omega)
theorem dp_tup {K : PySem.W.Frag} {H : Hp} {p : Addr} {zs : List Str} (h : H p = some (.tup (zs.map V.str))) : Dp K H (.ref p) (.tuple (zs.map PyData.str)) := .tup (SqT.of h) (dp_strs zs)

theorem mem_places {es : List Ent} {s t : Str} {ps : List Str} (h : Places es s t ps) (q : Str) : q ∈ ps ↔ q = s ∨ q = t ∨ q ∈ endsOf es := by
  obtain ⟨ys, rfl, _, _, hm⟩ := h
  rw [List.mem_cons, List.mem_append, List.mem_singleton, hm]
  constructor
  · rintro (h | h | h)
    · exact .inl h
    · exact .inr (.inr h.1)
    · exact .inr (.inl h)
  · rintro (h | h | h)
    · exact .inl h
    · exact .inr (.inr h)
    · by_cases e1 : q = s
      · exact .inl e1
      · by_cases e2 : q = t
        · exact .inr (.inr e2)
        · exact .inr (.inl ⟨h, e1, e2⟩)
theorem ends_perm {es fs : List Ent} (p : fs.Perm es) (q : Str) : q ∈ endsOf fs ↔ q ∈ endsOf es := by
  rw [mem_ends, mem_ends]
  constructor
  · rintro ⟨e, he, h⟩; exact ⟨e, p.mem_iff.mp he, h⟩
  · rintro ⟨e, he, h⟩; exact ⟨e, p.mem_iff.mpr he, h⟩
theorem NetOk.place {es : List Ent} {s t : Str} {mo : Nat} (h : NetOk es s t mo) {ts : List Ent} (p : ts.Perm es) {ps : List Str} (hp : Places ts s t ps) {q : Str} (hq : q ∈ ps) : vn q = true ∧ Wn q := by
  rcases (mem_places hp q).mp hq with e | e | e
  · rw [e]; exact h.hs
  · rw [e]; exact h.ht
  · exact h.ends ((ends_perm p q).mp e)

/-! ### links under other names, places exchanged, texts that differ -/
theorem NetOk.retag {es fs : List Ent} {s t : Str} {mo : Nat} (h : NetOk es s t mo) (nd : (names fs).Nodup) (hn : ∀ f ∈ fs, vn f.1 = true ∧ Wn f.1) (h1 : ∀ f ∈ fs, ∃ e ∈ es, e.2 = f.2) (h2 : ∀ e ∈ es, ∃ f ∈ fs, f.2 = e.2) : NetOk fs s t mo where
  few := by
    obtain ⟨e, he⟩ : ∃ e, e ∈ es := List.exists_mem_of_length_pos h.few
    obtain ⟨f, hf, _⟩ := h2 e he
    exact List.length_pos_of_mem hf
  nd := nd
  ok := fun f hf => by
    obtain ⟨e, he, z⟩ := h1 f hf
    have a := h.ok e he
    have b := hn f hf
    refine ⟨⟨b.1, ?_, ?_⟩, b.2, ?_, ?_⟩
    · rw [← z]; exact a.1.2.1
    · rw [← z]; exact a.1.2.2
    · rw [← z]; exact a.2.2.1
    · rw [← z]; exact a.2.2.2
  hs := h.hs
  ht := h.ht
  ne := h.ne
  acy := fun p z => h.acy p (z.map h1)
  use := fun f hf => by
    obtain ⟨e, he, z⟩ := h1 f hf
    have u := h.use e he
    refine ⟨?_, ?_⟩
    · rw [← z]; exact u.1.imp id fun q => q.map h2
    · rw [← z]; exact u.2.imp id fun q => q.map h2
  sp := let ⟨sp, a, b, c, d⟩ := h.sp; ⟨sp, a, b, c, fun f hf => by obtain ⟨e, he, z⟩ := h1 f hf; rw [← z]; exact d e he⟩
/-- the first of the k-th link's names is another -/
def tagAt (es : List Ent) (k : Nat) (w : Str) : List Ent := es.take k ++ [(w, (es.getD k ("", "", "")).2.1, (es.getD k ("", "", "")).2.2)] ++ es.drop (k + 1)
def moreAt (es : List Ent) (k : Nat) (w : Str) : List Ent := es ++ [(w, (es.getD k ("", "", "")).2.1, (es.getD k ("", "", "")).2.2)]
theorem tag_perm {es : List Ent} {k : Nat} {w : Str} : (tagAt es k w).Perm ((w, (es.getD k ("", "", "")).2) :: (es.take k ++ es.drop (k + 1))) := by
  unfold tagAt
  rw [List.append_assoc]
  exact List.perm_middle
theorem cut_perm {es : List Ent} {k : Nat} (h : k < es.length) : es.Perm (es[k] :: (es.take k ++ es.drop (k + 1))) := by
  have e : es = es.take k ++ es[k] :: es.drop (k + 1) := by rw [← List.drop_eq_getElem_cons h, List.take_append_drop]
  conv => lhs; rw [e]
  exact List.perm_middle
theorem NetOk.tag {es : List Ent} {s t w : Str} {mo k : Nat} (h : NetOk es s t mo) (hk : k < es.length) (hw : w ∉ names es) (vw : vn w = true) (ww : Wn w) : NetOk (tagAt es k w) s t mo := by
  have p := tag_perm (es := es) (k := k) (w := w)
  have c := cut_perm hk
  have eg : es.getD k ("", "", "") = es[k] := getD_of (List.getElem?_eq_getElem hk)
  rw [eg] at p
  have sub : ∀ e ∈ es.take k ++ es.drop (k + 1), e ∈ es := fun e he => c.mem_iff.mpr (List.mem_cons_of_mem _ he)
  refine NetOk.perm (h.retag (fs := (w, es[k].2) :: (es.take k ++ es.drop (k + 1))) ?_ ?_ ?_ ?_) p
  · have nd := h.nd
    have nd2 := (c.map fun e : Ent => e.1).nodup_iff.mp nd
    refine List.nodup_cons.mpr ⟨fun z => ?_, (List.nodup_cons.mp nd2).2⟩
    obtain ⟨e, he, z⟩ := List.mem_map.mp z
    exact hw (List.mem_map.mpr ⟨e, sub e he, z⟩)
  · intro f hf
    rcases List.mem_cons.mp hf with e | e
    · rw [e]; exact ⟨vw, ww⟩
    · have := h.ok f (sub f e)
      exact ⟨this.1.1, this.2.1⟩
  · intro f hf
    rcases List.mem_cons.mp hf with e | e
    · rw [e]; exact ⟨es[k], List.getElem_mem hk, rfl⟩
    · exact ⟨f, sub f e, rfl⟩
  · intro e he
    rcases List.mem_cons.mp (c.mem_iff.mp he) with z | z
    · rw [z]; exact ⟨_, List.mem_cons_self, rfl⟩
    · exact ⟨e, List.mem_cons_of_mem _ z, rfl⟩
theorem tag_len {es : List Ent} {k : Nat} {w : Str} (h : k < es.length) : (tagAt es k w).length = es.length := by
  unfold tagAt
  rw [List.length_append, List.length_append, List.length_take, List.length_drop, List.length_singleton]
  omega
theorem tag_mem {es : List Ent} {k : Nat} {w : Str} : w ∈ names (tagAt es k w) := by
  unfold tagAt names
  rw [List.map_append, List.map_append]
  exact List.mem_append_left _ (List.mem_append_right _ List.mem_cons_self)
theorem NetOk.one_more {es : List Ent} {s t w : Str} {mo k : Nat} (h : NetOk es s t mo) (hk : k < es.length) (hw : w ∉ names es) (vw : vn w = true) (ww : Wn w) : NetOk (moreAt es k w) s t mo := by
  unfold moreAt
  have eg : es.getD k ("", "", "") = es[k] := getD_of (List.getElem?_eq_getElem hk)
  rw [eg]
  refine h.retag ?_ ?_ ?_ ?_
  · unfold names
    rw [List.map_append]
    refine List.nodup_append.mpr ⟨h.nd, by simp, fun a ha b hb => ?_⟩
    rw [List.mem_singleton.mp hb]
    exact fun z => hw ((show a = w from z) ▸ ha)
  · intro f hf
    rcases List.mem_append.mp hf with e | e
    · have := h.ok f e
      exact ⟨this.1.1, this.2.1⟩
    · rw [List.mem_singleton.mp e]; exact ⟨vw, ww⟩
  · intro f hf
    rcases List.mem_append.mp hf with e | e
    · exact ⟨f, e, rfl⟩
    · rw [List.mem_singleton.mp e]; exact ⟨es[k], List.getElem_mem hk, rfl⟩
  · exact fun e he => ⟨e, List.mem_append_left _ he, rfl⟩
theorem more_mem {es : List Ent} {k : Nat} {w : Str} : w ∈ names (moreAt es k w) := by
  unfold moreAt names
  rw [List.map_append]
  exact List.mem_append_right _ List.mem_cons_self
/-- two places exchanged -/
def swp (a b q : Str) : Str := if q = a then b else if q = b then a else q
theorem swp_swp (a b q : Str) : swp a b (swp a b q) = q := by
  unfold swp
  by_cases h1 : q = a
  · rw [if_pos h1]
    by_cases h2 : b = a
    · rw [if_pos h2, h1, h2]
    · rw [if_neg h2, if_pos rfl, h1]
  · rw [if_neg h1]
    by_cases h2 : q = b
    · rw [if_pos h2, if_pos rfl, h2]
    · rw [if_neg h2, if_neg h1, if_neg h2]
theorem swp_ne {a b q : Str} (h1 : q ≠ a) (h2 : q ≠ b) : swp a b q = q := by unfold swp; rw [if_neg h1, if_neg h2]
def swapE (a b : Str) (e : Ent) : Ent := (e.1, swp a b e.2.1, swp a b e.2.2)
theorem swapE_swapE (a b : Str) (e : Ent) : swapE a b (swapE a b e) = e := by unfold swapE; rw [swp_swp, swp_swp]
theorem swapL (a b : Str) (es : List Ent) : (es.map (swapE a b)).map (swapE a b) = es := by
  rw [List.map_map]
  exact (List.map_congr_left fun e _ => swapE_swapE a b e).trans (List.map_id es)
theorem lead_swap {es : List Ent} {p q : Str} (a b : Str) (h : Lead es p q) : Lead (es.map (swapE a b)) (swp a b p) (swp a b q) := by
  induction h with
  | @one e he => exact Lead.one (e := swapE a b e) (List.mem_map.mpr ⟨_, he, rfl⟩)
  | @more p e _ he ih => exact Lead.more (e := swapE a b e) ih (List.mem_map.mpr ⟨_, he, rfl⟩)
theorem lead_back {es : List Ent} {p q : Str} (a b : Str) (h : Lead (es.map (swapE a b)) p q) : Lead es (swp a b p) (swp a b q) := by
  have := lead_swap a b h
  rw [swapL] at this
  exact this
theorem NetOk.swap {es : List Ent} {s t a b : Str} {mo : Nat} (h : NetOk es s t mo) (ha : a ∈ endsOf es) (hb : b ∈ endsOf es) (as : s ≠ a) (at_ : t ≠ a) (bs : s ≠ b) (bt : t ≠ b) : NetOk (es.map (swapE a b)) s t mo := by
  have es_ : swp a b s = s := swp_ne as bs
  have et : swp a b t = t := swp_ne at_ bt
  have ok : ∀ {q : Str}, vn q = true ∧ Wn q → vn (swp a b q) = true ∧ Wn (swp a b q) := fun {q} hq => by
    unfold swp
    split
    · exact h.ends hb
    · split
      · exact h.ends ha
      · exact hq
  refine ⟨by rw [List.length_map]; exact h.few, by unfold names; rw [List.map_map]; exact h.nd, fun f hf => ?_, h.hs, h.ht, h.ne, fun p z => h.acy _ (lead_back a b z), fun f hf => ?_, ?_⟩
  · obtain ⟨e, he, rfl⟩ := List.mem_map.mp hf
    have k := h.ok e he
    have k1 := ok ⟨k.1.2.1, k.2.2.1⟩
    have k2 := ok ⟨k.1.2.2, k.2.2.2⟩
    exact ⟨⟨k.1.1, k1.1, k2.1⟩, k.2.1, k1.2, k2.2⟩
  · obtain ⟨e, he, rfl⟩ := List.mem_map.mp hf
    have u := h.use e he
    refine ⟨u.1.imp (fun z => ?_) fun z => ?_, u.2.imp (fun z => ?_) fun z => ?_⟩
    · show swp a b e.2.1 = s
      rw [z, es_]
    · have := lead_swap a b z
      rw [es_] at this
      exact this
    · show swp a b e.2.2 = t
      rw [z, et]
    · have := lead_swap a b z
      rw [et] at this
      exact this
  · obtain ⟨sp, c, d, e, f⟩ := h.sp
    refine ⟨sp.map (swp a b), by rw [List.length_map]; exact c, List.mem_map.mpr ⟨s, d, es_⟩, List.mem_map.mpr ⟨t, e, et⟩, fun g hg => ?_⟩
    obtain ⟨e, he, rfl⟩ := List.mem_map.mp hg
    exact ⟨List.mem_map.mpr ⟨_, (f e he).1, rfl⟩, List.mem_map.mpr ⟨_, (f e he).2, rfl⟩⟩
/-- dicts of links are equal just when the links are -/
theorem eq_ents_iff {ts us : List Ent} (nt : (names ts).Nodup) (nu : (names us).Nodup) (st : PyProof.Rows.sortedS (names ts) = true) (su : PyProof.Rows.sortedS (names us) = true) : eqEnts ts us = decide (ts = us) := by
  by_cases h : ts = us
  · subst h; rw [eq_ents_self nt, decide_eq_true rfl]
  · rw [decide_eq_false h, Bool.eq_false_iff]
    intro z
    apply h
    unfold eqEnts at z
    rw [Bool.and_eq_true, decide_eq_true_eq, List.all_eq_true] at z
    have f : ∀ e ∈ ts, found us e.1 = some e.2 := fun e he => of_decide_eq_true (z.2 e he)
    have sub : ∀ q ∈ names ts, q ∈ names us := fun q hq => by
      obtain ⟨e, he, rfl⟩ := List.mem_map.mp hq
      have := found_some (es := us) (n := e.1)
      rw [f e he] at this
      exact of_decide_eq_true this.symm
    have ln : (names us).length = (names ts).length := by unfold names; rw [List.length_map, List.length_map]; exact z.1.symm
    have p : (names ts).Perm (names us) := perm_nd nt nu fun q => ⟨sub q, fun hq => Decidable.byContradiction fun hn => by
      have := nd_len (List.nodup_cons.mpr ⟨hn, nt⟩) (m := names us) fun x hx => by
        rcases List.mem_cons.mp hx with e | e
        · rw [e]; exact hq
        · exact sub x e
      rw [List.length_cons] at this
      omega⟩
    have en := sorted_one p st su
    have e1 : ts = tabOf us (names ts) := by
      unfold tabOf names
      rw [List.map_map]
      refine ((List.map_congr_left fun e he => ?_).trans (List.map_id ts)).symm
      show (e.1, (found us e.1).getD ("", "")) = e
      rw [f e he]
      rfl
    exact e1.trans ((congrArg (tabOf us) en).trans (perm_tab nu (List.Perm.refl us)).symm)
theorem row_inj {e f : Ent} (h1 : Plain e.1 ∧ Plain e.2.1 ∧ Plain e.2.2) (h2 : Plain f.1 ∧ Plain f.2.1 ∧ Plain f.2.2) (h : rowText e = rowText f) : e = f := by
  rw [row_split, row_split] at h
  have a := congrArg (fun z => Txt.partition z ": ") h
  rw [part_row h1.1, part_row h2.1] at a
  have n1 := congrArg (fun z => z.1) a
  have n2 := congrArg (fun z => z.2.2) a
  have b := congrArg (fun z => Txt.split z " > ") n2
  dsimp only at b n1
  rw [split_head h1.2.1 h1.2.2, split_head h2.2.1 h2.2.2] at b
  obtain ⟨e1, e2, e3⟩ := e
  obtain ⟨f1, f2, f3⟩ := f
  injection b with b1 b2
  injection b2 with b2 _
  dsimp only at n1 b1 b2
  rw [n1, b1, b2]
theorem rows_inj : ∀ {es fs : List Ent}, (∀ e ∈ es, Plain e.1 ∧ Plain e.2.1 ∧ Plain e.2.2) → (∀ e ∈ fs, Plain e.1 ∧ Plain e.2.1 ∧ Plain e.2.2) → es.map rowText = fs.map rowText → es = fs
  | [], [], _, _, _ => rfl
  | [], f :: fs, _, _, h => by simp at h
  | e :: es, [], _, _, h => by simp at h
  | e :: es, f :: fs, h1, h2, h => by
    rw [List.map_cons, List.map_cons] at h
    injection h with a b
    rw [row_inj (h1 e List.mem_cons_self) (h2 f List.mem_cons_self) a, rows_inj (fun x hx => h1 x (List.mem_cons_of_mem _ hx)) (fun x hx => h2 x (List.mem_cons_of_mem _ hx)) b]
theorem text_iff {s t : Str} {es fs : List Ent} (hs : Plain s) (ht : Plain t) (h1 : ∀ e ∈ es, Plain e.1 ∧ Plain e.2.1 ∧ Plain e.2.2) (h2 : ∀ e ∈ fs, Plain e.1 ∧ Plain e.2.1 ∧ Plain e.2.2) : decide (V.str (textOf s t (es.map rowText)) = V.str (textOf s t (fs.map rowText))) = decide (es = fs) := by
  refine decide_eq_decide.mpr ⟨fun h => ?_, fun h => by rw [h]⟩
  have h := V.str.inj h
  unfold textOf at h
  have nl : ∀ {gs : List Ent}, (∀ e ∈ gs, Plain e.1 ∧ Plain e.2.1 ∧ Plain e.2.2) → ∀ p ∈ headText s t :: gs.map rowText, 10 ∉ p.cps.toList := fun {gs} hg p hp => by
    rcases List.mem_cons.mp hp with e | e
    · rw [e]; exact head_nl hs ht
    · obtain ⟨g, hg2, rfl⟩ := List.mem_map.mp e
      have := hg g hg2
      exact row_nl this.1 this.2.1 this.2.2
  have a := congrArg (fun z => Txt.split z "\n") h
  rw [split_lines (by simp) (nl h1), split_lines (by simp) (nl h2)] at a
  injection a with _ b
  exact rows_inj h1 h2 b
theorem NetOk.plain {es : List Ent} {s t : Str} {mo : Nat} (h : NetOk es s t mo) : ∀ e ∈ es, Plain e.1 ∧ Plain e.2.1 ∧ Plain e.2.2 := fun e he => let k := (h.ok e he).1; ⟨vn_plain k.1, vn_plain k.2.1, vn_plain k.2.2⟩
/-- the inner places, of all -/
theorem inner_places {es ts : List Ent} {s t : Str} {zs : List Str} (p : ts.Perm es) (h : SpotsOk es zs) : Places ts s t (s :: (innOf s t zs ++ [t])) := by
  refine ⟨_, rfl, h.nd.filter _, ?_, fun q => ?_⟩
  · refine PyProof.Rows.sortedS_of_pairwise _ ?_
    refine List.Pairwise.imp ?_ (List.Pairwise.sublist List.filter_sublist (sorted_pw h.so))
    intro a b hab
    rw [PyProof.Rows.ltCps_eq]
    exact decide_eq_false (List.not_lt.mpr hab)
  · rw [mem_inn, h.mem, ends_perm p]

/-! ### names that no link has -/
section
variable {P : Program} {w : World} {K : PySem.W.Frag} {mg : Str → Option Value} {base : Heap}
def spMissing (C : Addr) : Sp := fun vs H Q _ => ∃ (n : Addr) (s t : Str) (ts : List Ent) (ps : List Str) (z : Str), vs = [.ref n, .str z] ∧ NetAt C H n s t ts ps ∧ z ∉ names ts ∧ ∀ H', Same H H' → Q (.bl true) H'
theorem found_no {es : List Ent} {n : Str} (h : n ∉ names es) : found es n = none := by
  have := found_some (es := es) (n := n)
  rw [decide_eq_false h] at this
  cases e : found es n with
  | none => rfl
  | some q => rw [e] at this; cases this
/-- the same while an exception is handled -/
theorem cold_nin (T : Txt K mg) : FnC P w K mg base 1 T.f_Network_contains T.d_Network_contains ["self", "name"] (spNIn T.f_Network) := by
  refine okC T.F_Network_contains sc_Network_contains (fun vs H Q E h => ?_) (fun cdv A outer s H vs Q hr h => ?_)
  · obtain ⟨n, s, t, ts, ps, z, rfl, _⟩ := h
    rfl
  · obtain ⟨n, s, t, ts, ps, z, rfl, ⟨dx, d, pp, b, kvs, h1, ⟨kvs2, h2, hp⟩, h3, h4, h5⟩, k⟩ := h
    refine ⟨_, (pss_one (ps_ret (pe_cmp (pc_din (huH hr) (pv 1) (pe_fld (pv 0) rfl))))), ?_⟩
    refine ⟨_, rfl, _, rfl, n, T.f_Network, dx, _, _, rfl, h1, T.cl_Network, T.na_Network_links, nf_links, ?_⟩
    refine ⟨d, valV kvs2 (.inr z : Key), rfl, DGet.k (k := .inr z) h2, ?_⟩
    rcases val_found (n := z) hp with ⟨e1, e2⟩ | ⟨e, p, e1, e2, hpp⟩
    · rw [e2]; rw [e1] at k; exact k
    · rw [e2]; rw [e1] at k; exact k
theorem ok_missing (T : Txt K mg) : FnOk P w K mg base CX0 5 T.f_missing T.d_missing ["_law_net_here", "_law_word"] (spMissing T.f_Network) := by
  have GX_Network_getitem : FnOk P w K mg base (L2.CX P w) 3 T.f_Network_getitem T.d_Network_getitem ["self", "name"] (spNGet T.f_Network T.f_UnknownName) := ok_nget T
  have C_Network_contains : FnC P w K mg base 1 T.f_Network_contains T.d_Network_contains ["self", "name"] (spNIn T.f_Network) := cold_nin T
  refine T.F_missing.ok sc_missing (fun vs H Q E h => ?_) (fun cdv A outer s H vs Q E hr h => ?_)
  · obtain ⟨n, s, t, ts, ps, z, rfl, _⟩ := h
    rfl
  · obtain ⟨n, s, t, ts, ps, z, rfl, hN, hz, k⟩ := h
    refine ⟨_, (pss_cons (ps_set (i := 2) sc_missing.nd rfl (Or.inl rfl) (pe_lst pa_nil))
    (C8.pss_cut (ps_try_as (i := 3) rfl rfl sc_missing.nd rfl rfl ⟨rfl, by decide, .inl T.m_UnknownName⟩ takes0 (fun W pn xe tk _ =>
      (pss_one (ps_expr (pe_bmT <| pe_bm PySem.F.plainAttrs_list PySem.F.slot_list_append PySem.F.type_list_append mt_append (pv 2) (pa_cons (pe_getO T.dn_Network_getitem GX_Network_getitem (hr.mono (by decide)) T.b_Network_getitem (fun σ => passAt tk σ) (pv 0) (pv 1) (fun _ _ => rfl)) pa_nil))))) (fun a oe cls d pn hz hf =>
      (pss_one (ps_ret (pe_and (pe_cmpR op_eq (pe_xf T.xf_UnknownName T.no_UnknownName_name hz hf (pv 3)) (pv 1) (nomark _)) (pe_one (pe_cmpR (op_notInC T.dn_Network_contains C_Network_contains (roomC (hr.mono (by decide)) _) T.b_Network_contains) (pv 1) (pv 0) rfl)))))))
    (pss_one (ps_ret pe_bl)))), ?_⟩
    refine ⟨by decide, fun l nl => ?_⟩
    have s1 := same_upd (o := .lst []) nl
    have hN1 := hN.same s1
    have hl : (upd H l (.lst [])) l = some (.lst []) := upd_same
    generalize upd H l (.lst []) = H1 at s1 hN1 hl ⊢
    refine ⟨fun _ _ => False, ?_, fun _ _ f => f.elim⟩
    obtain ⟨dx, d, pp, b, kvs, h1, _⟩ := id hN1
    have hf := found_no hz
    refine ⟨_, rfl, .inl ⟨rfl, _, SqL.of hl⟩, ?_⟩
    refine ⟨_, rfl, _, rfl, n, dx, _, rfl, h1, n, s, t, ts, ps, z, rfl, hN1, fun e p he _ => absurd (hf.symm.trans he) (by intro z; cases z), fun _ d' H' nd s2 hd => ?_⟩
    refine ⟨true, PySem.W.exm_ref T.ec_UnknownName.hs T.ec_UnknownName.hd T.ox_UnknownName.tyC T.es_UnknownName_UnknownName, fun _ a na => ?_, fun q => nomatch q⟩
    have hN2 := hN1.same s2
    refine ⟨_, rfl, rfl, rfl, d', _, _, rfl, hd, rfl, _, rfl, rfl, ?_⟩
    obtain ⟨dx2, _, _, _, _, h2, _⟩ := id hN2
    refine ⟨_, rfl, ?_⟩
    rw [decide_eq_true rfl]
    refine iteT ⟨_, rfl, _, rfl, n, dx2, _, rfl, h2, n, s, t, ts, ps, z, rfl, hN2, _, rfl, ?_⟩
    rw [hf]
    exact k _ (s1.trans s2)
end

/-! ### what a network tells of itself -/
theorem atI_end {α : Type} {xs : List α} {j : Nat} {v : α} (h : xs[j]? = some v) (hl : j + 1 = xs.length) : atI xs (-1) = some v := by
  unfold atI ixN
  rw [if_neg (by decide), if_pos (by omega)]
  show xs[((-1 : Int) + xs.length).toNat]? = some v
  rw [show ((-1 : Int) + xs.length).toNat = j by omega]
  exact h
section
variable {P : Program} {w : World} {K : PySem.W.Frag} {mg : Str → Option Value} {base : Heap}
def spParts (C : Addr) : Sp := fun vs H Q _ => ∃ (n a : Addr) (s t : Str) (es ts : List Ent) (ps : List Str) (mo : Nat), vs = [.ref n, .ref a, .str s, .str t] ∧ NetAt C H n s t ts ps ∧ RowsL H a es ∧ es.length ≤ 10 ∧ NetOk es s t mo ∧ ts.Perm es ∧ PyProof.Rows.sortedS (names ts) = true ∧ Places ts s t ps ∧ ∀ H', Same H H' → Q (.bl true) H'
theorem ok_parts (T : Txt K mg) : FnOk P w K mg base CX0 6 T.f_parts T.d_parts ["_law_net_here", "_law_rows", "_law_first", "_law_last"] (spParts T.f_Network) := by
  have G_Network_getitem := calm_of (ok_nget (P := P) (w := w) (base := base) T)
  have G_Network_contains := ok_nin (P := P) (w := w) (base := base) T
  have G_Network_len := ok_nlen (P := P) (w := w) (base := base) T
  have G_Network_start := ok_nstart (P := P) (w := w) (base := base) T
  have G_Network_end := ok_nend (P := P) (w := w) (base := base) T
  have G_Network_names := ok_nnames (P := P) (w := w) (base := base) T
  have G_Network_places := ok_nplaces (P := P) (w := w) (base := base) T
  have G_missing := ok_missing (P := P) (w := w) (base := base) T
  refine T.F_parts.ok sc_parts (fun vs H Q E h => ?_) (fun cdv A outer s0 H vs Q E hr h => ?_)
  · obtain ⟨n, a, s, t, es, ts, ps, mo, rfl, _⟩ := h
    rfl
  · obtain ⟨n, a, s, t, es, ts, ps, mo, rfl, hN, hra, h10, nok, hp, so, hps, k⟩ := h
    refine ⟨_, (pss_cons (ps_set (i := 4) sc_parts.nd rfl (Or.inl rfl) (pe_callB cr_sortedS (by rfl) T.n_sorted (by decide +kernel) (pa_cons (pe_lc (own := [("_law_row", 5)]) (g := gName 5) (tt := tYes) rfl sc_parts.nd (pi_list (pv 1)) (blkOk_by (N := ["_law_net_here", "_law_rows", "_law_first", "_law_last", "_law_labels", "_law_row", "_law_spots_here", "_law_inner", "_law_word", "_law_place"]) (sc := defScope s_parts) (by decide +kernel)) (fun _ _ _ _ _ => pg_name (i := 5) sc_parts.nd rfl (Or.inl rfl)) (fun _ _ _ _ _ => pts_nil) (fun _ _ _ _ _ => (pe_ix (show IxR _ (rIxT K) from ix_tup) (pv 5) pe_int (fun _ _ => rfl)))) pa_nil)))
    (pss_cons (ps_set (i := 6) sc_parts.nd rfl (Or.inl rfl) (pe_callB (cr_sortTx rfl) (by rfl) T.n_sorted (by decide +kernel) (pa_cons (pe_callTy (cr_setTx rfl) (by rfl) T.n_set (by decide +kernel) (pa_cons (pe_op op_cat (pe_lc (own := [("_law_row", 5)]) (g := gName 5) (tt := tYes) rfl sc_parts.nd (pi_list (pv 1)) (blkOk_by (N := ["_law_net_here", "_law_rows", "_law_first", "_law_last", "_law_labels", "_law_row", "_law_spots_here", "_law_inner", "_law_word", "_law_place"]) (sc := defScope s_parts) (by decide +kernel)) (fun _ _ _ _ _ => pg_name (i := 5) sc_parts.nd rfl (Or.inl rfl)) (fun _ _ _ _ _ => pts_nil) (fun _ _ _ _ _ => (pe_ix (show IxR _ (rIxT K) from ix_tup) (pv 5) pe_int (fun _ _ => rfl)))) (pe_lc (own := [("_law_row", 5)]) (g := gName 5) (tt := tYes) rfl sc_parts.nd (pi_list (pv 1)) (blkOk_by (N := ["_law_net_here", "_law_rows", "_law_first", "_law_last", "_law_labels", "_law_row", "_law_spots_here", "_law_inner", "_law_word", "_law_place"]) (sc := defScope s_parts) (by decide +kernel)) (fun _ _ _ _ _ => pg_name (i := 5) sc_parts.nd rfl (Or.inl rfl)) (fun _ _ _ _ _ => pts_nil) (fun _ _ _ _ _ => (pe_ix (show IxR _ (rIxT K) from ix_tup) (pv 5) pe_int (fun _ _ => rfl))))) pa_nil)) pa_nil)))
    (pss_cons (ps_setLc (i := 7) (own := [("_law_place", 9)]) (g := gName 9) rfl sc_parts.nd rfl rfl (sw_true rfl rfl rfl (by decide +kernel)) (pi_list (pv 6)) (blkOk_by (N := ["_law_net_here", "_law_rows", "_law_first", "_law_last", "_law_labels", "_law_row", "_law_spots_here", "_law_inner", "_law_word", "_law_place"]) (sc := defScope s_parts) (by decide +kernel)) (fun _ _ _ _ _ => pg_name (i := 9) sc_parts.nd rfl (Or.inl rfl)) (fun _ _ _ _ _ => pts_one (PW.pt (pw_and (pt_cmpR op_ne (pv 9) (pv 2) (nomark _)) (pw_and1 (pt_cmpR op_ne (pv 9) (pv 3) (nomark _)))))) (fun _ _ _ _ _ => (pv 9)))
    (pss_cons (ps_if (PW.pt (pw_or (pt_cmpR (op_neD hr.units) (pe_prop (pv 0) T.cl_Network T.p_Network_names G_Network_names (hr.mono (by decide)) T.b_Network_names .nil pass0 rfl) (pe_callTy call_tuple_of (by rfl) T.n_tuple (by decide +kernel) (pa_cons (pv 4) pa_nil)) (nomark _)) (pw_or1 (pt_cmpR (op_neD hr.units) (pe_prop (pv 0) T.cl_Network T.p_Network_places G_Network_places (hr.mono (by decide)) T.b_Network_places .nil pass0 rfl) (pe_callTy call_tuple_of (by rfl) T.n_tuple (by decide +kernel) (pa_cons (pe_op op_cat (pe_op op_cat (pe_lst (pa_cons (pv 2) pa_nil)) (pv 7)) (pe_lst (pa_cons (pv 3) pa_nil))) pa_nil)) (nomark _)))))
      (pss_one (ps_ret pe_bl))
      pss_nil)
    (pss_cons (ps_if (PW.pt (pw_or (pt_cmpR (op_neD hr.units) (pe_tup (pa_cons (pe_prop (pv 0) T.cl_Network T.p_Network_start G_Network_start (hr.mono (by decide)) T.b_Network_start .nil pass0 rfl) (pa_cons (pe_prop (pv 0) T.cl_Network T.p_Network_end G_Network_end (hr.mono (by decide)) T.b_Network_end .nil pass0 rfl) pa_nil))) (pe_tup (pa_cons (pv 2) (pa_cons (pv 3) pa_nil))) (nomark _)) (pw_or1 (pt_cmpR op_ne (pe_callB (call_lenO T.dn_Network_len G_Network_len (hr.mono (by decide)) T.b_Network_len pass0) (by rfl) T.n_len (by decide +kernel) (pa_cons (pv 0) pa_nil)) (pe_callB call_len_seq (by rfl) T.n_len (by decide +kernel) (pa_cons (pv 1) pa_nil)) (nomark _)))))
      (pss_one (ps_ret pe_bl))
      pss_nil)
    (C8.pss_cut (ps_for PassesOwn.never rfl (pi_list (pv 1)) (pg_name (i := 5) sc_parts.nd rfl (Or.inl rfl))
      (pss_one (ps_if (PW.pt (pw_or (pt_cmpR (op_neD hr.units) (pe_getO T.dn_Network_getitem G_Network_getitem (hr.mono (by decide)) T.b_Network_getitem (fun σ => passesAtOf pass0 σ) (pv 0) (pe_ix ix_tup (pv 5) pe_int (fun _ _ => rfl)) (fun _ _ => rfl)) (pe_tup (pa_cons (pe_ix ix_tup (pv 5) pe_int (fun _ _ => rfl)) (pa_cons (pe_ix ix_tup (pv 5) pe_int (fun _ _ => rfl)) pa_nil))) (nomark _)) (pw_or1 (pt_cmpR op_notB (pe_cmpR (op_inO T.dn_Network_contains G_Network_contains (hr.mono (by decide)) T.b_Network_contains pass0) (pe_ix ix_tup (pv 5) pe_int (fun _ _ => rfl)) (pv 0) rfl) pe_bl (nomark _)))))
      (pss_one (ps_ret pe_bl))
      pss_nil)))
    (C8.pss_cut (ps_for PassesOwn.never rfl (pi_list (pe_op op_cat (pv 6) (pe_lst (pa_cons pe_str (pa_cons pe_str (pa_cons (pe_op op_add_str (pe_ix ix_list (pv 4) pe_int (fun _ _ => rfl)) pe_str) (pa_cons (pe_slice sl_str (pe_ix ix_list (pv 4) (pe_un un_neg pe_int) (fun _ _ => rfl)) po_none (po_some (pe_un un_neg pe_int))) pa_nil))))))) (pg_name (i := 8) sc_parts.nd rfl (Or.inl rfl))
      (pss_one (ps_if (PW.pt (pw_and (pt_cmpR op_notIn_seq (pv 8) (pv 4) (by with_unfolding_all rfl)) (pw_and1 (pt_not (pt_val (pe_call G_missing (hr.mono (by decide)) rfl T.m_missing T.F_missing.kp T.b_missing .nil pass0 (pa_cons (pv 0) (pa_cons (pv 8) pa_nil))))))))
      (pss_one (ps_ret pe_bl))
      pss_nil)))
    (pss_one (ps_ret (pe_cmpR (op_eqD hr.units) (pe_tup (pa_cons (ClX.pe_cval (pe_glob (v := .ref T.f_Network) rfl T.m_Network rfl)) (pa_cons (ClX.pe_cval (pe_glob (v := .ref T.f_Network) rfl T.m_Network rfl)) pa_nil))) (pe_tup (pa_cons pe_int (pa_cons pe_int pa_nil))) (nomark _))))))))))), ?_⟩
    obtain ⟨qs, ha, hpr⟩ := id hra
    have hqe : (qs.map V.ref).length = es.length := by rw [List.length_map, hpr.length]
    have at_ : ∀ {i : Nat} {x : V}, (qs.map V.ref)[i]? = some x → ∃ q e, x = V.ref q ∧ es[i]? = some e ∧ RowT H q e := fun {i x} hi => by
      rw [List.getElem?_map] at hi
      cases e : qs[i]? with
      | none => rw [e] at hi; cases hi
      | some q =>
        rw [e] at hi
        obtain ⟨f, hf, hq⟩ := L2.paired_get hpr e
        exact ⟨q, f, (Option.some.inj hi).symm, hf, hq⟩
    refine ⟨_, rfl, a, rfl, ⟨_, SqL.of ha⟩, fun D hD => ?_⟩
    refine lc_list (K := K) (a := a) (xs := qs.map V.ref) (fun i H' => Same H H' ∧ H' D = some (.lst ((names (es.take i)).map V.str))) ⟨same_upd hD, upd_same⟩ (fun i H' _ h => SqL.of (h.1 _ _ ha)) ?_ ?_
    · intro i x H' hi ⟨s1, hDr⟩
      obtain ⟨q, e, rfl, he, hq⟩ := at_ hi
      refine ⟨rfl, _, rfl, q, _, 0, .str e.1, rfl, rfl, SqT.of (s1 _ _ hq), rfl, _, hDr, small1000 (by unfold names; rw [List.length_map, List.length_map, List.length_take]; omega), same_mut s1 hD, ?_⟩
      rw [upd_same, names_take he, List.map_append]
      rfl
    intro H1 ⟨s1, hD1⟩
    rw [hqe, List.take_length] at hD1
    have hnl : (names es).length = es.length := by unfold names; rw [List.length_map]
    refine ⟨D, _, rfl, SqL.of hD1, by rw [hnl]; omega, fun ys L py soy nL => ?_⟩
    obtain rfl : ys = names ts := sorted_one (py.trans (hp.map _).symm) soy so
    have hL : (upd H1 L (.lst ((names ts).map V.str))) L = some (.lst ((names ts).map V.str)) := upd_same
    have s2 := s1.trans (same_upd (o := .lst ((names ts).map V.str)) nL)
    generalize upd H1 L (.lst ((names ts).map V.str)) = H2 at hL s2 ⊢
    refine ⟨_, rfl, a, rfl, ⟨_, SqL.of (s2 _ _ ha)⟩, fun D2 hD2 => ?_⟩
    refine lc_list (K := K) (a := a) (xs := qs.map V.ref) (fun i H' => Same H2 H' ∧ H' D2 = some (.lst (((es.take i).map fun e : Ent => e.2.1).map V.str))) ⟨same_upd hD2, upd_same⟩ (fun i H' _ h => SqL.of (h.1 _ _ (s2 _ _ ha))) ?_ ?_
    · intro i x H' hi ⟨s3, hDr⟩
      obtain ⟨q, e, rfl, he, hq⟩ := at_ hi
      refine ⟨rfl, _, rfl, q, _, 1, .str e.2.1, rfl, rfl, SqT.of (s3 _ _ (s2 _ _ hq)), rfl, _, hDr, small1000 (by rw [List.length_map, List.length_map, List.length_take]; omega), same_mut s3 hD2, ?_⟩
      rw [upd_same, take_more he, List.map_append, List.map_append]
      rfl
    intro H3 ⟨s23, hD3⟩
    rw [hqe, List.take_length] at hD3
    have s3 := s2.trans s23
    refine ⟨_, rfl, a, rfl, ⟨_, SqL.of (s3 _ _ ha)⟩, fun D4 hD4 => ?_⟩
    refine lc_list (K := K) (a := a) (xs := qs.map V.ref) (fun i H' => Same H3 H' ∧ H' D4 = some (.lst (((es.take i).map fun e : Ent => e.2.2).map V.str))) ⟨same_upd hD4, upd_same⟩ (fun i H' _ h => SqL.of (h.1 _ _ (s3 _ _ ha))) ?_ ?_
    · intro i x H' hi ⟨s4, hDr⟩
      obtain ⟨q, e, rfl, he, hq⟩ := at_ hi
      refine ⟨rfl, _, rfl, q, _, 2, .str e.2.2, rfl, rfl, SqT.of (s4 _ _ (s3 _ _ hq)), rfl, _, hDr, small1000 (by rw [List.length_map, List.length_map, List.length_take]; omega), same_mut s4 hD4, ?_⟩
      rw [upd_same, take_more he, List.map_append, List.map_append]
      rfl
    intro H4 ⟨s34, hD4'⟩
    rw [hqe, List.take_length] at hD4'
    have hll : ((es.map fun e : Ent => e.2.1) ++ es.map fun e : Ent => e.2.2).length = 2 * es.length := by rw [List.length_append, List.length_map, List.length_map]; omega
    refine ⟨D2, D4, _, _, rfl, rfl, s34 _ _ hD3, hD4', by rw [List.length_map, List.length_map, List.length_map, List.length_map]; exact Nat.le_of_lt (small1000 (by omega)), fun L5 nL5 => ?_⟩
    rw [← List.map_append]
    refine ⟨L5, _, rfl, SqL.of upd_same, by rw [hll]; omega, fun S nS => ?_⟩
    refine ⟨S, _, rfl, upd_same, by rw [hll]; omega, fun zs M nd hm so2 hle nM => ?_⟩
    have s5 := (((s3.trans s34).trans (same_upd (o := .lst (((es.map fun e : Ent => e.2.1) ++ es.map fun e : Ent => e.2.2).map V.str)) nL5)).trans (same_upd (o := TxO P w S ((es.map fun e : Ent => e.2.1) ++ es.map fun e : Ent => e.2.2)) nS)).trans (same_upd (o := .lst (zs.map V.str)) nM)
    have s25 := (((s23.trans s34).trans (same_upd (o := .lst (((es.map fun e : Ent => e.2.1) ++ es.map fun e : Ent => e.2.2).map V.str)) nL5)).trans (same_upd (o := TxO P w S ((es.map fun e : Ent => e.2.1) ++ es.map fun e : Ent => e.2.2)) nS)).trans (same_upd (o := .lst (zs.map V.str)) nM)
    have sp : SpotsOk es zs := ⟨nd, so2, fun q => by
      rw [hm, mem_ends, List.mem_append, List.mem_map, List.mem_map]
      constructor
      · rintro (⟨e, he, h⟩ | ⟨e, he, h⟩)
        · exact ⟨e, he, .inl h⟩
        · exact ⟨e, he, .inr h⟩
      · rintro ⟨e, he, h | h⟩
        · exact .inl ⟨e, he, h⟩
        · exact .inr ⟨e, he, h⟩, by rw [hll] at hle; exact hle⟩
    have hM : (upd (upd (upd H4 L5 (.lst (((es.map fun e : Ent => e.2.1) ++ es.map fun e : Ent => e.2.2).map V.str))) S (TxO P w S ((es.map fun e : Ent => e.2.1) ++ es.map fun e : Ent => e.2.2))) M (.lst (zs.map V.str))) M = some (.lst (zs.map V.str)) := upd_same
    generalize hH5 : upd (upd (upd H4 L5 _) S (TxO _ _ S _)) M _ = H5
    have s5 : Same H H5 := by rw [← hH5]; exact s5
    have s25 : Same H2 H5 := by rw [← hH5]; exact s25
    have hM : H5 M = some (.lst (zs.map V.str)) := by rw [← hH5]; exact hM
    clear hH5
    have hL5 := s25 _ _ hL
    have ha5 := s5 _ _ ha
    have hN5 := hN.same s5
    clear hD4' hD3 hD1 nM nS nL5 hD4 hD2 nL hD s34 s23 s25 hL
    have spf := sp.few
    refine ⟨_, rfl, M, rfl, ⟨_, SqL.of hM⟩, fun D6 hD6 => ?_⟩
    refine lc_list (K := K) (a := M) (xs := zs.map V.str) (fun i H' => Same H5 H' ∧ H' D6 = some (.lst ((innOf s t (zs.take i)).map V.str))) ⟨same_upd hD6, upd_same⟩ (fun i H' _ h => SqL.of (h.1 _ _ hM)) ?_ ?_
    · intro i x H' hi ⟨s6, hDr⟩
      obtain ⟨z, hz, rfl⟩ : ∃ z, zs[i]? = some z ∧ x = V.str z := by
        rw [List.getElem?_map] at hi
        cases e : zs[i]? with
        | none => rw [e] at hi; cases hi
        | some q => rw [e] at hi; exact ⟨q, rfl, (Option.some.inj hi).symm⟩
      have sml : (innOf s t (zs.take i)).length ≤ 100 := by
        have a := inn_len s t (zs.take i)
        rw [List.length_take] at a
        omega
      have no : z ∈ [s, t] → innOf s t (zs.take (i + 1)) = innOf s t (zs.take i) := fun h => by rw [take_more hz, inn_no _ h]
      refine ⟨rfl, _, rfl, _, rfl, rfl, _, rfl, ?_⟩
      by_cases e1 : z = s
      · rw [show (!decide (V.str z = V.str s)) = false by simp [e1]]
        refine iteF ?_
        rw [no (e1 ▸ List.mem_cons_self)]
        exact ⟨s6, hDr⟩
      · rw [show (!decide (V.str z = V.str s)) = true by simp [e1]]
        refine iteT ⟨_, rfl, _, rfl, rfl, _, rfl, ?_⟩
        by_cases e2 : z = t
        · rw [show (!decide (V.str z = V.str t)) = false by simp [e2]]
          refine iteF ?_
          rw [no (e2 ▸ List.mem_cons_of_mem _ List.mem_cons_self)]
          exact ⟨s6, hDr⟩
        · rw [show (!decide (V.str z = V.str t)) = true by simp [e2]]
          refine iteT ⟨_, rfl, _, hDr, small1000 (by rw [List.length_map]; omega), same_mut s6 hD6, ?_⟩
          rw [upd_same, take_more hz, inn_yes _ e1 e2, List.map_append]
          rfl
    intro H6 ⟨s56, hD6'⟩
    rw [List.length_map, List.take_length] at hD6'
    have s6 := s5.trans s56
    have hN6 := hN.same s6
    have hL6 := s56 _ _ hL5
    have ha6 := s6 _ _ ha
    have hM6 := s56 _ _ hM
    clear hD6
    have wts : ∀ e ∈ ts, WnE e := fun e he => (nok.ok e (hp.mem_iff.mp he)).2
    have wnm : ∀ z ∈ names ts, Wn z := fun z hz => by
      obtain ⟨e, he, rfl⟩ := List.mem_map.mp hz
      exact (wts e he).1
    have wps : ∀ z ∈ ps, Wn z := fun z hz => (nok.place hp hps hz).2
    have eps : ps = s :: (innOf s t zs ++ [t]) := places_one hps (inner_places hp sp)
    obtain ⟨dx, d, pp, b, kvs, h1, _⟩ := id hN6
    refine ⟨_, rfl, n, dx, _, rfl, h1, n, s, t, ts, ps, rfl, hN6, fun q1 H7 nq1 s7 hq1 => ?_⟩
    refine ⟨_, rfl, L, _, rfl, .inl ⟨SqL.of (s7 _ _ hL6), fun q2 nq2 => ?_⟩⟩
    have s8 := s7.trans (same_upd (o := .tup ((names ts).map V.str)) nq2)
    have hq2 : (upd H7 q2 (.tup ((names ts).map V.str))) q2 = some (.tup ((names ts).map V.str)) := upd_same
    have hq1 := same_upd (o := .tup ((names ts).map V.str)) nq2 _ _ hq1
    generalize upd H7 q2 (.tup ((names ts).map V.str)) = H8 at s8 hq1 hq2 ⊢
    obtain ⟨tk1, tk2⟩ := tup_ok wnm
    refine ⟨_, _, dp_tup hq1, dp_tup hq2, tk1, tk1, _, rfl, ?_⟩
    rw [tk2]
    refine iteF ?_
    refine ⟨_, rfl, n, dx, _, rfl, s8 _ _ h1, n, s, t, ts, ps, rfl, hN6.same s8, fun q3 hq3 => ?_⟩
    have s8' := s56.trans s8
    refine ⟨_, rfl, by show 1 ≤ sizeLine; decide, fun p4 np4 => ?_⟩
    have s9 := s8.trans (same_upd (o := .lst [V.str s]) np4)
    have hq3 := same_upd (o := .lst [V.str s]) np4 _ _ hq3
    have hp4 : (upd H8 p4 (.lst [V.str s])) p4 = some (.lst [V.str s]) := upd_same
    generalize upd H8 p4 (.lst [V.str s]) = H9 at s9 hq3 hp4 ⊢
    have inl : (innOf s t zs).length ≤ 20 := Nat.le_trans (inn_len s t zs) (by omega)
    refine ⟨_, rfl, p4, D6, _, _, rfl, rfl, hp4, s9 _ _ hD6', Nat.le_of_lt (small1000 (by rw [List.length_map]; show 1 + _ ≤ 1000; omega)), fun p5 np5 => ?_⟩
    have s10 := s9.trans (same_upd (o := .lst ([V.str s] ++ (innOf s t zs).map V.str)) np5)
    have hq3 := same_upd (o := .lst ([V.str s] ++ (innOf s t zs).map V.str)) np5 _ _ hq3
    have hp5 : (upd H9 p5 (.lst ([V.str s] ++ (innOf s t zs).map V.str))) p5 = some (.lst ([V.str s] ++ (innOf s t zs).map V.str)) := upd_same
    generalize upd H9 p5 (.lst ([V.str s] ++ (innOf s t zs).map V.str)) = H10 at s10 hq3 hp5 ⊢
    refine ⟨_, rfl, by show 1 ≤ sizeLine; decide, fun p6 np6 => ?_⟩
    have s11 := s10.trans (same_upd (o := .lst [V.str t]) np6)
    have hq3 := same_upd (o := .lst [V.str t]) np6 _ _ hq3
    have hp5 := same_upd (o := .lst [V.str t]) np6 _ _ hp5
    have hp6 : (upd H10 p6 (.lst [V.str t])) p6 = some (.lst [V.str t]) := upd_same
    generalize upd H10 p6 (.lst [V.str t]) = H11 at s11 hq3 hp5 hp6 ⊢
    refine ⟨p5, p6, _, _, rfl, rfl, hp5, hp6, Nat.le_of_lt (small1000 (by rw [List.length_append, List.length_map]; show 1 + _ + 1 ≤ 1000; omega)), fun p7 np7 => ?_⟩
    have evs : [V.str s] ++ (innOf s t zs).map V.str ++ [V.str t] = ps.map V.str := by rw [eps, List.map_cons, List.map_append]; rfl
    rw [evs]
    have s12 := s11.trans (same_upd (o := .lst (ps.map V.str)) np7)
    have hq3 := same_upd (o := .lst (ps.map V.str)) np7 _ _ hq3
    have hp7 : (upd H11 p7 (.lst (ps.map V.str))) p7 = some (.lst (ps.map V.str)) := upd_same
    generalize upd H11 p7 (.lst (ps.map V.str)) = H12 at s12 hq3 hp7 ⊢
    refine ⟨p7, _, rfl, .inl ⟨SqL.of hp7, fun p8 np8 => ?_⟩⟩
    have s13 := s12.trans (same_upd (o := .tup (ps.map V.str)) np8)
    have hq3 := same_upd (o := .tup (ps.map V.str)) np8 _ _ hq3
    have hp8 : (upd H12 p8 (.tup (ps.map V.str))) p8 = some (.tup (ps.map V.str)) := upd_same
    generalize upd H12 p8 (.tup (ps.map V.str)) = H13 at s13 hq3 hp8 ⊢
    obtain ⟨pk1, pk2⟩ := tup_ok wps
    refine ⟨_, _, dp_tup hq3, dp_tup hp8, pk1, pk1, _, rfl, ?_⟩
    rw [pk2]
    refine iteF ?_
    have s613 := s13
    have hN13 := hN6.same s613
    have h113 := s613 _ _ h1
    clear hp8 hq3 np8 hp7 np7 hp6 hp5 np6 np5 hp4 np4 hq2 hq1 nq2 nq1 s12 s11 s10 s9 s8' s8 s7
    refine ⟨_, rfl, n, dx, _, rfl, h113, n, s, t, ts, ps, rfl, hN13, ?_⟩
    refine ⟨_, rfl, n, dx, _, rfl, h113, n, s, t, ts, ps, rfl, hN13, ?_⟩
    refine ⟨by show 2 ≤ sizeLine; decide, fun u1 nu1 => ?_⟩
    have s14 := same_upd (o := .tup ([s, t].map V.str)) nu1
    have hu1 : (upd H13 u1 (.tup ([s, t].map V.str))) u1 = some (.tup ([s, t].map V.str)) := upd_same
    generalize hg : upd H13 u1 _ = H14
    have s14 : Same H13 H14 := by rw [← hg]; exact s14
    have hu1 : H14 u1 = some (.tup ([s, t].map V.str)) := by rw [← hg]; exact hu1
    clear hg
    refine ⟨_, rfl, _, rfl, by show 2 ≤ sizeLine; decide, fun u2 nu2 => ?_⟩
    have s15 := s14.trans (same_upd (o := .tup ([s, t].map V.str)) nu2)
    have hu1 := same_upd (o := .tup ([s, t].map V.str)) nu2 _ _ hu1
    have hu2 : (upd H14 u2 (.tup ([s, t].map V.str))) u2 = some (.tup ([s, t].map V.str)) := upd_same
    generalize hg : upd H14 u2 _ = H15
    have s15 : Same H13 H15 := by rw [← hg]; exact s15
    have hu1 : H15 u1 = some (.tup ([s, t].map V.str)) := by rw [← hg]; exact hu1
    have hu2 : H15 u2 = some (.tup ([s, t].map V.str)) := by rw [← hg]; exact hu2
    clear hg
    obtain ⟨ek1, ek2⟩ := tup_ok (zs := [s, t]) (fun z hz => by
      rcases List.mem_cons.mp hz with e | e
      · rw [e]; exact nok.hs.2
      · rw [List.mem_singleton.mp e]; exact nok.ht.2)
    refine ⟨_, _, dp_tup hu1, dp_tup hu2, ek1, ek1, _, rfl, ?_⟩
    rw [ek2]
    refine iteF ?_
    have hN15 := hN13.same s15
    have h115 := s15 _ _ h113
    have ha15 := s15 _ _ (s613 _ _ ha6)
    have eln : ts.length = es.length := hp.length_eq
    refine ⟨_, rfl, n, dx, _, rfl, h115, n, s, t, ts, ps, rfl, hN15, _, rfl, by omega, by omega, ?_⟩
    refine ⟨_, rfl, a, _, rfl, .inl (SqL.of ha15), ?_⟩
    refine ⟨rfl, _, rfl, ?_⟩
    rw [show (!decide (V.int ((ts.length : Nat) : Int) = V.int (((qs.map V.ref).length : Nat) : Int))) = false by rw [hqe, eln]; simp]
    refine iteF ?_
    have s0 := s6.trans (s613.trans s15)
    have s615 := s613.trans s15
    have hL15 := s615 _ _ hL6
    have hM15 := s615 _ _ hM6
    have hra15 := hra.on s0
    obtain ⟨qs2, ha2, hpr2⟩ := id hra15
    obtain rfl : qs2 = qs := by
      rw [ha15] at ha2
      have := congrArg (fun o : Option HO => match o with | some (.lst l) => l | _ => []) ha2
      exact (List.map_inj_right (fun x y h => V.ref.inj h)).mp this.symm
    clear s14 s15 s613 s615 hu1 hu2 nu1 nu2 h113 hN13 h115 h1
    have ndt : (names ts).Nodup := (hp.map (fun e : Ent => e.1)).nodup_iff.mpr nok.nd
    refine ⟨fun σ H' => ∃ x5 x8 x9, σ = [some (.ref n), some (.ref a), some (.str s), some (.str t), some (.ref L), x5, some (.ref M), some (.ref D6), x8, x9] ∧ Same H15 H', ?_, ?_⟩
    · refine ⟨_, rfl, a, rfl, ⟨_, SqL.of ha15⟩, ?_⟩
      refine for_list (K := K) (a := a) (xs := qs2.map V.ref) (fun i σ H' => ∃ x5 x8 x9, σ = [some (.ref n), some (.ref a), some (.str s), some (.str t), some (.ref L), x5, some (.ref M), some (.ref D6), x8, x9] ∧ Same H15 H') ⟨_, _, _, rfl, Same.refl _⟩ (fun i σ H' _ ⟨_, _, _, _, h⟩ => SqL.of (h _ _ ha15)) ?_ (fun σ H' h => h)
      rintro i v σ H' hi ⟨x5, x8, x9, rfl, u1⟩
      obtain ⟨q, e, rfl, he, hq⟩ : ∃ q e, v = V.ref q ∧ es[i]? = some e ∧ RowT H15 q e := by
        rw [List.getElem?_map] at hi
        cases e : qs2[i]? with
        | none => rw [e] at hi; cases hi
        | some q =>
          rw [e] at hi
          obtain ⟨f, hf, hq⟩ := L2.paired_get hpr2 e
          exact ⟨q, f, (Option.some.inj hi).symm, hf, hq⟩
      have hem : e ∈ es := List.mem_of_getElem? he
      have hfe : found ts e.1 = some e.2 := found_mem ndt (hp.mem_iff.mpr hem)
      have hNi := hN15.same u1
      obtain ⟨dxi, di, _, _, _, hi1, _⟩ := id hNi
      refine ⟨_, rfl, _, rfl, q, _, 0, .str e.1, rfl, rfl, SqT.of (u1 _ _ hq), rfl, n, dxi, _, rfl, hi1, n, s, t, ts, ps, e.1, rfl, hNi, fun e' p he' hp' => ?_, fun no => ?_⟩
      · obtain rfl : e' = e.2 := Option.some.inj (he'.symm.trans hfe)
        refine ⟨_, rfl, q, _, 1, .str e.2.1, rfl, rfl, SqT.of (u1 _ _ hq), rfl, _, rfl, q, _, 2, .str e.2.2, rfl, rfl, SqT.of (u1 _ _ hq), rfl, by show 2 ≤ sizeLine; decide, fun u3 nu3 => ?_⟩
        have u2 := u1.trans (same_upd (o := .tup ([e.2.1, e.2.2].map V.str)) nu3)
        have hu3 : (upd H' u3 (.tup ([e.2.1, e.2.2].map V.str))) u3 = some (.tup ([e.2.1, e.2.2].map V.str)) := upd_same
        have hp' : (upd H' u3 (.tup ([e.2.1, e.2.2].map V.str))) p = some (.tup ([e.2.1, e.2.2].map V.str)) := same_upd (o := .tup ([e.2.1, e.2.2].map V.str)) nu3 _ _ hp'
        generalize hg : upd H' u3 _ = H17
        have u2 : Same H15 H17 := by rw [← hg]; exact u2
        have hu3 : H17 u3 = some (.tup ([e.2.1, e.2.2].map V.str)) := by rw [← hg]; exact hu3
        have hp' : H17 p = some (.tup ([e.2.1, e.2.2].map V.str)) := by rw [← hg]; exact hp'
        clear hg
        have we := (nok.ok e hem).2
        obtain ⟨ek1, ek2⟩ := tup_ok (zs := [e.2.1, e.2.2]) (fun z hz => by
          rcases List.mem_cons.mp hz with e | e
          · rw [e]; exact we.2.1
          · rw [List.mem_singleton.mp e]; exact we.2.2)
        refine ⟨_, _, dp_tup hp', dp_tup hu3, ek1, ek1, _, rfl, ?_⟩
        rw [ek2]
        refine iteF ?_
        have hN17 := hN15.same u2
        obtain ⟨dxj, _, _, _, _, hj1, _⟩ := id hN17
        refine ⟨_, rfl, q, _, 0, .str e.1, rfl, rfl, SqT.of (u2 _ _ hq), rfl, _, rfl, n, dxj, _, rfl, hj1, n, s, t, ts, ps, e.1, rfl, hN17, _, rfl, ?_⟩
        rw [hfe]
        refine ⟨_, _, rfl, rfl, _, rfl, iteF ?_⟩
        exact ⟨_, _, _, rfl, u2⟩
      · rw [hfe] at no; cases no
    · rintro σ H' ⟨x5, x8, x9, rfl, u1⟩
      refine ⟨fun σ H' => ∃ x5 x8 x9, σ = [some (.ref n), some (.ref a), some (.str s), some (.str t), some (.ref L), x5, some (.ref M), some (.ref D6), x8, x9] ∧ Same H15 H', ?_, ?_⟩
      · have hLu := u1 _ _ hL15
        obtain ⟨e0, he0⟩ : ∃ e, e ∈ ts := by
          have := nok.few
          cases ts with
          | nil => simp at eln; omega
          | cons e r => exact ⟨e, List.mem_cons_self⟩
        have hnt : (names ts).length = ts.length := by unfold names; rw [List.length_map]
        have tlen : 1 ≤ ts.length := List.length_pos_of_mem he0
        have aF : atI ((names ts).map V.str) 0 = some (V.str ((names ts).getD 0 "")) := atI_nat (j := 0) (by rw [List.getElem?_map, List.getElem?_eq_getElem (show 0 < (names ts).length by omega), getD_of (List.getElem?_eq_getElem (show 0 < (names ts).length by omega))]; rfl)
        have aE : atI ((names ts).map V.str) (-1) = some (V.str ((names ts).getD (ts.length - 1) "")) := atI_end (j := ts.length - 1) (by rw [List.getElem?_map, List.getElem?_eq_getElem (show ts.length - 1 < (names ts).length by omega), getD_of (List.getElem?_eq_getElem (show ts.length - 1 < (names ts).length by omega))]; rfl) (by rw [List.length_map]; omega)
        have wF : Wn ((names ts).getD 0 "") := wnm _ (by rw [getD_of (List.getElem?_eq_getElem (show 0 < (names ts).length by omega))]; exact List.getElem_mem _)
        have m1 : ("1" : Str).length = 1 := rfl
        refine ⟨_, rfl, _, rfl, L, _, _, _, rfl, rfl, SqL.of hLu, aF, _, _, rfl, rfl, by rw [m1]; exact Nat.le_trans (show _ ≤ 2000 by have := wF.1; omega) (by decide), ?_⟩
        refine ⟨_, rfl, _, rfl, L, _, _, _, rfl, rfl, SqL.of hLu, aE, ?_⟩
        have wE : Wn ((names ts).getD (ts.length - 1) "") := wnm _ (by rw [getD_of (List.getElem?_eq_getElem (show ts.length - 1 < (names ts).length by omega))]; exact List.getElem_mem _)
        refine ⟨_, rfl, _, rfl, _, rfl, Nat.le_trans wE.1 (by decide), by show 4 ≤ sizeLine; decide, fun W nW => ?_⟩
        have v2 := u1.trans (same_upd (o := .lst ([("zz9" : Str), ("" : Str), (names ts).getD 0 "" ++ "1", cutS ((names ts).getD (ts.length - 1) "") none (some (-1))].map V.str)) nW)
        have hW : (upd H' W (.lst ([("zz9" : Str), ("" : Str), (names ts).getD 0 "" ++ "1", cutS ((names ts).getD (ts.length - 1) "") none (some (-1))].map V.str))) W = some (.lst ([("zz9" : Str), ("" : Str), (names ts).getD 0 "" ++ "1", cutS ((names ts).getD (ts.length - 1) "") none (some (-1))].map V.str)) := upd_same
        generalize hws : [("zz9" : Str), ("" : Str), (names ts).getD 0 "" ++ "1", cutS ((names ts).getD (ts.length - 1) "") none (some (-1))] = ws at v2 hW
        have lws : ws.length = 4 := by rw [← hws]; rfl
        generalize hg : upd H' W _ = H18
        have eg : upd H' W (.lst (ws.map V.str)) = H18 := by rw [← hg, ← hws]; rfl
        rw [eg] at v2 hW
        clear hg eg
        refine ⟨M, W, zs.map V.str, ws.map V.str, rfl, rfl, v2 _ _ hM15, hW, Nat.le_of_lt (small1000 (by rw [List.length_map, List.length_map, lws]; omega)), fun L2 nL2 => ?_⟩
        rw [← List.map_append]
        have v3 := v2.trans (same_upd (o := .lst ((zs ++ ws).map V.str)) nL2)
        have hL2 : (upd H18 L2 (.lst ((zs ++ ws).map V.str))) L2 = some (.lst ((zs ++ ws).map V.str)) := upd_same
        generalize upd H18 L2 (.lst ((zs ++ ws).map V.str)) = H19 at v3 hL2 ⊢
        refine ⟨L2, rfl, ⟨_, SqL.of hL2⟩, ?_⟩
        refine for_list (K := K) (a := L2) (xs := (zs ++ ws).map V.str) (fun i σ H' => ∃ x5 x8 x9, σ = [some (.ref n), some (.ref a), some (.str s), some (.str t), some (.ref L), x5, some (.ref M), some (.ref D6), x8, x9] ∧ Same H15 H' ∧ H' L2 = some (.lst ((zs ++ ws).map V.str))) ⟨_, _, _, rfl, v3, hL2⟩ (fun i σ H' _ ⟨_, _, _, _, _, h⟩ => SqL.of h) ?_ (fun σ H' ⟨a1, a2, a3, a4, a5, _⟩ => ⟨a1, a2, a3, a4, a5⟩)
        rintro i v σ H'' hi ⟨y5, y8, y9, rfl, w1, hLi⟩
        obtain ⟨z, hz, rfl⟩ : ∃ z, (zs ++ ws)[i]? = some z ∧ v = V.str z := by
          rw [List.getElem?_map] at hi
          cases e : (zs ++ ws)[i]? with
          | none => rw [e] at hi; cases hi
          | some q => rw [e] at hi; exact ⟨q, rfl, (Option.some.inj hi).symm⟩
        refine ⟨_, rfl, _, rfl, L, _, rfl, .inl (SqL.of (w1 _ _ hL15)), rfl, flat_names (names ts), _, rfl, ?_⟩
        rw [if_pos rfl, inV_names]
        by_cases hzn : z ∈ names ts
        · rw [decide_eq_true hzn]
          exact iteF ⟨_, _, _, rfl, w1, hLi⟩
        · rw [decide_eq_false hzn]
          refine iteT ⟨_, rfl, _, rfl, n, s, t, ts, ps, z, rfl, hN15.same w1, hzn, fun H3 w2 => ?_⟩
          exact ⟨_, rfl, iteF ⟨_, _, _, rfl, w1.trans w2, w2 _ _ hLi⟩⟩
      · rintro σ H' ⟨x5, x8, x9, rfl, u1⟩
        refine ⟨T.f_Network, _, _, _, rfl, T.cr_Network, T.cv_Network_MOST_LINKS, T.f_Network, _, _, _, rfl, T.cr_Network, T.cv_Network_MOST_PLACES, by show 2 ≤ sizeLine; decide, fun y1 ny1 => ?_⟩
        have e1 := same_upd (o := .tup [V.int 10, V.int 8]) ny1
        have hy1 : (upd H' y1 (.tup [V.int 10, V.int 8])) y1 = some (.tup [V.int 10, V.int 8]) := upd_same
        generalize upd H' y1 (.tup [V.int 10, V.int 8]) = H20 at e1 hy1 ⊢
        refine ⟨by show 2 ≤ sizeLine; decide, fun y2 ny2 => ?_⟩
        have e2 := same_upd (o := .tup [V.int 10, V.int 8]) ny2
        refine ⟨.tuple [.int 10, .int 8], .tuple [.int 10, .int 8], .tup (SqT.of (e2 _ _ hy1)) (.cons (.int _) (.cons (.int _) .nil)), .tup (SqT.of upd_same) (.cons (.int _) (.cons (.int _) .nil)), by decide +kernel, by decide +kernel, ?_⟩
        rw [show PyData.eqv (.tuple [.int 10, .int 8]) (.tuple [.int 10, .int 8]) = true from by decide +kernel]
        exact k _ ((s0.trans u1).trans (e1.trans e2))
end

/-! ### two inner places exchanged -/
theorem swap_get (x y z : Str) : (valV (mergeK [] [((.inr x : Key), V.str y), (.inr y, .str x)]) (.inr z : Key)).getD (V.str z) = V.str (swp y x z) := by
  show (valV (putK (putK [] (.inr x : Key) (V.str y)) (.inr y) (V.str x)) (.inr z)).getD _ = _
  rw [valV_put, valV_put, valV_nil]
  unfold swp
  by_cases h1 : z = y
  · rw [if_pos (congrArg Sum.inr h1), if_pos h1]
    rfl
  · rw [if_neg (fun q => h1 (Sum.inr.inj q)), if_neg h1]
    by_cases h2 : z = x
    · rw [if_pos (congrArg Sum.inr h2), if_pos h2]
      rfl
    · rw [if_neg (fun q => h2 (Sum.inr.inj q)), if_neg h2]
      rfl
theorem paired_rev {α β : Type} {F : α → β → Prop} : ∀ {xs : List α} {ys : List β}, Paired F xs ys → Paired F xs.reverse ys.reverse
  | _, _, .nil => .nil
  | _, _, .cons a r => by
    rw [List.reverse_cons, List.reverse_cons]
    exact paired_snoc a (paired_rev r)
section
variable {P : Program} {w : World} {K : PySem.W.Frag} {mg : Str → Option Value} {base : Heap}
def spExch : Sp := fun vs H Q _ => ∃ (G : Hp) (st a : Addr) (m mo : Nat) (es : List Ent) (s t : Str), vs = [.ref st, .ref a, .str s, .str t] ∧ DSt G H st m ∧ m < 900000 ∧ RowsL G a es ∧ es.length ≤ 10 ∧ NetOk es s t mo ∧
  ∀ (l : Addr) (fs : List Ent) (G' H' : Hp), Same G G' → DSt G' H' st (m + 1) → RowsL G' l fs → NetOk fs s t mo → fs.length = es.length → Q (.ref l) H'
theorem ok_exch (T : Txt K mg) : FnOk P w K mg base CX0 2 T.f_exchanged T.d_exchanged ["_law_state", "_law_rows", "_law_first", "_law_last"] spExch := by
  have G_draw : FnOk P w K mg base CX0 1 T.f_draw T.d_draw ["_law_state", "_law_size"] spDraw := ok_draw T
  have G_spots : FnOk P w K mg base CX0 1 T.f_spots T.d_spots ["_law_rows"] spSpots := ok_spots T
  refine T.F_exchanged.ok sc_exchanged (fun vs H Q E h => ?_) (fun cdv A outer s0 H vs Q E hr h => ?_)
  · obtain ⟨G, st, a, m, mo, es, s, t, rfl, _⟩ := h
    rfl
  · obtain ⟨G, st, a, m, mo, es, s, t, rfl, d0, hm, hra, hfew, nok, k⟩ := h
    refine ⟨_, (pss_cons (ps_setLc (i := 4) (own := [("_law_place", 9)]) (g := gName 9) rfl sc_exchanged.nd rfl rfl (sw_true rfl rfl rfl (by decide +kernel)) (pi_list (pe_call G_spots (hr.mono (by decide)) rfl T.m_spots T.F_spots.kp T.b_spots .nil pass0 (pa_cons (pv 1) pa_nil))) (blkOk_by (N := ["_law_state", "_law_rows", "_law_first", "_law_last", "_law_inner", "_law_k", "_law_a", "_law_b", "_law_table", "_law_place", "_law_row"]) (sc := defScope s_exchanged) (by decide +kernel)) (fun _ _ _ _ _ => pg_name (i := 9) sc_exchanged.nd rfl (Or.inl rfl)) (fun _ _ _ _ _ => pts_one (PW.pt (pw_and (pt_cmpR op_ne (pv 9) (pv 2) (nomark _)) (pw_and1 (pt_cmpR op_ne (pv 9) (pv 3) (nomark _)))))) (fun _ _ _ _ _ => (pv 9)))
    (pss_cons (ps_if (pt_cmpR op_lt (pe_callB call_len_seq (by rfl) T.n_len (by decide +kernel) (pa_cons (pv 4) pa_nil)) pe_int (nomark _))
      (pss_one (ps_ret (pe_revL (pv 1))))
      pss_nil)
    (pss_cons (ps_set (i := 5) sc_exchanged.nd rfl (Or.inl rfl) (pe_call G_draw (hr.mono (by decide)) rfl T.m_draw T.F_draw.kp T.b_draw .nil pass0 (pa_cons (pv 0) (pa_cons (pe_callB call_len_seq (by rfl) T.n_len (by decide +kernel) (pa_cons (pv 4) pa_nil)) pa_nil))))
    (pss_cons (ps_par (i := 6) (j := 7) (by rfl) sc_exchanged.nd rfl rfl (by decide) rfl rfl (pa_cons (pe_ix ix_list (pv 4) (pv 5) (fun _ _ => rfl)) (pa_cons (pe_ix ix_list (pv 4) (pe_op op_sub (pv 5) pe_int) (fun _ _ => rfl)) pa_nil)) (by rfl))
    (pss_cons (ps_set (i := 8) sc_exchanged.nd rfl (Or.inr rfl) (pe_disp (pps_cons (pv 6) (pv 7) (pps_cons (pv 7) (pv 6) pps_nil)) rfl rfl (by simp) (by decide)))
    (pss_one (ps_ret (pe_lc (own := [("_law_row", 10)]) (g := gName 10) (tt := tYes) rfl sc_exchanged.nd (pi_list (pv 1)) (blkOk_by (N := ["_law_state", "_law_rows", "_law_first", "_law_last", "_law_inner", "_law_k", "_law_a", "_law_b", "_law_table", "_law_place", "_law_row"]) (sc := defScope s_exchanged) (by decide +kernel)) (fun _ _ _ _ _ => pg_name (i := 10) sc_exchanged.nd rfl (Or.inl rfl)) (fun _ _ _ _ _ => pts_nil) (fun _ _ _ _ _ => (pe_tup (pa_cons (pe_ix (show IxR _ (rIxT K) from ix_tup) (pv 10) pe_int (fun _ _ => rfl)) (pa_cons (pe_dget2 (hu_of hr) (pv 8) (pe_ix (show IxR _ (rIxT K) from ix_tup) (pv 10) pe_int (fun _ _ => rfl)) (pe_ix (show IxR _ (rIxT K) from ix_tup) (pv 10) pe_int (fun _ _ => rfl)) ⟨rfl, rfl, rfl, rfl⟩) (pa_cons (pe_dget2 (hu_of hr) (pv 8) (pe_ix (show IxR _ (rIxT K) from ix_tup) (pv 10) pe_int (fun _ _ => rfl)) (pe_ix (show IxR _ (rIxT K) from ix_tup) (pv 10) pe_int (fun _ _ => rfl)) ⟨rfl, rfl, rfl, rfl⟩) pa_nil))))))))))))), ?_⟩
    refine ⟨_, rfl, a, es, rfl, hra.on d0.same, by omega, fun M zs H1 nM s1 hM sp => ?_⟩
    have spf := sp.few
    refine ⟨M, rfl, ⟨_, SqL.of hM⟩, fun D hD => ?_⟩
    refine lc_list (K := K) (a := M) (xs := zs.map V.str) (fun i H' => Same H1 H' ∧ H' D = some (.lst ((innOf s t (zs.take i)).map V.str))) ⟨same_upd hD, upd_same⟩ (fun i H' _ h => SqL.of (h.1 _ _ hM)) ?_ ?_
    · intro i x H' hi ⟨s6, hDr⟩
      obtain ⟨z, hz, rfl⟩ : ∃ z, zs[i]? = some z ∧ x = V.str z := by
        rw [List.getElem?_map] at hi
        cases e : zs[i]? with
        | none => rw [e] at hi; cases hi
        | some q => rw [e] at hi; exact ⟨q, rfl, (Option.some.inj hi).symm⟩
      have sml : (innOf s t (zs.take i)).length ≤ 100 := by
        have a := inn_len s t (zs.take i)
        rw [List.length_take] at a
        omega
      have no : z ∈ [s, t] → innOf s t (zs.take (i + 1)) = innOf s t (zs.take i) := fun h => by rw [take_more hz, inn_no _ h]
      refine ⟨rfl, _, rfl, _, rfl, rfl, _, rfl, ?_⟩
      by_cases e1 : z = s
      · rw [show (!decide (V.str z = V.str s)) = false by simp [e1]]
        refine iteF ?_
        rw [no (e1 ▸ List.mem_cons_self)]
        exact ⟨s6, hDr⟩
      · rw [show (!decide (V.str z = V.str s)) = true by simp [e1]]
        refine iteT ⟨_, rfl, _, rfl, rfl, _, rfl, ?_⟩
        by_cases e2 : z = t
        · rw [show (!decide (V.str z = V.str t)) = false by simp [e2]]
          refine iteF ?_
          rw [no (e2 ▸ List.mem_cons_of_mem _ List.mem_cons_self)]
          exact ⟨s6, hDr⟩
        · rw [show (!decide (V.str z = V.str t)) = true by simp [e2]]
          refine iteT ⟨_, rfl, _, hDr, small1000 (by rw [List.length_map]; omega), same_mut s6 hD, ?_⟩
          rw [upd_same, take_more hz, inn_yes _ e1 e2, List.map_append]
          rfl
    intro H2 ⟨s2, hD2⟩
    rw [List.length_map, List.take_length] at hD2
    have s02 := s1.trans s2
    have nD : H D = none := s1.free hD
    obtain ⟨G2, sG2, d2, al2, _⟩ := d0.all s02
    have hDG : G2 D = some (.lst ((innOf s t zs).map V.str)) := al2 _ _ nD hD2
    have hr2 := hra.on sG2
    obtain ⟨qs, ha, hpr⟩ := id hr2
    have hqe : (qs.map V.ref).length = es.length := by rw [List.length_map, hpr.length]
    have inl : (innOf s t zs).length ≤ 20 := Nat.le_trans (inn_len s t zs) (by omega)
    generalize hin : innOf s t zs = ins at hDG hD2 inl
    have hil : (ins.map V.str).length = ins.length := List.length_map _
    have hinn : ∀ q ∈ ins, q ∈ endsOf es ∧ q ≠ s ∧ q ≠ t := fun q hq => by
      rw [← hin] at hq
      obtain ⟨h1, h2, h3⟩ := mem_inn.mp hq
      exact ⟨(sp.mem q).mp h1, h2, h3⟩
    refine ⟨_, rfl, D, _, rfl, .inl (SqL.of hD2), _, _, rfl, rfl, _, rfl, ite2 (fun h2 => ?_) fun h2 => ?_⟩
    · refine ⟨_, rfl, a, _, rfl, SqL.of (d2.same _ _ ha), fun p np => ?_⟩
      rw [← List.map_reverse]
      exact k p es.reverse _ _ (sG2.trans (same_upd (d2.free np))) ((d2.new np).mono (by omega)) ⟨qs.reverse, upd_same, paired_rev (paired_on (fun _ _ e => same_upd (d2.free np) _ _ e) hpr)⟩ (nok.perm (List.reverse_perm es)) List.length_reverse
    have i2 : 2 ≤ ins.length := by
      rw [hil] at h2
      have := of_decide_eq_false (Bool.eq_false_iff.mpr h2)
      omega
    have pick : ∀ {u : Int}, -1 ≤ u → u < ((ins.map V.str).length : Int) → ∃ x, x ∈ ins ∧ atI (ins.map V.str) u = some (V.str x) := fun {u} u0 u1 => by
      rw [hil] at u1
      by_cases hu : u = -1
      · subst hu
        exact ⟨ins[ins.length - 1], List.getElem_mem (by omega), atI_end (j := ins.length - 1) (by rw [List.getElem?_map, List.getElem?_eq_getElem (show ins.length - 1 < ins.length by omega)]; rfl) (by rw [hil]; omega)⟩
      · obtain ⟨un, rfl⟩ : ∃ un : Nat, u = (un : Int) := ⟨u.toNat, by omega⟩
        have hun : un < ins.length := by omega
        exact ⟨ins[un], List.getElem_mem hun, atI_nat (by rw [List.getElem?_map, List.getElem?_eq_getElem hun]; rfl)⟩
    refine ⟨_, rfl, _, rfl, D, _, rfl, .inl (SqL.of (d2.same _ _ hDG)), G2, st, m, _, rfl, d2, by omega, by rw [hil]; omega, Int.lt_of_le_of_lt (b := 100) (by rw [hil]; omega) (by decide), fun kp H3 k0 k1 d3 => ?_⟩
    obtain ⟨x, hx, ex⟩ := pick (u := kp) (by omega) k1
    obtain ⟨y, hy, ey⟩ := pick (u := kp - 1) (by omega) (by omega)
    have hD3 := d3.same _ _ hDG
    refine ⟨_, rfl, _, rfl, D, _, _, _, rfl, rfl, SqL.of hD3, ex, ?_⟩
    refine ⟨_, rfl, _, rfl, _, 1, rfl, rfl, D, _, _, _, rfl, rfl, SqL.of hD3, ey, _, _, rfl, fun dd ndd => ?_⟩
    have hr3 := hr2.on d3.same
    refine ⟨_, rfl, _, rfl, _, rfl, _, rfl, upd_same, [(.inr x, .str y), (.inr y, .str x)], rfl, (by show 2 ≤ 15; decide), ?_⟩
    have s4 : Same H3 (upd (upd H3 dd (.dK [])) dd (.dK (mergeK [] [(.inr x, .str y), (.inr y, .str x)]))) := same_mut (same_upd ndd) ndd
    have hT : (upd (upd H3 dd (.dK [])) dd (.dK (mergeK [] [(.inr x, .str y), (.inr y, .str x)]))) dd = some (.dK (mergeK [] [(.inr x, .str y), (.inr y, .str x)])) := upd_same
    generalize upd (upd H3 dd (.dK [])) dd (.dK (mergeK [] [(.inr x, .str y), (.inr y, .str x)])) = H4 at s4 hT ⊢
    obtain ⟨qs2, ha3, hpr3⟩ := hr3.on s4
    have hqe2 : (qs2.map V.ref).length = es.length := by rw [List.length_map, hpr3.length]
    refine ⟨_, rfl, a, rfl, ⟨_, SqL.of ha3⟩, fun D2 hD2' => ?_⟩
    refine lc_list (K := K) (a := a) (xs := qs2.map V.ref) (fun i H' => Same H4 H' ∧ ∃ rs : List Addr, H' D2 = some (.lst (rs.map V.ref)) ∧ Paired (RowT H') rs ((es.take i).map (swapE y x))) ⟨same_upd hD2', [], upd_same, .nil⟩ (fun i H' _ h => SqL.of (h.1 _ _ ha3)) ?_ ?_
    · rintro i v H' hi ⟨s6, rs, hDr, hpp⟩
      obtain ⟨q, e, rfl, he, hq⟩ : ∃ q e, v = V.ref q ∧ es[i]? = some e ∧ RowT H4 q e := by
        rw [List.getElem?_map] at hi
        cases e : qs2[i]? with
        | none => rw [e] at hi; cases hi
        | some q =>
          rw [e] at hi
          obtain ⟨f, hf, hq⟩ := L2.paired_get hpr3 e
          exact ⟨q, f, (Option.some.inj hi).symm, hf, hq⟩
      have hq6 := s6 _ _ hq
      have hT6 := s6 _ _ hT
      refine ⟨rfl, _, rfl, q, _, 0, .str e.1, rfl, rfl, SqT.of hq6, rfl, _, rfl, dd, rfl, .inl ⟨_, .inl hT6⟩, _, rfl, q, _, 1, .str e.2.1, rfl, rfl, SqT.of hq6, rfl, _, rfl, q, _, 1, .str e.2.1, rfl, rfl, SqT.of hq6, rfl, _, DGet.k (k := .inr e.2.1) hT6, ?_⟩
      rw [swap_get]
      refine ⟨_, rfl, dd, rfl, .inl ⟨_, .inl hT6⟩, _, rfl, q, _, 2, .str e.2.2, rfl, rfl, SqT.of hq6, rfl, _, rfl, q, _, 2, .str e.2.2, rfl, rfl, SqT.of hq6, rfl, _, DGet.k (k := .inr e.2.2) hT6, ?_⟩
      rw [swap_get]
      refine ⟨by show 3 ≤ sizeLine; decide, fun U nU => ?_⟩
      have nUD : U ≠ D2 := fun z => by rw [z, hDr] at nU; cases nU
      have hD5 : (upd H' U (.tup [.str e.1, .str (swp y x e.2.1), .str (swp y x e.2.2)])) D2 = some (.lst (rs.map V.ref)) := same_upd nU _ _ hDr
      have up : ∀ c o, (upd H' U (.tup [.str e.1, .str (swp y x e.2.1), .str (swp y x e.2.2)])) c = some (.tup o) → (upd (upd H' U (.tup [.str e.1, .str (swp y x e.2.1), .str (swp y x e.2.2)])) D2 (.lst (rs.map V.ref ++ [V.ref U]))) c = some (.tup o) := fun c o hc => by
        rw [upd_ne (fun z => by rw [z, hD5] at hc; cases hc)]
        exact hc
      refine ⟨_, hD5, small1000 (by rw [List.length_map, hpp.length, List.length_map, List.length_take]; omega), same_mut (s6.trans (same_upd nU)) hD2', rs ++ [U], by rw [upd_same, List.map_append]; rfl, ?_⟩
      rw [take_more he, List.map_append]
      exact paired_snoc (show RowT _ U (swapE y x e) from up _ _ upd_same) (paired_on (fun _ _ z => up _ _ (same_upd nU _ _ z)) hpp)
    · rintro H5 ⟨s45, rs, hDr, hpp⟩
      rw [hqe2, List.take_length] at hpp
      obtain ⟨G5, sG5, d5, al5, al6⟩ := d3.all (s4.trans s45)
      have nDD : H3 D2 = none := s4.free hD2'
      obtain ⟨x1, x2, x3⟩ := hinn x hx
      obtain ⟨y1, y2, y3⟩ := hinn y hy
      exact k D2 (es.map (swapE y x)) G5 _ (sG2.trans sG5) d5 ⟨rs, al5 _ _ nDD hDr, paired_on (fun _ _ z => al6 _ _ (fun _ q => by cases q) z) hpp⟩ (nok.swap y1 x1 (Ne.symm y2) (Ne.symm y3) (Ne.symm x2) (Ne.symm x3)) (List.length_map _)
end

/-! ### the law -/
section
variable {P : Program} {w : World} {K : PySem.W.Frag} {mg : Str → Option Value} {base : Heap}
/-- twelve names -/
def fWords : List Str := ["f0", "f1", "f2", "f3", "f4", "f5", "f6", "f7", "f8", "f9", "f10", "f11"]
theorem fW_at : ∀ i : Nat, i < 12 → fWords[i]? = some (("f" : Str) ++ Str.ofString (toString ((0 : Int) + (i : Int)))) := by decide +kernel
theorem fW_len : ∀ z ∈ fWords, z.length ≤ 3 := by decide +kernel
theorem fW_ok : ∀ z ∈ fWords, vn z = true ∧ z.length ≤ 1000 ∧ ∀ c ∈ z.cps.toList, c < 128 := by decide +kernel
theorem fW_nd : fWords.Nodup := by decide +kernel
theorem fW_new {es : List Ent} (h : es.length ≤ 10) : ∃ z r, fWords.filter (fun z => decide (z ∉ names es)) = z :: r ∧ z ∈ fWords ∧ z ∉ names es := by
  cases e : fWords.filter (fun z => decide (z ∉ names es)) with
  | nil =>
    exfalso
    have b := nd_len (m := names es) fW_nd fun z hz => Decidable.byContradiction fun hn => by
      have : z ∈ fWords.filter (fun z => decide (z ∉ names es)) := List.mem_filter.mpr ⟨hz, decide_eq_true hn⟩
      rw [e] at this
      cases this
    unfold names at b
    rw [List.length_map] at b
    have : fWords.length = 12 := rfl
    omega
  | cons z r =>
    have : z ∈ fWords.filter (fun z => decide (z ∉ names es)) := by rw [e]; exact List.mem_cons_self
    obtain ⟨h1, h2⟩ := List.mem_filter.mp this
    exact ⟨z, r, rfl, h1, of_decide_eq_true h2⟩
/-- a network made while the script's state stands by -/
theorem net_step {C : Addr} {D : Errs} {G H : Hp} {st : Addr} {m : Nat} {Q : VK} {E : XK} {n dx a : Addr} {es : List Ent} {s t : Str} (d : DSt G H st m) (hr : RowsL G a es) (nok : NetOk es s t 8) (h10 : es.length ≤ 10) (nb : H n = none) (ndx : H dx = none) (ne : dx ≠ n)
    (k : ∀ ts ps G' H', ts.Perm es → PyProof.Rows.sortedS (names ts) = true → Places ts s t ps → Same G G' → DSt G' H' st m → NetAt C G' n s t ts ps → (∀ q xs ys, H q = some (.lst xs) → NetAt C (upd G' q (.lst ys)) n s t ts ps) → Q .non H') : spNet K C D [.ref n, .ref a, .str s, .str t] (upd (upd H dx (.own n)) n (.ins C dx [])) Q E := by
  have sm : Same H (upd (upd H dx (.own n)) n (.ins C dx [])) := (same_upd ndx).trans (same_upd (by rw [upd_ne (Ne.symm ne)]; exact nb))
  refine net_fine upd_same ((hr.on d.same).on sm).rows nok h10 fun ts ps H4 hp hs hps kp _ hV => ?_
  have s34 : Same H H4 := fun c o hc => kp c o (fun z => by rw [z, nb] at hc; cases hc) (sm _ _ hc)
  obtain ⟨G4, sG, d4, al, al2⟩ := d.all s34
  have old : ∀ {c : Addr}, (upd (upd H dx (.own n)) n (.ins C dx [])) c = none → H c = none := fun {c} hc => by
    cases e : H c with
    | none => rfl
    | some o => rw [sm _ _ e] at hc; cases hc
  refine k ts ps G4 H4 hp hs hps sG d4 (hV G4 al2 fun c o hc h => al c o (old hc) h) fun q xs ys hq => hV _ (fun c o ho h => ?_) fun c o hc h => ?_
  · rw [upd_ne (fun z => by rw [z, s34 _ _ hq] at h; exact ho _ (Option.some.inj h).symm)]
    exact al2 _ _ ho h
  · rw [upd_ne (fun z => by rw [z] at hc; rw [old hc] at hq; cases hq)]
    exact al _ _ (old hc) h
/-- rows, sorted -/
theorem sort_rows {K : PySem.W.Frag} {H : Hp} {l : Addr} {es ts : List Ent} (h : RowsL H l es) (nd : (names es).Nodup) (hp : ts.Perm es) (hs : PyProof.Rows.sortedS (names ts) = true) : ∃ bs : List RowB, SqL K H l (bs.map fun b => V.ref b.1) ∧ (∀ b ∈ bs, SqT K H b.1 [.str b.2.1, .str b.2.2.1, .str b.2.2.2]) ∧
    ∀ p, H p = none → RowsL (upd H p (.lst ((bs.mergeSort rowLe).map fun b => V.ref b.1))) p ts := by
  obtain ⟨qs, hl, hpr⟩ := h
  obtain ⟨z1, z2, z3⟩ := paired_zip hpr
  generalize qs.zip es = bs at z1 z2 z3
  have eref : (bs.map fun b => V.ref b.1) = qs.map V.ref := by rw [← z1, List.map_map]; rfl
  have ets : ((bs.mergeSort rowLe).map (·.2)).Perm es := by
    have := (List.mergeSort_perm bs rowLe).map (fun b : RowB => b.2)
    rw [show bs.map (fun b : RowB => b.2) = es from z2] at this
    exact this
  have eone : (bs.mergeSort rowLe).map (fun b : RowB => b.2) = ts := ts_one nd ets hp (rows_sorted bs) hs
  refine ⟨bs, by rw [eref]; exact SqL.of hl, fun b hb => SqT.of (z3 b hb), fun p np => ⟨(bs.mergeSort rowLe).map (·.1), by rw [upd_same, List.map_map]; rfl, ?_⟩⟩
  rw [← eone]
  have key : ∀ cs : List RowB, (∀ b ∈ cs, RowT H b.1 b.2) → Paired (RowT (upd H p (.lst ((bs.mergeSort rowLe).map fun b => V.ref b.1)))) (cs.map (·.1)) (cs.map (·.2)) := fun cs => by
    induction cs with
    | nil => exact fun _ => .nil
    | cons b r ih => exact fun hb => .cons (same_upd np _ _ (hb b List.mem_cons_self)) (ih fun c hc => hb c (List.mem_cons_of_mem _ hc))
  exact key _ fun b hb => z3 b ((List.mergeSort_perm bs rowLe).mem_iff.mp hb)
/-- a network with the same ends whose links are others -/
def OthAt (C : Addr) (s t : Str) (ts : List Ent) (G : Hp) (o : Addr) : Prop := ∃ us ps, NetAt C G o s t us ps ∧ (∀ e ∈ us, WnE e) ∧ eqEnts ts us = false ∧ eqEnts us ts = false
theorem OthAt.same {C : Addr} {s t : Str} {ts : List Ent} {G G' : Hp} {o : Addr} (h : OthAt C s t ts G o) (sm : Same G G') : OthAt C s t ts G' o := let ⟨us, ps, a, b⟩ := h; ⟨us, ps, a.same sm, b⟩
theorem eq_ents_not {ts us : List Ent} {z : Str} (nt : (names ts).Nodup) (nu : (names us).Nodup) (st : PyProof.Rows.sortedS (names ts) = true) (su : PyProof.Rows.sortedS (names us) = true) (h1 : z ∉ names ts) (h2 : z ∈ names us) : eqEnts ts us = false ∧ eqEnts us ts = false := by
  have ne : ts ≠ us := fun e => h1 (e ▸ h2)
  rw [eq_ents_iff nt nu st su, eq_ents_iff nu nt su st]
  exact ⟨decide_eq_false ne, decide_eq_false (Ne.symm ne)⟩
def spLaw (K : PySem.W.Frag) : Sp := fun vs H Q _ => ∃ (a : Addr) (ns : List Int), vs = [.ref a] ∧ SqL K H a (ns.map V.int) ∧ ns.length ≤ 63 ∧ ∀ H', Q (.bl true) H'
set_option maxHeartbeats 8000000 in
theorem ok_law {f : Addr} {fd : FuncData} (T : Txt K mg) (F : Fun K "law" "law" s_law f fd) : FnOk P w K mg base CX0 7 f fd ["_law_script"] (spLaw K) := by
  have G_start : FnOk P w K mg base CX0 1 T.f_start T.d_start ["_law_script"] (spStart K) := ok_start T
  have G_draw : FnOk P w K mg base CX0 1 T.f_draw T.d_draw ["_law_state", "_law_size"] spDraw := ok_draw T
  have G_net : FnOk P w K mg base CX0 3 T.f_net T.d_net ["_law_state", "_law_turns", "_law_cross", "_law_most"] spLNet := ok_lnet T
  have G_shuffled : FnOk P w K mg base CX0 2 T.f_shuffled T.d_shuffled ["_law_state", "_law_items"] spShuf := ok_shuf T
  have G_rewired := ok_rew (P := P) (w := w) (base := base) T
  have G_exchanged := ok_exch (P := P) (w := w) (base := base) T
  have G_parts := ok_parts (P := P) (w := w) (base := base) T
  have G_Network_init := calm_of (ok_net (P := P) (w := w) (base := base) T)
  have G_Network_str := ok_str (P := P) (w := w) (base := base) T
  have G_Network_eq := ok_neqX (P := P) (w := w) (base := base) T
  refine F.ok sc_law (fun vs H Q E h => ?_) (fun cdv A outer s H vs Q E hr h => ?_)
  · obtain ⟨a, ns, rfl, _⟩ := h
    rfl
  · obtain ⟨a, ns, rfl, hS, hlen, k⟩ := h
    refine ⟨_, (pss_cons (ps_set (i := 1) sc_law.nd rfl (Or.inl rfl) (pe_call G_start (hr.mono (by decide)) rfl T.m_start T.F_start.kp T.b_start .nil pass0 (pa_cons (pv 0) pa_nil)))
    (pss_cons (ps_asg (pe_call G_net (hr.mono (by decide)) rfl T.m_net T.F_net.kp T.b_net .nil pass0 (pa_cons (pv 1) (pa_cons (pe_call G_draw (hr.mono (by decide)) rfl T.m_draw T.F_draw.kp T.b_draw .nil pass0 (pa_cons (pv 1) (pa_cons pe_int pa_nil))) (pa_cons pe_int (pa_cons pe_int pa_nil))))) (pg_tup rfl (pgs_cons (pg_name (i := 2) sc_law.nd rfl (Or.inl rfl)) (pgs_cons (pg_name (i := 3) sc_law.nd rfl (Or.inl rfl)) (pgs_cons (pg_name (i := 4) sc_law.nd rfl (Or.inl rfl)) pgs_nil)))))
    (pss_cons (ps_set (i := 5) sc_law.nd rfl (Or.inl rfl) (pe_callTy call_list_of (by rfl) T.n_list (by decide +kernel) (pa_cons (pv 2) pa_nil)))
    (pss_cons (ps_set (i := 6) sc_law.nd rfl (Or.inl rfl) (pe_makeK0 T.mk_Network G_Network_init (hr.mono (by decide)) rfl T.m_Network T.kb_Network_init_links_end_start pass0 (pk_cons (pv 5) (pk_cons (pv 4) (pk_cons (pv 3) pk_nil)))))
    (pss_cons (ps_expr (pe_bm0 PySem.F.plainAttrs_list PySem.F.slot_list_clear PySem.F.type_list_clear mt_clear (pv 5)))
    (pss_cons (ps_if (pt_not (pt_val (pe_call G_parts (hr.mono (by decide)) rfl T.m_parts T.F_parts.kp T.b_parts .nil pass0 (pa_cons (pv 6) (pa_cons (pv 2) (pa_cons (pv 3) (pa_cons (pv 4) pa_nil)))))))
      (pss_one (ps_ret pe_bl))
      pss_nil)
    (pss_cons (ps_if (PW.pt (pw_or (pt_cmpR (ne_own T.none_Network G_Network_eq (hr.mono (by decide)) T.b_Network_eq pass0) (pv 6) (pe_make T.mk_Network G_Network_init (hr.mono (by decide)) rfl T.m_Network T.b_Network_init .nil pass0 (pa_cons (pe_call G_shuffled (hr.mono (by decide)) rfl T.m_shuffled T.F_shuffled.kp T.b_shuffled .nil pass0 (pa_cons (pv 1) (pa_cons (pv 2) pa_nil))) (pa_cons (pv 3) (pa_cons (pv 4) pa_nil)))) (nomark _)) (pw_or1 (pt_cmpR (cmp_ownS T.oth_Network T.sn_Network_str G_Network_eq (hr.mono (by decide)) T.b_Network_eq pass0) (pv 6) (pe_callTy (call_strO T.a_Network_str T.i_Network_str G_Network_str (hr.mono (by decide)) T.b_Network_str pass0) (by rfl) T.n_str (by decide +kernel) (pa_cons (pv 6) pa_nil)) (nomark _)))))
      (pss_one (ps_ret pe_bl))
      pss_nil)
    (pss_cons (ps_set (i := 7) sc_law.nd rfl (Or.inl rfl) (pe_call G_draw (hr.mono (by decide)) rfl T.m_draw T.F_draw.kp T.b_draw .nil pass0 (pa_cons (pv 1) (pa_cons (pe_callB call_len_seq (by rfl) T.n_len (by decide +kernel) (pa_cons (pv 2) pa_nil)) pa_nil))))
    (pss_cons (ps_set (i := 8) sc_law.nd rfl (Or.inr rfl) (pe_lc (own := [("_law_row", 14)]) (g := gName 14) (tt := tYes) rfl sc_law.nd (pi_list (pv 2)) (blkOk_by (N := ["_law_script", "_law_state", "_law_rows", "_law_first", "_law_last", "_law_passed", "_law_net_here", "_law_spot", "_law_labels", "_law_fresh", "_law_near", "_law_others", "_law_other", "_law_alike", "_law_row", "_law_word", "_law_k"]) (sc := defScope s_law) (by decide +kernel)) (fun _ _ _ _ _ => pg_name (i := 14) sc_law.nd rfl (Or.inl rfl)) (fun _ _ _ _ _ => pts_nil) (fun _ _ _ _ _ => (pe_ix (show IxR _ (rIxT K) from ix_tup) (pv 14) pe_int (fun _ _ => rfl)))))
    (pss_cons (ps_set (i := 9) sc_law.nd rfl (Or.inl rfl) (pe_ix ix_list (pe_lc (own := [("_law_word", 15)]) (g := gName 15) rfl sc_law.nd (pi_list (pe_lc (own := [("_law_k", 16)]) (g := gName 16) (tt := tYes) rfl sc_law.nd (pi_range1 rfl T.n_range (pa_cons pe_int pa_nil)) (blkOk_by (N := ["_law_script", "_law_state", "_law_rows", "_law_first", "_law_last", "_law_passed", "_law_net_here", "_law_spot", "_law_labels", "_law_fresh", "_law_near", "_law_others", "_law_other", "_law_alike", "_law_row", "_law_word", "_law_k"]) (sc := defScope s_law) (by decide +kernel)) (fun _ _ _ _ _ => pg_name (i := 16) sc_law.nd rfl (Or.inl rfl)) (fun _ _ _ _ _ => pts_nil) (fun _ _ _ _ _ => (pe_op op_add_str pe_str (pe_callTy call_str_int (by rfl) T.n_str (by decide +kernel) (pa_cons (pv 16) pa_nil)))))) (blkOk_by (N := ["_law_script", "_law_state", "_law_rows", "_law_first", "_law_last", "_law_passed", "_law_net_here", "_law_spot", "_law_labels", "_law_fresh", "_law_near", "_law_others", "_law_other", "_law_alike", "_law_row", "_law_word", "_law_k"]) (sc := defScope s_law) (by decide +kernel)) (fun _ _ _ _ _ => pg_name (i := 15) sc_law.nd rfl (Or.inl rfl)) (fun _ _ _ _ _ => pts_one (pt_cmpR (show OpR _ _ (rIn K true) from op_notIn_seq) (pv 15) (pv 8) (by with_unfolding_all rfl))) (fun _ _ _ _ _ => (pv 15))) pe_int (fun _ _ => rfl)))
    (pss_cons (ps_set (i := 10) sc_law.nd rfl (Or.inl rfl) (pe_op op_cat (pe_op op_cat (pe_slice sl_list (pv 2) po_none (po_some (pv 7))) (pe_lst (pa_cons (pe_tup (pa_cons (pv 9) (pa_cons (pe_ix ix_tup (pe_ix ix_list (pv 2) (pv 7) (fun _ _ => rfl)) pe_int (fun _ _ => rfl)) (pa_cons (pe_ix ix_tup (pe_ix ix_list (pv 2) (pv 7) (fun _ _ => rfl)) pe_int (fun _ _ => rfl)) pa_nil)))) pa_nil))) (pe_slice sl_list (pv 2) (po_some (pe_op op_add (pv 7) pe_int)) po_none)))
    (pss_cons (ps_set (i := 11) sc_law.nd rfl (Or.inl rfl) (pe_lst (pa_cons (pe_make T.mk_Network G_Network_init (hr.mono (by decide)) rfl T.m_Network T.b_Network_init .nil pass0 (pa_cons (pv 10) (pa_cons (pv 3) (pa_cons (pv 4) pa_nil)))) pa_nil)))
    (C8.pss_cut (ps_if (pt_cmpR op_lt (pe_callB call_len_seq (by rfl) T.n_len (by decide +kernel) (pa_cons (pv 2) pa_nil)) pe_int (nomark _))
      (pss_one (ps_expr (pe_bm PySem.F.plainAttrs_list PySem.F.slot_list_append PySem.F.type_list_append mt_append (pv 11) (pa_cons (pe_make T.mk_Network G_Network_init (hr.mono (by decide)) rfl T.m_Network T.b_Network_init .nil pass0 (pa_cons (pe_op op_cat (pv 2) (pe_lst (pa_cons (pe_tup (pa_cons (pv 9) (pa_cons (pe_ix ix_tup (pe_ix ix_list (pv 2) (pv 7) (fun _ _ => rfl)) pe_int (fun _ _ => rfl)) (pa_cons (pe_ix ix_tup (pe_ix ix_list (pv 2) (pv 7) (fun _ _ => rfl)) pe_int (fun _ _ => rfl)) pa_nil)))) pa_nil))) (pa_cons (pv 3) (pa_cons (pv 4) pa_nil)))) pa_nil))))
      pss_nil)
    (C8.pss_cut (ps_for PassesOwn.never rfl (pi_list (pv 11)) (pg_name (i := 12) sc_law.nd rfl (Or.inl rfl))
      (pss_one (ps_if (PW.pt (pw_or (pt_cmpR (cmp_own T.a_Network_eq T.i_Network_eq G_Network_eq (hr.mono (by decide)) T.b_Network_eq pass0) (pv 6) (pv 12) (nomark _)) (pw_or (pt_cmpR (cmp_own T.a_Network_eq T.i_Network_eq G_Network_eq (hr.mono (by decide)) T.b_Network_eq pass0) (pv 12) (pv 6) (nomark _)) (pw_or1 (pt_not (pt_cmpR (ne_own T.none_Network G_Network_eq (hr.mono (by decide)) T.b_Network_eq pass0) (pv 6) (pv 12) (nomark _)))))))
      (pss_one (ps_ret pe_bl))
      pss_nil)))
    (C8.pss_cut (ps_for PassesOwn.never rfl (pi_list (pe_lst (pa_cons (pe_call G_rewired (hr.mono (by decide)) rfl T.m_rewired T.F_rewired.kp T.b_rewired .nil pass0 (pa_cons (pv 1) (pa_cons (pv 2) (pa_cons (pv 3) (pa_cons (pv 4) pa_nil))))) (pa_cons (pe_call G_exchanged (hr.mono (by decide)) rfl T.m_exchanged T.F_exchanged.kp T.b_exchanged .nil pass0 (pa_cons (pv 1) (pa_cons (pv 2) (pa_cons (pv 3) (pa_cons (pv 4) pa_nil))))) pa_nil)))) (pg_name (i := 10) sc_law.nd rfl (Or.inl rfl))
      (pss_cons (ps_set (i := 12) sc_law.nd rfl (Or.inl rfl) (pe_make T.mk_Network G_Network_init (hr.mono (by decide)) rfl T.m_Network T.b_Network_init .nil pass0 (pa_cons (pv 10) (pa_cons (pv 3) (pa_cons (pv 4) pa_nil)))))
    (pss_cons (ps_set (i := 13) sc_law.nd rfl (Or.inl rfl) (pe_cmpR (op_eqD hr.units) (pe_callB (cr_sortRows hr.units) (by rfl) T.n_sorted (by decide +kernel) (pa_cons (pv 10) pa_nil)) (pe_callB (cr_sortRows hr.units) (by rfl) T.n_sorted (by decide +kernel) (pa_cons (pv 2) pa_nil)) (nomark _)))
    (pss_cons (ps_if (PW.pt (pw_or (pt_cmpR op_ne (pe_cmpR (cmp_own T.a_Network_eq T.i_Network_eq G_Network_eq (hr.mono (by decide)) T.b_Network_eq pass0) (pv 6) (pv 12) (nomark _)) (pv 13) (nomark _)) (pw_or (pt_cmpR op_ne (pe_cmpR (cmp_own T.a_Network_eq T.i_Network_eq G_Network_eq (hr.mono (by decide)) T.b_Network_eq pass0) (pv 12) (pv 6) (nomark _)) (pv 13) (nomark _)) (pw_or1 (pt_cmpR op_ne (pe_cmpR op_eq (pe_callTy (call_strO T.a_Network_str T.i_Network_str G_Network_str (hr.mono (by decide)) T.b_Network_str pass0) (by rfl) T.n_str (by decide +kernel) (pa_cons (pv 6) pa_nil)) (pe_callTy (call_strO T.a_Network_str T.i_Network_str G_Network_str (hr.mono (by decide)) T.b_Network_str pass0) (by rfl) T.n_str (by decide +kernel) (pa_cons (pv 12) pa_nil)) (nomark _)) (pv 13) (nomark _))))))
      (pss_one (ps_ret pe_bl))
      pss_nil)
    (pss_one (ps_if (pt_not (pt_val (pe_call G_parts (hr.mono (by decide)) rfl T.m_parts T.F_parts.kp T.b_parts .nil pass0 (pa_cons (pv 12) (pa_cons (pv 10) (pa_cons (pv 3) (pa_cons (pv 4) pa_nil)))))))
      (pss_one (ps_ret pe_bl))
      pss_nil))))))
    (pss_one (ps_ret (pe_call G_parts (hr.mono (by decide)) rfl T.m_parts T.F_parts.kp T.b_parts .nil pass0 (pa_cons (pv 6) (pa_cons (pv 2) (pa_cons (pv 3) (pa_cons (pv 4) pa_nil)))))))))))))))))))))), ?_⟩
    refine ⟨_, rfl, a, ns, rfl, hS, hlen, fun st H1 d1 => ?_⟩
    refine ⟨_, rfl, _, rfl, H, st, 0, 10, rfl, d1, by decide, by decide, by decide, fun r H2 r0 r1 d2 => ?_⟩
    obtain ⟨n, rfl⟩ : ∃ n : Nat, r = (n : Int) := ⟨r.toNat, by omega⟩
    refine ⟨H, st, 1, n, 1, 8, rfl, d2, by decide, by omega, by decide, by decide, by decide, fun t l es s1 t1 G3 H3 sG3 d3 ht hrl nok hel => ?_⟩
    refine ⟨t, _, rfl, SqT.of (d3.same _ _ ht), rfl, _, _, rfl, _, _, rfl, _, _, rfl, rfl, ?_⟩
    have h10 : es.length ≤ 10 := by omega
    obtain ⟨qs, hl, hpr⟩ := id hrl
    clear d2 d1 ht sG3
    refine ⟨_, rfl, l, _, rfl, .inl (SqL.of (d3.same _ _ hl)), fun p np => ?_⟩
    have d4 := d3.new (o := .lst (qs.map V.ref)) np
    have npG := d3.free np
    have hrp : RowsL (upd G3 p (.lst (qs.map V.ref))) p es := ⟨qs, upd_same, paired_on (fun _ _ e => same_upd npG _ _ e) hpr⟩
    have hp4 : (upd G3 p (.lst (qs.map V.ref))) p = some (.lst (qs.map V.ref)) := upd_same
    have sG4 : ∀ ys : List V, Same G3 (upd G3 p (.lst ys)) := fun ys => same_upd npG
    generalize hG4 : upd G3 p (.lst (qs.map V.ref)) = G4 at d4 hrp hp4
    have hp4H := d4.same _ _ hp4
    generalize upd H3 p (.lst (qs.map V.ref)) = H4 at d4 hp4H ⊢
    refine ⟨_, rfl, _, rfl, _, rfl, rfl, rfl, fun nn dx nb ndx ne => ?_⟩
    refine net_step d4 hrp nok h10 nb ndx ne fun ts ps G5 H5 hp hs hps sG5 d5 hN5 hV => ⟨rfl, ?_⟩
    have hp5 := sG5 _ _ hp4
    refine ⟨_, rfl, .inl ⟨rfl, _, SqL.of (d5.same _ _ hp5)⟩, p, _, rfl, rfl, d5.same _ _ hp5, ?_⟩
    have d6 := d5.put (p := p) (o := .lst []) hp5
    have hN6 := hV p _ [] hp4H
    have s36 : Same G3 (upd G5 p (.lst [])) := fun c o hc => by
      have cp : c ≠ p := ne_of_none hc npG
      rw [upd_ne cp]
      refine sG5 _ _ ?_
      rw [← hG4, upd_ne cp]
      exact hc
    clear hV hp5 sG4 hG4 hp4 hp4H hrp d4 hN5 sG5 d5 nb ndx ne np npG d3
    generalize upd G5 p (.lst []) = G6 at d6 hN6 s36
    generalize upd H5 p (.lst []) = H6 at d6 ⊢
    have hr6 := hrl.on s36
    have hN6H := hN6.same d6.same
    refine ⟨_, rfl, _, rfl, _, rfl, _, rfl, nn, l, s1, t1, es, ts, ps, 8, rfl, hN6H, hr6.on d6.same, h10, nok, hp, hs, hps, fun H7 s67 => ⟨_, rfl, iteF ?_⟩⟩
    obtain ⟨G7, sG7, d7, _, _⟩ := d6.all s67
    have hN7 := hN6.same sG7
    have hr7 := hr6.on sG7
    clear hN6H d6 hN6 hr6 s36 s67 sG7 hrl hpr hl
    obtain ⟨dx, dd, pp, bb, kvs, i1, _⟩ := id hN7
    obtain ⟨qs, hl, hpr⟩ := id hr7
    have hqe : (qs.map V.ref).length = es.length := by rw [List.length_map, hpr.length]
    have wts : ∀ e ∈ ts, WnE e := fun e he => (nok.ok e (hp.mem_iff.mp he)).2
    have ndt : (names ts).Nodup := (hp.map (fun e : Ent => e.1)).nodup_iff.mpr nok.nd
    have tlen : ts.length = es.length := hp.length_eq
    refine ⟨_, rfl, _, rfl, _, rfl, G7, st, l, _, _, rfl, d7, by omega, hl, by rw [hqe]; omega, fun L ys H8 nL d8 pys => ?_⟩
    obtain ⟨zs, pzs, rfl⟩ := map_perm_inv pys
    obtain ⟨fs, pfs, hfs⟩ := paired_perm pzs hpr
    have hr8 : RowsL (upd G7 L (.lst (zs.map V.ref))) L fs := ⟨zs, upd_same, paired_on (fun _ _ e => same_upd nL _ _ e) hfs⟩
    have s78 : Same G7 (upd G7 L (.lst (zs.map V.ref))) := same_upd nL
    generalize upd G7 L (.lst (zs.map V.ref)) = G8 at d8 hr8 s78
    rw [hqe] at d8
    refine ⟨_, rfl, _, rfl, fun n2 dx2 nb2 ndx2 ne2 => ?_⟩
    refine net_step d8 hr8 (nok.perm pfs) (by rw [pfs.length_eq]; exact h10) nb2 ndx2 ne2 fun ts2 ps2 G9 H9 hp2 hs2 hps2 sG9 d9 hN9 _ => ⟨rfl, ?_⟩
    obtain rfl : ts = ts2 := (ts_one nok.nd (hp2.trans pfs) hp hs2 hs).symm
    have s79 := s78.trans sG9
    have hA := (hN7.same s79).same d9.same
    have hB := hN9.same d9.same
    obtain ⟨dxb, db, pb2, bb2, kb, jb1, _⟩ := id hB
    have i9 := d9.same _ _ (s79 _ _ i1)
    refine ⟨nn, dx, _, n2, dxb, _, rfl, rfl, i9, jb1, .inl ⟨nn, s1, t1, ts, ps, n2, s1, t1, ts, ps2, rfl, hA, hB, wts, wts, _, rfl, _, rfl, ?_⟩⟩
    rw [decide_eq_true rfl, decide_eq_true rfl, eq_ents_self ndt]
    refine iteF ?_
    refine ⟨_, rfl, _, rfl, nn, dx, _, rfl, i9, nn, s1, t1, ts, ps, rfl, hA, by omega, wts, nok.hs.2, nok.ht.2, fun H10 s10 => ?_⟩
    refine ⟨_, rfl, nn, dx, _, _, rfl, rfl, s10 _ _ i9, .inr ⟨nn, _, rfl, _, rfl, iteF ?_⟩⟩
    obtain ⟨G10, sG10, d10, _, _⟩ := d9.all s10
    have s710 := s79.trans sG10
    have hN10 := hN7.same s710
    have hr10 := hr7.on s710
    have hl10 := s710 _ _ hl
    have i10 := s710 _ _ i1
    have hpr10 : Paired (RowT G10) qs es := paired_on (fun _ _ e => s710 _ _ e) hpr
    clear i9 jb1 hB hA s10 sG10 d9 hps2 hs2 hp2 hN9 sG9 s79 nb2 ndx2 ne2 hr8 d8 s78 hfs pzs nL d7 pfs hN7 hr7 hl i1 hpr s710
    have big10 := nok.few
    refine ⟨_, rfl, _, rfl, l, _, rfl, .inl (SqL.of (d10.same _ _ hl10)), G10, st, _, _, rfl, d10, by omega, by rw [hqe]; omega, Int.lt_of_le_of_lt (b := 100) (by rw [hqe]; omega) (by decide), fun kp H11 k0 k1 d11 => ?_⟩
    rw [hqe] at k1
    obtain ⟨kn, rfl⟩ : ∃ kn : Nat, kp = (kn : Int) := ⟨kp.toNat, by omega⟩
    have hkn : kn < es.length := by omega
    refine ⟨_, rfl, l, rfl, ⟨_, SqL.of (d11.same _ _ hl10)⟩, fun D hD => ?_⟩
    have at_ : ∀ {i : Nat} {x : V}, (qs.map V.ref)[i]? = some x → ∃ q e, x = V.ref q ∧ es[i]? = some e ∧ RowT H11 q e := fun {i x} hi => by
      rw [List.getElem?_map] at hi
      cases e : qs[i]? with
      | none => rw [e] at hi; cases hi
      | some q =>
        rw [e] at hi
        obtain ⟨f, hf, hq⟩ := L2.paired_get hpr10 e
        exact ⟨q, f, (Option.some.inj hi).symm, hf, d11.same _ _ hq⟩
    refine lc_list (K := K) (a := l) (xs := qs.map V.ref) (fun i H' => Same H11 H' ∧ H' D = some (.lst ((names (es.take i)).map V.str))) ⟨same_upd hD, upd_same⟩ (fun i H' _ h => SqL.of (h.1 _ _ (d11.same _ _ hl10))) ?_ ?_
    · intro i x H' hi ⟨s1, hDr⟩
      obtain ⟨q, e, rfl, he, hq⟩ := at_ hi
      refine ⟨rfl, _, rfl, q, _, 0, .str e.1, rfl, rfl, SqT.of (s1 _ _ hq), rfl, _, hDr, small1000 (by unfold names; rw [List.length_map, List.length_map, List.length_take]; omega), same_mut s1 hD, ?_⟩
      rw [upd_same, names_take he, List.map_append]
      rfl
    intro H12 ⟨s12, hD12⟩
    rw [hqe, List.take_length] at hD12
    refine ⟨_, rfl, by decide, by decide, fun D2 hD2 => ?_⟩
    refine lc_range (lo := 0) (n := 12) (fun i H' => Same H12 H' ∧ H' D2 = some (.lst ((fWords.take i).map V.str))) ⟨same_upd hD2, upd_same⟩ ?_ ?_
    · rintro i H' hi ⟨s13, hDr⟩
      refine ⟨rfl, _, rfl, ?_⟩
      have hw := fW_at i hi
      have hlt := (List.getElem?_eq_some_iff.mp hw).1
      have hsl := fW_len _ (List.mem_of_getElem? hw)
      refine ⟨_, rfl, Nat.lt_of_le_of_lt (Nat.log2_le_self _) (by omega), _, _, rfl, rfl, ?_, ?_⟩
      · exact Nat.le_trans (Nat.le_of_eq (Str.length_append _ _).symm) (Nat.le_trans hsl (by decide))
      refine ⟨_, hDr, small1000 (by rw [List.length_map, List.length_take]; omega), same_mut s13 hD2, ?_⟩
      rw [upd_same, take_more hw, List.map_append]
      rfl
    rintro H13 ⟨s13, hD13⟩
    rw [show fWords.take 12 = fWords from rfl] at hD13
    refine ⟨D2, rfl, ⟨_, SqL.of hD13⟩, fun D3 hD3 => ?_⟩
    refine lc_list (K := K) (a := D2) (xs := fWords.map V.str) (fun i H' => Same H13 H' ∧ H' D3 = some (.lst (((fWords.take i).filter (fun z => decide (z ∉ names es))).map V.str))) ⟨same_upd hD3, upd_same⟩ (fun i H' _ h => SqL.of (h.1 _ _ hD13)) ?_ ?_
    · intro i x H' hi ⟨s14, hDr⟩
      obtain ⟨z, hz, rfl⟩ : ∃ z, fWords[i]? = some z ∧ x = V.str z := by
        rw [List.getElem?_map] at hi
        cases e : fWords[i]? with
        | none => rw [e] at hi; cases hi
        | some q => rw [e] at hi; exact ⟨q, rfl, (Option.some.inj hi).symm⟩
      have sml : ((fWords.take i).filter (fun z => decide (z ∉ names es))).length ≤ 12 := by
        have a := List.length_filter_le (fun z => decide (z ∉ names es)) (fWords.take i)
        rw [List.length_take] at a
        have : fWords.length = 12 := rfl
        omega
      refine ⟨rfl, _, rfl, _, rfl, D, _, rfl, .inl (SqL.of (s14 _ _ (s13 _ _ hD12))), rfl, flat_names (names es), _, rfl, ?_⟩
      rw [if_pos rfl, inV_names]
      by_cases hzn : z ∈ names es
      · rw [decide_eq_true hzn]
        refine iteF ⟨s14, ?_⟩
        rw [take_more hz, List.filter_append, show [z].filter (fun z => decide (z ∉ names es)) = [] by simp [hzn], List.append_nil]
        exact hDr
      · rw [decide_eq_false hzn]
        refine iteT ⟨_, rfl, _, hDr, small1000 (by rw [List.length_map]; omega), same_mut s14 hD3, ?_⟩
        rw [upd_same, take_more hz, List.filter_append, show [z].filter (fun z => decide (z ∉ names es)) = [z] by simp [hzn], List.map_append]
        rfl
    rintro H14 ⟨s14, hD14⟩
    rw [List.length_map, List.take_length] at hD14
    obtain ⟨fr, frs, efr, hfr, hnew⟩ := fW_new h10
    rw [efr] at hD14
    obtain ⟨vfr, wfr⟩ := fW_ok fr hfr
    refine ⟨D3, _, _, _, rfl, rfl, SqL.of hD14, atI_nat (j := 0) rfl, ?_⟩
    obtain ⟨G14, sG14, d14, _, _⟩ := d11.all ((s12.trans s13).trans s14)
    have hN14 := hN10.same sG14
    have hr14 := hr10.on sG14
    have hl14 := sG14 _ _ hl10
    have i14 := sG14 _ _ i10
    have hpr14 : Paired (RowT G14) qs es := paired_on (fun _ _ e => sG14 _ _ e) hpr10
    clear hD14 hD3 hD13 hD2 hD12 hD s14 s13 s12 at_ sG14 d11 hN10 hr10 hl10 i10 hpr10 d10
    obtain ⟨q, hq⟩ : ∃ q, qs[kn]? = some q := ⟨_, List.getElem?_eq_getElem (by rw [hpr14.length]; exact hkn)⟩
    obtain ⟨e, he, hqe2⟩ := L2.paired_get hpr14 hq
    have egd : es.getD kn ("", "", "") = e := getD_of he
    have hlH := d14.same _ _ hl14
    have hqH := d14.same _ _ hqe2
    have aq : atI (qs.map V.ref) (kn : Int) = some (V.ref q) := atI_nat (by rw [List.getElem?_map, hq]; rfl)
    refine ⟨_, rfl, _, rfl, _, rfl, l, _, rfl, SqL.of hlH, fun p1 np1 => ?_⟩
    rw [cut_take]
    have t1 : Same H14 (upd H14 p1 (.lst ((qs.map V.ref).take kn))) := same_upd np1
    have g1 : (upd H14 p1 (.lst ((qs.map V.ref).take kn))) p1 = some (.lst ((qs.map V.ref).take kn)) := upd_same
    generalize upd H14 p1 (.lst ((qs.map V.ref).take kn)) = J1 at t1 g1 ⊢
    refine ⟨_, rfl, _, rfl, _, rfl, l, _, _, .ref q, rfl, rfl, SqL.of (t1 _ _ hlH), aq, q, _, 1, .str e.2.1, rfl, rfl, SqT.of (t1 _ _ hqH), rfl, _, rfl, _, rfl, l, _, _, .ref q, rfl, rfl, SqL.of (t1 _ _ hlH), aq, q, _, 2, .str e.2.2, rfl, rfl, SqT.of (t1 _ _ hqH), rfl, by show 3 ≤ sizeLine; decide, fun U nU => ?_⟩
    have t2 := t1.trans (same_upd (o := .tup [.str fr, .str e.2.1, .str e.2.2]) nU)
    have gU : (upd J1 U (.tup [.str fr, .str e.2.1, .str e.2.2])) U = some (.tup [.str fr, .str e.2.1, .str e.2.2]) := upd_same
    have g2 := same_upd (o := .tup [.str fr, .str e.2.1, .str e.2.2]) nU _ _ g1
    generalize upd J1 U (.tup [.str fr, .str e.2.1, .str e.2.2]) = J2 at t2 gU g2 ⊢
    refine ⟨by show 1 ≤ sizeLine; decide, fun l2 nl2 => ?_⟩
    have t3 := t2.trans (same_upd (o := .lst [V.ref U]) nl2)
    have g3 := same_upd (o := .lst [V.ref U]) nl2 _ _ g2
    have gU3 := same_upd (o := .lst [V.ref U]) nl2 _ _ gU
    have gl2 : (upd J2 l2 (.lst [V.ref U])) l2 = some (.lst [V.ref U]) := upd_same
    generalize upd J2 l2 (.lst [V.ref U]) = J3 at t3 g3 gU3 gl2 ⊢
    refine ⟨p1, l2, _, _, rfl, rfl, g3, gl2, Nat.le_of_lt (small1000 (by rw [List.length_take]; show _ + 1 ≤ 1000; omega)), fun p3 np3 => ?_⟩
    have t4 := t3.trans (same_upd (o := .lst ((qs.map V.ref).take kn ++ [V.ref U])) np3)
    have gU4 := same_upd (o := .lst ((qs.map V.ref).take kn ++ [V.ref U])) np3 _ _ gU3
    have g4 : (upd J3 p3 (.lst ((qs.map V.ref).take kn ++ [V.ref U]))) p3 = some (.lst ((qs.map V.ref).take kn ++ [V.ref U])) := upd_same
    generalize upd J3 p3 (.lst ((qs.map V.ref).take kn ++ [V.ref U])) = J4 at t4 gU4 g4 ⊢
    refine ⟨_, rfl, _, rfl, _, 1, rfl, rfl, _, rfl, l, _, rfl, SqL.of (t4 _ _ hlH), fun p4 np4 => ?_⟩
    rw [show ((kn : Int) + 1) = ((kn + 1 : Nat) : Int) from by omega, cut_drop]
    have t5 := t4.trans (same_upd (o := .lst ((qs.map V.ref).drop (kn + 1))) np4)
    have gU5 := same_upd (o := .lst ((qs.map V.ref).drop (kn + 1))) np4 _ _ gU4
    have g5 := same_upd (o := .lst ((qs.map V.ref).drop (kn + 1))) np4 _ _ g4
    have g6 : (upd J4 p4 (.lst ((qs.map V.ref).drop (kn + 1)))) p4 = some (.lst ((qs.map V.ref).drop (kn + 1))) := upd_same
    generalize upd J4 p4 (.lst ((qs.map V.ref).drop (kn + 1))) = J5 at t5 gU5 g5 g6 ⊢
    refine ⟨p3, p4, _, _, rfl, rfl, g5, g6, Nat.le_of_lt (small1000 (by rw [List.length_append, List.length_take, List.length_drop]; show _ + 1 + _ ≤ 1000; omega)), fun M nM => ?_⟩
    have em : (qs.map V.ref).take kn ++ [V.ref U] ++ (qs.map V.ref).drop (kn + 1) = (qs.take kn ++ [U] ++ qs.drop (kn + 1)).map V.ref := by rw [List.map_append, List.map_append, List.map_take, List.map_drop]; rfl
    rw [em]
    have t6 := t5.trans (same_upd (o := .lst ((qs.take kn ++ [U] ++ qs.drop (kn + 1)).map V.ref)) nM)
    have gU6 := same_upd (o := .lst ((qs.take kn ++ [U] ++ qs.drop (kn + 1)).map V.ref)) nM _ _ gU5
    have hM : (upd J5 M (.lst ((qs.take kn ++ [U] ++ qs.drop (kn + 1)).map V.ref))) M = some (.lst ((qs.take kn ++ [U] ++ qs.drop (kn + 1)).map V.ref)) := upd_same
    have nM4 : H14 M = none := t5.free nM
    have nU4 : H14 U = none := t1.free nU
    generalize upd J5 M (.lst ((qs.take kn ++ [U] ++ qs.drop (kn + 1)).map V.ref)) = J6 at t6 gU6 hM ⊢
    obtain ⟨G16, sG16, d16, al16, al16'⟩ := d14.all t6
    have hM16 := al16 _ _ nM4 hM
    have hU16 : RowT G16 U (fr, e.2.1, e.2.2) := al16 _ _ nU4 gU6
    have hpr16 : Paired (RowT G16) qs es := paired_on (fun _ _ e => sG16 _ _ e) hpr14
    have hrM : RowsL G16 M (tagAt es kn fr) := by
      refine ⟨_, hM16, ?_⟩
      unfold tagAt
      rw [egd]
      exact paired_app (paired_app (paired_take hpr16 kn) (.cons hU16 .nil)) (paired_drop hpr16 (kn + 1))
    have nokM := nok.tag hkn hnew vfr wfr
    have lenM : (tagAt es kn fr).length = es.length := tag_len hkn
    have hN16 := hN14.same sG16
    have hr16 := hr14.on sG16
    have hl16 := sG16 _ _ hl14
    have hq16 := sG16 _ _ hqe2
    have i16 := sG16 _ _ i14
    clear al16 al16' hM16 hU16 nU4 nM4 hM gU6 t6 em nM gU5 g5 g6 t5 np4 gU4 g4 t4 np3 gU3 g3 gl2 t3 nl2 gU g2 t2 nU t1 g1 np1 hlH hqH sG16 hpr14 hl14 i14 hr14 hN14 d14
    refine ⟨_, rfl, _, rfl, _, rfl, fun n2 dx2 nb2 ndx2 ne2 => ?_⟩
    refine net_step d16 hrM nokM (by rw [lenM]; exact h10) nb2 ndx2 ne2 fun ts2 ps2 G17 H17 hp2 hs2 hps2 sG17 d17 hN17 _ => ⟨rfl, by show 1 ≤ sizeLine; decide, fun O nO => ?_⟩
    have hN17' := hN16.same sG17
    have hr17 := hr16.on sG17
    have hl17 := sG17 _ _ hl16
    have hq17 := sG17 _ _ hq16
    have i17 := sG17 _ _ i16
    have hpr17 : Paired (RowT G17) qs es := paired_on (fun _ _ e => sG17 _ _ e) hpr16
    have o2 : OthAt T.f_Network s1 t1 ts G17 n2 := ⟨ts2, ps2, hN17, fun e he => (nokM.ok e (hp2.mem_iff.mp he)).2, eq_ents_not ndt ((hp2.map (fun e : Ent => e.1)).nodup_iff.mpr nokM.nd) hs hs2 (fun z => hnew ((hp.map (fun e : Ent => e.1)).mem_iff.mp z)) ((hp2.map (fun e : Ent => e.1)).mem_iff.mpr tag_mem)⟩
    have nOG := d17.free nO
    have d18 := d17.new (o := .lst [V.ref n2]) nO
    have hO18 : (upd G17 O (.lst [V.ref n2])) O = some (.lst [V.ref n2]) := upd_same
    have s18 : Same G17 (upd G17 O (.lst [V.ref n2])) := same_upd nOG
    clear hN17 hp2 hs2 hps2 sG17 d17 nb2 ndx2 ne2 hpr16 i16 hq16 hl16 hr16 hN16 d16 hrM
    generalize upd G17 O (.lst [V.ref n2]) = G18 at d18 hO18 s18
    generalize upd H17 O (.lst [V.ref n2]) = H18 at d18 ⊢
    refine ⟨fun σ H' => ∃ x12 x13 x14 x15 x16 G, ∃ os : List Addr, σ = [some (.ref a), some (.ref st), some (.ref l), some (.str s1), some (.str t1), some (.ref p), some (.ref nn), some (.int (kn : Int)), some (.ref D), some (.str fr), some (.ref M), some (.ref O), x12, x13, x14, x15, x16] ∧ Same G17 G ∧ DSt G H' st (1 + 100 + es.length + 1) ∧ G O = some (.lst (os.map V.ref)) ∧ os.length ≤ 2 ∧ ∀ o ∈ os, OthAt T.f_Network s1 t1 ts G o, ?_, ?_⟩
    · refine ⟨_, rfl, l, _, rfl, .inl (SqL.of (d18.same _ _ (s18 _ _ hl17))), _, _, rfl, rfl, _, rfl, ite2 (fun h => ?_) fun h => ?_⟩
      · refine ⟨_, rfl, .inl ⟨rfl, _, SqL.of (d18.same _ _ hO18)⟩, ?_⟩
        have hlH := d18.same _ _ (s18 _ _ hl17)
        have hqH := d18.same _ _ (s18 _ _ hq17)
        refine ⟨_, rfl, _, rfl, _, rfl, _, rfl, l, _, _, .ref q, rfl, rfl, SqL.of hlH, aq, q, _, 1, .str e.2.1, rfl, rfl, SqT.of hqH, rfl, _, rfl, _, rfl, l, _, _, .ref q, rfl, rfl, SqL.of hlH, aq, q, _, 2, .str e.2.2, rfl, rfl, SqT.of hqH, rfl, by show 3 ≤ sizeLine; decide, fun U nU => ?_⟩
        have t1 := same_upd (o := .tup [.str fr, .str e.2.1, .str e.2.2]) nU
        have gU : (upd H18 U (.tup [.str fr, .str e.2.1, .str e.2.2])) U = some (.tup [.str fr, .str e.2.1, .str e.2.2]) := upd_same
        generalize upd H18 U (.tup [.str fr, .str e.2.1, .str e.2.2]) = J1 at t1 gU ⊢
        refine ⟨by show 1 ≤ sizeLine; decide, fun l2 nl2 => ?_⟩
        have t2 := t1.trans (same_upd (o := .lst [V.ref U]) nl2)
        have gU2 := same_upd (o := .lst [V.ref U]) nl2 _ _ gU
        have gl2 : (upd J1 l2 (.lst [V.ref U])) l2 = some (.lst [V.ref U]) := upd_same
        generalize upd J1 l2 (.lst [V.ref U]) = J2 at t2 gU2 gl2 ⊢
        refine ⟨l, l2, _, _, rfl, rfl, t2 _ _ hlH, gl2, Nat.le_of_lt (small1000 (by rw [hqe]; show _ + 1 ≤ 1000; omega)), fun M2 nM2 => ?_⟩
        have em : qs.map V.ref ++ [V.ref U] = (qs ++ [U]).map V.ref := by rw [List.map_append]; rfl
        rw [em]
        have t3 := t2.trans (same_upd (o := .lst ((qs ++ [U]).map V.ref)) nM2)
        have gU3 := same_upd (o := .lst ((qs ++ [U]).map V.ref)) nM2 _ _ gU2
        have hM2 : (upd J2 M2 (.lst ((qs ++ [U]).map V.ref))) M2 = some (.lst ((qs ++ [U]).map V.ref)) := upd_same
        have nM3 : H18 M2 = none := t2.free nM2
        generalize upd J2 M2 (.lst ((qs ++ [U]).map V.ref)) = J3 at t3 gU3 hM2 ⊢
        obtain ⟨G19, sG19, d19, al19, _⟩ := d18.all t3
        have hr19 : RowsL G19 M2 (moreAt es kn fr) := by
          refine ⟨_, al19 _ _ nM3 hM2, ?_⟩
          unfold moreAt
          rw [egd]
          exact paired_snoc (show RowT G19 U (fr, e.2.1, e.2.2) from al19 _ _ nU gU3) (paired_on (fun _ _ e => sG19 _ _ (s18 _ _ e)) hpr17)
        have nokM2 := nok.one_more hkn hnew vfr wfr
        have lenM2 : (moreAt es kn fr).length = es.length + 1 := by unfold moreAt; rw [List.length_append]; rfl
        have h9 : es.length < 10 := by
          rw [hqe] at h
          have := of_decide_eq_true h
          omega
        have hO19H := d19.same _ _ (sG19 _ _ hO18)
        refine ⟨_, rfl, _, rfl, fun n3 dx3 nb3 ndx3 ne3 => ?_⟩
        refine net_step d19 hr19 nokM2 (by rw [lenM2]; omega) nb3 ndx3 ne3 fun ts3 ps3 G20 H20 hp3 hs3 hps3 sG20 d20 hN20 hV3 => ⟨rfl, ?_⟩
        have hO20 := sG20 _ _ (sG19 _ _ hO18)
        refine ⟨O, _, _, rfl, rfl, d20.same _ _ hO20, by show 1 < sizeLine; decide, ?_⟩
        have d21 := d20.put (p := O) (o := .lst ([V.ref n2] ++ [V.ref n3])) hO20
        have s21 : Same G17 (upd G20 O (.lst ([V.ref n2] ++ [V.ref n3]))) := fun c o hc => by
          rw [upd_ne (ne_of_none hc nOG)]
          exact sG20 _ _ (sG19 _ _ (s18 _ _ hc))
        refine ⟨_, _, _, _, _, _, [n2, n3], rfl, s21, d21, upd_same, (by show 2 ≤ 2; decide), fun o ho => ?_⟩
        rcases List.mem_cons.mp ho with z | z
        · rw [z]; exact o2.same s21
        · rw [List.mem_singleton.mp z]
          exact ⟨ts3, ps3, hV3 O _ _ hO19H, fun e he => (nokM2.ok e (hp3.mem_iff.mp he)).2, eq_ents_not ndt ((hp3.map (fun e : Ent => e.1)).nodup_iff.mpr nokM2.nd) hs hs3 (fun z => hnew ((hp.map (fun e : Ent => e.1)).mem_iff.mp z)) ((hp3.map (fun e : Ent => e.1)).mem_iff.mpr more_mem)⟩
      · exact ⟨_, _, _, _, _, G18, [n2], rfl, s18, d18, hO18, (by show 1 ≤ 2; decide), fun o ho => by rw [List.mem_singleton.mp ho]; exact o2.same s18⟩
    rintro σ H' ⟨x12, x13, x14, x15, x16, G19, os, rfl, s19, d19, hO19, los, hos⟩
    have hN19 := hN17'.same s19
    have hr19 := hr17.on s19
    have hl19 := s19 _ _ hl17
    refine ⟨fun σ H' => ∃ x12 x13 x14 x15 x16, σ = [some (.ref a), some (.ref st), some (.ref l), some (.str s1), some (.str t1), some (.ref p), some (.ref nn), some (.int (kn : Int)), some (.ref D), some (.str fr), some (.ref M), some (.ref O), x12, x13, x14, x15, x16] ∧ DSt G19 H' st (1 + 100 + es.length + 1), ?_, ?_⟩
    · refine ⟨_, rfl, O, rfl, ⟨_, SqL.of (d19.same _ _ hO19)⟩, ?_⟩
      refine for_list (K := K) (a := O) (xs := os.map V.ref) (fun i σ H' => ∃ x12 x13 x14 x15 x16, σ = [some (.ref a), some (.ref st), some (.ref l), some (.str s1), some (.str t1), some (.ref p), some (.ref nn), some (.int (kn : Int)), some (.ref D), some (.str fr), some (.ref M), some (.ref O), x12, x13, x14, x15, x16] ∧ DSt G19 H' st (1 + 100 + es.length + 1)) ⟨_, _, _, _, _, rfl, d19⟩ (fun i σ H' _ ⟨_, _, _, _, _, _, h⟩ => SqL.of (h.same _ _ hO19)) ?_ (fun σ H' h => h)
      rintro i v σ H2 hi ⟨y12, y13, y14, y15, y16, rfl, d⟩
      obtain ⟨o, ho, rfl⟩ : ∃ o, o ∈ os ∧ v = V.ref o := by
        obtain ⟨o, ho, rfl⟩ := List.mem_map.mp (List.mem_of_getElem? hi)
        exact ⟨o, ho, rfl⟩
      obtain ⟨us, pu, hNo, wus, ne1, ne2⟩ := hos o ho
      have hA := hN19.same d.same
      have hB := hNo.same d.same
      obtain ⟨dxa, _, _, _, _, ia, _⟩ := id hA
      obtain ⟨dxb, _, _, _, _, ib, _⟩ := id hB
      refine ⟨_, rfl, _, rfl, nn, dxa, _, o, dxb, _, rfl, rfl, ia, ib, .inl ⟨nn, s1, t1, ts, ps, o, s1, t1, us, pu, rfl, hA, hB, wts, wus, _, rfl, ?_⟩⟩
      rw [decide_eq_true rfl, decide_eq_true rfl, ne1]
      refine iteF ?_
      refine ⟨_, rfl, _, rfl, o, dxb, _, nn, dxa, _, rfl, rfl, ib, ia, .inl ⟨o, s1, t1, us, pu, nn, s1, t1, ts, ps, rfl, hB, hA, wus, wts, _, rfl, ?_⟩⟩
      rw [decide_eq_true rfl, decide_eq_true rfl, ne2]
      refine iteF ?_
      refine ⟨_, rfl, _, rfl, nn, dxa, _, o, dxb, _, rfl, rfl, ia, ib, .inl ⟨nn, s1, t1, ts, ps, o, s1, t1, us, pu, rfl, hA, hB, wts, wus, _, rfl, _, rfl, ?_⟩⟩
      rw [decide_eq_true rfl, decide_eq_true rfl, ne1]
      refine iteF ?_
      exact ⟨_, _, _, _, _, rfl, d⟩
    rintro σ H' ⟨x12, x13, x14, x15, x16, rfl, d20⟩
    refine ⟨fun σ H' => ∃ x10 x12 x13 x14 x15 x16 G, σ = [some (.ref a), some (.ref st), some (.ref l), some (.str s1), some (.str t1), some (.ref p), some (.ref nn), some (.int (kn : Int)), some (.ref D), some (.str fr), x10, some (.ref O), x12, x13, x14, x15, x16] ∧ Same G19 G ∧ DSt G H' st (1 + 100 + es.length + 1 + 27 + 1), ?_, ?_⟩
    · refine ⟨_, rfl, _, rfl, _, rfl, _, rfl, G19, st, l, _, 8, es, s1, t1, rfl, d20, by omega, hr19, h10, nok, fun l1 f1 G21 H21 s21 d21 hr21 nok1 len1 _ _ => ?_⟩
      refine ⟨_, rfl, _, rfl, _, rfl, _, rfl, G21, st, l, _, 8, es, s1, t1, rfl, d21, by omega, hr19.on s21, h10, nok, fun l2 f2 G22 H22 s22 d22 hr22 nok2 len2 => ?_⟩
      refine ⟨by show 2 ≤ sizeLine; decide, fun NL nNL => ?_⟩
      have d23 := d22.new (o := .lst ([l1, l2].map V.ref)) nNL
      have nNG := d22.free nNL
      have s23 : Same G22 (upd G22 NL (.lst ([l1, l2].map V.ref))) := same_upd nNG
      have hNL : (upd G22 NL (.lst ([l1, l2].map V.ref))) NL = some (.lst ([l1, l2].map V.ref)) := upd_same
      have near : ∀ x ∈ [l1, l2], ∃ fs, RowsL (upd G22 NL (.lst ([l1, l2].map V.ref))) x fs ∧ NetOk fs s1 t1 8 ∧ fs.length = es.length := fun x hx => by
        rcases List.mem_cons.mp hx with z | z
        · rw [z]; exact ⟨f1, hr21.on (s22.trans s23), nok1, len1⟩
        · rw [List.mem_singleton.mp z]; exact ⟨f2, hr22.on s23, nok2, len2⟩
      have s1923 := (s21.trans s22).trans s23
      generalize hg : upd H22 NL (.lst [V.ref l1, V.ref l2]) = H23
      have hg : upd H22 NL (.lst ([l1, l2].map V.ref)) = H23 := hg
      rw [hg] at d23
      generalize upd G22 NL (.lst ([l1, l2].map V.ref)) = G23 at d23 s23 hNL near s1923
      refine ⟨NL, rfl, ⟨_, SqL.of (d23.same _ _ hNL)⟩, ?_⟩
      refine for_list (K := K) (a := NL) (xs := [l1, l2].map V.ref) (fun i σ H' => ∃ x10 x12 x13 x14 x15 x16 G, σ = [some (.ref a), some (.ref st), some (.ref l), some (.str s1), some (.str t1), some (.ref p), some (.ref nn), some (.int (kn : Int)), some (.ref D), some (.str fr), x10, some (.ref O), x12, x13, x14, x15, x16] ∧ Same G23 G ∧ DSt G H' st (1 + 100 + es.length + 1 + 27 + 1)) ⟨_, _, _, _, _, _, G23, rfl, Same.refl _, d23⟩ (fun i σ H' _ ⟨_, _, _, _, _, _, _, _, sG, h⟩ => SqL.of (h.same _ _ (sG _ _ hNL))) ?_ (fun σ H' ⟨a1, a2, a3, a4, a5, a6, G, e, sG, h⟩ => ⟨a1, a2, a3, a4, a5, a6, G, e, s1923.trans sG, h⟩)
      rintro i v σ H' hi ⟨x10, x12, x13, x14, x15, x16, G24, rfl, s24, d24⟩
      obtain ⟨x, hx, rfl⟩ : ∃ x, x ∈ [l1, l2] ∧ v = V.ref x := by
        obtain ⟨o, ho, rfl⟩ := List.mem_map.mp (List.mem_of_getElem? hi)
        exact ⟨o, ho, rfl⟩
      obtain ⟨fs, hrx, nokx, lenx⟩ := near x hx
      have hrx24 := hrx.on s24
      have s1924 := s1923.trans s24
      refine ⟨_, rfl, _, rfl, _, rfl, fun n4 dx4 nb4 ndx4 ne4 => ?_⟩
      refine net_step d24 hrx24 nokx (by omega) nb4 ndx4 ne4 fun us pu G25 H25 hpu hsu hpsu sG25 d25 hN25 _ => ⟨rfl, ?_⟩
      have wus : ∀ e ∈ us, WnE e := fun e he => (nokx.ok e (hpu.mem_iff.mp he)).2
      have ndu : (names us).Nodup := (hpu.map (fun e : Ent => e.1)).nodup_iff.mpr nokx.nd
      have ulen : us.length = es.length := hpu.length_eq.trans lenx
      have s1925 := s1924.trans sG25
      have hAH := (hN19.same s1925).same d25.same
      have hBH := hN25.same d25.same
      have hrxH := (hrx24.on sG25).on d25.same
      have hrH := (hr19.on s1925).on d25.same
      obtain ⟨bs1, b1, b2, b3⟩ := sort_rows (K := K) hrxH nokx.nd hpu hsu
      refine ⟨_, rfl, x, bs1, rfl, b1, b2, fun p1 np1 => ?_⟩
      have r1 := b3 p1 np1
      have t1' := same_upd (o := .lst ((bs1.mergeSort rowLe).map fun b => V.ref b.1)) np1
      generalize upd H25 p1 (.lst ((bs1.mergeSort rowLe).map fun b => V.ref b.1)) = J1 at r1 t1' ⊢
      obtain ⟨bs2, c1, c2, c3⟩ := sort_rows (K := K) (hrH.on t1') nok.nd hp hs
      refine ⟨_, rfl, l, bs2, rfl, c1, c2, fun p2 np2 => ?_⟩
      have r2 := c3 p2 np2
      have r1 := r1.on (same_upd (o := .lst ((bs2.mergeSort rowLe).map fun b => V.ref b.1)) np2)
      have t2' := t1'.trans (same_upd (o := .lst ((bs2.mergeSort rowLe).map fun b => V.ref b.1)) np2)
      generalize upd J1 p2 (.lst ((bs2.mergeSort rowLe).map fun b => V.ref b.1)) = J2 at r1 r2 t2' ⊢
      refine ⟨_, _, dp_rowsL r1, dp_rowsL r2, shaped_rows wus, shaped_rows wts, ?_⟩
      rw [eqv_rows]
      have q1 : eqEnts ts us = decide (us = ts) := (eq_ents_iff ndt ndu hs hsu).trans (decide_eq_decide.mpr ⟨Eq.symm, Eq.symm⟩)
      have q2 : eqEnts us ts = decide (us = ts) := eq_ents_iff ndu ndt hsu hs
      have q3 : decide (V.str (textOf s1 t1 (ts.map rowText)) = V.str (textOf s1 t1 (us.map rowText))) = decide (us = ts) := (text_iff (vn_plain nok.hs.1) (vn_plain nok.ht.1) (nok.perm hp).plain (nokx.perm hpu).plain).trans (decide_eq_decide.mpr ⟨Eq.symm, Eq.symm⟩)
      generalize decide (us = ts) = A at q1 q2 q3 ⊢
      have no : ∀ A : Bool, (!decide (V.bl (true && (true && A)) = V.bl A)) = false := by decide
      have no2 : ∀ A : Bool, (!decide (V.bl A = V.bl A)) = false := by decide
      have hA2 := hAH.same t2'
      have hB2 := hBH.same t2'
      obtain ⟨dxa, _, _, _, _, ia, _⟩ := id hA2
      obtain ⟨dxb, _, _, _, _, ib, _⟩ := id hB2
      refine ⟨_, rfl, _, rfl, nn, dxa, _, n4, dxb, _, rfl, rfl, ia, ib, .inl ⟨nn, s1, t1, ts, ps, n4, s1, t1, us, pu, rfl, hA2, hB2, wts, wus, _, rfl, rfl, _, rfl, ?_⟩⟩
      rw [decide_eq_true rfl, decide_eq_true rfl, q1, no]
      refine iteF ?_
      refine ⟨_, rfl, _, rfl, n4, dxb, _, nn, dxa, _, rfl, rfl, ib, ia, .inl ⟨n4, s1, t1, us, pu, nn, s1, t1, ts, ps, rfl, hB2, hA2, wus, wts, _, rfl, rfl, _, rfl, ?_⟩⟩
      rw [decide_eq_true rfl, decide_eq_true rfl, q2, no]
      refine iteF ?_
      refine ⟨_, rfl, nn, dxa, _, rfl, ia, nn, s1, t1, ts, ps, rfl, hA2, by omega, wts, nok.hs.2, nok.ht.2, fun J3 sJ3 => ⟨_, rfl, ?_⟩⟩
      refine ⟨_, rfl, n4, dxb, _, rfl, sJ3 _ _ ib, n4, s1, t1, us, pu, rfl, hB2.same sJ3, by omega, wus, nok.hs.2, nok.ht.2, fun J4 sJ4 => ⟨_, rfl, rfl, _, rfl, rfl, _, rfl, ?_⟩⟩
      rw [q3, no2]
      refine iteF ?_
      have t4' := (t2'.trans sJ3).trans sJ4
      refine ⟨_, rfl, _, rfl, _, rfl, _, rfl, n4, x, s1, t1, fs, us, pu, 8, rfl, hBH.same t4', hrxH.on t4', by omega, nokx, hpu, hsu, hpsu, fun J5 sJ5 => ⟨_, rfl, iteF ?_⟩⟩
      obtain ⟨G26, sG26, d26, _, _⟩ := d25.all (t4'.trans sJ5)
      exact ⟨_, _, _, _, _, _, G26, rfl, (s24.trans sG25).trans sG26, d26⟩
    · rintro σ H' ⟨x10, x12, x13, x14, x15, x16, G, rfl, sG, d⟩
      exact ⟨_, rfl, _, rfl, _, rfl, _, rfl, nn, l, s1, t1, es, ts, ps, 8, rfl, (hN19.same sG).same d.same, (hr19.on sG).on d.same, h10, nok, hp, hs, hps, fun H9 _ => k H9⟩
end

set_option maxHeartbeats 0 in
theorem all_mk {l : PySem.W.OpenLaw} {w : World} {K : PySem.W.Frag} {h : Heap} {mg : Str → Option Value} {f_BadName f_DuplicateName f_UnknownName f_BadCount f_HasRound f_UselessLink f_Network f_valid_name f_ordered_places f_places_behind f_useful_names f_check_ends f_check_names f_check_rounds f_check_use f_start f_draw f_names f_grown f_shuffled f_net f_after f_useful f_spots f_rewired f_missing f_parts f_exchanged f_BadName_init f_DuplicateName_init f_UnknownName_init f_BadCount_init f_HasRound_init f_UselessLink_init f_Network_init f_Network_start p_Network_start f_Network_end p_Network_end f_Network_names p_Network_names f_Network_places p_Network_places f_Network_triples f_Network_getitem f_Network_contains f_Network_len f_Network_eq f_Network_str fa f_law : Addr} {od_valid_name an_valid_name od_ordered_places an_ordered_places od_places_behind an_places_behind od_useful_names an_useful_names od_check_ends an_check_ends od_check_names an_check_names od_check_rounds an_check_rounds od_check_use an_check_use od_start an_start od_draw an_draw od_names an_names od_grown an_grown od_shuffled an_shuffled od_net an_net od_after an_after od_useful an_useful od_spots an_spots od_rewired an_rewired od_missing an_missing od_parts an_parts od_exchanged an_exchanged od_BadName_init an_BadName_init od_DuplicateName_init an_DuplicateName_init od_UnknownName_init an_UnknownName_init od_BadCount_init an_BadCount_init od_HasRound_init an_HasRound_init od_UselessLink_init an_UselessLink_init od_Network_init an_Network_init od_Network_start an_Network_start od_Network_end an_Network_end od_Network_names an_Network_names od_Network_places an_Network_places od_Network_triples an_Network_triples od_Network_getitem an_Network_getitem od_Network_contains an_Network_contains od_Network_len an_Network_len od_Network_eq an_Network_eq od_Network_str an_Network_str od_law an_law : Option Addr} {sl_valid_name sl_ordered_places sl_places_behind sl_useful_names sl_check_ends sl_check_names sl_check_rounds sl_check_use sl_start sl_draw sl_names sl_grown sl_shuffled sl_net sl_after sl_useful sl_spots sl_rewired sl_missing sl_parts sl_exchanged sl_BadName_init sl_DuplicateName_init sl_UnknownName_init sl_BadCount_init sl_HasRound_init sl_UselessLink_init sl_Network_init sl_Network_start sl_Network_end sl_Network_names sl_Network_places sl_Network_triples sl_Network_getitem sl_Network_contains sl_Network_len sl_Network_eq sl_Network_str sl_law : Array (Option Value)} {oc_valid_name kV_valid_name dc_valid_name pm_valid_name cd_valid_name ct_valid_name oc_ordered_places kV_ordered_places dc_ordered_places pm_ordered_places cd_ordered_places ct_ordered_places oc_places_behind kV_places_behind dc_places_behind pm_places_behind cd_places_behind ct_places_behind oc_useful_names kV_useful_names dc_useful_names pm_useful_names cd_useful_names ct_useful_names oc_check_ends kV_check_ends dc_check_ends pm_check_ends cd_check_ends ct_check_ends oc_check_names kV_check_names dc_check_names pm_check_names cd_check_names ct_check_names oc_check_rounds kV_check_rounds dc_check_rounds pm_check_rounds cd_check_rounds ct_check_rounds oc_check_use kV_check_use dc_check_use pm_check_use cd_check_use ct_check_use oc_start kV_start dc_start pm_start cd_start ct_start oc_draw kV_draw dc_draw pm_draw cd_draw ct_draw oc_names kV_names dc_names pm_names cd_names ct_names oc_grown kV_grown dc_grown pm_grown cd_grown ct_grown oc_shuffled kV_shuffled dc_shuffled pm_shuffled cd_shuffled ct_shuffled oc_net kV_net dc_net pm_net cd_net ct_net oc_after kV_after dc_after pm_after cd_after ct_after oc_useful kV_useful dc_useful pm_useful cd_useful ct_useful oc_spots kV_spots dc_spots pm_spots cd_spots ct_spots oc_rewired kV_rewired dc_rewired pm_rewired cd_rewired ct_rewired oc_missing kV_missing dc_missing pm_missing cd_missing ct_missing oc_parts kV_parts dc_parts pm_parts cd_parts ct_parts oc_exchanged kV_exchanged dc_exchanged pm_exchanged cd_exchanged ct_exchanged oc_BadName_init kV_BadName_init dc_BadName_init pm_BadName_init cd_BadName_init ct_BadName_init oc_DuplicateName_init kV_DuplicateName_init dc_DuplicateName_init pm_DuplicateName_init cd_DuplicateName_init ct_DuplicateName_init oc_UnknownName_init kV_UnknownName_init dc_UnknownName_init pm_UnknownName_init cd_UnknownName_init ct_UnknownName_init oc_BadCount_init kV_BadCount_init dc_BadCount_init pm_BadCount_init cd_BadCount_init ct_BadCount_init oc_HasRound_init kV_HasRound_init dc_HasRound_init pm_HasRound_init cd_HasRound_init ct_HasRound_init oc_UselessLink_init kV_UselessLink_init dc_UselessLink_init pm_UselessLink_init cd_UselessLink_init ct_UselessLink_init oc_Network_init kV_Network_init dc_Network_init pm_Network_init cd_Network_init ct_Network_init oc_Network_start kV_Network_start dc_Network_start pm_Network_start cd_Network_start ct_Network_start oc_Network_end kV_Network_end dc_Network_end pm_Network_end cd_Network_end ct_Network_end oc_Network_names kV_Network_names dc_Network_names pm_Network_names cd_Network_names ct_Network_names oc_Network_places kV_Network_places dc_Network_places pm_Network_places cd_Network_places ct_Network_places oc_Network_triples kV_Network_triples dc_Network_triples pm_Network_triples cd_Network_triples ct_Network_triples oc_Network_getitem kV_Network_getitem dc_Network_getitem pm_Network_getitem cd_Network_getitem ct_Network_getitem oc_Network_contains kV_Network_contains dc_Network_contains pm_Network_contains cd_Network_contains ct_Network_contains oc_Network_len kV_Network_len dc_Network_len pm_Network_len cd_Network_len ct_Network_len oc_Network_eq kV_Network_eq dc_Network_eq pm_Network_eq cd_Network_eq ct_Network_eq oc_Network_str kV_Network_str dc_Network_str pm_Network_str cd_Network_str ct_Network_str oc_law kV_law dc_law pm_law cd_law ct_law : Value} {rs_Network_start rs_Network_end rs_Network_names rs_Network_places : List Value} {tv_Network_MOST_LINKS tv_Network_MOST_PLACES t_DIGITS t_LETTERS t_LONGEST_NAME : Tok} (X : K.In h) (G : h.Ns mainGlobals mg) (hfa : mg "law" = some (.ref fa))
    (a_BadName : PySem.W.nsIn K mainGlobals "BadName" = some (some (.ref f_BadName)))
    (a_DuplicateName : PySem.W.nsIn K mainGlobals "DuplicateName" = some (some (.ref f_DuplicateName)))
    (a_UnknownName : PySem.W.nsIn K mainGlobals "UnknownName" = some (some (.ref f_UnknownName)))
    (a_BadCount : PySem.W.nsIn K mainGlobals "BadCount" = some (some (.ref f_BadCount)))
    (a_HasRound : PySem.W.nsIn K mainGlobals "HasRound" = some (some (.ref f_HasRound)))
    (a_UselessLink : PySem.W.nsIn K mainGlobals "UselessLink" = some (some (.ref f_UselessLink)))
    (a_Network : PySem.W.nsIn K mainGlobals "Network" = some (some (.ref f_Network)))
    (pg_Network : PySem.W.plainGet K f_Network Str.empty = true)
    (hd_Network : PySem.W.hasDictIn K f_Network = true)
    (po_Network : PySem.W.plainOver K f_Network = true)
    (sa_Network : PySem.W.findIn K (.ref f_Network) "__setattr__" = some (some (.builtin "object.__setattr__")))
    (mk_Network : PySem.W.makesIn K f_Network = true)
    (kc_Network : PySem.W.keepIn K (.ref f_Network) = true)
    (hc_Network : PySem.W.findIn K (.ref f_Network) "__class__" = some (some (.builtin "object.__class__")))
    (mo_Network : PySem.W.mroIn K f_Network (.type "object") = some true)
    (ic_Network : PySem.W.isClsIn K f_Network = true)
    (ty_Network : PySem.W.typeIn K (.ref f_Network) = some (.type "type"))
    (hn_class : PySem.W.specialIn K (.builtin "object.__class__") "__get__" = some (some (.builtin "getset_descriptor.__get__")))
    (ht_class : PySem.W.takesIn K (.builtin "object.__class__") = some true)
    (na_Network_start : PySem.W.findIn K (.ref f_Network) "_start" = some none)
    (na_Network_end : PySem.W.findIn K (.ref f_Network) "_end" = some none)
    (na_Network_links : PySem.W.findIn K (.ref f_Network) "_links" = some none)
    (na_Network_places : PySem.W.findIn K (.ref f_Network) "_places" = some none)
    (na_Network_behind : PySem.W.findIn K (.ref f_Network) "_behind" = some none)
    (su_Network_str : PySem.W.subIn K (.type "str") (.ref f_Network) = some false)
    (a_valid_name : PySem.W.nsIn K mainGlobals "valid_name" = some (some (.ref f_valid_name)))
    (l_valid_name : K.lookup f_valid_name = some ⟨oc_valid_name, od_valid_name, .func (PySem.W.fnOf "valid_name" "valid_name" (defArgs s_valid_name) (defBody s_valid_name) (defScope s_valid_name) .none kV_valid_name dc_valid_name pm_valid_name an_valid_name cd_valid_name ct_valid_name), sl_valid_name⟩)
    (c_valid_name : PySem.W.codeIn K cd_valid_name "valid_name" = true)
    (k_valid_name : PySem.W.keepIn K (.ref f_valid_name) = true)
    (a_ordered_places : PySem.W.nsIn K mainGlobals "ordered_places" = some (some (.ref f_ordered_places)))
    (l_ordered_places : K.lookup f_ordered_places = some ⟨oc_ordered_places, od_ordered_places, .func (PySem.W.fnOf "ordered_places" "ordered_places" (defArgs s_ordered_places) (defBody s_ordered_places) (defScope s_ordered_places) .none kV_ordered_places dc_ordered_places pm_ordered_places an_ordered_places cd_ordered_places ct_ordered_places), sl_ordered_places⟩)
    (c_ordered_places : PySem.W.codeIn K cd_ordered_places "ordered_places" = true)
    (k_ordered_places : PySem.W.keepIn K (.ref f_ordered_places) = true)
    (a_places_behind : PySem.W.nsIn K mainGlobals "places_behind" = some (some (.ref f_places_behind)))
    (l_places_behind : K.lookup f_places_behind = some ⟨oc_places_behind, od_places_behind, .func (PySem.W.fnOf "places_behind" "places_behind" (defArgs s_places_behind) (defBody s_places_behind) (defScope s_places_behind) .none kV_places_behind dc_places_behind pm_places_behind an_places_behind cd_places_behind ct_places_behind), sl_places_behind⟩)
    (c_places_behind : PySem.W.codeIn K cd_places_behind "places_behind" = true)
    (k_places_behind : PySem.W.keepIn K (.ref f_places_behind) = true)
    (a_useful_names : PySem.W.nsIn K mainGlobals "useful_names" = some (some (.ref f_useful_names)))
    (l_useful_names : K.lookup f_useful_names = some ⟨oc_useful_names, od_useful_names, .func (PySem.W.fnOf "useful_names" "useful_names" (defArgs s_useful_names) (defBody s_useful_names) (defScope s_useful_names) .none kV_useful_names dc_useful_names pm_useful_names an_useful_names cd_useful_names ct_useful_names), sl_useful_names⟩)
    (c_useful_names : PySem.W.codeIn K cd_useful_names "useful_names" = true)
    (k_useful_names : PySem.W.keepIn K (.ref f_useful_names) = true)
    (a_check_ends : PySem.W.nsIn K mainGlobals "check_ends" = some (some (.ref f_check_ends)))
    (l_check_ends : K.lookup f_check_ends = some ⟨oc_check_ends, od_check_ends, .func (PySem.W.fnOf "check_ends" "check_ends" (defArgs s_check_ends) (defBody s_check_ends) (defScope s_check_ends) .none kV_check_ends dc_check_ends pm_check_ends an_check_ends cd_check_ends ct_check_ends), sl_check_ends⟩)
    (c_check_ends : PySem.W.codeIn K cd_check_ends "check_ends" = true)
    (k_check_ends : PySem.W.keepIn K (.ref f_check_ends) = true)
    (a_check_names : PySem.W.nsIn K mainGlobals "check_names" = some (some (.ref f_check_names)))
    (l_check_names : K.lookup f_check_names = some ⟨oc_check_names, od_check_names, .func (PySem.W.fnOf "check_names" "check_names" (defArgs s_check_names) (defBody s_check_names) (defScope s_check_names) .none kV_check_names dc_check_names pm_check_names an_check_names cd_check_names ct_check_names), sl_check_names⟩)
    (c_check_names : PySem.W.codeIn K cd_check_names "check_names" = true)
    (k_check_names : PySem.W.keepIn K (.ref f_check_names) = true)
    (a_check_rounds : PySem.W.nsIn K mainGlobals "check_rounds" = some (some (.ref f_check_rounds)))
    (l_check_rounds : K.lookup f_check_rounds = some ⟨oc_check_rounds, od_check_rounds, .func (PySem.W.fnOf "check_rounds" "check_rounds" (defArgs s_check_rounds) (defBody s_check_rounds) (defScope s_check_rounds) .none kV_check_rounds dc_check_rounds pm_check_rounds an_check_rounds cd_check_rounds ct_check_rounds), sl_check_rounds⟩)
    (c_check_rounds : PySem.W.codeIn K cd_check_rounds "check_rounds" = true)
    (k_check_rounds : PySem.W.keepIn K (.ref f_check_rounds) = true)
    (a_check_use : PySem.W.nsIn K mainGlobals "check_use" = some (some (.ref f_check_use)))
    (l_check_use : K.lookup f_check_use = some ⟨oc_check_use, od_check_use, .func (PySem.W.fnOf "check_use" "check_use" (defArgs s_check_use) (defBody s_check_use) (defScope s_check_use) .none kV_check_use dc_check_use pm_check_use an_check_use cd_check_use ct_check_use), sl_check_use⟩)
    (c_check_use : PySem.W.codeIn K cd_check_use "check_use" = true)
    (k_check_use : PySem.W.keepIn K (.ref f_check_use) = true)
    (a_start : PySem.W.nsIn K mainGlobals "_law_start" = some (some (.ref f_start)))
    (l_start : K.lookup f_start = some ⟨oc_start, od_start, .func (PySem.W.fnOf "_law_start" "_law_start" (defArgs s_start) (defBody s_start) (defScope s_start) .none kV_start dc_start pm_start an_start cd_start ct_start), sl_start⟩)
    (c_start : PySem.W.codeIn K cd_start "_law_start" = true)
    (k_start : PySem.W.keepIn K (.ref f_start) = true)
    (a_draw : PySem.W.nsIn K mainGlobals "_law_draw" = some (some (.ref f_draw)))
    (l_draw : K.lookup f_draw = some ⟨oc_draw, od_draw, .func (PySem.W.fnOf "_law_draw" "_law_draw" (defArgs s_draw) (defBody s_draw) (defScope s_draw) .none kV_draw dc_draw pm_draw an_draw cd_draw ct_draw), sl_draw⟩)
    (c_draw : PySem.W.codeIn K cd_draw "_law_draw" = true)
    (k_draw : PySem.W.keepIn K (.ref f_draw) = true)
    (a_names : PySem.W.nsIn K mainGlobals "_law_names" = some (some (.ref f_names)))
    (l_names : K.lookup f_names = some ⟨oc_names, od_names, .func (PySem.W.fnOf "_law_names" "_law_names" (defArgs s_names) (defBody s_names) (defScope s_names) .none kV_names dc_names pm_names an_names cd_names ct_names), sl_names⟩)
    (c_names : PySem.W.codeIn K cd_names "_law_names" = true)
    (k_names : PySem.W.keepIn K (.ref f_names) = true)
    (a_grown : PySem.W.nsIn K mainGlobals "_law_grown" = some (some (.ref f_grown)))
    (l_grown : K.lookup f_grown = some ⟨oc_grown, od_grown, .func (PySem.W.fnOf "_law_grown" "_law_grown" (defArgs s_grown) (defBody s_grown) (defScope s_grown) .none kV_grown dc_grown pm_grown an_grown cd_grown ct_grown), sl_grown⟩)
    (c_grown : PySem.W.codeIn K cd_grown "_law_grown" = true)
    (k_grown : PySem.W.keepIn K (.ref f_grown) = true)
    (a_shuffled : PySem.W.nsIn K mainGlobals "_law_shuffled" = some (some (.ref f_shuffled)))
    (l_shuffled : K.lookup f_shuffled = some ⟨oc_shuffled, od_shuffled, .func (PySem.W.fnOf "_law_shuffled" "_law_shuffled" (defArgs s_shuffled) (defBody s_shuffled) (defScope s_shuffled) .none kV_shuffled dc_shuffled pm_shuffled an_shuffled cd_shuffled ct_shuffled), sl_shuffled⟩)
    (c_shuffled : PySem.W.codeIn K cd_shuffled "_law_shuffled" = true)
    (k_shuffled : PySem.W.keepIn K (.ref f_shuffled) = true)
    (a_net : PySem.W.nsIn K mainGlobals "_law_net" = some (some (.ref f_net)))
    (l_net : K.lookup f_net = some ⟨oc_net, od_net, .func (PySem.W.fnOf "_law_net" "_law_net" (defArgs s_net) (defBody s_net) (defScope s_net) .none kV_net dc_net pm_net an_net cd_net ct_net), sl_net⟩)
    (c_net : PySem.W.codeIn K cd_net "_law_net" = true)
    (k_net : PySem.W.keepIn K (.ref f_net) = true)
    (a_after : PySem.W.nsIn K mainGlobals "_law_after" = some (some (.ref f_after)))
    (l_after : K.lookup f_after = some ⟨oc_after, od_after, .func (PySem.W.fnOf "_law_after" "_law_after" (defArgs s_after) (defBody s_after) (defScope s_after) .none kV_after dc_after pm_after an_after cd_after ct_after), sl_after⟩)
    (c_after : PySem.W.codeIn K cd_after "_law_after" = true)
    (k_after : PySem.W.keepIn K (.ref f_after) = true)
    (a_useful : PySem.W.nsIn K mainGlobals "_law_useful" = some (some (.ref f_useful)))
    (l_useful : K.lookup f_useful = some ⟨oc_useful, od_useful, .func (PySem.W.fnOf "_law_useful" "_law_useful" (defArgs s_useful) (defBody s_useful) (defScope s_useful) .none kV_useful dc_useful pm_useful an_useful cd_useful ct_useful), sl_useful⟩)
    (c_useful : PySem.W.codeIn K cd_useful "_law_useful" = true)
    (k_useful : PySem.W.keepIn K (.ref f_useful) = true)
    (a_spots : PySem.W.nsIn K mainGlobals "_law_spots" = some (some (.ref f_spots)))
    (l_spots : K.lookup f_spots = some ⟨oc_spots, od_spots, .func (PySem.W.fnOf "_law_spots" "_law_spots" (defArgs s_spots) (defBody s_spots) (defScope s_spots) .none kV_spots dc_spots pm_spots an_spots cd_spots ct_spots), sl_spots⟩)
    (c_spots : PySem.W.codeIn K cd_spots "_law_spots" = true)
    (k_spots : PySem.W.keepIn K (.ref f_spots) = true)
    (a_rewired : PySem.W.nsIn K mainGlobals "_law_rewired" = some (some (.ref f_rewired)))
    (l_rewired : K.lookup f_rewired = some ⟨oc_rewired, od_rewired, .func (PySem.W.fnOf "_law_rewired" "_law_rewired" (defArgs s_rewired) (defBody s_rewired) (defScope s_rewired) .none kV_rewired dc_rewired pm_rewired an_rewired cd_rewired ct_rewired), sl_rewired⟩)
    (c_rewired : PySem.W.codeIn K cd_rewired "_law_rewired" = true)
    (k_rewired : PySem.W.keepIn K (.ref f_rewired) = true)
    (a_missing : PySem.W.nsIn K mainGlobals "_law_missing" = some (some (.ref f_missing)))
    (l_missing : K.lookup f_missing = some ⟨oc_missing, od_missing, .func (PySem.W.fnOf "_law_missing" "_law_missing" (defArgs s_missing) (defBody s_missing) (defScope s_missing) .none kV_missing dc_missing pm_missing an_missing cd_missing ct_missing), sl_missing⟩)
    (c_missing : PySem.W.codeIn K cd_missing "_law_missing" = true)
    (k_missing : PySem.W.keepIn K (.ref f_missing) = true)
    (a_parts : PySem.W.nsIn K mainGlobals "_law_parts" = some (some (.ref f_parts)))
    (l_parts : K.lookup f_parts = some ⟨oc_parts, od_parts, .func (PySem.W.fnOf "_law_parts" "_law_parts" (defArgs s_parts) (defBody s_parts) (defScope s_parts) .none kV_parts dc_parts pm_parts an_parts cd_parts ct_parts), sl_parts⟩)
    (c_parts : PySem.W.codeIn K cd_parts "_law_parts" = true)
    (k_parts : PySem.W.keepIn K (.ref f_parts) = true)
    (a_exchanged : PySem.W.nsIn K mainGlobals "_law_exchanged" = some (some (.ref f_exchanged)))
    (l_exchanged : K.lookup f_exchanged = some ⟨oc_exchanged, od_exchanged, .func (PySem.W.fnOf "_law_exchanged" "_law_exchanged" (defArgs s_exchanged) (defBody s_exchanged) (defScope s_exchanged) .none kV_exchanged dc_exchanged pm_exchanged an_exchanged cd_exchanged ct_exchanged), sl_exchanged⟩)
    (c_exchanged : PySem.W.codeIn K cd_exchanged "_law_exchanged" = true)
    (k_exchanged : PySem.W.keepIn K (.ref f_exchanged) = true)
    (a_BadName_init : PySem.W.findIn K (.ref f_BadName) "__init__" = some (some (.ref f_BadName_init)))
    (i_BadName_init : PySem.W.isFn K (.ref f_BadName_init) = true)
    (l_BadName_init : K.lookup f_BadName_init = some ⟨oc_BadName_init, od_BadName_init, .func (PySem.W.fnOf "__init__" "BadName.__init__" (defArgs s_BadName_init) (defBody s_BadName_init) (defScope s_BadName_init) .none kV_BadName_init dc_BadName_init pm_BadName_init an_BadName_init cd_BadName_init ct_BadName_init), sl_BadName_init⟩)
    (c_BadName_init : PySem.W.codeIn K cd_BadName_init "BadName.__init__" = true)
    (k_BadName_init : PySem.W.keepIn K (.ref f_BadName_init) = true)
    (a_DuplicateName_init : PySem.W.findIn K (.ref f_DuplicateName) "__init__" = some (some (.ref f_DuplicateName_init)))
    (i_DuplicateName_init : PySem.W.isFn K (.ref f_DuplicateName_init) = true)
    (l_DuplicateName_init : K.lookup f_DuplicateName_init = some ⟨oc_DuplicateName_init, od_DuplicateName_init, .func (PySem.W.fnOf "__init__" "DuplicateName.__init__" (defArgs s_DuplicateName_init) (defBody s_DuplicateName_init) (defScope s_DuplicateName_init) .none kV_DuplicateName_init dc_DuplicateName_init pm_DuplicateName_init an_DuplicateName_init cd_DuplicateName_init ct_DuplicateName_init), sl_DuplicateName_init⟩)
    (c_DuplicateName_init : PySem.W.codeIn K cd_DuplicateName_init "DuplicateName.__init__" = true)
    (k_DuplicateName_init : PySem.W.keepIn K (.ref f_DuplicateName_init) = true)
    (a_UnknownName_init : PySem.W.findIn K (.ref f_UnknownName) "__init__" = some (some (.ref f_UnknownName_init)))
    (i_UnknownName_init : PySem.W.isFn K (.ref f_UnknownName_init) = true)
    (l_UnknownName_init : K.lookup f_UnknownName_init = some ⟨oc_UnknownName_init, od_UnknownName_init, .func (PySem.W.fnOf "__init__" "UnknownName.__init__" (defArgs s_UnknownName_init) (defBody s_UnknownName_init) (defScope s_UnknownName_init) .none kV_UnknownName_init dc_UnknownName_init pm_UnknownName_init an_UnknownName_init cd_UnknownName_init ct_UnknownName_init), sl_UnknownName_init⟩)
    (c_UnknownName_init : PySem.W.codeIn K cd_UnknownName_init "UnknownName.__init__" = true)
    (k_UnknownName_init : PySem.W.keepIn K (.ref f_UnknownName_init) = true)
    (a_BadCount_init : PySem.W.findIn K (.ref f_BadCount) "__init__" = some (some (.ref f_BadCount_init)))
    (i_BadCount_init : PySem.W.isFn K (.ref f_BadCount_init) = true)
    (l_BadCount_init : K.lookup f_BadCount_init = some ⟨oc_BadCount_init, od_BadCount_init, .func (PySem.W.fnOf "__init__" "BadCount.__init__" (defArgs s_BadCount_init) (defBody s_BadCount_init) (defScope s_BadCount_init) .none kV_BadCount_init dc_BadCount_init pm_BadCount_init an_BadCount_init cd_BadCount_init ct_BadCount_init), sl_BadCount_init⟩)
    (c_BadCount_init : PySem.W.codeIn K cd_BadCount_init "BadCount.__init__" = true)
    (k_BadCount_init : PySem.W.keepIn K (.ref f_BadCount_init) = true)
    (a_HasRound_init : PySem.W.findIn K (.ref f_HasRound) "__init__" = some (some (.ref f_HasRound_init)))
    (i_HasRound_init : PySem.W.isFn K (.ref f_HasRound_init) = true)
    (l_HasRound_init : K.lookup f_HasRound_init = some ⟨oc_HasRound_init, od_HasRound_init, .func (PySem.W.fnOf "__init__" "HasRound.__init__" (defArgs s_HasRound_init) (defBody s_HasRound_init) (defScope s_HasRound_init) .none kV_HasRound_init dc_HasRound_init pm_HasRound_init an_HasRound_init cd_HasRound_init ct_HasRound_init), sl_HasRound_init⟩)
    (c_HasRound_init : PySem.W.codeIn K cd_HasRound_init "HasRound.__init__" = true)
    (k_HasRound_init : PySem.W.keepIn K (.ref f_HasRound_init) = true)
    (a_UselessLink_init : PySem.W.findIn K (.ref f_UselessLink) "__init__" = some (some (.ref f_UselessLink_init)))
    (i_UselessLink_init : PySem.W.isFn K (.ref f_UselessLink_init) = true)
    (l_UselessLink_init : K.lookup f_UselessLink_init = some ⟨oc_UselessLink_init, od_UselessLink_init, .func (PySem.W.fnOf "__init__" "UselessLink.__init__" (defArgs s_UselessLink_init) (defBody s_UselessLink_init) (defScope s_UselessLink_init) .none kV_UselessLink_init dc_UselessLink_init pm_UselessLink_init an_UselessLink_init cd_UselessLink_init ct_UselessLink_init), sl_UselessLink_init⟩)
    (c_UselessLink_init : PySem.W.codeIn K cd_UselessLink_init "UselessLink.__init__" = true)
    (k_UselessLink_init : PySem.W.keepIn K (.ref f_UselessLink_init) = true)
    (a_Network_init : PySem.W.findIn K (.ref f_Network) "__init__" = some (some (.ref f_Network_init)))
    (i_Network_init : PySem.W.isFn K (.ref f_Network_init) = true)
    (l_Network_init : K.lookup f_Network_init = some ⟨oc_Network_init, od_Network_init, .func (PySem.W.fnOf "__init__" "Network.__init__" (defArgs s_Network_init) (defBody s_Network_init) (defScope s_Network_init) .none kV_Network_init dc_Network_init pm_Network_init an_Network_init cd_Network_init ct_Network_init), sl_Network_init⟩)
    (c_Network_init : PySem.W.codeIn K cd_Network_init "Network.__init__" = true)
    (k_Network_init : PySem.W.keepIn K (.ref f_Network_init) = true)
    (a_Network_start : PySem.W.findIn K (.ref f_Network) "start" = some (some (.ref p_Network_start)))
    (pg_Network_start : PySem.W.specialIn K (.ref p_Network_start) "__get__" = some (some (.builtin "property.__get__")))
    (pt_Network_start : PySem.W.takesIn K (.ref p_Network_start) = some true)
    (pr_Network_start : PySem.W.recIn K p_Network_start "property" = some (.ref f_Network_start :: rs_Network_start))
    (l_Network_start : K.lookup f_Network_start = some ⟨oc_Network_start, od_Network_start, .func (PySem.W.fnOf "start" "Network.start" (defArgs s_Network_start) (defBody s_Network_start) (defScope s_Network_start) .none kV_Network_start dc_Network_start pm_Network_start an_Network_start cd_Network_start ct_Network_start), sl_Network_start⟩)
    (c_Network_start : PySem.W.codeIn K cd_Network_start "Network.start" = true)
    (k_Network_start : PySem.W.keepIn K (.ref f_Network_start) = true)
    (a_Network_end : PySem.W.findIn K (.ref f_Network) "end" = some (some (.ref p_Network_end)))
    (pg_Network_end : PySem.W.specialIn K (.ref p_Network_end) "__get__" = some (some (.builtin "property.__get__")))
    (pt_Network_end : PySem.W.takesIn K (.ref p_Network_end) = some true)
    (pr_Network_end : PySem.W.recIn K p_Network_end "property" = some (.ref f_Network_end :: rs_Network_end))
    (l_Network_end : K.lookup f_Network_end = some ⟨oc_Network_end, od_Network_end, .func (PySem.W.fnOf "end" "Network.end" (defArgs s_Network_end) (defBody s_Network_end) (defScope s_Network_end) .none kV_Network_end dc_Network_end pm_Network_end an_Network_end cd_Network_end ct_Network_end), sl_Network_end⟩)
    (c_Network_end : PySem.W.codeIn K cd_Network_end "Network.end" = true)
    (k_Network_end : PySem.W.keepIn K (.ref f_Network_end) = true)
    (a_Network_names : PySem.W.findIn K (.ref f_Network) "names" = some (some (.ref p_Network_names)))
    (pg_Network_names : PySem.W.specialIn K (.ref p_Network_names) "__get__" = some (some (.builtin "property.__get__")))
    (pt_Network_names : PySem.W.takesIn K (.ref p_Network_names) = some true)
    (pr_Network_names : PySem.W.recIn K p_Network_names "property" = some (.ref f_Network_names :: rs_Network_names))
    (l_Network_names : K.lookup f_Network_names = some ⟨oc_Network_names, od_Network_names, .func (PySem.W.fnOf "names" "Network.names" (defArgs s_Network_names) (defBody s_Network_names) (defScope s_Network_names) .none kV_Network_names dc_Network_names pm_Network_names an_Network_names cd_Network_names ct_Network_names), sl_Network_names⟩)
    (c_Network_names : PySem.W.codeIn K cd_Network_names "Network.names" = true)
    (k_Network_names : PySem.W.keepIn K (.ref f_Network_names) = true)
    (a_Network_places : PySem.W.findIn K (.ref f_Network) "places" = some (some (.ref p_Network_places)))
    (pg_Network_places : PySem.W.specialIn K (.ref p_Network_places) "__get__" = some (some (.builtin "property.__get__")))
    (pt_Network_places : PySem.W.takesIn K (.ref p_Network_places) = some true)
    (pr_Network_places : PySem.W.recIn K p_Network_places "property" = some (.ref f_Network_places :: rs_Network_places))
    (l_Network_places : K.lookup f_Network_places = some ⟨oc_Network_places, od_Network_places, .func (PySem.W.fnOf "places" "Network.places" (defArgs s_Network_places) (defBody s_Network_places) (defScope s_Network_places) .none kV_Network_places dc_Network_places pm_Network_places an_Network_places cd_Network_places ct_Network_places), sl_Network_places⟩)
    (c_Network_places : PySem.W.codeIn K cd_Network_places "Network.places" = true)
    (k_Network_places : PySem.W.keepIn K (.ref f_Network_places) = true)
    (a_Network_triples : PySem.W.findIn K (.ref f_Network) "triples" = some (some (.ref f_Network_triples)))
    (i_Network_triples : PySem.W.isFn K (.ref f_Network_triples) = true)
    (l_Network_triples : K.lookup f_Network_triples = some ⟨oc_Network_triples, od_Network_triples, .func (PySem.W.fnOf "triples" "Network.triples" (defArgs s_Network_triples) (defBody s_Network_triples) (defScope s_Network_triples) .none kV_Network_triples dc_Network_triples pm_Network_triples an_Network_triples cd_Network_triples ct_Network_triples), sl_Network_triples⟩)
    (c_Network_triples : PySem.W.codeIn K cd_Network_triples "Network.triples" = true)
    (k_Network_triples : PySem.W.keepIn K (.ref f_Network_triples) = true)
    (a_Network_getitem : PySem.W.findIn K (.ref f_Network) "__getitem__" = some (some (.ref f_Network_getitem)))
    (i_Network_getitem : PySem.W.isFn K (.ref f_Network_getitem) = true)
    (l_Network_getitem : K.lookup f_Network_getitem = some ⟨oc_Network_getitem, od_Network_getitem, .func (PySem.W.fnOf "__getitem__" "Network.__getitem__" (defArgs s_Network_getitem) (defBody s_Network_getitem) (defScope s_Network_getitem) .none kV_Network_getitem dc_Network_getitem pm_Network_getitem an_Network_getitem cd_Network_getitem ct_Network_getitem), sl_Network_getitem⟩)
    (c_Network_getitem : PySem.W.codeIn K cd_Network_getitem "Network.__getitem__" = true)
    (k_Network_getitem : PySem.W.keepIn K (.ref f_Network_getitem) = true)
    (a_Network_contains : PySem.W.findIn K (.ref f_Network) "__contains__" = some (some (.ref f_Network_contains)))
    (i_Network_contains : PySem.W.isFn K (.ref f_Network_contains) = true)
    (l_Network_contains : K.lookup f_Network_contains = some ⟨oc_Network_contains, od_Network_contains, .func (PySem.W.fnOf "__contains__" "Network.__contains__" (defArgs s_Network_contains) (defBody s_Network_contains) (defScope s_Network_contains) .none kV_Network_contains dc_Network_contains pm_Network_contains an_Network_contains cd_Network_contains ct_Network_contains), sl_Network_contains⟩)
    (c_Network_contains : PySem.W.codeIn K cd_Network_contains "Network.__contains__" = true)
    (k_Network_contains : PySem.W.keepIn K (.ref f_Network_contains) = true)
    (a_Network_len : PySem.W.findIn K (.ref f_Network) "__len__" = some (some (.ref f_Network_len)))
    (i_Network_len : PySem.W.isFn K (.ref f_Network_len) = true)
    (l_Network_len : K.lookup f_Network_len = some ⟨oc_Network_len, od_Network_len, .func (PySem.W.fnOf "__len__" "Network.__len__" (defArgs s_Network_len) (defBody s_Network_len) (defScope s_Network_len) .none kV_Network_len dc_Network_len pm_Network_len an_Network_len cd_Network_len ct_Network_len), sl_Network_len⟩)
    (c_Network_len : PySem.W.codeIn K cd_Network_len "Network.__len__" = true)
    (k_Network_len : PySem.W.keepIn K (.ref f_Network_len) = true)
    (a_Network_eq : PySem.W.findIn K (.ref f_Network) "__eq__" = some (some (.ref f_Network_eq)))
    (i_Network_eq : PySem.W.isFn K (.ref f_Network_eq) = true)
    (l_Network_eq : K.lookup f_Network_eq = some ⟨oc_Network_eq, od_Network_eq, .func (PySem.W.fnOf "__eq__" "Network.__eq__" (defArgs s_Network_eq) (defBody s_Network_eq) (defScope s_Network_eq) .none kV_Network_eq dc_Network_eq pm_Network_eq an_Network_eq cd_Network_eq ct_Network_eq), sl_Network_eq⟩)
    (c_Network_eq : PySem.W.codeIn K cd_Network_eq "Network.__eq__" = true)
    (k_Network_eq : PySem.W.keepIn K (.ref f_Network_eq) = true)
    (a_Network_str : PySem.W.findIn K (.ref f_Network) "__str__" = some (some (.ref f_Network_str)))
    (i_Network_str : PySem.W.isFn K (.ref f_Network_str) = true)
    (l_Network_str : K.lookup f_Network_str = some ⟨oc_Network_str, od_Network_str, .func (PySem.W.fnOf "__str__" "Network.__str__" (defArgs s_Network_str) (defBody s_Network_str) (defScope s_Network_str) .none kV_Network_str dc_Network_str pm_Network_str an_Network_str cd_Network_str ct_Network_str), sl_Network_str⟩)
    (c_Network_str : PySem.W.codeIn K cd_Network_str "Network.__str__" = true)
    (k_Network_str : PySem.W.keepIn K (.ref f_Network_str) = true)
    (ot_Network_int : PySem.W.subIn K (.ref f_Network) (.type "int") = some false)
    (ot_Network_str : PySem.W.subIn K (.ref f_Network) (.type "str") = some false)
    (ot_Network_NoneType : PySem.W.subIn K (.ref f_Network) (.type "NoneType") = some false)
    (ot_Network_tuple : PySem.W.subIn K (.ref f_Network) (.type "tuple") = some false)
    (ot_Network_list : PySem.W.subIn K (.ref f_Network) (.type "list") = some false)
    (ne_Network : PySem.W.findIn K (.ref f_Network) "__ne__" = some (some (.builtin "object.__ne__")))
    (ob_Network : PySem.W.subIn K (.ref f_Network) (.type "object") = some true)
    (rd_Network : PySem.W.readsIn K f_Network (.type "type") = true)
    (ga_Network : PySem.W.specialIn K (.ref f_Network) "__getattribute__" = some (some (.builtin "type.__getattribute__")))
    (cw_Network_MOST_LINKS : PySem.W.findCls K (.ref f_Network) (.type "type") "MOST_LINKS" = some (.val (.int 10 tv_Network_MOST_LINKS)))
    (cw_Network_MOST_PLACES : PySem.W.findCls K (.ref f_Network) (.type "type") "MOST_PLACES" = some (.val (.int 8 tv_Network_MOST_PLACES)))
    (fi_Network_getitem : PySem.W.fnIn K f_Network_getitem = true)
    (ns_Network_getitem : PySem.W.noSeq K f_Network = true)
    (fi_Network_contains : PySem.W.fnIn K f_Network_contains = true)
    (ns_Network_contains : PySem.W.noSeq K f_Network = true)
    (fi_Network_len : PySem.W.fnIn K f_Network_len = true)
    (ns_Network_len : PySem.W.noSeq K f_Network = true)
    (x_BadName : ∃ nm q N bs bm sn sub ab col dd k0 k1 k2 k3 k5, K.lookup f_BadName = some (excClassObj nm q f_BadName N bs bm true sn sub ab col dd k0 k1 k2 k3 k5 "ValueError.__new__") ∧ PySem.HandSPX.refsVE bm = true)
    (xs_BadName : PySem.W.findIn K (.ref f_BadName) "__setattr__" = some (some (.builtin "object.__setattr__")))
    (xe_BadName : PySem.W.subIn K (.ref f_BadName) (.type "BaseException") = some true)
    (xt_BadName : PySem.W.typeIn K (.ref f_BadName) = some (.type "type"))
    (xk_BadName : PySem.W.keepIn K (.ref f_BadName) = true)
    (xg_BadName : PySem.W.findIn K (.ref f_BadName) "__getattribute__" = some (some (.builtin "BaseException.__getattribute__")))
    (xh_BadName : PySem.W.findIn K (.ref f_BadName) "__getattr__" = some none)
    (xd_BadName : PySem.W.hasDictIn K f_BadName = true)
    (xc_BadName : PySem.W.findIn K (.ref f_BadName) "__class__" = some (some (.builtin "object.__class__")))
    (xm_BadName : PySem.W.mroIn K f_BadName (.type "object") = some true)
    (xi_BadName : PySem.W.isClsIn K f_BadName = true)
    (xf_BadName : PySem.W.typeIn K (.ref f_BadName_init) = some (.type "function"))
    (no_BadName_name : PySem.W.findIn K (.ref f_BadName) "name" = some none)
    (x_DuplicateName : ∃ nm q N bs bm sn sub ab col dd k0 k1 k2 k3 k5, K.lookup f_DuplicateName = some (excClassObj nm q f_DuplicateName N bs bm true sn sub ab col dd k0 k1 k2 k3 k5 "ValueError.__new__") ∧ PySem.HandSPX.refsVE bm = true)
    (xs_DuplicateName : PySem.W.findIn K (.ref f_DuplicateName) "__setattr__" = some (some (.builtin "object.__setattr__")))
    (xe_DuplicateName : PySem.W.subIn K (.ref f_DuplicateName) (.type "BaseException") = some true)
    (xt_DuplicateName : PySem.W.typeIn K (.ref f_DuplicateName) = some (.type "type"))
    (xk_DuplicateName : PySem.W.keepIn K (.ref f_DuplicateName) = true)
    (xg_DuplicateName : PySem.W.findIn K (.ref f_DuplicateName) "__getattribute__" = some (some (.builtin "BaseException.__getattribute__")))
    (xh_DuplicateName : PySem.W.findIn K (.ref f_DuplicateName) "__getattr__" = some none)
    (xd_DuplicateName : PySem.W.hasDictIn K f_DuplicateName = true)
    (xc_DuplicateName : PySem.W.findIn K (.ref f_DuplicateName) "__class__" = some (some (.builtin "object.__class__")))
    (xm_DuplicateName : PySem.W.mroIn K f_DuplicateName (.type "object") = some true)
    (xi_DuplicateName : PySem.W.isClsIn K f_DuplicateName = true)
    (xf_DuplicateName : PySem.W.typeIn K (.ref f_DuplicateName_init) = some (.type "function"))
    (no_DuplicateName_name : PySem.W.findIn K (.ref f_DuplicateName) "name" = some none)
    (x_UnknownName : ∃ nm q N bs bm sn sub ab col dd k0 k1 k2 k3 k5, K.lookup f_UnknownName = some (excClassObj nm q f_UnknownName N bs bm true sn sub ab col dd k0 k1 k2 k3 k5 "ValueError.__new__") ∧ PySem.HandSPX.refsVE bm = true)
    (xs_UnknownName : PySem.W.findIn K (.ref f_UnknownName) "__setattr__" = some (some (.builtin "object.__setattr__")))
    (xe_UnknownName : PySem.W.subIn K (.ref f_UnknownName) (.type "BaseException") = some true)
    (xt_UnknownName : PySem.W.typeIn K (.ref f_UnknownName) = some (.type "type"))
    (xk_UnknownName : PySem.W.keepIn K (.ref f_UnknownName) = true)
    (xg_UnknownName : PySem.W.findIn K (.ref f_UnknownName) "__getattribute__" = some (some (.builtin "BaseException.__getattribute__")))
    (xh_UnknownName : PySem.W.findIn K (.ref f_UnknownName) "__getattr__" = some none)
    (xd_UnknownName : PySem.W.hasDictIn K f_UnknownName = true)
    (xc_UnknownName : PySem.W.findIn K (.ref f_UnknownName) "__class__" = some (some (.builtin "object.__class__")))
    (xm_UnknownName : PySem.W.mroIn K f_UnknownName (.type "object") = some true)
    (xi_UnknownName : PySem.W.isClsIn K f_UnknownName = true)
    (xf_UnknownName : PySem.W.typeIn K (.ref f_UnknownName_init) = some (.type "function"))
    (no_UnknownName_name : PySem.W.findIn K (.ref f_UnknownName) "name" = some none)
    (x_BadCount : ∃ nm q N bs bm sn sub ab col dd k0 k1 k2 k3 k5, K.lookup f_BadCount = some (excClassObj nm q f_BadCount N bs bm true sn sub ab col dd k0 k1 k2 k3 k5 "ValueError.__new__") ∧ PySem.HandSPX.refsVE bm = true)
    (xs_BadCount : PySem.W.findIn K (.ref f_BadCount) "__setattr__" = some (some (.builtin "object.__setattr__")))
    (xe_BadCount : PySem.W.subIn K (.ref f_BadCount) (.type "BaseException") = some true)
    (xt_BadCount : PySem.W.typeIn K (.ref f_BadCount) = some (.type "type"))
    (xk_BadCount : PySem.W.keepIn K (.ref f_BadCount) = true)
    (xg_BadCount : PySem.W.findIn K (.ref f_BadCount) "__getattribute__" = some (some (.builtin "BaseException.__getattribute__")))
    (xh_BadCount : PySem.W.findIn K (.ref f_BadCount) "__getattr__" = some none)
    (xd_BadCount : PySem.W.hasDictIn K f_BadCount = true)
    (xc_BadCount : PySem.W.findIn K (.ref f_BadCount) "__class__" = some (some (.builtin "object.__class__")))
    (xm_BadCount : PySem.W.mroIn K f_BadCount (.type "object") = some true)
    (xi_BadCount : PySem.W.isClsIn K f_BadCount = true)
    (xf_BadCount : PySem.W.typeIn K (.ref f_BadCount_init) = some (.type "function"))
    (no_BadCount_count : PySem.W.findIn K (.ref f_BadCount) "count" = some none)
    (x_HasRound : ∃ nm q N bs bm sn sub ab col dd k0 k1 k2 k3 k5, K.lookup f_HasRound = some (excClassObj nm q f_HasRound N bs bm true sn sub ab col dd k0 k1 k2 k3 k5 "ValueError.__new__") ∧ PySem.HandSPX.refsVE bm = true)
    (xs_HasRound : PySem.W.findIn K (.ref f_HasRound) "__setattr__" = some (some (.builtin "object.__setattr__")))
    (xe_HasRound : PySem.W.subIn K (.ref f_HasRound) (.type "BaseException") = some true)
    (xt_HasRound : PySem.W.typeIn K (.ref f_HasRound) = some (.type "type"))
    (xk_HasRound : PySem.W.keepIn K (.ref f_HasRound) = true)
    (xg_HasRound : PySem.W.findIn K (.ref f_HasRound) "__getattribute__" = some (some (.builtin "BaseException.__getattribute__")))
    (xh_HasRound : PySem.W.findIn K (.ref f_HasRound) "__getattr__" = some none)
    (xd_HasRound : PySem.W.hasDictIn K f_HasRound = true)
    (xc_HasRound : PySem.W.findIn K (.ref f_HasRound) "__class__" = some (some (.builtin "object.__class__")))
    (xm_HasRound : PySem.W.mroIn K f_HasRound (.type "object") = some true)
    (xi_HasRound : PySem.W.isClsIn K f_HasRound = true)
    (xf_HasRound : PySem.W.typeIn K (.ref f_HasRound_init) = some (.type "function"))
    (no_HasRound_name : PySem.W.findIn K (.ref f_HasRound) "name" = some none)
    (x_UselessLink : ∃ nm q N bs bm sn sub ab col dd k0 k1 k2 k3 k5, K.lookup f_UselessLink = some (excClassObj nm q f_UselessLink N bs bm true sn sub ab col dd k0 k1 k2 k3 k5 "ValueError.__new__") ∧ PySem.HandSPX.refsVE bm = true)
    (xs_UselessLink : PySem.W.findIn K (.ref f_UselessLink) "__setattr__" = some (some (.builtin "object.__setattr__")))
    (xe_UselessLink : PySem.W.subIn K (.ref f_UselessLink) (.type "BaseException") = some true)
    (xt_UselessLink : PySem.W.typeIn K (.ref f_UselessLink) = some (.type "type"))
    (xk_UselessLink : PySem.W.keepIn K (.ref f_UselessLink) = true)
    (xg_UselessLink : PySem.W.findIn K (.ref f_UselessLink) "__getattribute__" = some (some (.builtin "BaseException.__getattribute__")))
    (xh_UselessLink : PySem.W.findIn K (.ref f_UselessLink) "__getattr__" = some none)
    (xd_UselessLink : PySem.W.hasDictIn K f_UselessLink = true)
    (xc_UselessLink : PySem.W.findIn K (.ref f_UselessLink) "__class__" = some (some (.builtin "object.__class__")))
    (xm_UselessLink : PySem.W.mroIn K f_UselessLink (.type "object") = some true)
    (xi_UselessLink : PySem.W.isClsIn K f_UselessLink = true)
    (xf_UselessLink : PySem.W.typeIn K (.ref f_UselessLink_init) = some (.type "function"))
    (no_UselessLink_name : PySem.W.findIn K (.ref f_UselessLink) "name" = some none)
    (es_UnknownName_UnknownName : PySem.W.subIn K (.ref f_UnknownName) (.ref f_UnknownName) = some true)
    (q_DIGITS : PySem.W.nsIn K mainGlobals "DIGITS" = some (some (.str ("0123456789" : Str) t_DIGITS)))
    (q_LETTERS : PySem.W.nsIn K mainGlobals "LETTERS" = some (some (.str ("abcdefghijklmnopqrstuvwxyz" : Str) t_LETTERS)))
    (q_LONGEST_NAME : PySem.W.nsIn K mainGlobals "LONGEST_NAME" = some (some (.int 6 t_LONGEST_NAME)))
    (z_abs : PySem.W.nsIn K mainGlobals "abs" = some none)
    (z_all : PySem.W.nsIn K mainGlobals "all" = some none)
    (z_int : PySem.W.nsIn K mainGlobals "int" = some none)
    (z_isinstance : PySem.W.nsIn K mainGlobals "isinstance" = some none)
    (z_len : PySem.W.nsIn K mainGlobals "len" = some none)
    (z_list : PySem.W.nsIn K mainGlobals "list" = some none)
    (z_range : PySem.W.nsIn K mainGlobals "range" = some none)
    (z_set : PySem.W.nsIn K mainGlobals "set" = some none)
    (z_sorted : PySem.W.nsIn K mainGlobals "sorted" = some none)
    (z_str : PySem.W.nsIn K mainGlobals "str" = some none)
    (z_tuple : PySem.W.nsIn K mainGlobals "tuple" = some none)
    (a_law : PySem.W.nsIn K mainGlobals "law" = some (some (.ref f_law)))
    (l_law : K.lookup f_law = some ⟨oc_law, od_law, .func (PySem.W.fnOf "law" "law" (defArgs s_law) (defBody s_law) (defScope s_law) .none kV_law dc_law pm_law an_law cd_law ct_law), sl_law⟩)
    (c_law : PySem.W.codeIn K cd_law "law" = true)
    (k_law : PySem.W.keepIn K (.ref f_law) = true)
    : ∃ fd : FuncData, (∀ (s : Shared) (v : Value), BindsTo s fd ⟨[v], []⟩ [("_law_script", v)]) ∧ ∀ base : Heap, K.In base → base.Ns mainGlobals mg → FnOk l.prog w K mg base CX0 7 fa fd ["_law_script"] (spLaw K) := by
  have e := hfa.symm.trans (PySem.W.mg_of X G a_law)
  cases e
  have T : Txt K mg := {
    f_BadName := f_BadName,
    m_BadName := PySem.W.mg_of X G a_BadName,
    f_DuplicateName := f_DuplicateName,
    m_DuplicateName := PySem.W.mg_of X G a_DuplicateName,
    f_UnknownName := f_UnknownName,
    m_UnknownName := PySem.W.mg_of X G a_UnknownName,
    f_BadCount := f_BadCount,
    m_BadCount := PySem.W.mg_of X G a_BadCount,
    f_HasRound := f_HasRound,
    m_HasRound := PySem.W.mg_of X G a_HasRound,
    f_UselessLink := f_UselessLink,
    m_UselessLink := PySem.W.mg_of X G a_UselessLink,
    f_Network := f_Network,
    m_Network := PySem.W.mg_of X G a_Network,
    cl_Network := ⟨pg_Network, hd_Network, po_Network, sa_Network⟩,
    ic_Network := ⟨⟨pg_Network, hd_Network, po_Network, sa_Network⟩, hc_Network, hn_class, ht_class, mo_Network, kit_self⟩,
    na_Network_start := na_Network_start,
    na_Network_end := na_Network_end,
    na_Network_links := na_Network_links,
    na_Network_places := na_Network_places,
    na_Network_behind := na_Network_behind,
    sn_Network_str := su_Network_str,
    ki_Network_str := kit_not ic_Network ty_Network su_Network_str (fun z => nomatch z),
    f_valid_name := f_valid_name,
    d_valid_name := PySem.W.fnOf "valid_name" "valid_name" (defArgs s_valid_name) (defBody s_valid_name) (defScope s_valid_name) .none kV_valid_name dc_valid_name pm_valid_name an_valid_name cd_valid_name ct_valid_name,
    F_valid_name := fun_mk (st := s_valid_name) l_valid_name c_valid_name k_valid_name,
    b_valid_name := (fun_mk (st := s_valid_name) l_valid_name c_valid_name k_valid_name).binds (ps := ["text"]) fun _ _ _ _ _ _ us hl => match us, hl with | [_], _ => rfl,
    m_valid_name := PySem.W.mg_of X G a_valid_name,
    f_ordered_places := f_ordered_places,
    d_ordered_places := PySem.W.fnOf "ordered_places" "ordered_places" (defArgs s_ordered_places) (defBody s_ordered_places) (defScope s_ordered_places) .none kV_ordered_places dc_ordered_places pm_ordered_places an_ordered_places cd_ordered_places ct_ordered_places,
    F_ordered_places := fun_mk (st := s_ordered_places) l_ordered_places c_ordered_places k_ordered_places,
    b_ordered_places := (fun_mk (st := s_ordered_places) l_ordered_places c_ordered_places k_ordered_places).binds (ps := ["table", "start", "end"]) fun _ _ _ _ _ _ us hl => match us, hl with | [_, _, _], _ => rfl,
    m_ordered_places := PySem.W.mg_of X G a_ordered_places,
    f_places_behind := f_places_behind,
    d_places_behind := PySem.W.fnOf "places_behind" "places_behind" (defArgs s_places_behind) (defBody s_places_behind) (defScope s_places_behind) .none kV_places_behind dc_places_behind pm_places_behind an_places_behind cd_places_behind ct_places_behind,
    F_places_behind := fun_mk (st := s_places_behind) l_places_behind c_places_behind k_places_behind,
    b_places_behind := (fun_mk (st := s_places_behind) l_places_behind c_places_behind k_places_behind).binds (ps := ["table", "first"]) fun _ _ _ _ _ _ us hl => match us, hl with | [_, _], _ => rfl,
    m_places_behind := PySem.W.mg_of X G a_places_behind,
    f_useful_names := f_useful_names,
    d_useful_names := PySem.W.fnOf "useful_names" "useful_names" (defArgs s_useful_names) (defBody s_useful_names) (defScope s_useful_names) .none kV_useful_names dc_useful_names pm_useful_names an_useful_names cd_useful_names ct_useful_names,
    F_useful_names := fun_mk (st := s_useful_names) l_useful_names c_useful_names k_useful_names,
    b_useful_names := (fun_mk (st := s_useful_names) l_useful_names c_useful_names k_useful_names).binds (ps := ["table", "start", "end"]) fun _ _ _ _ _ _ us hl => match us, hl with | [_, _, _], _ => rfl,
    m_useful_names := PySem.W.mg_of X G a_useful_names,
    f_check_ends := f_check_ends,
    d_check_ends := PySem.W.fnOf "check_ends" "check_ends" (defArgs s_check_ends) (defBody s_check_ends) (defScope s_check_ends) .none kV_check_ends dc_check_ends pm_check_ends an_check_ends cd_check_ends ct_check_ends,
    F_check_ends := fun_mk (st := s_check_ends) l_check_ends c_check_ends k_check_ends,
    b_check_ends := (fun_mk (st := s_check_ends) l_check_ends c_check_ends k_check_ends).binds (ps := ["start", "end"]) fun _ _ _ _ _ _ us hl => match us, hl with | [_, _], _ => rfl,
    m_check_ends := PySem.W.mg_of X G a_check_ends,
    f_check_names := f_check_names,
    d_check_names := PySem.W.fnOf "check_names" "check_names" (defArgs s_check_names) (defBody s_check_names) (defScope s_check_names) .none kV_check_names dc_check_names pm_check_names an_check_names cd_check_names ct_check_names,
    F_check_names := fun_mk (st := s_check_names) l_check_names c_check_names k_check_names,
    b_check_names := (fun_mk (st := s_check_names) l_check_names c_check_names k_check_names).binds (ps := ["links"]) fun _ _ _ _ _ _ us hl => match us, hl with | [_], _ => rfl,
    m_check_names := PySem.W.mg_of X G a_check_names,
    f_check_rounds := f_check_rounds,
    d_check_rounds := PySem.W.fnOf "check_rounds" "check_rounds" (defArgs s_check_rounds) (defBody s_check_rounds) (defScope s_check_rounds) .none kV_check_rounds dc_check_rounds pm_check_rounds an_check_rounds cd_check_rounds ct_check_rounds,
    F_check_rounds := fun_mk (st := s_check_rounds) l_check_rounds c_check_rounds k_check_rounds,
    b_check_rounds := (fun_mk (st := s_check_rounds) l_check_rounds c_check_rounds k_check_rounds).binds (ps := ["table"]) fun _ _ _ _ _ _ us hl => match us, hl with | [_], _ => rfl,
    m_check_rounds := PySem.W.mg_of X G a_check_rounds,
    f_check_use := f_check_use,
    d_check_use := PySem.W.fnOf "check_use" "check_use" (defArgs s_check_use) (defBody s_check_use) (defScope s_check_use) .none kV_check_use dc_check_use pm_check_use an_check_use cd_check_use ct_check_use,
    F_check_use := fun_mk (st := s_check_use) l_check_use c_check_use k_check_use,
    b_check_use := (fun_mk (st := s_check_use) l_check_use c_check_use k_check_use).binds (ps := ["table", "start", "end"]) fun _ _ _ _ _ _ us hl => match us, hl with | [_, _, _], _ => rfl,
    m_check_use := PySem.W.mg_of X G a_check_use,
    f_start := f_start,
    d_start := PySem.W.fnOf "_law_start" "_law_start" (defArgs s_start) (defBody s_start) (defScope s_start) .none kV_start dc_start pm_start an_start cd_start ct_start,
    F_start := fun_mk (st := s_start) l_start c_start k_start,
    b_start := (fun_mk (st := s_start) l_start c_start k_start).binds (ps := ["_law_script"]) fun _ _ _ _ _ _ us hl => match us, hl with | [_], _ => rfl,
    m_start := PySem.W.mg_of X G a_start,
    f_draw := f_draw,
    d_draw := PySem.W.fnOf "_law_draw" "_law_draw" (defArgs s_draw) (defBody s_draw) (defScope s_draw) .none kV_draw dc_draw pm_draw an_draw cd_draw ct_draw,
    F_draw := fun_mk (st := s_draw) l_draw c_draw k_draw,
    b_draw := (fun_mk (st := s_draw) l_draw c_draw k_draw).binds (ps := ["_law_state", "_law_size"]) fun _ _ _ _ _ _ us hl => match us, hl with | [_, _], _ => rfl,
    m_draw := PySem.W.mg_of X G a_draw,
    f_names := f_names,
    d_names := PySem.W.fnOf "_law_names" "_law_names" (defArgs s_names) (defBody s_names) (defScope s_names) .none kV_names dc_names pm_names an_names cd_names ct_names,
    F_names := fun_mk (st := s_names) l_names c_names k_names,
    b_names := (fun_mk (st := s_names) l_names c_names k_names).binds (ps := ["_law_state", "_law_count"]) fun _ _ _ _ _ _ us hl => match us, hl with | [_, _], _ => rfl,
    m_names := PySem.W.mg_of X G a_names,
    f_grown := f_grown,
    d_grown := PySem.W.fnOf "_law_grown" "_law_grown" (defArgs s_grown) (defBody s_grown) (defScope s_grown) .none kV_grown dc_grown pm_grown an_grown cd_grown ct_grown,
    F_grown := fun_mk (st := s_grown) l_grown c_grown k_grown,
    b_grown := (fun_mk (st := s_grown) l_grown c_grown k_grown).binds (ps := ["_law_state", "_law_turns", "_law_cross", "_law_most"]) fun _ _ _ _ _ _ us hl => match us, hl with | [_, _, _, _], _ => rfl,
    m_grown := PySem.W.mg_of X G a_grown,
    f_shuffled := f_shuffled,
    d_shuffled := PySem.W.fnOf "_law_shuffled" "_law_shuffled" (defArgs s_shuffled) (defBody s_shuffled) (defScope s_shuffled) .none kV_shuffled dc_shuffled pm_shuffled an_shuffled cd_shuffled ct_shuffled,
    F_shuffled := fun_mk (st := s_shuffled) l_shuffled c_shuffled k_shuffled,
    b_shuffled := (fun_mk (st := s_shuffled) l_shuffled c_shuffled k_shuffled).binds (ps := ["_law_state", "_law_items"]) fun _ _ _ _ _ _ us hl => match us, hl with | [_, _], _ => rfl,
    m_shuffled := PySem.W.mg_of X G a_shuffled,
    f_net := f_net,
    d_net := PySem.W.fnOf "_law_net" "_law_net" (defArgs s_net) (defBody s_net) (defScope s_net) .none kV_net dc_net pm_net an_net cd_net ct_net,
    F_net := fun_mk (st := s_net) l_net c_net k_net,
    b_net := (fun_mk (st := s_net) l_net c_net k_net).binds (ps := ["_law_state", "_law_turns", "_law_cross", "_law_most"]) fun _ _ _ _ _ _ us hl => match us, hl with | [_, _, _, _], _ => rfl,
    m_net := PySem.W.mg_of X G a_net,
    f_after := f_after,
    d_after := PySem.W.fnOf "_law_after" "_law_after" (defArgs s_after) (defBody s_after) (defScope s_after) .none kV_after dc_after pm_after an_after cd_after ct_after,
    F_after := fun_mk (st := s_after) l_after c_after k_after,
    b_after := (fun_mk (st := s_after) l_after c_after k_after).binds (ps := ["_law_rows", "_law_place"]) fun _ _ _ _ _ _ us hl => match us, hl with | [_, _], _ => rfl,
    m_after := PySem.W.mg_of X G a_after,
    f_useful := f_useful,
    d_useful := PySem.W.fnOf "_law_useful" "_law_useful" (defArgs s_useful) (defBody s_useful) (defScope s_useful) .none kV_useful dc_useful pm_useful an_useful cd_useful ct_useful,
    F_useful := fun_mk (st := s_useful) l_useful c_useful k_useful,
    b_useful := (fun_mk (st := s_useful) l_useful c_useful k_useful).binds (ps := ["_law_rows", "_law_first", "_law_last"]) fun _ _ _ _ _ _ us hl => match us, hl with | [_, _, _], _ => rfl,
    m_useful := PySem.W.mg_of X G a_useful,
    f_spots := f_spots,
    d_spots := PySem.W.fnOf "_law_spots" "_law_spots" (defArgs s_spots) (defBody s_spots) (defScope s_spots) .none kV_spots dc_spots pm_spots an_spots cd_spots ct_spots,
    F_spots := fun_mk (st := s_spots) l_spots c_spots k_spots,
    b_spots := (fun_mk (st := s_spots) l_spots c_spots k_spots).binds (ps := ["_law_rows"]) fun _ _ _ _ _ _ us hl => match us, hl with | [_], _ => rfl,
    m_spots := PySem.W.mg_of X G a_spots,
    f_rewired := f_rewired,
    d_rewired := PySem.W.fnOf "_law_rewired" "_law_rewired" (defArgs s_rewired) (defBody s_rewired) (defScope s_rewired) .none kV_rewired dc_rewired pm_rewired an_rewired cd_rewired ct_rewired,
    F_rewired := fun_mk (st := s_rewired) l_rewired c_rewired k_rewired,
    b_rewired := (fun_mk (st := s_rewired) l_rewired c_rewired k_rewired).binds (ps := ["_law_state", "_law_rows", "_law_first", "_law_last"]) fun _ _ _ _ _ _ us hl => match us, hl with | [_, _, _, _], _ => rfl,
    m_rewired := PySem.W.mg_of X G a_rewired,
    f_missing := f_missing,
    d_missing := PySem.W.fnOf "_law_missing" "_law_missing" (defArgs s_missing) (defBody s_missing) (defScope s_missing) .none kV_missing dc_missing pm_missing an_missing cd_missing ct_missing,
    F_missing := fun_mk (st := s_missing) l_missing c_missing k_missing,
    b_missing := (fun_mk (st := s_missing) l_missing c_missing k_missing).binds (ps := ["_law_net_here", "_law_word"]) fun _ _ _ _ _ _ us hl => match us, hl with | [_, _], _ => rfl,
    m_missing := PySem.W.mg_of X G a_missing,
    f_parts := f_parts,
    d_parts := PySem.W.fnOf "_law_parts" "_law_parts" (defArgs s_parts) (defBody s_parts) (defScope s_parts) .none kV_parts dc_parts pm_parts an_parts cd_parts ct_parts,
    F_parts := fun_mk (st := s_parts) l_parts c_parts k_parts,
    b_parts := (fun_mk (st := s_parts) l_parts c_parts k_parts).binds (ps := ["_law_net_here", "_law_rows", "_law_first", "_law_last"]) fun _ _ _ _ _ _ us hl => match us, hl with | [_, _, _, _], _ => rfl,
    m_parts := PySem.W.mg_of X G a_parts,
    f_exchanged := f_exchanged,
    d_exchanged := PySem.W.fnOf "_law_exchanged" "_law_exchanged" (defArgs s_exchanged) (defBody s_exchanged) (defScope s_exchanged) .none kV_exchanged dc_exchanged pm_exchanged an_exchanged cd_exchanged ct_exchanged,
    F_exchanged := fun_mk (st := s_exchanged) l_exchanged c_exchanged k_exchanged,
    b_exchanged := (fun_mk (st := s_exchanged) l_exchanged c_exchanged k_exchanged).binds (ps := ["_law_state", "_law_rows", "_law_first", "_law_last"]) fun _ _ _ _ _ _ us hl => match us, hl with | [_, _, _, _], _ => rfl,
    m_exchanged := PySem.W.mg_of X G a_exchanged,
    f_BadName_init := f_BadName_init,
    d_BadName_init := PySem.W.fnOf "__init__" "BadName.__init__" (defArgs s_BadName_init) (defBody s_BadName_init) (defScope s_BadName_init) .none kV_BadName_init dc_BadName_init pm_BadName_init an_BadName_init cd_BadName_init ct_BadName_init,
    F_BadName_init := fun_mk (st := s_BadName_init) l_BadName_init c_BadName_init k_BadName_init,
    b_BadName_init := (fun_mk (st := s_BadName_init) l_BadName_init c_BadName_init k_BadName_init).binds (ps := ["self", "name"]) fun _ _ _ _ _ _ us hl => match us, hl with | [_, _], _ => rfl,
    a_BadName_init := a_BadName_init,
    i_BadName_init := i_BadName_init,
    f_DuplicateName_init := f_DuplicateName_init,
    d_DuplicateName_init := PySem.W.fnOf "__init__" "DuplicateName.__init__" (defArgs s_DuplicateName_init) (defBody s_DuplicateName_init) (defScope s_DuplicateName_init) .none kV_DuplicateName_init dc_DuplicateName_init pm_DuplicateName_init an_DuplicateName_init cd_DuplicateName_init ct_DuplicateName_init,
    F_DuplicateName_init := fun_mk (st := s_DuplicateName_init) l_DuplicateName_init c_DuplicateName_init k_DuplicateName_init,
    b_DuplicateName_init := (fun_mk (st := s_DuplicateName_init) l_DuplicateName_init c_DuplicateName_init k_DuplicateName_init).binds (ps := ["self", "name"]) fun _ _ _ _ _ _ us hl => match us, hl with | [_, _], _ => rfl,
    a_DuplicateName_init := a_DuplicateName_init,
    i_DuplicateName_init := i_DuplicateName_init,
    f_UnknownName_init := f_UnknownName_init,
    d_UnknownName_init := PySem.W.fnOf "__init__" "UnknownName.__init__" (defArgs s_UnknownName_init) (defBody s_UnknownName_init) (defScope s_UnknownName_init) .none kV_UnknownName_init dc_UnknownName_init pm_UnknownName_init an_UnknownName_init cd_UnknownName_init ct_UnknownName_init,
    F_UnknownName_init := fun_mk (st := s_UnknownName_init) l_UnknownName_init c_UnknownName_init k_UnknownName_init,
    b_UnknownName_init := (fun_mk (st := s_UnknownName_init) l_UnknownName_init c_UnknownName_init k_UnknownName_init).binds (ps := ["self", "name"]) fun _ _ _ _ _ _ us hl => match us, hl with | [_, _], _ => rfl,
    a_UnknownName_init := a_UnknownName_init,
    i_UnknownName_init := i_UnknownName_init,
    f_BadCount_init := f_BadCount_init,
    d_BadCount_init := PySem.W.fnOf "__init__" "BadCount.__init__" (defArgs s_BadCount_init) (defBody s_BadCount_init) (defScope s_BadCount_init) .none kV_BadCount_init dc_BadCount_init pm_BadCount_init an_BadCount_init cd_BadCount_init ct_BadCount_init,
    F_BadCount_init := fun_mk (st := s_BadCount_init) l_BadCount_init c_BadCount_init k_BadCount_init,
    b_BadCount_init := (fun_mk (st := s_BadCount_init) l_BadCount_init c_BadCount_init k_BadCount_init).binds (ps := ["self", "count"]) fun _ _ _ _ _ _ us hl => match us, hl with | [_, _], _ => rfl,
    a_BadCount_init := a_BadCount_init,
    i_BadCount_init := i_BadCount_init,
    f_HasRound_init := f_HasRound_init,
    d_HasRound_init := PySem.W.fnOf "__init__" "HasRound.__init__" (defArgs s_HasRound_init) (defBody s_HasRound_init) (defScope s_HasRound_init) .none kV_HasRound_init dc_HasRound_init pm_HasRound_init an_HasRound_init cd_HasRound_init ct_HasRound_init,
    F_HasRound_init := fun_mk (st := s_HasRound_init) l_HasRound_init c_HasRound_init k_HasRound_init,
    b_HasRound_init := (fun_mk (st := s_HasRound_init) l_HasRound_init c_HasRound_init k_HasRound_init).binds (ps := ["self", "name"]) fun _ _ _ _ _ _ us hl => match us, hl with | [_, _], _ => rfl,
    a_HasRound_init := a_HasRound_init,
    i_HasRound_init := i_HasRound_init,
    f_UselessLink_init := f_UselessLink_init,
    d_UselessLink_init := PySem.W.fnOf "__init__" "UselessLink.__init__" (defArgs s_UselessLink_init) (defBody s_UselessLink_init) (defScope s_UselessLink_init) .none kV_UselessLink_init dc_UselessLink_init pm_UselessLink_init an_UselessLink_init cd_UselessLink_init ct_UselessLink_init,
    F_UselessLink_init := fun_mk (st := s_UselessLink_init) l_UselessLink_init c_UselessLink_init k_UselessLink_init,
    b_UselessLink_init := (fun_mk (st := s_UselessLink_init) l_UselessLink_init c_UselessLink_init k_UselessLink_init).binds (ps := ["self", "name"]) fun _ _ _ _ _ _ us hl => match us, hl with | [_, _], _ => rfl,
    a_UselessLink_init := a_UselessLink_init,
    i_UselessLink_init := i_UselessLink_init,
    f_Network_init := f_Network_init,
    d_Network_init := PySem.W.fnOf "__init__" "Network.__init__" (defArgs s_Network_init) (defBody s_Network_init) (defScope s_Network_init) .none kV_Network_init dc_Network_init pm_Network_init an_Network_init cd_Network_init ct_Network_init,
    F_Network_init := fun_mk (st := s_Network_init) l_Network_init c_Network_init k_Network_init,
    b_Network_init := (fun_mk (st := s_Network_init) l_Network_init c_Network_init k_Network_init).binds (ps := ["self", "links", "start", "end"]) fun _ _ _ _ _ _ us hl => match us, hl with | [_, _, _, _], _ => rfl,
    a_Network_init := a_Network_init,
    i_Network_init := i_Network_init,
    mk_Network := ⟨mk_Network, a_Network_init, i_Network_init, kc_Network⟩,
    f_Network_start := f_Network_start,
    d_Network_start := PySem.W.fnOf "start" "Network.start" (defArgs s_Network_start) (defBody s_Network_start) (defScope s_Network_start) .none kV_Network_start dc_Network_start pm_Network_start an_Network_start cd_Network_start ct_Network_start,
    F_Network_start := fun_mk (st := s_Network_start) l_Network_start c_Network_start k_Network_start,
    b_Network_start := (fun_mk (st := s_Network_start) l_Network_start c_Network_start k_Network_start).binds (ps := ["self"]) fun _ _ _ _ _ _ us hl => match us, hl with | [_], _ => rfl,
    p0_Network_start := p_Network_start,
    p_Network_start := ⟨a_Network_start, pg_Network_start, pt_Network_start, ⟨_, pr_Network_start⟩⟩,
    f_Network_end := f_Network_end,
    d_Network_end := PySem.W.fnOf "end" "Network.end" (defArgs s_Network_end) (defBody s_Network_end) (defScope s_Network_end) .none kV_Network_end dc_Network_end pm_Network_end an_Network_end cd_Network_end ct_Network_end,
    F_Network_end := fun_mk (st := s_Network_end) l_Network_end c_Network_end k_Network_end,
    b_Network_end := (fun_mk (st := s_Network_end) l_Network_end c_Network_end k_Network_end).binds (ps := ["self"]) fun _ _ _ _ _ _ us hl => match us, hl with | [_], _ => rfl,
    p0_Network_end := p_Network_end,
    p_Network_end := ⟨a_Network_end, pg_Network_end, pt_Network_end, ⟨_, pr_Network_end⟩⟩,
    f_Network_names := f_Network_names,
    d_Network_names := PySem.W.fnOf "names" "Network.names" (defArgs s_Network_names) (defBody s_Network_names) (defScope s_Network_names) .none kV_Network_names dc_Network_names pm_Network_names an_Network_names cd_Network_names ct_Network_names,
    F_Network_names := fun_mk (st := s_Network_names) l_Network_names c_Network_names k_Network_names,
    b_Network_names := (fun_mk (st := s_Network_names) l_Network_names c_Network_names k_Network_names).binds (ps := ["self"]) fun _ _ _ _ _ _ us hl => match us, hl with | [_], _ => rfl,
    p0_Network_names := p_Network_names,
    p_Network_names := ⟨a_Network_names, pg_Network_names, pt_Network_names, ⟨_, pr_Network_names⟩⟩,
    f_Network_places := f_Network_places,
    d_Network_places := PySem.W.fnOf "places" "Network.places" (defArgs s_Network_places) (defBody s_Network_places) (defScope s_Network_places) .none kV_Network_places dc_Network_places pm_Network_places an_Network_places cd_Network_places ct_Network_places,
    F_Network_places := fun_mk (st := s_Network_places) l_Network_places c_Network_places k_Network_places,
    b_Network_places := (fun_mk (st := s_Network_places) l_Network_places c_Network_places k_Network_places).binds (ps := ["self"]) fun _ _ _ _ _ _ us hl => match us, hl with | [_], _ => rfl,
    p0_Network_places := p_Network_places,
    p_Network_places := ⟨a_Network_places, pg_Network_places, pt_Network_places, ⟨_, pr_Network_places⟩⟩,
    f_Network_triples := f_Network_triples,
    d_Network_triples := PySem.W.fnOf "triples" "Network.triples" (defArgs s_Network_triples) (defBody s_Network_triples) (defScope s_Network_triples) .none kV_Network_triples dc_Network_triples pm_Network_triples an_Network_triples cd_Network_triples ct_Network_triples,
    F_Network_triples := fun_mk (st := s_Network_triples) l_Network_triples c_Network_triples k_Network_triples,
    b_Network_triples := (fun_mk (st := s_Network_triples) l_Network_triples c_Network_triples k_Network_triples).binds (ps := ["self"]) fun _ _ _ _ _ _ us hl => match us, hl with | [_], _ => rfl,
    a_Network_triples := a_Network_triples,
    i_Network_triples := i_Network_triples,
    f_Network_getitem := f_Network_getitem,
    d_Network_getitem := PySem.W.fnOf "__getitem__" "Network.__getitem__" (defArgs s_Network_getitem) (defBody s_Network_getitem) (defScope s_Network_getitem) .none kV_Network_getitem dc_Network_getitem pm_Network_getitem an_Network_getitem cd_Network_getitem ct_Network_getitem,
    F_Network_getitem := fun_mk (st := s_Network_getitem) l_Network_getitem c_Network_getitem k_Network_getitem,
    b_Network_getitem := (fun_mk (st := s_Network_getitem) l_Network_getitem c_Network_getitem k_Network_getitem).binds (ps := ["self", "name"]) fun _ _ _ _ _ _ us hl => match us, hl with | [_, _], _ => rfl,
    a_Network_getitem := a_Network_getitem,
    i_Network_getitem := i_Network_getitem,
    f_Network_contains := f_Network_contains,
    d_Network_contains := PySem.W.fnOf "__contains__" "Network.__contains__" (defArgs s_Network_contains) (defBody s_Network_contains) (defScope s_Network_contains) .none kV_Network_contains dc_Network_contains pm_Network_contains an_Network_contains cd_Network_contains ct_Network_contains,
    F_Network_contains := fun_mk (st := s_Network_contains) l_Network_contains c_Network_contains k_Network_contains,
    b_Network_contains := (fun_mk (st := s_Network_contains) l_Network_contains c_Network_contains k_Network_contains).binds (ps := ["self", "name"]) fun _ _ _ _ _ _ us hl => match us, hl with | [_, _], _ => rfl,
    a_Network_contains := a_Network_contains,
    i_Network_contains := i_Network_contains,
    f_Network_len := f_Network_len,
    d_Network_len := PySem.W.fnOf "__len__" "Network.__len__" (defArgs s_Network_len) (defBody s_Network_len) (defScope s_Network_len) .none kV_Network_len dc_Network_len pm_Network_len an_Network_len cd_Network_len ct_Network_len,
    F_Network_len := fun_mk (st := s_Network_len) l_Network_len c_Network_len k_Network_len,
    b_Network_len := (fun_mk (st := s_Network_len) l_Network_len c_Network_len k_Network_len).binds (ps := ["self"]) fun _ _ _ _ _ _ us hl => match us, hl with | [_], _ => rfl,
    a_Network_len := a_Network_len,
    i_Network_len := i_Network_len,
    f_Network_eq := f_Network_eq,
    d_Network_eq := PySem.W.fnOf "__eq__" "Network.__eq__" (defArgs s_Network_eq) (defBody s_Network_eq) (defScope s_Network_eq) .none kV_Network_eq dc_Network_eq pm_Network_eq an_Network_eq cd_Network_eq ct_Network_eq,
    F_Network_eq := fun_mk (st := s_Network_eq) l_Network_eq c_Network_eq k_Network_eq,
    b_Network_eq := (fun_mk (st := s_Network_eq) l_Network_eq c_Network_eq k_Network_eq).binds (ps := ["self", "other"]) fun _ _ _ _ _ _ us hl => match us, hl with | [_, _], _ => rfl,
    a_Network_eq := a_Network_eq,
    i_Network_eq := i_Network_eq,
    f_Network_str := f_Network_str,
    d_Network_str := PySem.W.fnOf "__str__" "Network.__str__" (defArgs s_Network_str) (defBody s_Network_str) (defScope s_Network_str) .none kV_Network_str dc_Network_str pm_Network_str an_Network_str cd_Network_str ct_Network_str,
    F_Network_str := fun_mk (st := s_Network_str) l_Network_str c_Network_str k_Network_str,
    b_Network_str := (fun_mk (st := s_Network_str) l_Network_str c_Network_str k_Network_str).binds (ps := ["self"]) fun _ _ _ _ _ _ us hl => match us, hl with | [_], _ => rfl,
    a_Network_str := a_Network_str,
    i_Network_str := i_Network_str,
    me_Network_triples := ⟨a_Network_triples, i_Network_triples, k_Network_triples⟩,
    oth_Network := ⟨a_Network_eq, i_Network_eq, ot_Network_int, ot_Network_str, ot_Network_NoneType, ot_Network_tuple, ot_Network_list⟩,
    none_Network := ⟨ne_Network, ob_Network, a_Network_eq, i_Network_eq⟩,
    cr_Network := ⟨rd_Network, ga_Network⟩,
    tv_Network_MOST_LINKS := tv_Network_MOST_LINKS,
    cv_Network_MOST_LINKS := ⟨cw_Network_MOST_LINKS, ⟨_, rfl⟩⟩,
    tv_Network_MOST_PLACES := tv_Network_MOST_PLACES,
    cv_Network_MOST_PLACES := ⟨cw_Network_MOST_PLACES, ⟨_, rfl⟩⟩,
    kb_Network_init_links_end_start := ⟨fun _ us ws _ hl hw => match us, ws, hl, hw with | [_], [_, _, _], _, _ => .of_eq rfl, fun r1 r2 => r1.append (permL_rel _ r2)⟩,
    dn_Network_getitem := ⟨a_Network_getitem, i_Network_getitem, fi_Network_getitem, ns_Network_getitem⟩,
    dn_Network_contains := ⟨a_Network_contains, i_Network_contains, fi_Network_contains, ns_Network_contains⟩,
    dn_Network_len := ⟨a_Network_len, i_Network_len, fi_Network_len, ns_Network_len⟩,
    kbm_Network_triples := kbinds_alone fun _ u => .of_eq rfl,
    ox_BadName := ⟨x_BadName, xs_BadName, xe_BadName, xt_BadName, xk_BadName⟩,
    ix_BadName := a_BadName_init,
    tx_BadName := xf_BadName,
    xf_BadName := ⟨xg_BadName, xh_BadName, xe_BadName, xd_BadName⟩,
    ec_BadName := ⟨xg_BadName, xh_BadName, xe_BadName, xd_BadName, xc_BadName, hn_class, ht_class, xm_BadName⟩,
    no_BadName_name := no_BadName_name,
    ox_DuplicateName := ⟨x_DuplicateName, xs_DuplicateName, xe_DuplicateName, xt_DuplicateName, xk_DuplicateName⟩,
    ix_DuplicateName := a_DuplicateName_init,
    tx_DuplicateName := xf_DuplicateName,
    xf_DuplicateName := ⟨xg_DuplicateName, xh_DuplicateName, xe_DuplicateName, xd_DuplicateName⟩,
    ec_DuplicateName := ⟨xg_DuplicateName, xh_DuplicateName, xe_DuplicateName, xd_DuplicateName, xc_DuplicateName, hn_class, ht_class, xm_DuplicateName⟩,
    no_DuplicateName_name := no_DuplicateName_name,
    ox_UnknownName := ⟨x_UnknownName, xs_UnknownName, xe_UnknownName, xt_UnknownName, xk_UnknownName⟩,
    ix_UnknownName := a_UnknownName_init,
    tx_UnknownName := xf_UnknownName,
    xf_UnknownName := ⟨xg_UnknownName, xh_UnknownName, xe_UnknownName, xd_UnknownName⟩,
    ec_UnknownName := ⟨xg_UnknownName, xh_UnknownName, xe_UnknownName, xd_UnknownName, xc_UnknownName, hn_class, ht_class, xm_UnknownName⟩,
    no_UnknownName_name := no_UnknownName_name,
    ox_BadCount := ⟨x_BadCount, xs_BadCount, xe_BadCount, xt_BadCount, xk_BadCount⟩,
    ix_BadCount := a_BadCount_init,
    tx_BadCount := xf_BadCount,
    xf_BadCount := ⟨xg_BadCount, xh_BadCount, xe_BadCount, xd_BadCount⟩,
    ec_BadCount := ⟨xg_BadCount, xh_BadCount, xe_BadCount, xd_BadCount, xc_BadCount, hn_class, ht_class, xm_BadCount⟩,
    no_BadCount_count := no_BadCount_count,
    ox_HasRound := ⟨x_HasRound, xs_HasRound, xe_HasRound, xt_HasRound, xk_HasRound⟩,
    ix_HasRound := a_HasRound_init,
    tx_HasRound := xf_HasRound,
    xf_HasRound := ⟨xg_HasRound, xh_HasRound, xe_HasRound, xd_HasRound⟩,
    ec_HasRound := ⟨xg_HasRound, xh_HasRound, xe_HasRound, xd_HasRound, xc_HasRound, hn_class, ht_class, xm_HasRound⟩,
    no_HasRound_name := no_HasRound_name,
    ox_UselessLink := ⟨x_UselessLink, xs_UselessLink, xe_UselessLink, xt_UselessLink, xk_UselessLink⟩,
    ix_UselessLink := a_UselessLink_init,
    tx_UselessLink := xf_UselessLink,
    xf_UselessLink := ⟨xg_UselessLink, xh_UselessLink, xe_UselessLink, xd_UselessLink⟩,
    ec_UselessLink := ⟨xg_UselessLink, xh_UselessLink, xe_UselessLink, xd_UselessLink, xc_UselessLink, hn_class, ht_class, xm_UselessLink⟩,
    no_UselessLink_name := no_UselessLink_name,
    es_UnknownName_UnknownName := es_UnknownName_UnknownName,
    xi_UnknownName_UnknownName := xi_UnknownName,
    xt_UnknownName_UnknownName := xt_UnknownName,
    t_DIGITS := t_DIGITS,
    c_DIGITS := PySem.W.mg_of X G q_DIGITS,
    t_LETTERS := t_LETTERS,
    c_LETTERS := PySem.W.mg_of X G q_LETTERS,
    t_LONGEST_NAME := t_LONGEST_NAME,
    c_LONGEST_NAME := PySem.W.mg_of X G q_LONGEST_NAME,
    n_abs := PySem.W.mg_none_of X G z_abs,
    n_all := PySem.W.mg_none_of X G z_all,
    n_int := PySem.W.mg_none_of X G z_int,
    n_isinstance := PySem.W.mg_none_of X G z_isinstance,
    n_len := PySem.W.mg_none_of X G z_len,
    n_list := PySem.W.mg_none_of X G z_list,
    n_range := PySem.W.mg_none_of X G z_range,
    n_set := PySem.W.mg_none_of X G z_set,
    n_sorted := PySem.W.mg_none_of X G z_sorted,
    n_str := PySem.W.mg_none_of X G z_str,
    n_tuple := PySem.W.mg_none_of X G z_tuple }
  exact ⟨PySem.W.fnOf "law" "law" (defArgs s_law) (defBody s_law) (defScope s_law) .none kV_law dc_law pm_law an_law cd_law ct_law, fun s v => .of_eq rfl, fun base _ _ => ok_law T (fun_mk (st := s_law) l_law c_law k_law)⟩
end My
open PySem PySem.W PyProof.Rows
set_option maxRecDepth 100000 in
set_option maxHeartbeats 0 in
theorem PySem.Challenge.cw_extralink_k11_network_parts_holds : PySem.Challenge.rw_extralink_k11_network_parts.Holds := by
  w_on; o_law; k_head; (case hw => w_witness2)
  k_fill
  refine L2.walk_of (l := PySem.Challenge.rw_extralink_k11_network_parts) (n := 63) (k := 7) (x := "_law_script") (CX := fun _ => L2.CX0) (sp := fun w => My.spLaw _) rfl (by decide) rfl ⟨rfl, by decide, by decide⟩ (fun w h Y => PySem.W.kIn_of Y) ?F (fun _ _ a ns hl _ hS => ⟨a, ns, rfl, hS, hl, fun _ => rfl⟩) (fun _ _ _ _ _ h => h)
  case F =>
    intro w mg fa h KX G hmg
    refine' My.all_mk KX G hmg ?a_BadName ?a_DuplicateName ?a_UnknownName ?a_BadCount ?a_HasRound ?a_UselessLink ?a_Network ?pg_Network ?hd_Network ?po_Network ?sa_Network ?mk_Network ?kc_Network ?hc_Network ?mo_Network ?ic_Network ?ty_Network ?hn_class ?ht_class ?na_Network_start ?na_Network_end ?na_Network_links ?na_Network_places ?na_Network_behind ?su_Network_str ?a_valid_name ?l_valid_name ?c_valid_name ?k_valid_name ?a_ordered_places ?l_ordered_places ?c_ordered_places ?k_ordered_places ?a_places_behind ?l_places_behind ?c_places_behind ?k_places_behind ?a_useful_names ?l_useful_names ?c_useful_names ?k_useful_names ?a_check_ends ?l_check_ends ?c_check_ends ?k_check_ends ?a_check_names ?l_check_names ?c_check_names ?k_check_names ?a_check_rounds ?l_check_rounds ?c_check_rounds ?k_check_rounds ?a_check_use ?l_check_use ?c_check_use ?k_check_use ?a_start ?l_start ?c_start ?k_start ?a_draw ?l_draw ?c_draw ?k_draw ?a_names ?l_names ?c_names ?k_names ?a_grown ?l_grown ?c_grown ?k_grown ?a_shuffled ?l_shuffled ?c_shuffled ?k_shuffled ?a_net ?l_net ?c_net ?k_net ?a_after ?l_after ?c_after ?k_after ?a_useful ?l_useful ?c_useful ?k_useful ?a_spots ?l_spots ?c_spots ?k_spots ?a_rewired ?l_rewired ?c_rewired ?k_rewired ?a_missing ?l_missing ?c_missing ?k_missing ?a_parts ?l_parts ?c_parts ?k_parts ?a_exchanged ?l_exchanged ?c_exchanged ?k_exchanged ?a_BadName_init ?i_BadName_init ?l_BadName_init ?c_BadName_init ?k_BadName_init ?a_DuplicateName_init ?i_DuplicateName_init ?l_DuplicateName_init ?c_DuplicateName_init ?k_DuplicateName_init ?a_UnknownName_init ?i_UnknownName_init ?l_UnknownName_init ?c_UnknownName_init ?k_UnknownName_init ?a_BadCount_init ?i_BadCount_init ?l_BadCount_init ?c_BadCount_init ?k_BadCount_init ?a_HasRound_init ?i_HasRound_init ?l_HasRound_init ?c_HasRound_init ?k_HasRound_init ?a_UselessLink_init ?i_UselessLink_init ?l_UselessLink_init ?c_UselessLink_init ?k_UselessLink_init ?a_Network_init ?i_Network_init ?l_Network_init ?c_Network_init ?k_Network_init ?a_Network_start ?pg_Network_start ?pt_Network_start ?pr_Network_start ?l_Network_start ?c_Network_start ?k_Network_start ?a_Network_end ?pg_Network_end ?pt_Network_end ?pr_Network_end ?l_Network_end ?c_Network_end ?k_Network_end ?a_Network_names ?pg_Network_names ?pt_Network_names ?pr_Network_names ?l_Network_names ?c_Network_names ?k_Network_names ?a_Network_places ?pg_Network_places ?pt_Network_places ?pr_Network_places ?l_Network_places ?c_Network_places ?k_Network_places ?a_Network_triples ?i_Network_triples ?l_Network_triples ?c_Network_triples ?k_Network_triples ?a_Network_getitem ?i_Network_getitem ?l_Network_getitem ?c_Network_getitem ?k_Network_getitem ?a_Network_contains ?i_Network_contains ?l_Network_contains ?c_Network_contains ?k_Network_contains ?a_Network_len ?i_Network_len ?l_Network_len ?c_Network_len ?k_Network_len ?a_Network_eq ?i_Network_eq ?l_Network_eq ?c_Network_eq ?k_Network_eq ?a_Network_str ?i_Network_str ?l_Network_str ?c_Network_str ?k_Network_str ?ot_Network_int ?ot_Network_str ?ot_Network_NoneType ?ot_Network_tuple ?ot_Network_list ?ne_Network ?ob_Network ?rd_Network ?ga_Network ?cw_Network_MOST_LINKS ?cw_Network_MOST_PLACES ?fi_Network_getitem ?ns_Network_getitem ?fi_Network_contains ?ns_Network_contains ?fi_Network_len ?ns_Network_len ?x_BadName ?xs_BadName ?xe_BadName ?xt_BadName ?xk_BadName ?xg_BadName ?xh_BadName ?xd_BadName ?xc_BadName ?xm_BadName ?xi_BadName ?xf_BadName ?no_BadName_name ?x_DuplicateName ?xs_DuplicateName ?xe_DuplicateName ?xt_DuplicateName ?xk_DuplicateName ?xg_DuplicateName ?xh_DuplicateName ?xd_DuplicateName ?xc_DuplicateName ?xm_DuplicateName ?xi_DuplicateName ?xf_DuplicateName ?no_DuplicateName_name ?x_UnknownName ?xs_UnknownName ?xe_UnknownName ?xt_UnknownName ?xk_UnknownName ?xg_UnknownName ?xh_UnknownName ?xd_UnknownName ?xc_UnknownName ?xm_UnknownName ?xi_UnknownName ?xf_UnknownName ?no_UnknownName_name ?x_BadCount ?xs_BadCount ?xe_BadCount ?xt_BadCount ?xk_BadCount ?xg_BadCount ?xh_BadCount ?xd_BadCount ?xc_BadCount ?xm_BadCount ?xi_BadCount ?xf_BadCount ?no_BadCount_count ?x_HasRound ?xs_HasRound ?xe_HasRound ?xt_HasRound ?xk_HasRound ?xg_HasRound ?xh_HasRound ?xd_HasRound ?xc_HasRound ?xm_HasRound ?xi_HasRound ?xf_HasRound ?no_HasRound_name ?x_UselessLink ?xs_UselessLink ?xe_UselessLink ?xt_UselessLink ?xk_UselessLink ?xg_UselessLink ?xh_UselessLink ?xd_UselessLink ?xc_UselessLink ?xm_UselessLink ?xi_UselessLink ?xf_UselessLink ?no_UselessLink_name ?es_UnknownName_UnknownName ?q_DIGITS ?q_LETTERS ?q_LONGEST_NAME ?z_abs ?z_all ?z_int ?z_isinstance ?z_len ?z_list ?z_range ?z_set ?z_sorted ?z_str ?z_tuple ?a_law ?l_law ?c_law ?k_law
    (case a_BadName => k_is)
    (case a_DuplicateName => k_is)
    (case a_UnknownName => k_is)
    (case a_BadCount => k_is)
    (case a_HasRound => k_is)
    (case a_UselessLink => k_is)
    (case a_Network => k_is)
    (case pg_Network => k_is)
    (case hd_Network => k_is)
    (case po_Network => k_is)
    (case sa_Network => k_is)
    (case mk_Network => k_is)
    (case kc_Network => k_is)
    (case hc_Network => k_is)
    (case mo_Network => k_is)
    (case ic_Network => k_is)
    (case ty_Network => k_is)
    (case hn_class => k_is)
    (case ht_class => k_is)
    (case na_Network_start => k_is)
    (case na_Network_end => k_is)
    (case na_Network_links => k_is)
    (case na_Network_places => k_is)
    (case na_Network_behind => k_is)
    (case su_Network_str => k_is)
    (case a_valid_name => k_is)
    (case l_valid_name => k_is)
    (case c_valid_name => k_is)
    (case k_valid_name => k_is)
    (case a_ordered_places => k_is)
    (case l_ordered_places => k_is)
    (case c_ordered_places => k_is)
    (case k_ordered_places => k_is)
    (case a_places_behind => k_is)
    (case l_places_behind => k_is)
    (case c_places_behind => k_is)
    (case k_places_behind => k_is)
    (case a_useful_names => k_is)
    (case l_useful_names => k_is)
    (case c_useful_names => k_is)
    (case k_useful_names => k_is)
    (case a_check_ends => k_is)
    (case l_check_ends => k_is)
    (case c_check_ends => k_is)
    (case k_check_ends => k_is)
    (case a_check_names => k_is)
    (case l_check_names => k_is)
    (case c_check_names => k_is)
    (case k_check_names => k_is)
    (case a_check_rounds => k_is)
    (case l_check_rounds => k_is)
    (case c_check_rounds => k_is)
    (case k_check_rounds => k_is)
    (case a_check_use => k_is)
    (case l_check_use => k_is)
    (case c_check_use => k_is)
    (case k_check_use => k_is)
    (case a_start => k_is)
    (case l_start => k_is)
    (case c_start => k_is)
    (case k_start => k_is)
    (case a_draw => k_is)
    (case l_draw => k_is)
    (case c_draw => k_is)
    (case k_draw => k_is)
    (case a_names => k_is)
    (case l_names => k_is)
    (case c_names => k_is)
    (case k_names => k_is)
    (case a_grown => k_is)
    (case l_grown => k_is)
    (case c_grown => k_is)
    (case k_grown => k_is)
    (case a_shuffled => k_is)
    (case l_shuffled => k_is)
    (case c_shuffled => k_is)
    (case k_shuffled => k_is)
    (case a_net => k_is)
    (case l_net => k_is)
    (case c_net => k_is)
    (case k_net => k_is)
    (case a_after => k_is)
    (case l_after => k_is)
    (case c_after => k_is)
    (case k_after => k_is)
    (case a_useful => k_is)
    (case l_useful => k_is)
    (case c_useful => k_is)
    (case k_useful => k_is)
    (case a_spots => k_is)
    (case l_spots => k_is)
    (case c_spots => k_is)
    (case k_spots => k_is)
    (case a_rewired => k_is)
    (case l_rewired => k_is)
    (case c_rewired => k_is)
    (case k_rewired => k_is)
    (case a_missing => k_is)
    (case l_missing => k_is)
    (case c_missing => k_is)
    (case k_missing => k_is)
    (case a_parts => k_is)
    (case l_parts => k_is)
    (case c_parts => k_is)
    (case k_parts => k_is)
    (case a_exchanged => k_is)
    (case l_exchanged => k_is)
    (case c_exchanged => k_is)
    (case k_exchanged => k_is)
    (case a_BadName_init => k_is)
    (case i_BadName_init => k_is)
    (case l_BadName_init => k_is)
    (case c_BadName_init => k_is)
    (case k_BadName_init => k_is)
    (case a_DuplicateName_init => k_is)
    (case i_DuplicateName_init => k_is)
    (case l_DuplicateName_init => k_is)
    (case c_DuplicateName_init => k_is)
    (case k_DuplicateName_init => k_is)
    (case a_UnknownName_init => k_is)
    (case i_UnknownName_init => k_is)
    (case l_UnknownName_init => k_is)
    (case c_UnknownName_init => k_is)
    (case k_UnknownName_init => k_is)
    (case a_BadCount_init => k_is)
    (case i_BadCount_init => k_is)
    (case l_BadCount_init => k_is)
    (case c_BadCount_init => k_is)
    (case k_BadCount_init => k_is)
    (case a_HasRound_init => k_is)
    (case i_HasRound_init => k_is)
    (case l_HasRound_init => k_is)
    (case c_HasRound_init => k_is)
    (case k_HasRound_init => k_is)
    (case a_UselessLink_init => k_is)
    (case i_UselessLink_init => k_is)
    (case l_UselessLink_init => k_is)
    (case c_UselessLink_init => k_is)
    (case k_UselessLink_init => k_is)
    (case a_Network_init => k_is)
    (case i_Network_init => k_is)
    (case l_Network_init => k_is)
    (case c_Network_init => k_is)
    (case k_Network_init => k_is)
    (case a_Network_start => k_is)
    (case pg_Network_start => k_is)
    (case pt_Network_start => k_is)
    (case pr_Network_start => k_is)
    (case l_Network_start => k_is)
    (case c_Network_start => k_is)
    (case k_Network_start => k_is)
    (case a_Network_end => k_is)
    (case pg_Network_end => k_is)
    (case pt_Network_end => k_is)
    (case pr_Network_end => k_is)
    (case l_Network_end => k_is)
    (case c_Network_end => k_is)
    (case k_Network_end => k_is)
    (case a_Network_names => k_is)
    (case pg_Network_names => k_is)
    (case pt_Network_names => k_is)
    (case pr_Network_names => k_is)
    (case l_Network_names => k_is)
    (case c_Network_names => k_is)
    (case k_Network_names => k_is)
    (case a_Network_places => k_is)
    (case pg_Network_places => k_is)
    (case pt_Network_places => k_is)
    (case pr_Network_places => k_is)
    (case l_Network_places => k_is)
    (case c_Network_places => k_is)
    (case k_Network_places => k_is)
    (case a_Network_triples => k_is)
    (case i_Network_triples => k_is)
    (case l_Network_triples => k_is)
    (case c_Network_triples => k_is)
    (case k_Network_triples => k_is)
    (case a_Network_getitem => k_is)
    (case i_Network_getitem => k_is)
    (case l_Network_getitem => k_is)
    (case c_Network_getitem => k_is)
    (case k_Network_getitem => k_is)
    (case a_Network_contains => k_is)
    (case i_Network_contains => k_is)
    (case l_Network_contains => k_is)
    (case c_Network_contains => k_is)
    (case k_Network_contains => k_is)
    (case a_Network_len => k_is)
    (case i_Network_len => k_is)
    (case l_Network_len => k_is)
    (case c_Network_len => k_is)
    (case k_Network_len => k_is)
    (case a_Network_eq => k_is)
    (case i_Network_eq => k_is)
    (case l_Network_eq => k_is)
    (case c_Network_eq => k_is)
    (case k_Network_eq => k_is)
    (case a_Network_str => k_is)
    (case i_Network_str => k_is)
    (case l_Network_str => k_is)
    (case c_Network_str => k_is)
    (case k_Network_str => k_is)
    (case ot_Network_int => k_is)
    (case ot_Network_str => k_is)
    (case ot_Network_NoneType => k_is)
    (case ot_Network_tuple => k_is)
    (case ot_Network_list => k_is)
    (case ne_Network => k_is)
    (case ob_Network => k_is)
    (case rd_Network => k_is)
    (case ga_Network => k_is)
    (case cw_Network_MOST_LINKS => k_is)
    (case cw_Network_MOST_PLACES => k_is)
    (case fi_Network_getitem => k_is)
    (case ns_Network_getitem => k_is)
    (case fi_Network_contains => k_is)
    (case ns_Network_contains => k_is)
    (case fi_Network_len => k_is)
    (case ns_Network_len => k_is)
    (case x_BadName => exact ⟨_, _, _, _, _, _, _, _, _, _, _, _, _, _, _, by k_is, by decide +kernel⟩)
    (case xs_BadName => k_is)
    (case xe_BadName => k_is)
    (case xt_BadName => k_is)
    (case xk_BadName => k_is)
    (case xg_BadName => k_is)
    (case xh_BadName => k_is)
    (case xd_BadName => k_is)
    (case xc_BadName => k_is)
    (case xm_BadName => k_is)
    (case xi_BadName => k_is)
    (case xf_BadName => k_is)
    (case no_BadName_name => k_is)
    (case x_DuplicateName => exact ⟨_, _, _, _, _, _, _, _, _, _, _, _, _, _, _, by k_is, by decide +kernel⟩)
    (case xs_DuplicateName => k_is)
    (case xe_DuplicateName => k_is)
    (case xt_DuplicateName => k_is)
    (case xk_DuplicateName => k_is)
    (case xg_DuplicateName => k_is)
    (case xh_DuplicateName => k_is)
    (case xd_DuplicateName => k_is)
    (case xc_DuplicateName => k_is)
    (case xm_DuplicateName => k_is)
    (case xi_DuplicateName => k_is)
    (case xf_DuplicateName => k_is)
    (case no_DuplicateName_name => k_is)
    (case x_UnknownName => exact ⟨_, _, _, _, _, _, _, _, _, _, _, _, _, _, _, by k_is, by decide +kernel⟩)
    (case xs_UnknownName => k_is)
    (case xe_UnknownName => k_is)
    (case xt_UnknownName => k_is)
    (case xk_UnknownName => k_is)
    (case xg_UnknownName => k_is)
    (case xh_UnknownName => k_is)
    (case xd_UnknownName => k_is)
    (case xc_UnknownName => k_is)
    (case xm_UnknownName => k_is)
    (case xi_UnknownName => k_is)
    (case xf_UnknownName => k_is)
    (case no_UnknownName_name => k_is)
    (case x_BadCount => exact ⟨_, _, _, _, _, _, _, _, _, _, _, _, _, _, _, by k_is, by decide +kernel⟩)
    (case xs_BadCount => k_is)
    (case xe_BadCount => k_is)
    (case xt_BadCount => k_is)
    (case xk_BadCount => k_is)
    (case xg_BadCount => k_is)
    (case xh_BadCount => k_is)
    (case xd_BadCount => k_is)
    (case xc_BadCount => k_is)
    (case xm_BadCount => k_is)
    (case xi_BadCount => k_is)
    (case xf_BadCount => k_is)
    (case no_BadCount_count => k_is)
    (case x_HasRound => exact ⟨_, _, _, _, _, _, _, _, _, _, _, _, _, _, _, by k_is, by decide +kernel⟩)
    (case xs_HasRound => k_is)
    (case xe_HasRound => k_is)
    (case xt_HasRound => k_is)
    (case xk_HasRound => k_is)
    (case xg_HasRound => k_is)
    (case xh_HasRound => k_is)
    (case xd_HasRound => k_is)
    (case xc_HasRound => k_is)
    (case xm_HasRound => k_is)
    (case xi_HasRound => k_is)
    (case xf_HasRound => k_is)
    (case no_HasRound_name => k_is)
    (case x_UselessLink => exact ⟨_, _, _, _, _, _, _, _, _, _, _, _, _, _, _, by k_is, by decide +kernel⟩)
    (case xs_UselessLink => k_is)
    (case xe_UselessLink => k_is)
    (case xt_UselessLink => k_is)
    (case xk_UselessLink => k_is)
    (case xg_UselessLink => k_is)
    (case xh_UselessLink => k_is)
    (case xd_UselessLink => k_is)
    (case xc_UselessLink => k_is)
    (case xm_UselessLink => k_is)
    (case xi_UselessLink => k_is)
    (case xf_UselessLink => k_is)
    (case no_UselessLink_name => k_is)
    (case es_UnknownName_UnknownName => k_is)
    (case q_DIGITS => k_is)
    (case q_LETTERS => k_is)
    (case q_LONGEST_NAME => k_is)
    (case z_abs => k_is)
    (case z_all => k_is)
    (case z_int => k_is)
    (case z_isinstance => k_is)
    (case z_len => k_is)
    (case z_list => k_is)
    (case z_range => k_is)
    (case z_set => k_is)
    (case z_sorted => k_is)
    (case z_str => k_is)
    (case z_tuple => k_is)
    (case a_law => k_is)
    (case l_law => k_is)
    (case c_law => k_is)
    (case k_law => k_is)
