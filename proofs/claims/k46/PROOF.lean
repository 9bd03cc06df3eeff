import PyProof.Rows.All
import Wide.All
import OpenK.AllK
import Wide.FinOn
import PyProof.Rows.SeqMore
import HandS.ForMost
import HandS.Exc
import HandS.TryOnly
import HandS.ExcOwn
import HandS.WordsExc
import HandS.IsInst
import HandS.Wide
import HandS.TupAny
import HandS.Flow
import HandS.FStr
import HandS.NoneIn
import HandS.SortKw
import HandS.Codes
import HandS.Steps
import HandS.DictComp
import HandS.WordsDict
import HandS.More
import HandS.Walk
import HandS.Star
import HandS.Deep
import HandS.ExcIs
import HandS.Zip
import HandS.GenList
import HandS.GenCall
import HandS.TryMany
import KE.SortData
import KE.KMinKey
import PySem.Challenge.RW_legion_k46_least_crews
set_option Elab.async false
set_option linter.all false
set_option maxRecDepth 100000
namespace My
open PySem PySem.Spec PyProof.Rows L2
/-! ### lists that are read only, joined -/
def rCatS (K : PySem.W.Frag) : R2 := fun x y H Q => ∃ l b xs zs, x = .ref l ∧ y = .ref b ∧ SqL K H l xs ∧ SqL K H b zs ∧ xs.length + zs.length ≤ sizeLine ∧ ∀ p, H p = none → Q (.ref p) (upd H p (.lst (xs ++ zs)))
theorem op_catS {X : Cx} : OpR X (binaryOp .Add) (rCatS X.K) := by
  intro pins s σ H x y v u Q I rx ry h
  obtain ⟨l, b, xs, zs, rfl, rfl, hH, hB, hz, q⟩ := h
  cases rx
  cases ry
  obtain ⟨its, r, pl, z⟩ := I.list hH
  obtain ⟨its2, r2, pl2, z2⟩ := I.list hB
  have hl := r.length
  have hl2 := r2.length
  obtain ⟨⟨cls, dd, data, sl⟩, ho, hc, n, hd⟩ := pl.isList
  obtain ⟨⟨cls2, dd2, data2, sl2⟩, ho2, hc2, n2, hd2⟩ := pl2.isList
  simp only at hc hd hc2 hd2
  subst hc hd hc2 hd2
  have ea : its.toArray ++ its2.toArray = (its ++ its2).toArray := by simp
  refine concat_meets ⟨_, ho, rfl⟩ ⟨_, ho2, rfl⟩ noFill_list_add seq_list_add PySem.F.slot_list_add PySem.F.entry_list_add (PySem.F.args_list_add_2 _ _) (list_addW l b its.toArray its2.toArray n n2 dd dd2 sl sl2 (by rw [List.size_toArray, List.size_toArray]; omega)) ⟨ho, ho2, ?_⟩
  rw [ea]
  exact ⟨.ref _, _, I.lnew (t' := s.toks) (r.append r2) (by rw [List.length_append]; omega), rfl, q _ I.fresh⟩
/-- is True, is False, of anything -/
def rIsBl : R2 := fun x y H Q => ∃ b, y = .bl b ∧ Q (.bl (decide (x = .bl b))) H
theorem op_isBv {X : Cx} : OpR X (compareOp .Is) rIsBl := by
  intro pins s σ H x y v u Q I rx ry h
  obtain ⟨b, rfl, q⟩ := h
  cases (show u = Value.bool b from ry)
  have go : ∀ v : Value, plainIs v (.bool b) = true → (v == Value.bool b) = decide (x = .bl b) → wpAny (model X.prog X.w) X.A (compareOp .Is v (.bool b)) (EP X pins σ Q) X.xe s := fun v hp e =>
    wpAny_is_plain hp (by rw [e]; exact ⟨.bl _, H, I, rfl, q⟩)
  cases x with
  | bl c =>
    cases (show v = Value.bool c from rx)
    refine go _ rfl ?_
    cases b <;> cases c <;> rfl
  | non => cases (show v = Value.none from rx); exact go _ rfl rfl
  | int i => obtain ⟨t, rfl⟩ := (show ∃ t, v = Value.int i t from rx); exact go _ rfl rfl
  | str i => obtain ⟨t, rfl⟩ := (show ∃ t, v = Value.str i t from rx); exact go _ rfl rfl
  | byt i => obtain ⟨t, rfl⟩ := (show ∃ t, v = Value.bytes i t from rx); exact go _ rfl rfl
  | flt i => obtain ⟨t, rfl⟩ := (show ∃ t, v = Value.float i t from rx); exact go _ rfl rfl
  | ref a => cases (show v = Value.ref a from rx); exact go _ rfl rfl
  | ty a => cases (show v = Value.type a from rx); exact go _ rfl rfl
/-! ### rules with the written part named -/
section
variable {X : Cx} (K : PySem.W.Frag)
theorem ixL (h : X.K = K := by rfl) : IxR X (rIxL K) := h ▸ ix_list
theorem ixT (h : X.K = K := by rfl) : IxR X (rIxT K) := h ▸ ix_tup
theorem ixQ (h : X.K = K := by rfl) : IxR X (rIx K) := h ▸ ix_seq
theorem opIn (h : X.K = K := by rfl) : OpR X (compareOp .In) (rIn K false) := h ▸ op_in_seq
theorem opNotIn (h : X.K = K := by rfl) : OpR X (compareOp .NotIn) (rIn K true) := h ▸ op_notIn_seq
theorem opCat (h : X.K = K := by rfl) : OpR X (binaryOp .Add) (rCatS K) := h ▸ op_catS
theorem opCatT (h : X.K = K := by rfl) : OpR X (binaryOp .Add) (rCatA K) := h ▸ op_catA
theorem opEqD (hu : X.A.units + 64 < cLine) (h : X.K = K := by rfl) : OpR X (compareOp .Eq) (rEqD K) := h ▸ op_eqD hu
theorem opNeD (hu : X.A.units + 64 < cLine) (h : X.K = K := by rfl) : OpR X (compareOp .NotEq) (rNeD K) := h ▸ op_neD hu
theorem slL (h : X.K = K := by rfl) : SlR X (rSlL K) := h ▸ sl_list
theorem slT (h : X.K = K := by rfl) : SlR X (rSlT K) := h ▸ sl_tup
def rLenQ (K : PySem.W.Frag) : List V → Hp → VK → Prop := fun xs H Q => ∃ p ys, xs = [.ref p] ∧ (SqL K H p ys ∨ SqT K H p ys) ∧ Q (.int ys.length) H
theorem cLen (h : X.K = K := by rfl) : CallR X (.builtin "len") (rLenQ K) := h ▸ call_len_seq
def rListQ (K : PySem.W.Frag) : List V → Hp → VK → Prop := fun xs H Q => ∃ p ys, xs = [.ref p] ∧ (SqL K H p ys ∨ SqT K H p ys) ∧ ∀ l, H l = none → Q (.ref l) (upd H l (.lst ys))
theorem cList (h : X.K = K := by rfl) : CallR X (.type "list") (rListQ K) := h ▸ call_list_of
theorem cSum (hc : X.calm = true) (h : X.K = K := by rfl) : CallR X (.builtin "sum") (rSum K) := h ▸ cr_sum hc
theorem cAll (hc : X.calm = true) (h : X.K = K := by rfl) : CallR X (.builtin "all") (rAll K) := h ▸ cr_all hc
theorem cAny (hc : X.calm = true) (h : X.K = K := by rfl) : CallR X (.builtin "any") (rAny K) := h ▸ cr_any hc
theorem cIsi (h : X.K = K := by rfl) : CallR X (.builtin "isinstance") (rIsi K) := h ▸ call_isi
theorem peBm {T name id : String} {r : V → List V → Hp → VK → Prop} {to : TE} {t : TA} {o e : Expr} {es : List Expr} {apos cpos : Pos} (pa : PlainAttrs T) (slot : Slot T name id) (hty : typeOf (.builtin id) = pure (.type "method_descriptor")) (hm : MtR X id r) (ho : PE X o to) (ha : PA X (e :: es) t) (h : X.K = K := by rfl)
    (hbase : attributeBase o name X.env (eval o X.env) = eval o X.env := by rfl)
    (hfew : ((backTo cpos (starEach (e :: es) X.env)).all (fun x => !x.1) && (backToKw cpos (keywordEach [] X.env)).all (fun x => x.1.isSome)
      && decide ((e :: es).length + ([] : List Keyword).length + (if ([] : List Keyword).isEmpty then 0 else 1) < 30)) = true := by rfl)
    (hline : (apos.endLine == cpos.line) = true := by rfl) (hs : starEach (e :: es) X.env = (false, eval e X.env) :: starEach es X.env := by rfl) (hplain : (backTo cpos (starEach es X.env)).any (·.1) = false := by rfl) :
    PE X (.Call (.Attribute o name apos) (e :: es) [] cpos) (tBM K T r to t) := h ▸ pe_bm pa slot hty hm ho ha hbase hfew hline hs hplain
def tTruK (K : PySem.W.Frag) (ta : TE) : TT := fun σ H Q => ta σ H fun x H' => ∃ k, TruV K x H' k ∧ Q k H'
theorem ptTru {a : Expr} {ta : TE} (ha : PE X a ta) (he : ∀ whole, isTrue a X.env whole = (do let v ← whole; standAt a.pos; holding [v] (truthy v))) (h : X.K = K := by rfl) : PT X a (tTruK K ta) := h ▸ pt_truth ha he
theorem piL {tg l : Expr} {tl : TE} (hl : PE X l tl) (h : X.K = K := by rfl) : PI X tg l (iList K tl) := h ▸ pi_list hl
theorem piT {tg l : Expr} {tl : TE} (hl : PE X l tl) (h : X.K = K := by rfl) : PI X tg l (iTup K tl) := h ▸ pi_tup hl
end
/-! ### a def that is known -/
structure Fd (P : Program) (w : World) (K : PySem.W.Frag) (mg : Str → Option Value) (base : Heap) (x : Str) (ps : List Str) (k : Nat) (sp : Sp) : Prop where
  ex : ∃ (f : Addr) (fd : FuncData), FnOk P w K mg base CX0 k f fd ps sp ∧ mg x = some (.ref f) ∧ PySem.W.keepIn K (.ref f) = true ∧ Binds K fd ps []
theorem pe_fn {X : Cx} {x : Str} {ps : List Str} {k : Nat} {sp : Sp} {e : Expr} {es : List Expr} {t : TA} {p pos : Pos} (F : Fd X.prog X.w X.K X.mg X.base x ps k sp) (hr : Room k X.A) (hg : Gl X x) (ha : PA X (e :: es) t)
    (hdb : (x == ("__debug__" : Str)) = false := by decide) (he : starEach (e :: es) X.env = (false, eval e X.env) :: starEach es X.env := by rfl) (hpl : (backTo pos (starEach es X.env)).any (·.1) = false := by rfl) :
    PE X (.Call (.Name x p) (e :: es) [] pos) (tCall sp [] E0 t) := by
  obtain ⟨f, fd, G, m, kp, b⟩ := F.ex
  exact pe_call G hr hg m kp b .nil pass0 ha hdb he hpl
/-- the built-ins stand as they were -/
structure Bt (mg : Str → Option Value) : Prop where
  len : mg "len" = none
  int : mg "int" = none
  abs : mg "abs" = none
  range : mg "range" = none
  min : mg "min" = none
  str : mg "str" = none
  isinstance : mg "isinstance" = none
  bool : mg "bool" = none
  sum : mg "sum" = none
  list : mg "list" = none
  tuple : mg "tuple" = none
  repr : mg "repr" = none
  sorted : mg "sorted" = none
  enumerate : mg "enumerate" = none
  zip : mg "zip" = none
  all : mg "all" = none
  dict : mg "dict" = none
  max : mg "max" = none
  set : mg "set" = none
  ValueError : mg "ValueError" = none
/-! ### heaps -/
theorem same_new {H : Hp} {p : Addr} {o : HO} (h : H p = none) : Same H (upd H p o) := fun b x e => by
  rw [upd_ne (ne_of_none e h)]
  exact e
/-- an object that H does not know may change -/
theorem Same.mut {H H' : Hp} {p : Addr} {o : HO} (e : Same H H') (h : H p = none) : Same H (upd H' p o) := fun a u ha => by
  rw [upd_ne (ne_of_none ha h)]
  exact e a u ha
theorem sq {K : PySem.W.Frag} {H : Hp} {a : Addr} {xs : List V} (h : H a = some (.lst xs)) : SqL K H a xs := .inl (.inl h)
theorem st {K : PySem.W.Frag} {H : Hp} {a : Addr} {xs : List V} (h : H a = some (.tup xs)) : SqT K H a xs := .inl (.inl h)
theorem sz {n : Nat} (h : n ≤ 100000) : n ≤ sizeLine := Nat.le_trans h (by decide)
theorem szl {n : Nat} (h : n < 100000) : n < sizeLine := Nat.lt_of_lt_of_le h (by decide)
theorem Same.seqT {K : PySem.W.Frag} {H H' : Hp} {a : Addr} {xs : List V} (e : Same H H') (h : SqT K H a xs) : SqT K H' a xs := by
  rcases h with (h | ⟨o, h⟩) | h
  · exact .inl (.inl (e _ _ h))
  · exact .inl (.inr ⟨o, e _ _ h⟩)
  · exact .inr h
/-! ### numbers drawn below limits -/
def DOk : List Int → List Int → Prop
  | [], [] => True
  | d :: ds, m :: ms => (0 ≤ d ∧ d < m) ∧ DOk ds ms
  | _, _ => False
theorem DOk.snoc : ∀ {ds ms : List Int} {d m : Int}, DOk ds ms → 0 ≤ d → d < m → DOk (ds ++ [d]) (ms ++ [m])
  | [], [], _, _, _, h0, h1 => ⟨⟨h0, h1⟩, trivial⟩
  | [], _ :: _, _, _, h, _, _ => h.elim
  | _ :: _, [], _, _, h, _, _ => h.elim
  | _ :: _, _ :: _, _, _, h, h0, h1 => ⟨h.1, DOk.snoc h.2 h0 h1⟩
theorem DOk.len : ∀ {ds ms : List Int}, DOk ds ms → ds.length = ms.length
  | [], [], _ => rfl
  | [], _ :: _, h => h.elim
  | _ :: _, [], h => h.elim
  | _ :: _, _ :: _, h => by rw [List.length_cons, List.length_cons, DOk.len h.2]
theorem DOk.at : ∀ {ds ms : List Int} {i : Nat} {m : Int}, DOk ds ms → ms[i]? = some m → ∃ d, ds[i]? = some d ∧ 0 ≤ d ∧ d < m
  | [], [], _, _, _, e => by simp at e
  | [], _ :: _, _, _, h, _ => h.elim
  | _ :: _, [], _, _, h, _ => h.elim
  | d :: _, _ :: _, 0, m, h, e => ⟨d, rfl, h.1.1, by have := Option.some.inj e; rw [← this]; exact h.1.2⟩
  | _ :: ds, _ :: ms, i + 1, m, h, e => DOk.at (ds := ds) (ms := ms) (i := i) h.2 e
theorem DOk.cons {ds ms : List Int} {m : Int} (h : DOk ds (m :: ms)) : ∃ d r, ds = d :: r ∧ 0 ≤ d ∧ d < m ∧ DOk r ms := by
  cases ds with
  | nil => exact h.elim
  | cons d r => exact ⟨d, r, rfl, h.1.1, h.1.2, h.2⟩
theorem DOk.nil {ds : List Int} (h : DOk ds []) : ds = [] := by
  cases ds with
  | nil => rfl
  | cons d r => exact h.elim
theorem get_map {α : Type} {f : α → V} {xs : List α} {i : Nat} {x : α} (h : xs[i]? = some x) : (xs.map f)[i]? = some (f x) := by
  rw [List.getElem?_map, h]; rfl
theorem get_map_inv {α : Type} {f : α → V} {xs : List α} {i : Nat} {v : V} (h : (xs.map f)[i]? = some v) : ∃ x, xs[i]? = some x ∧ v = f x := by
  rw [List.getElem?_map] at h
  cases e : xs[i]? with
  | none => rw [e] at h; cases h
  | some x => rw [e] at h; exact ⟨x, rfl, (Option.some.inj h).symm⟩
theorem fmod_pos {a m : Int} (h : 0 < m) : 0 ≤ a.fmod m ∧ a.fmod m < m := ⟨Int.fmod_nonneg_of_pos a h, Int.fmod_lt_of_pos a h⟩
theorem take_snoc {α : Type} {xs : List α} {i : Nat} {x : α} (h : xs[i]? = some x) : xs.take (i + 1) = xs.take i ++ [x] := by
  rw [List.take_add_one, h]; rfl
end My
namespace My
open PySem PySem.Spec PyProof.Rows L2
def topS (i : Nat) : Stmt := PySem.Challenge.pw_legion_k46_least_crews.main.body.getD i (.Pass ⟨0, 0, 0, 0⟩)
theorem atI_in {α : Type} {xs : List α} {i : Int} (h0 : 0 ≤ i) (h1 : i < xs.length) : ∃ v, atI xs i = some v ∧ v ∈ xs := by
  obtain ⟨n, rfl⟩ := Int.eq_ofNat_of_zero_le h0
  have hn : n < xs.length := by omega
  exact ⟨xs[n], atI_nat (List.getElem?_eq_getElem hn), List.getElem_mem hn⟩
theorem atI_map {α : Type} {f : α → V} {xs : List α} {i : Int} (h0 : 0 ≤ i) (h1 : i < xs.length) : ∃ v, atI (xs.map f) i = some (f v) ∧ v ∈ xs ∧ xs[i.toNat]? = some v := by
  obtain ⟨n, rfl⟩ := Int.eq_ofNat_of_zero_le h0
  have hn : n < xs.length := by omega
  exact ⟨xs[n], atI_nat (get_map (List.getElem?_eq_getElem hn)), List.getElem_mem hn, List.getElem?_eq_getElem hn⟩
theorem len_app (a b : Str) : (a ++ b).length = a.length + b.length := by
  show (a.cps ++ b.cps).size = a.cps.size + b.cps.size
  exact Array.size_append
theorem len_join0 : ∀ (parts : List Str), (∀ p ∈ parts, p.length = 1) → (Txt.join (Str.ofString "") parts).length = parts.length := by
  intro parts h
  have e : ∀ parts : List Str, (∀ p ∈ parts, p.length = 1) → (TL.joinL [] (parts.map TL.tl)).length = parts.length := by
    intro parts
    induction parts with
    | nil => intro _; rfl
    | cons p r ih =>
      intro h
      have hp : (TL.tl p).length = 1 := by
        have := h p List.mem_cons_self
        rw [← this]
        exact Array.length_toList
      have hr := ih fun q hq => h q (List.mem_cons_of_mem _ hq)
      cases r with
      | nil => show (TL.tl p).length = 1; exact hp
      | cons q r =>
        show (TL.tl p ++ ([] ++ TL.joinL [] ((q :: r).map TL.tl))).length = _
        rw [List.length_append, List.nil_append, hr, hp, List.length_cons (a := p)]
        omega
  have e2 := TL.tl_join (Str.ofString "") parts
  rw [← TL.join_eq] at e2
  have e3 : (Txt.join (Str.ofString "") parts).length = (TL.tl (Txt.join (Str.ofString "") parts)).length := Array.length_toList.symm
  rw [e3, e2, show TL.tl (Str.ofString "") = [] by decide +kernel]
  exact e parts h
theorem len_digits : ∀ k : Nat, k < 60 → ((toString (k : Int) : String) |> fun s => (Str.ofString s).length) ≤ 2 := by
  intro k hk
  have : ∀ k : Fin 60, ((toString ((k : Nat) : Int) : String) |> fun s => (Str.ofString s).length) ≤ 2 := by decide +kernel
  exact this ⟨k, hk⟩
/-! ### tests that leave the heap -/
theorem ansOr {t u : TT} {σ : L2.St} {H : Hp} {a b : Bool} (ha : Ans t σ H a) (hb : Ans u σ H b) : Ans (tOr t u) σ H (a || b) := fun Q q => ha _ (by
  cases a with
  | true => exact iteT q
  | false => exact iteF (hb Q q))
theorem ansAnd {t u : TT} {σ : L2.St} {H : Hp} {a b : Bool} (ha : Ans t σ H a) (hb : Ans u σ H b) : Ans (tAnd t u) σ H (a && b) := fun Q q => ha _ (by
  cases a with
  | true => exact iteT (hb Q q)
  | false => exact iteF q)
theorem ifS {c : TT} {t u : TS} {D : Ends} {σ : L2.St} {H : Hp} {b : Bool} (h : Ans c σ H b) (ht : b = true → t D σ H) (hu : b = false → u D σ H) : tIfS c t u D σ H := h _ (by
  cases b with
  | true => exact iteT (ht rfl)
  | false => exact iteF (hu rfl))
theorem sum_ones : ∀ {ss : List Str}, (∀ s ∈ ss, s.length = 1) → (ss.map (·.length)).sum = ss.length
  | [], _ => rfl
  | s :: r, h => by
    rw [List.map_cons, List.sum_cons, sum_ones fun x hx => h x (List.mem_cons_of_mem _ hx), h s List.mem_cons_self, List.length_cons]
    omega
theorem flat_strs (ss : List Str) : (ss.map V.str).all flatV = true := by
  rw [List.all_eq_true]
  intro v hv
  obtain ⟨s, _, rfl⟩ := List.mem_map.mp hv
  rfl
theorem szc (n : Nat) {xs : List V} (h : xs.length = n := by rfl) (hn : n ≤ 100000 := by decide) : xs.length ≤ sizeLine := by rw [h]; exact sz hn
theorem ansIsi {K : PySem.W.Frag} {te : TE} {σ : L2.St} {H : Hp} {x : V} {T T2 : String} {b : Bool} (hx : ∀ Q : VK, Q x H → te σ H Q) (ty : TyX K H x (.type T)) (hb : kitB T T2 = some b) :
    Ans (tB (tCB (rIsi K) (tCons te (tCons (tC (.ty T2)) tNil)))) σ H b := fun Q q => hx _ ⟨x, _, _, _, b, rfl, .ty T2, ty, kit_ty hb, _, rfl, q⟩
theorem ansTo {t : TT} {σ : L2.St} {H : Hp} {b b' : Bool} (h : Ans t σ H b) (e : b = b') : Ans t σ H b' := e ▸ h
/-- lo <= x <= hi over whole numbers -/
theorem ansChain {ta tb tc : TE} {σ : L2.St} {H : Hp} {i j k : Int} (ha : Val ta σ H (.int i)) (hb : Val tb σ H (.int j)) (hc : Val tc σ H (.int k)) :
    Ans (tTest (tChain (rI0 fun i j => .bl (decide (i ≤ j))) (rI0 fun i j => .bl (decide (i ≤ j))) ta tb tc)) σ H (decide (i ≤ j) && decide (j ≤ k)) := fun Q q =>
  ha _ (hb _ ⟨i, j, rfl, rfl, _, rfl, by
    by_cases h : i ≤ j
    · rw [if_pos (decide_eq_true h)]
      refine hc _ ⟨j, k, rfl, rfl, _, rfl, ?_⟩
      rw [decide_eq_true h, Bool.true_and] at q
      exact q
    · rw [if_neg (by rw [decide_eq_false h]; exact Bool.false_ne_true)]
      rw [decide_eq_false h, Bool.false_and] at q
      exact ⟨_, rfl, q⟩⟩)
theorem ifQ {c : TT} {t u r : TS} {D : Ends} {σ : L2.St} {H : Hp} {b : Bool} (h : Ans c σ H b) (ht : b = true → t { D with nx := r D } σ H) (hu : b = false → u { D with nx := r D } σ H) : tSeq (tIfS c t u) r D σ H := ifS (D := { D with nx := r D }) h ht hu
theorem noQ {c : TT} {t r : TS} {D : Ends} {σ : L2.St} {H : Hp} (h : Ans c σ H false) (q : r D σ H) : tSeq (tIfS c t tNext) r D σ H := ifQ h (fun z => nomatch z) fun _ => q
theorem noS {c : TT} {t : TS} {D : Ends} {σ : L2.St} {H : Hp} (h : Ans c σ H false) (q : D.nx σ H) : tIfS c t tNext D σ H := ifS h (fun z => nomatch z) fun _ => q
theorem ifR {c : TT} {t r : TS} {D : Ends} {σ : L2.St} {H : Hp} {b : Bool} (h : Ans c σ H b) (ht : b = true → t { D with nx := r D } σ H) (hu : b = false → r D σ H) : tSeq (tIfS c t tNext) r D σ H := ifQ h ht hu
theorem cutV_map {α : Type} (f : α → V) (xs : List α) (lo hi : Option Int) : ∃ ys : List α, cutV (xs.map f) lo hi = ys.map f ∧ ys.length ≤ xs.length ∧ ∀ y ∈ ys, y ∈ xs := by
  refine ⟨(xs.drop (HT.sIx (xs.map f).length 0 lo)).take (HT.sIx (xs.map f).length (xs.map f).length hi - HT.sIx (xs.map f).length 0 lo), ?_, ?_, ?_⟩
  · unfold cutV
    rw [List.map_take, List.map_drop]
  · rw [List.length_take, List.length_drop]
    omega
  · intro y hy
    exact List.mem_of_mem_drop (List.mem_of_mem_take hy)
theorem iteFx {c : Bool} {A B : Prop} (h : c = false) (q : B) : if c = true then A else B := by
  subst h
  exact iteF q
theorem iteTx {c : Bool} {A B : Prop} (h : c = true) (q : A) : if c = true then A else B := by
  subst h
  exact iteT q
/-! ### names -/
def lets : Str := Str.ofString "abcdefghijklmnopqrstuvwxyz"
def sgns : Str := Str.ofString "abcdefghijklmnopqrstuvwxyz0123456789"
def resv : List Str := ["share", "lock", "bell", "kind", "any", "local", "skip", "set", "acquire", "release", "rest", "wake", "start", "check", "await", "mark", "if", "else", "loop", "choose", "or", "end", "and", "not"].map Str.ofString
structure NmF (s : Str) : Prop where
  l1 : 1 ≤ s.length
  l20 : s.length ≤ 20
  hd : ∃ c r, s.cps.toList = c :: r ∧ c ∈ lets.cps.toList
  al : ∀ c ∈ s.cps.toList, c ∈ sgns.cps.toList
theorem str_len (s : Str) : s.cps.toList.length = s.length := Array.length_toList
theorem str_app (a b : Str) : (a ++ b).cps.toList = a.cps.toList ++ b.cps.toList := by
  show (a.cps ++ b.cps).toList = _
  exact Array.toList_append
theorem let_sgn {c : Nat} (h : c ∈ lets.cps.toList) : c ∈ sgns.cps.toList := by
  have e : sgns = lets ++ Str.ofString "0123456789" := by decide +kernel
  rw [e, str_app]
  exact List.mem_append_left _ h
theorem nmF_cons {s : Str} {c : Nat} {r : List Nat} (e : s.cps.toList = c :: r) (hc : c ∈ lets.cps.toList) (hr : ∀ x ∈ r, x ∈ sgns.cps.toList) (hl : r.length ≤ 19) : NmF s := by
  have := str_len s
  rw [e, List.length_cons] at this
  refine ⟨by omega, by omega, ⟨c, r, e, hc⟩, fun x hx => ?_⟩
  rw [e] at hx
  rcases List.mem_cons.mp hx with h | h
  · rw [h]; exact let_sgn hc
  · exact hr x h
def nmfB (l : List Nat) : Bool := match l with
  | [] => false
  | c :: r => decide (c ∈ lets.cps.toList) && (r.all fun x => decide (x ∈ sgns.cps.toList)) && decide (r.length ≤ 19)
theorem nmF_of {s : Str} (h : nmfB s.cps.toList = true) : NmF s := by
  cases e : s.cps.toList with
  | nil => rw [e] at h; cases h
  | cons c r =>
    rw [e] at h
    simp only [nmfB, Bool.and_eq_true, decide_eq_true_eq, List.all_eq_true] at h
    exact nmF_cons e h.1.1 h.1.2 h.2
def digL (i : Nat) : List Nat := (Str.ofString (toString (i : Int))).cps.toList
theorem dig_ok : ∀ i : Fin 31, (∃ c r, digL i = c :: r ∧ c ∉ lets.cps.toList) ∧ (∀ x ∈ digL i, x ∈ sgns.cps.toList) ∧ (digL i).length ≤ 2 := by
  have h : ∀ i : Fin 31, (match digL i with
    | [] => false
    | c :: _ => !decide (c ∈ lets.cps.toList)) = true ∧ ((digL i).all fun x => decide (x ∈ sgns.cps.toList)) = true ∧ (digL i).length ≤ 2 := by decide +kernel
  intro i
  obtain ⟨h1, h2, h3⟩ := h i
  refine ⟨?_, fun x hx => of_decide_eq_true (List.all_eq_true.mp h2 x hx), h3⟩
  cases e : digL i with
  | nil => rw [e] at h1; cases h1
  | cons c r => rw [e] at h1; exact ⟨c, r, rfl, by simpa using h1⟩
def letAt (j : Nat) : Nat := lets.cps.toList.getD j 0
theorem let_inj : ∀ a b : Fin 26, letAt a = letAt b → a = b := by decide +kernel
theorem let_in : ∀ a : Fin 26, letAt a ∈ lets.cps.toList := by decide +kernel
def candL (i j : Nat) : List Nat := letAt (j % 26) :: (digL i ++ if j < 26 then [] else [120])
theorem cand_f {i j : Nat} (hi : i < 31) (s : Str) (e : s.cps.toList = candL i j) : NmF s := by
  obtain ⟨_, h2, h3⟩ := dig_ok ⟨i, hi⟩
  refine nmF_cons e (let_in ⟨j % 26, by omega⟩) (fun x hx => ?_) ?_
  · rcases List.mem_append.mp hx with h | h
    · exact h2 x h
    · split at h
      · cases h
      · rw [List.mem_singleton.mp h]; decide +kernel
  · rw [List.length_append]
    have : (if j < 26 then [] else [120] : List Nat).length ≤ 1 := by split <;> decide
    have h3' : (digL i).length ≤ 2 := h3
    omega
theorem resv_let : ∀ s ∈ resv, ∀ c ∈ s.cps.toList, c ∈ lets.cps.toList := by decide +kernel
theorem cand_nr {i j : Nat} (hi : i < 31) (s : Str) (e : s.cps.toList = candL i j) : s ∉ resv := fun hm => by
  obtain ⟨⟨c, r, ec, hc⟩, _⟩ := dig_ok ⟨i, hi⟩
  refine hc (resv_let s hm c ?_)
  rw [e]
  have : digL i = c :: r := ec
  unfold candL
  rw [this]
  exact List.mem_cons_of_mem _ (List.mem_append_left _ List.mem_cons_self)
theorem cand_inj {i j k : Nat} (hj : j < 52) (hk : k < 52) (e : candL i j = candL i k) : j = k := by
  have h1 : letAt (j % 26) = letAt (k % 26) := (List.cons.inj e).1
  have h2 := congrArg List.length (List.cons.inj e).2
  have h3 := congrArg Fin.val (let_inj ⟨j % 26, by omega⟩ ⟨k % 26, by omega⟩ h1)
  have h4 : j % 26 = k % 26 := h3
  rw [List.length_append, List.length_append] at h2
  split at h2 <;> split at h2 <;> simp only [List.length_nil, List.length_cons] at h2 <;> omega
theorem pigeon {α : Type} [BEq α] [LawfulBEq α] : ∀ (xs ys : List α), xs.Nodup → (∀ x ∈ xs, x ∈ ys) → xs.length ≤ ys.length
  | [], _, _, _ => Nat.zero_le _
  | x :: r, ys, hn, h => by
    have hx := h x List.mem_cons_self
    obtain ⟨hnx, hnr⟩ := List.nodup_cons.mp hn
    have ih := pigeon r (ys.erase x) hnr fun y hy => (List.mem_erase_of_ne fun (e : y = x) => hnx (e ▸ hy)).mpr (h y (List.mem_cons_of_mem _ hy))
    rw [List.length_erase_of_mem hx] at ih
    have := List.length_pos_of_mem hx
    rw [List.length_cons]
    omega
/-- of 52 names one is free -/
theorem cand_free {i : Nat} (hi : i < 31) {ss : List Str} (hl : ss.length < 52) (h : ∀ j < 52, ∀ s : Str, s.cps.toList = candL i j → s ∈ ss ∨ s ∈ resv) : False := by
  have hs : ∀ j < 52, candL i j ∈ ss.map fun s => s.cps.toList := fun j hj => by
    have e : ((⟨(candL i j).toArray⟩ : Str)).cps.toList = candL i j := rfl
    rcases h j hj _ e with m | m
    · exact List.mem_map.mpr ⟨_, m, e⟩
    · exact absurd m (cand_nr hi _ e)
  have hn : ((List.range 52).map (candL i)).Nodup := by
    refine List.nodup_iff_pairwise_ne.mpr ?_ |> fun z => z
    rw [List.pairwise_map]
    refine List.Pairwise.imp_of_mem (fun {a b} ha hb hab e => ?_) (List.nodup_iff_pairwise_ne.mp List.nodup_range)
    exact hab (cand_inj (List.mem_range.mp ha) (List.mem_range.mp hb) e)
  have := pigeon _ _ hn fun x hx => by
    obtain ⟨j, hj, rfl⟩ := List.mem_map.mp hx
    exact hs j (List.mem_range.mp hj)
  rw [List.length_map, List.length_map, List.length_range] at this
  omega
theorem cut_x : ∀ j : Fin 52, (cutS (Str.ofString "x") none (some (((j : Nat) : Int) / 26))).cps.toList = (if (j : Nat) < 26 then [] else [120]) := by decide +kernel
structure NmsOk (ss : List Str) : Prop where
  f : ∀ s ∈ ss, NmF s
  r : ∀ s ∈ ss, s ∉ resv
  nd : ss.Nodup
theorem NmsOk.snoc {ss : List Str} {s : Str} (h : NmsOk ss) (hf : NmF s) (hr : s ∉ resv) (hs : s ∉ ss) : NmsOk (ss ++ [s]) where
  f := fun x hx => by
    rcases List.mem_append.mp hx with m | m
    · exact h.f x m
    · rw [List.mem_singleton.mp m]; exact hf
  r := fun x hx => by
    rcases List.mem_append.mp hx with m | m
    · exact h.r x m
    · rw [List.mem_singleton.mp m]; exact hr
  nd := by
    refine List.nodup_append.mpr ⟨h.nd, List.nodup_cons.mpr ⟨(fun m => by cases m), List.nodup_nil⟩, fun a ha b hb e => ?_⟩
    rw [List.mem_singleton.mp hb] at e
    exact hs (e ▸ ha)
theorem inV_iff {l : Str} {xs : List Str} : inV (V.str l) (xs.map V.str) = true ↔ l ∈ xs := by
  unfold inV
  rw [List.any_map, List.any_eq_true]
  constructor
  · rintro ⟨x, hx, h⟩
    have : (x == l) = true := h
    rw [← eq_of_beq this]
    exact hx
  · intro h
    exact ⟨l, h, (beq_self_eq_true l : (l == l) = true)⟩
theorem mem_join0 {S : List Nat} : ∀ (parts : List Str), (∀ p ∈ parts, ∀ c ∈ p.cps.toList, c ∈ S) → ∀ c ∈ (Txt.join (Str.ofString "") parts).cps.toList, c ∈ S := by
  intro parts h c hc
  have e2 := TL.tl_join (Str.ofString "") parts
  rw [← TL.join_eq, show TL.tl (Str.ofString "") = [] by decide +kernel] at e2
  have e3 : (Txt.join (Str.ofString "") parts).cps.toList = TL.joinL [] (parts.map TL.tl) := e2
  rw [e3] at hc
  clear e2 e3
  induction parts with
  | nil => cases hc
  | cons p r ih =>
    cases r with
    | nil => exact h p List.mem_cons_self c hc
    | cons q r =>
      have hc2 : c ∈ TL.tl p ++ ([] ++ TL.joinL [] ((q :: r).map TL.tl)) := hc
      rw [List.nil_append] at hc2
      rcases List.mem_append.mp hc2 with m | m
      · exact h p List.mem_cons_self c m
      · exact ih (fun p hp => h p (List.mem_cons_of_mem _ hp)) m
theorem str_ext {a b : Str} (h : a.cps.toList = b.cps.toList) : a = b := by
  cases a; cases b
  have := Array.toList_inj.mp h
  simp only at this
  rw [this]
/-! ### values and conditions as trees -/
theorem Fd.none {P : Program} {w : World} {K : PySem.W.Frag} {mg : Str → Option Value} {base : Heap} {x qual : Str} {st : Stmt} {f : Addr} {fd : FuncData} {ps : List Str} {k : Nat} {sp : Sp} (F : Fun K x qual st f fd) (m : mg x = some (.ref f)) (b : Binds K fd ps [])
    (no : ∀ vs H Q E, ¬ sp vs H Q E) : Fd P w K mg base x ps k sp := ⟨f, fd, ⟨fun vs H Q E h => absurd h (no vs H Q E), fun A outer s H args us vs Q E _ _ _ _ h => absurd h (no vs H Q E)⟩, m, F.kp, b⟩
theorem yesQ {c : TT} {t u r : TS} {D : Ends} {σ : L2.St} {H : Hp} (h : Ans c σ H true) (q : t { D with nx := r D } σ H) : tSeq (tIfS c t u) r D σ H := ifQ h (fun _ => q) fun z => nomatch z
theorem yesS {c : TT} {t u : TS} {D : Ends} {σ : L2.St} {H : Hp} (h : Ans c σ H true) (q : t D σ H) : tIfS c t u D σ H := ifS h (fun _ => q) fun z => nomatch z
/-- what is new in H' over H -/
def Nw (H H' : Hp) : Hp := fun a => match H a with
  | none => H' a
  | some _ => none
theorem nw_at {H H' : Hp} {a : Addr} (h : H a = none) : Nw H H' a = H' a := by
  unfold Nw
  rw [h]
theorem nw_old {H H' : Hp} {a : Addr} {o : HO} (h : H a = some o) : Nw H H' a = none := by
  unfold Nw
  rw [h]
theorem nw_some {H H' : Hp} {a : Addr} {o : HO} (h : Nw H H' a = some o) : H a = none ∧ H' a = some o := by
  cases e : H a with
  | none => rw [nw_at e] at h; exact ⟨rfl, h⟩
  | some x => rw [nw_old e] at h; cases h
theorem nw_same {H H' : Hp} : Same (Nw H H') H' := fun _ _ h => (nw_some h).2
theorem nw_mono {H H1 H2 H3 : Hp} (a : Same H H1) (b : Same H2 H3) : Same (Nw H1 H2) (Nw H H3) := fun x o h => by
  obtain ⟨h1, h2⟩ := nw_some h
  rw [nw_at (a.free h1)]
  exact b x o h2
/-- what is there is there -/
def Dm (H H' : Hp) : Prop := ∀ a, H' a = none → H a = none
theorem Same.dm {H H' : Hp} (s : Same H H') : Dm H H' := fun _ h => s.free h
theorem Dm.trans {H H1 H2 : Hp} (a : Dm H H1) (b : Dm H1 H2) : Dm H H2 := fun x h => a x (b x h)
theorem dm_upd {H H' : Hp} {D : Addr} {o u : HO} (s : Same H H') (h : H' D = some o) : Dm (upd H D u) H' := fun a ha => by
  have hne : a ≠ D := fun e => by rw [e, h] at ha; cases ha
  rw [upd_ne hne]
  exact s.free ha
theorem dm_up {H : Hp} {D : Addr} {u : HO} : Dm H (upd H D u) := fun a ha => by
  by_cases e : a = D
  · rw [e, upd_same] at ha; cases ha
  · rw [upd_ne e] at ha; exact ha
theorem nw_mono2 {H H1 H2 H3 : Hp} (a : Dm H H1) (b : Same H2 H3) : Same (Nw H1 H2) (Nw H H3) := fun x o h => by
  obtain ⟨h1, h2⟩ := nw_some h
  rw [nw_at (a x h1)]
  exact b x o h2
theorem nw_upd {H H' : Hp} {a : Addr} {o u : HO} (h : H a = some o) : Same (Nw H H') (Nw H (upd H' a u)) := fun x y e => by
  obtain ⟨h1, h2⟩ := nw_some e
  rw [nw_at h1, upd_ne (ne_of_none h h1).symm]
  exact h2
inductive Ar where
  | add | sub | mul
def Ar.tx : Ar → Str
  | .add => Str.ofString "+"
  | .sub => Str.ofString "-"
  | .mul => Str.ofString "*"
def Ar.ev : Ar → Int → Int → Int
  | .add, a, b => a + b
  | .sub, a, b => a - b
  | .mul, a, b => a * b
inductive VT where
  | int (i : Int) | nm (s : Str) | op (o : Ar) (a b : VT)
def VT.ht : VT → Nat
  | .op _ a b => max a.ht b.ht + 1
  | _ => 0
def RVal (H : Hp) : VT → V → Prop
  | .int i, v => v = .int i
  | .nm s, v => v = .str s
  | .op o a b, v => ∃ t x y, v = .ref t ∧ H t = some (.tup [.str o.tx, x, y]) ∧ RVal H a x ∧ RVal H b y
theorem RVal.mono {H H' : Hp} (e : Same H H') : ∀ {t : VT} {v : V}, RVal H t v → RVal H' t v
  | .int _, _, h => h
  | .nm _, _, h => h
  | .op _ _ _, _, ⟨t, x, y, e1, e2, ha, hb⟩ => ⟨t, x, y, e1, e _ _ e2, RVal.mono e ha, RVal.mono e hb⟩
def look (kvs : List (Key × V)) (s : Str) : Int := match valV kvs (Sum.inr s) with
  | some (.int i) => i
  | _ => 0
def VT.ev (kvs : List (Key × V)) : VT → Int
  | .int i => i
  | .nm s => look kvs s
  | .op o a b => o.ev (a.ev kvs) (b.ev kvs)
def VT.wt : VT → Nat
  | .op _ a b => a.wt + b.wt
  | _ => 8
def Fine (kvs : List (Key × V)) : VT → Prop
  | .int i => i.natAbs < 256
  | .nm s => ∃ i : Int, valV kvs (Sum.inr s) = some (.int i) ∧ i.natAbs < 256
  | .op _ a b => Fine kvs a ∧ Fine kvs b
theorem VT.wt_pos : ∀ t : VT, 8 ≤ t.wt
  | .int _ => Nat.le_refl 8
  | .nm _ => Nat.le_refl 8
  | .op _ a b => by show 8 ≤ a.wt + b.wt; have := a.wt_pos; omega
theorem pow_add_le {a b x y : Nat} (ha : x < 2 ^ a) (hb : y < 2 ^ b) (h1 : 1 ≤ a) (h2 : 1 ≤ b) : x + y < 2 ^ (a + b) := by
  have ea : 2 ^ (a + b) = 2 ^ a * 2 ^ b := Nat.pow_add 2 a b
  have h3 : 2 ≤ 2 ^ a := by
    have := Nat.pow_le_pow_right (show 0 < 2 by decide) h1
    omega
  have h4 : 2 ≤ 2 ^ b := by
    have := Nat.pow_le_pow_right (show 0 < 2 by decide) h2
    omega
  generalize 2 ^ a = u at *
  generalize 2 ^ b = v at *
  rw [ea]
  have h5 : u + v ≤ u * v := by
    rcases Nat.le_total u v with h | h
    · have := Nat.mul_le_mul_right v h3
      omega
    · have := Nat.mul_le_mul_left u h4
      omega
  omega
theorem ev_lt {kvs : List (Key × V)} : ∀ {t : VT}, Fine kvs t → (t.ev kvs).natAbs < 2 ^ t.wt
  | .int i, h => h
  | .nm s, ⟨i, e, h⟩ => by
    show (look kvs s).natAbs < 2 ^ 8
    unfold look
    rw [e]
    exact h
  | .op o a b, ⟨ha, hb⟩ => by
    have h1 := ev_lt ha
    have h2 := ev_lt hb
    have p1 := a.wt_pos
    have p2 := b.wt_pos
    have h3 := pow_add_le h1 h2 (by omega) (by omega)
    show (o.ev (a.ev kvs) (b.ev kvs)).natAbs < 2 ^ (a.wt + b.wt)
    cases o with
    | add => show (a.ev kvs + b.ev kvs).natAbs < _; omega
    | sub => show (a.ev kvs - b.ev kvs).natAbs < _; omega
    | mul => exact wide_lt h1 h2
inductive Cp where
  | eq | lt | le
def Cp.tx : Cp → Str
  | .eq => Str.ofString "="
  | .lt => Str.ofString "<"
  | .le => Str.ofString "<="
def Cp.ev : Cp → Int → Int → Bool
  | .eq, a, b => decide (V.int a = V.int b)
  | .lt, a, b => decide (a < b)
  | .le, a, b => decide (a ≤ b)
inductive CT where
  | bl (b : Bool) | no (c : CT) | an (a b : CT) | or (a b : CT) | cp (o : Cp) (a b : VT)
def CT.ht : CT → Nat
  | .bl _ => 0
  | .no c => c.ht + 1
  | .an a b => max a.ht b.ht + 1
  | .or a b => max a.ht b.ht + 1
  | .cp _ _ _ => 0
def RCond (H : Hp) : CT → V → Prop
  | .bl b, v => v = .bl b
  | .no c, v => ∃ t x, v = .ref t ∧ H t = some (.tup [.str (Str.ofString "not"), x]) ∧ RCond H c x
  | .an a b, v => ∃ t x y, v = .ref t ∧ H t = some (.tup [.str (Str.ofString "and"), x, y]) ∧ RCond H a x ∧ RCond H b y
  | .or a b, v => ∃ t x y, v = .ref t ∧ H t = some (.tup [.str (Str.ofString "or"), x, y]) ∧ RCond H a x ∧ RCond H b y
  | .cp o a b, v => ∃ t x y, v = .ref t ∧ H t = some (.tup [.str o.tx, x, y]) ∧ RVal H a x ∧ RVal H b y
theorem RCond.mono {H H' : Hp} (e : Same H H') : ∀ {t : CT} {v : V}, RCond H t v → RCond H' t v
  | .bl _, _, h => h
  | .no _, _, ⟨t, x, e1, e2, ha⟩ => ⟨t, x, e1, e _ _ e2, RCond.mono e ha⟩
  | .an _ _, _, ⟨t, x, y, e1, e2, ha, hb⟩ => ⟨t, x, y, e1, e _ _ e2, RCond.mono e ha, RCond.mono e hb⟩
  | .or _ _, _, ⟨t, x, y, e1, e2, ha, hb⟩ => ⟨t, x, y, e1, e _ _ e2, RCond.mono e ha, RCond.mono e hb⟩
  | .cp _ _ _, _, ⟨t, x, y, e1, e2, ha, hb⟩ => ⟨t, x, y, e1, e _ _ e2, RVal.mono e ha, RVal.mono e hb⟩
def CT.ev (kvs : List (Key × V)) : CT → Bool
  | .bl b => b
  | .no c => !c.ev kvs
  | .an a b => a.ev kvs && b.ev kvs
  | .or a b => a.ev kvs || b.ev kvs
  | .cp o a b => o.ev (a.ev kvs) (b.ev kvs)
/-- every value in it is fine, of height below n and of weight at most m -/
def CFine (kvs : List (Key × V)) (n m : Nat) : CT → Prop
  | .bl _ => True
  | .no c => CFine kvs n m c
  | .an a b => CFine kvs n m a ∧ CFine kvs n m b
  | .or a b => CFine kvs n m a ∧ CFine kvs n m b
  | .cp _ a b => (Fine kvs a ∧ a.ht < n ∧ a.wt ≤ m) ∧ Fine kvs b ∧ b.ht < n ∧ b.wt ≤ m
/-! ### data: what stands in the heap, at any depth -/
mutual
theorem dp_mono {K : PySem.W.Frag} {H H' : Hp} (e : Same H H') : ∀ {v : V} {d : PyData}, Dp K H v d → Dp K H' v d
  | _, .none, .non => .non
  | _, .bool _, .bl b => .bl b
  | _, .int _, .int i => .int i
  | _, .str _, .str x => .str x
  | _, .list _, .lst h a => .lst (e.seq h) (dpAll_mono e a)
  | _, .tuple _, .tup h a => .tup (Same.seqT e h) (dpAll_mono e a)
theorem dpAll_mono {K : PySem.W.Frag} {H H' : Hp} (e : Same H H') : ∀ {vs : List V} {ds : List PyData}, DpAll K H vs ds → DpAll K H' vs ds
  | _, [], .nil => .nil
  | _, _ :: _, .cons h t => .cons (dp_mono e h) (dpAll_mono e t)
end
theorem dpa_len {K : PySem.W.Frag} {H : Hp} : ∀ {ds : List PyData} {vs : List V}, DpAll K H vs ds → vs.length = ds.length
  | [], _, .nil => rfl
  | _ :: _, _, .cons _ t => congrArg (· + 1) (dpa_len t)
theorem dpa_at {K : PySem.W.Frag} {H : Hp} : ∀ {ds : List PyData} {vs : List V}, DpAll K H vs ds → ∀ {i : Nat} {v : V}, vs[i]? = some v → ∃ d, ds[i]? = some d ∧ Dp K H v d
  | [], _, .nil, i, v, h => by simp at h
  | _ :: _, _, .cons a t, 0, v, h => by
    have := Option.some.inj h
    subst this
    exact ⟨_, rfl, a⟩
  | _ :: _, _, .cons a t, i + 1, v, h => dpa_at t (i := i) h
theorem dpa_at' {K : PySem.W.Frag} {H : Hp} : ∀ {ds : List PyData} {vs : List V}, DpAll K H vs ds → ∀ {i : Nat} {d : PyData}, ds[i]? = some d → ∃ v, vs[i]? = some v ∧ Dp K H v d
  | [], _, .nil, i, v, h => by simp at h
  | _ :: _, _, .cons a t, 0, v, h => by
    have := Option.some.inj h
    subst this
    exact ⟨_, rfl, a⟩
  | _ :: _, _, .cons a t, i + 1, v, h => dpa_at' t (i := i) h
theorem dpa_app {K : PySem.W.Frag} {H : Hp} : ∀ {ds es : List PyData} {vs us : List V}, DpAll K H vs ds → DpAll K H us es → DpAll K H (vs ++ us) (ds ++ es)
  | [], _, _, _, .nil, b => b
  | _ :: _, _, _, _, .cons a t, b => .cons a (dpa_app t b)
theorem dpa_strs {K : PySem.W.Frag} {H : Hp} : ∀ ss : List Str, DpAll K H (ss.map V.str) (ss.map PyData.str)
  | [] => .nil
  | s :: r => .cons (.str s) (dpa_strs r)
theorem dpa_ints {K : PySem.W.Frag} {H : Hp} : ∀ ss : List Int, DpAll K H (ss.map V.int) (ss.map PyData.int)
  | [] => .nil
  | s :: r => .cons (.int s) (dpa_ints r)
/-- a tuple of data -/
theorem dp_tup {K : PySem.W.Frag} {H : Hp} {v : V} {ds : List PyData} (h : Dp K H v (.tuple ds)) : ∃ a xs, v = .ref a ∧ SqT K H a xs ∧ DpAll K H xs ds := by
  cases h with
  | tup hs ha => exact ⟨_, _, rfl, hs, ha⟩
theorem dp_lst {K : PySem.W.Frag} {H : Hp} {v : V} {ds : List PyData} (h : Dp K H v (.list ds)) : ∃ a xs, v = .ref a ∧ SqL K H a xs ∧ DpAll K H xs ds := by
  cases h with
  | lst hs ha => exact ⟨_, _, rfl, hs, ha⟩
theorem dp_str {K : PySem.W.Frag} {H : Hp} {v : V} {s : Str} (h : Dp K H v (.str s)) : v = .str s := by cases h; rfl
theorem dp_int {K : PySem.W.Frag} {H : Hp} {v : V} {s : Int} (h : Dp K H v (.int s)) : v = .int s := by cases h; rfl
theorem dpa_cons {K : PySem.W.Frag} {H : Hp} {vs : List V} {d : PyData} {ds : List PyData} (h : DpAll K H vs (d :: ds)) : ∃ v r, vs = v :: r ∧ Dp K H v d ∧ DpAll K H r ds := by
  cases h with
  | cons a t => exact ⟨_, _, rfl, a, t⟩
theorem dpa_nil {K : PySem.W.Frag} {H : Hp} {vs : List V} (h : DpAll K H vs []) : vs = [] := by cases h; rfl
theorem dpa_strsE {K : PySem.W.Frag} {H : Hp} : ∀ {ss : List Str} {vs : List V}, DpAll K H vs (ss.map PyData.str) → vs = ss.map V.str
  | [], _, h => dpa_nil h
  | s :: r, _, h => by
    obtain ⟨v, q, rfl, a, t⟩ := dpa_cons h
    rw [dp_str a, dpa_strsE t]
    rfl
/-! ### data that can be shown and compared -/
mutual
def nice : PyData → Bool
  | .none | .bool _ => true
  | .int i => decide (i.natAbs < 10 ^ 7)
  | .str s => (s.cps.toList.all fun c => decide (c < 128)) && decide (s.length ≤ 20)
  | .list xs | .tuple xs => niceAll xs
  | .dict _ => false
def niceAll : List PyData → Bool
  | [] => true
  | x :: xs => nice x && niceAll xs
end
mutual
def cells : PyData → Nat
  | .list xs | .tuple xs => cellsAll xs + 1
  | .none | .bool _ | .int _ | .str _ | .dict _ => 1
def cellsAll : List PyData → Nat
  | [] => 0
  | x :: xs => cells x + cellsAll xs
end
mutual
theorem nice_lay : ∀ d : PyData, nice d = true → d.canLay0 = true
  | .none, _ => rfl
  | .bool _, _ => rfl
  | .int _, _ => rfl
  | .str s, h => by
    simp only [nice, Bool.and_eq_true, List.all_eq_true, decide_eq_true_eq] at h
    show (s.cps.all fun c => decide (c < 0x110000)) = true
    rw [← Array.all_toList, List.all_eq_true]
    intro c hc
    have := h.1 c hc
    exact decide_eq_true (by omega)
  | .list xs, h => by
    show PyData.canLayAll0 xs = true
    exact nice_layAll xs h
  | .tuple xs, h => by
    show PyData.canLayAll0 xs = true
    exact nice_layAll xs h
  | .dict _, h => nomatch h
theorem nice_layAll : ∀ xs : List PyData, niceAll xs = true → PyData.canLayAll0 xs = true
  | [], _ => rfl
  | x :: xs, h => by
    have h' : nice x = true ∧ niceAll xs = true := by simpa only [niceAll, Bool.and_eq_true] using h
    show (x.canLay0 && PyData.canLayAll0 xs) = true
    rw [nice_lay x h'.1, nice_layAll xs h'.2]
    rfl
end
mutual
theorem nice_short : ∀ d : PyData, nice d = true → d.leavesShort 8 = true ∧ d.showable = true
  | .none, _ => ⟨rfl, rfl⟩
  | .bool _, _ => ⟨rfl, rfl⟩
  | .int i, h => by
    have h1 : i.natAbs < 10 ^ 7 := by simpa only [nice, decide_eq_true_eq] using h
    refine ⟨?_, ?_⟩
    · show decide ((Str.ofString (toString i)).length ≤ 8) = true
      have := int_text_length_le10 (a := i) (k := 7) (by decide) h1
      refine decide_eq_true ?_
      rw [PySem.ofString_length]
      exact this
    · show decide (i.natAbs.log2 < 1920) = true
      refine decide_eq_true ?_
      have h2 : i.natAbs.log2 ≤ i.natAbs := Nat.log2_le_self _
      by_cases h0 : i.natAbs = 0
      · rw [h0]; decide
      · rw [Nat.log2_lt h0]
        exact Nat.lt_of_lt_of_le h1 (by decide +kernel)
  | .str s, h => by
    simp only [nice, Bool.and_eq_true, List.all_eq_true, decide_eq_true_eq] at h
    refine ⟨?_, rfl⟩
    show (s.cps.toList.all fun c => decide (c < 16 ^ 8)) = true
    rw [List.all_eq_true]
    intro c hc
    have := h.1 c hc
    exact decide_eq_true (Nat.lt_of_lt_of_le this (by decide))
  | .list xs, h => nice_shortAll xs h
  | .tuple xs, h => nice_shortAll xs h
  | .dict _, h => nomatch h
theorem nice_shortAll : ∀ xs : List PyData, niceAll xs = true → PyData.leavesShortAll 8 xs = true ∧ PyData.showableAll xs = true
  | [], _ => ⟨rfl, rfl⟩
  | x :: xs, h => by
    have h' : nice x = true ∧ niceAll xs = true := by simpa only [niceAll, Bool.and_eq_true] using h
    obtain ⟨a1, a2⟩ := nice_short x h'.1
    obtain ⟨b1, b2⟩ := nice_shortAll xs h'.2
    refine ⟨?_, ?_⟩
    · show (x.leavesShort 8 && PyData.leavesShortAll 8 xs) = true
      rw [a1, b1]; rfl
    · show (x.showable && PyData.showableAll xs) = true
      rw [a2, b2]; rfl
end
mutual
theorem nice_bulk : ∀ d : PyData, nice d = true → d.bulk + 1 ≤ 21 * cells d
  | .none, _ => by decide
  | .bool _, _ => by show 0 + 1 ≤ 21 * 1; decide
  | .int _, _ => by show 0 + 1 ≤ 21 * 1; decide
  | .str s, h => by
    simp only [nice, Bool.and_eq_true, List.all_eq_true, decide_eq_true_eq] at h
    have : s.cps.size ≤ 20 := h.2
    show s.cps.size + 1 ≤ 21 * 1
    omega
  | .list xs, h => by
    have := nice_bulkAll xs h
    show PyData.bulkAll xs + 1 ≤ 21 * (cellsAll xs + 1)
    omega
  | .tuple xs, h => by
    have := nice_bulkAll xs h
    show PyData.bulkAll xs + 1 ≤ 21 * (cellsAll xs + 1)
    omega
  | .dict _, h => nomatch h
theorem nice_bulkAll : ∀ xs : List PyData, niceAll xs = true → PyData.bulkAll xs ≤ 21 * cellsAll xs
  | [], _ => by decide
  | x :: xs, h => by
    have h' : nice x = true ∧ niceAll xs = true := by simpa only [niceAll, Bool.and_eq_true] using h
    have h1 := nice_bulk x h'.1
    have h2 := nice_bulkAll xs h'.2
    show x.bulk + 1 + PyData.bulkAll xs ≤ 21 * (cells x + cellsAll xs)
    omega
end
structure NcD (d : PyData) (c m : Nat) : Prop where
  ni : nice d = true
  ce : cells d ≤ c
  de : d.depth ≤ m
structure NcL (ds : List PyData) (c m : Nat) : Prop where
  ni : niceAll ds = true
  ce : cellsAll ds ≤ c
  de : PyData.depthAll ds ≤ m
theorem NcD.mono {d : PyData} {c m c' m' : Nat} (h : NcD d c m) (h1 : c ≤ c') (h2 : m ≤ m') : NcD d c' m' := ⟨h.ni, Nat.le_trans h.ce h1, Nat.le_trans h.de h2⟩
theorem NcL.mono {d : List PyData} {c m c' m' : Nat} (h : NcL d c m) (h1 : c ≤ c') (h2 : m ≤ m') : NcL d c' m' := ⟨h.ni, Nat.le_trans h.ce h1, Nat.le_trans h.de h2⟩
theorem NcL.nil {c m : Nat} : NcL [] c m := ⟨rfl, Nat.zero_le _, Nat.zero_le _⟩
theorem NcL.cons {d : PyData} {ds : List PyData} {c1 c2 m : Nat} (h : NcD d c1 m) (t : NcL ds c2 m) : NcL (d :: ds) (c1 + c2) m := by
  have h1 := h.ce
  have h2 := t.ce
  have h3 := h.de
  have h4 := t.de
  refine ⟨?_, ?_, ?_⟩
  · show (nice d && niceAll ds) = true
    rw [h.ni, t.ni]; rfl
  · show cells d + cellsAll ds ≤ c1 + c2
    omega
  · show max d.depth (PyData.depthAll ds) ≤ m
    omega
theorem NcL.tup {ds : List PyData} {c m : Nat} (h : NcL ds c m) : NcD (.tuple ds) (c + 1) (m + 1) := ⟨h.ni, Nat.succ_le_succ h.ce, Nat.succ_le_succ h.de⟩
theorem NcL.lst {ds : List PyData} {c m : Nat} (h : NcL ds c m) : NcD (.list ds) (c + 1) (m + 1) := ⟨h.ni, Nat.succ_le_succ h.ce, Nat.succ_le_succ h.de⟩
theorem NcD.str {s : Str} {m : Nat} (h : nice (.str s) = true) : NcD (.str s) 1 m := ⟨h, Nat.le_refl _, Nat.zero_le _⟩
theorem NcD.int {i : Int} {m : Nat} (h : i.natAbs < 10 ^ 7) : NcD (.int i) 1 m := ⟨decide_eq_true h, Nat.le_refl _, Nat.zero_le _⟩
theorem NcD.shaped {d : PyData} {c m : Nat} (h : NcD d c m) (hm : m ≤ 64) : SeqAt.shaped d = true := by
  show (d.canLay0 && decide (d.depth ≤ 64)) = true
  have h1 := h.de
  rw [nice_lay d h.ni, decide_eq_true (by omega)]
  rfl
theorem NcD.eqv {d : PyData} {c m : Nat} (h : NcD d c m) : PyData.eqv d d = true := SeqAt.eqv_refl d (nice_lay d h.ni)
structure Shw (d : PyData) : Prop where
  sh : d.showable = true
  nd : d.hasDict = false
  de : d.depth ≤ 60
  ln : d.shown.length ≤ sizeLine
theorem NcD.shw {d : PyData} {c m : Nat} (h : NcD d c m) (hc : c ≤ 40000) (hm : m ≤ 60) : Shw d := by
  have h1 := nice_short d h.ni
  have h2 := nice_bulk d h.ni
  have h3 := h.de
  have h4 := h.ce
  refine ⟨h1.2, PyData.hasDict_of_canLay d (nice_lay d h.ni), by omega, PyData.shown_fits_bulk (by decide) (by decide) h1.1 ?_⟩
  rw [show (2 : Nat) ^ 20 = 1048576 from rfl]
  omega
/-! ### repr of data, and a law's call from outside all frames (there no guard is up) -/
section
variable {X : Cx}
def rRepr (K : PySem.W.Frag) : List V → Hp → VK → Prop := fun xs H Q => ∃ (a : Addr) (d : PyData), xs = [.ref a] ∧ Dp K H (.ref a) d ∧ d.showable = true ∧ d.hasDict = false ∧ d.depth ≤ 60 ∧ d.shown.length ≤ sizeLine ∧ Q (.str d.shown) H
theorem cRepr (K : PySem.W.Frag) (hg : X.A.guards = some []) (hu : X.A.units + 64 < cLine) (hK : X.K = K := by rfl) : CallR X (.builtin "repr") (rRepr K) := by
  subst hK
  rintro pins s σ H xs us Q I r ⟨a, d, rfl, hd, hs, hn, hp, hz, q⟩
  obtain ⟨u, rfl, ru⟩ := vals1 r
  cases ru
  obtain ⟨as, hr⟩ := Dp.reads I d _ _ hd rfl
  exact PySem.repr_of_reads' hr hs (fun z => by rw [hn] at z; cases z) hg (by omega) (fun _ _ e => e) (fun h' t tk kp => ⟨.str d.shown, H, I.kept kp, ⟨t, rfl⟩, q⟩) hz
end
/-- the law's def keeps sp where it is called with the script, from outside -/
def TopOk (P : Program) (w : World) (K : PySem.W.Frag) (mg : Str → Option Value) (base : Heap) (f : Addr) (sp : Sp) : Prop :=
  ∀ (s : Shared) (H : Hp) (a : Addr) (Q : VK), Env0 P w K mg base callerA [] s H → sp [.ref a] H Q E0 → codeAny (model P w) callerA (.call (.ref f) ⟨[.ref a], []⟩) (CR CX0 [] P w H s Q E0) s
theorem top_ok {P : Program} {w : World} {K : PySem.W.Frag} {mg : Str → Option Value} {base : Heap} {x : Str} {st : Stmt} {f : Addr} {fd : FuncData} {N : List Str} {k : Nat} {sp : Sp} (F : Fun K x x st f fd) (S : FnScope N ["script"] (defScope st)) (hroom : Room (k + 1) callerA)
    (bind : ∀ (s : Shared) (v : Value), BindsTo s fd ⟨[v], []⟩ [("script", v)])
    (body : ∀ (cdv : Value) (s : Shared) (H : Hp) (a : Addr) (Q : VK), Room k (callerA.deeper (envOfC x (defScope st) s.heap.objs.size f cdv)) → sp [.ref a] H Q E0 →
      ∃ t, PSs (cxOf CX0 P w K mg base N x (defScope st) f cdv callerA [] s H E0).nox (defBody st) t ∧ t { nx := fun _ H' => Q .non H', rt := Q } (start N [.ref a]) H) : TopOk P w K mg base f sp := by
  obtain ⟨c1, c2, c3, c4, c5, c6, cd, c8, c9, rfl, look, code⟩ := F.ex
  intro s H a Q env want
  have inS : K.In s.heap := PySem.W.Frag.In.keeps env.mod.kin (fun b o z => (env.bs b o z).1)
  have room := hroom.deeper (envOfC x (defScope st) s.heap.objs.size f cd)
  obtain ⟨t, good, read⟩ := body cd s H a Q room want
  refine codeAny_call_function (by decide) (inS f _ look) rfl S.co S.gen rfl (PySem.W.codeRec_of inS code) (bind s _ _ _ _ _ ?_)
  have names : ∀ y ∈ [(("script" : Str), Value.ref a)], (defScope st).names.lookup y.1 = some .local ∨ ((defScope st).names.lookup y.1 = some .cell ∧ ((cellsFrom (s.heap.objs.size + 1) (defScope st).names []).lookup y.1).isSome = true) := by
    intro y hy
    rw [List.mem_singleton.mp hy]
    exact (S.par "script" List.mem_cons_self).imp id fun z => ⟨z, PySem.W.cellsFrom_some _ _ _ (.inl z)⟩
  refine wpAny_newFunctionEnv_cells S.kind names ?_
  rintro _ rfl s1 made
  have few : s.heap.NoLimit := Heap.NoLimit.keeps env.mod.nolimit (fun b o z => (env.bs b o z).1)
  refine ⟨Heap.NoLimit.keeps few made.toInCall.keep, codeAny_func ?_⟩
  have inv := inv_start (CX := CX0) (vs := [V.ref a]) (us := [Value.ref a]) (E := E0) S hroom.hd env rfl (.cons rfl .nil) made
  refine wpAny_mono (good.nox.run [] s1 _ H _ inv read) ?_ (fun _ _ z => z)
  intro fl s2 out
  cases fl with
  | brk => exact False.elim out.choose_spec.choose_spec.2
  | cont => exact False.elim out.choose_spec.choose_spec.2
  | next =>
    obtain ⟨σ2, H2, inv2, q2⟩ := out
    exact ⟨.non, H2, inv2.os, inv2.bare, inv2.base, inv2.hok, rfl, q2⟩
  | ret u =>
    obtain ⟨v, σ2, H2, inv2, rel, q2⟩ := out
    exact ⟨v, H2, inv2.os, inv2.bare, inv2.base, inv2.hok, rel, q2⟩
/-- what the object of the script is taken for: the locked list, unless it is an object of the module -/
def hpOf (K : PySem.W.Frag) (a : Addr) (o : Obj) (ns : List Int) : Hp := fun b => if b = a ∧ K.lookup a = none then some (.frz o (.lst (ns.map V.int))) else none
theorem hp_none {K : PySem.W.Frag} {a b : Addr} {o : Obj} {ns : List Int} (h : b ≠ a) : hpOf K a o ns b = none := if_neg fun z => h z.1
theorem hp_ne {K : PySem.W.Frag} {a b : Addr} {o : Obj} {ns : List Int} {u : HO} (h : hpOf K a o ns b = some u) : b = a ∧ K.lookup a = none ∧ u = .frz o (.lst (ns.map V.int)) := by
  unfold hpOf at h
  split at h
  · rename_i c
    exact ⟨c.1, c.2, (Option.some.inj h).symm⟩
  · cases h
theorem ints_vals : ∀ {vs : List Value} {ns : List Int}, IntsAre vs ns → Vals (ns.map V.int) vs := fun h => vals_ints h
theorem top_call {P : Program} {w : World} {K : PySem.W.Frag} {mg mb : Str → Option Value} {fa a : Addr} {sp : Sp} {s1 : Shared} {vs : List Value} {ns : List Int} (KX : K.In s1.heap) (hns : s1.heap.Ns mainGlobals mg) (hb : s1.heap.Ns builtinsNs mb) (hbb : ∀ x : Str, x ≠ "__name__" → mb x = bootBuiltins x)
    (hlim : s1.heap.NoLimit) (hg : s1.gens = #[]) (ha : s1.heap.get? a = some { cls := .type "list", data := .seq vs.toArray }) (hi : IntsAre vs ns) (hl : ns.length ≤ sizeLine) (F : ∀ base : Heap, K.In base → base.Ns mainGlobals mg → TopOk P w K mg base fa sp)
    (hsp : ∀ H : Hp, SqL K H a (ns.map V.int) → sp [.ref a] H (fun v _ => v = .bl true) E0) :
    codeAny (model P w) callerA (.call (.ref fa) ⟨[.ref a], []⟩) (fun r s' => r = .ok (.ret (.bool true)) ∧ OldK s1.heap s'.heap ∧ s'.os = s1.os ∧ AllBare s'.gens) s1 := by
  have rel := vals_ints hi
  have size := hi.length
  generalize hob : ({ cls := .type "list", data := .seq vs.toArray } : Obj) = ob at ha
  generalize hH : hpOf K a ob ns = H
  have known : ∀ {b : Addr} {u : HO}, H b = some u → b = a ∧ K.lookup a = none ∧ u = .frz ob (.lst (ns.map V.int)) := fun z => hp_ne (hH ▸ z)
  have free : ∀ {b : Addr}, b ≠ a → H b = none := fun z => hH ▸ hp_none z
  -- what is a dict, or the module's own, is not hidden
  have dictFree : ∀ {b : Addr} {o : Obj} {es : Array DictEntry} {ep : Nat}, s1.heap.get? b = some o → o.data = .dict es ep → H b = none := by
    intro b o es ep e d
    refine free fun z => ?_
    rw [z, ha] at e
    cases e
    rw [← hob] at d
    cases d
  have kFree : ∀ {b : Addr} {o : Obj}, K.lookup b = some o → H b = none := by
    intro b o e
    cases h : H b with
    | none => rfl
    | some u =>
      obtain ⟨z1, z2, _⟩ := known h
      rw [z1, z2] at e
      cases e
  have seen : ∀ {b : Addr} {o : Obj}, s1.heap.get? b = some o → H b = none → (hidT s1.heap H).get? b = some o := fun e n => hidT_get e n
  have kIn : K.In (hidT s1.heap H) := fun b o e => seen (KX b o e) (kFree e)
  have spaces : ∀ {b : Addr} {m : Str → Option Value}, s1.heap.Ns b m → (hidT s1.heap H).Ns b m := by
    rintro b m ⟨o, es, ep, e, d, r⟩
    exact ⟨o, es, ep, seen e (dictFree e d), d, r⟩
  have limit : (hidT s1.heap H).NoLimit := by
    obtain ⟨mc, l1, l2⟩ := hlim
    exact ⟨mc, spaces l1, l2⟩
  have ok : HOk P w H s1.heap := by
    intro b u z
    obtain ⟨rfl, _, rfl⟩ := known z
    subst hob
    exact ⟨ha, by rw [List.length_map]; exact hl, vs, _, rel, ha⟩
  have script : SqL K H a (ns.map V.int) := by
    cases h : K.lookup a with
    | none => exact .inl (.inr ⟨ob, by rw [← hH]; exact if_pos ⟨rfl, h⟩⟩)
    | some o =>
      have e := KX a o h
      rw [ha] at e
      cases e
      subst hob
      exact .inr ⟨_, vs.toArray, _, h, rfl, rfl, rfl, by rw [List.size_toArray, size]; exact hl, by rw [List.toList_toArray]; exact rel⟩
  have env : Env0 P w K mg (hidT s1.heap H) callerA [] s1 H := {
    frames := rfl
    mod := ⟨kIn, spaces hns, ⟨mb, spaces hb, hbb⟩, limit⟩
    bs := fun _ _ z => of_hidT z
    bsz := Nat.le_of_eq (hidT_size _ _)
    funs := trivial
    frf := fun _ z => nomatch z
    hok := ok
    bare := .of_eq hg }
  refine codeAny_mono (F _ kIn (spaces hns) s1 H a _ env (hsp H script)) ?_
  intro r s2 out
  match r, out with
  | .error _, out => exact False.elim out
  | .ok .next, out => exact False.elim out
  | .ok .brk, out => exact False.elim out
  | .ok .cont, out => exact False.elim out
  | .ok (.ret u), ⟨v, H2, os, bare, un, ok2, ru, qv⟩ =>
    have qv' : v = .bl true := qv
    subst qv'
    have ru' : u = Value.bool true := ru
    subst ru'
    refine ⟨rfl, OldK.of_keep ?_, os, bare⟩
    intro b o e
    cases h : H b with
    | none => exact un.keep b o e h (fun z => nomatch z) (fun z => nomatch z)
    | some x =>
      obtain ⟨rfl, _, rfl⟩ := known h
      have later := (ok2 b _ (un.frzs b ob _ h)).1
      rw [ha] at e
      cases e
      exact later
theorem walk_top {l : PySem.W.OpenLaw} {n : Nat} {q : Program} {loose : List Str} {XP : (Str → Option Value) → Heap → Prop} {YP : World → Heap → Prop} {d : DefRec} {K : Params → PySem.W.Frag} {sp : World → Sp} (hn : l.most = some n) (hn2 : n ≤ sizeLine) (hdf : d.params.defaults = [])
    (hY : ∀ (w : World) (h : Heap), YP w h → (K w.params).In h)
    (F : ∀ (w : World) (mg : Str → Option Value) (fa : Addr) (h : Heap), (K w.params).In h → h.Ns mainGlobals mg → mg d.name = some (.ref fa) → ∀ base : Heap, (K w.params).In base → base.Ns mainGlobals mg → TopOk l.prog w (K w.params) mg base fa (sp w))
    (hsp : ∀ (w : World) (H : Hp) (a : Addr) (ns : List Int), ns.length ≤ n → SqL (K w.params) H a (ns.map V.int) → sp w [.ref a] H (fun v _ => v = .bl true) E0) :
    PySem.W.WalkO q loose XP YP l.row.toRowW d [] (fun f vs => PySem.call f vs) := by
  refine Att.attach_call hn hdf ?_
  intro w s0 s1 mg mb fa o pm cd doc a vs ns G Y ho hd hcd hmg hobj hints hlen hg
  exact top_call (hY w _ Y) G.T.g G.T.b G.T.builtins G.T.nolimit hg hobj hints (Nat.le_trans hlen hn2) (F w mg fa _ (hY w _ Y) G.T.g hmg) fun H hS => hsp w H a ns hlen hS
theorem orM {A B : TT} {t u r : TS} {D : Ends} {σ : L2.St} {H : Hp} (h : Ans A σ H false) (hb : tSeq (tIfS B t u) r D σ H) : tSeq (tIfS (tOr A B) t u) r D σ H := h _ (iteF hb)
theorem neM (s : Str) : (!decide (V.str s = V.str s)) = false := by
  rw [decide_eq_true rfl]
  rfl
theorem nbM (b : Bool) : (!decide (V.bl b = V.bl b)) = false := by
  rw [decide_eq_true rfl]
  rfl
theorem nvM {d : PyData} (e : PyData.eqv d d = true) : (!PyData.eqv d d) = false := by
  rw [e]
  rfl
theorem ansF {t : TT} {σ : L2.St} {H : Hp} {Q : Bool → Hp → Prop} (h : Ans t σ H false) (q : Q false H) : t σ H Q := h _ q
theorem orA {A B : TT} {σ : L2.St} {H : Hp} {Q : Bool → Hp → Prop} (h : Ans A σ H false) (q : B σ H Q) : tOr A B σ H Q := h _ (iteF q)
/-! ### situations -/
/-- xs[i] read before it is stored anew -/
def rGetL (K : PySem.W.Frag) : R2 := fun x y H Q => ∃ p xs i v, x = .ref p ∧ y = .int i ∧ 0 ≤ i ∧ SqL K H p xs ∧ atI xs i = some v ∧ Q v H
theorem get_list {X : Cx} : PGet X (rGetL X.K) := by
  intro pins s σ H x y v u Q I rx ry h
  obtain ⟨p, xs, i, z, rfl, rfl, h0, hq, he, q⟩ := h
  cases rx
  obtain ⟨t, rfl⟩ := ry
  obtain ⟨its, r, pl, hz⟩ := I.list hq
  obtain ⟨j, h1, h2, h3, h4, h5⟩ := atI_get he
  obtain ⟨w, ew, rw'⟩ := r.get h2
  have hl := r.length
  have hn := line63
  have hj : i.toNat = j := by
    rw [seqIndex_of h0 h5] at h1
    exact Option.some.inj h1
  exact wpAny_getItem_list pl.isList h0 (by omega) (by rw [hj]; simpa using ew) ⟨z, H, I, rw', q⟩
theorem getL {X : Cx} (K : PySem.W.Frag) (h : X.K = K := by rfl) : PGet X (rGetL K) := h ▸ get_list
/-- a situation: a pair of a number and a list of numbers -/
def Sit (K : PySem.W.Frag) (H : Hp) (v : V) (s : Int) (ns : List Int) : Prop := ∃ a ca, v = .ref a ∧ SqT K H a [.int s, .ref ca] ∧ SqL K H ca (ns.map V.int)
theorem Same.sit {K : PySem.W.Frag} {H H' : Hp} (e : Same H H') {v : V} {s : Int} {ns : List Int} (h : Sit K H v s ns) : Sit K H' v s ns := by
  obtain ⟨a, ca, e1, h1, h2⟩ := h
  exact ⟨a, ca, e1, Same.seqT e h1, e.seq h2⟩
def sitD (s : Int) (ns : List Int) : PyData := .tuple [.int s, .list (ns.map PyData.int)]
theorem sit_dp {K : PySem.W.Frag} {H : Hp} {v : V} {s : Int} {ns : List Int} (h : Sit K H v s ns) : Dp K H v (sitD s ns) := by
  obtain ⟨a, ca, rfl, h1, h2⟩ := h
  exact .tup h1 (.cons (.int _) (.cons (.lst h2 (dpa_ints ns)) .nil))
theorem dpa_intsE {K : PySem.W.Frag} {H : Hp} : ∀ {ns : List Int} {vs : List V}, DpAll K H vs (ns.map PyData.int) → vs = ns.map V.int
  | [], _, h => dpa_nil h
  | n :: ns, vs, h => by
    obtain ⟨v, r, rfl, h1, h2⟩ := dpa_cons h
    rw [dp_int h1, dpa_intsE h2]
    rfl
theorem dp_sit {K : PySem.W.Frag} {H : Hp} {v : V} {s : Int} {ns : List Int} (h : Dp K H v (sitD s ns)) : Sit K H v s ns := by
  obtain ⟨a, xs, rfl, h1, h2⟩ := dp_tup h
  obtain ⟨v1, r1, rfl, d1, h2⟩ := dpa_cons h2
  obtain ⟨v2, r2, rfl, d2, h2⟩ := dpa_cons h2
  obtain rfl := dpa_nil h2
  obtain ⟨ca, cxs, rfl, h3, h4⟩ := dp_lst d2
  rw [dp_int d1] at h1
  rw [dpa_intsE h4] at h3
  exact ⟨a, ca, rfl, h1, h3⟩
/-- at least as many everywhere -/
def geAll : List Int → List Int → Bool
  | m :: ms, n :: ns => decide (n ≤ m) && geAll ms ns
  | _, _ => true
theorem geAll_refl : ∀ ms : List Int, geAll ms ms = true
  | [] => rfl
  | m :: ms => by
    show (decide (m ≤ m) && geAll ms ms) = true
    rw [decide_eq_true (Int.le_refl m), geAll_refl ms]
    rfl
theorem geAll_take {ms ns : List Int} {m n : Int} : ∀ {i : Nat}, ms[i]? = some m → ns[i]? = some n → geAll (ms.take (i + 1)) (ns.take (i + 1)) = (geAll (ms.take i) (ns.take i) && decide (n ≤ m)) := by
  induction ms generalizing ns with
  | nil => intro i h; simp at h
  | cons a ms ih =>
    intro i h1 h2
    cases ns with
    | nil => simp at h2
    | cons b ns =>
      cases i with
      | zero =>
        cases h1
        cases h2
        show (decide (n ≤ m) && geAll (ms.take 0) (ns.take 0)) = (true && _)
        rw [List.take_zero, List.take_zero]
        show (decide (n ≤ m) && true) = _
        rw [Bool.and_true, Bool.true_and]
      | succ i =>
        show (decide (b ≤ a) && geAll (ms.take (i + 1)) (ns.take (i + 1))) = ((decide (b ≤ a) && geAll (ms.take i) (ns.take i)) && decide (n ≤ m))
        rw [ih h1 h2, Bool.and_assoc]
theorem geAll_false {ms ns : List Int} : ∀ {i : Nat}, geAll (ms.take i) (ns.take i) = false → geAll ms ns = false := by
  induction ms generalizing ns with
  | nil => intro i h; rw [List.take_nil] at h; cases h
  | cons a ms ih =>
    intro i h
    cases ns with
    | nil => rw [List.take_nil] at h; cases i <;> cases h
    | cons b ns =>
      cases i with
      | zero => cases h
      | succ i =>
        have h' : (decide (b ≤ a) && geAll (ms.take i) (ns.take i)) = false := h
        show (decide (b ≤ a) && geAll ms ns) = false
        cases hb : decide (b ≤ a) with
        | false => rfl
        | true =>
          rw [hb, Bool.true_and] at h'
          rw [ih h']
          rfl
/-- the first covers the second -/
def covB (s : Int) (ms : List Int) (t : Int) (ns : List Int) : Bool := decide (s = t) && geAll ms ns
theorem covB_refl (s : Int) (ms : List Int) : covB s ms s ms = true := by
  unfold covB
  rw [decide_eq_true (show s = s from rfl), geAll_refl]
  rfl
theorem ixN_nat {n j : Nat} (hj : j < n) : ixN n (j : Int) = some j := by
  unfold ixN
  rw [if_pos (by omega), if_pos (by omega)]
  simp
theorem gd {ds : List Int} {i : Nat} (h : i < ds.length) : ds[i]? = some (ds.getD i 0) := by
  rw [List.getD_eq_getElem?_getD, List.getElem?_eq_getElem h]
  rfl
theorem gd_mem {ds : List Int} {i : Nat} (h : i < ds.length) : ds.getD i 0 ∈ ds := List.mem_of_getElem? (gd h)
theorem at_gd {ds : List Int} {i : Int} {j : Nat} (e : i = (j : Int)) (h : j < ds.length) : atI (ds.map V.int) i = some (.int (ds.getD j 0)) := by
  rw [e]
  exact atI_nat (get_map (gd h))
theorem mod_in (z : Int) {m : Int} (h : 0 < m) : 0 ≤ z % m ∧ z % m < m := ⟨Int.emod_nonneg _ (by omega), Int.emod_lt_of_pos _ h⟩
theorem cut_ints {ds : List Int} {a n : Nat} {i j : Int} (h : a + n ≤ ds.length) (hi : i = (a : Int)) (hj : j = ((a + n : Nat) : Int)) : cutV (ds.map V.int) (some i) (some j) = ((ds.drop a).take n).map V.int := by
  subst hi
  subst hj
  unfold cutV
  rw [HT.sIx_nat, HT.sIx_nat, List.length_map, Nat.min_eq_left (show a ≤ ds.length by omega), Nat.min_eq_left h, List.map_take, List.map_drop, Nat.add_sub_cancel_left]
theorem rep_one (n : Nat) (x : V) : (List.replicate n [x]).flatten = List.replicate n x := by
  induction n with
  | zero => rfl
  | succ n ih =>
    show x :: (List.replicate n [x]).flatten = x :: List.replicate n x
    rw [ih]
theorem rep_map (n : Nat) (x : Int) : List.replicate n (V.int x) = (List.replicate n x).map V.int := by rw [List.map_replicate]
theorem int_eqE (a b : Int) : decide (V.int a = V.int b) = decide (a = b) := by
  by_cases h : a = b
  · rw [decide_eq_true h, h, decide_eq_true rfl]
  · rw [decide_eq_false h, decide_eq_false fun z => h (by cases z; rfl)]
/-- the heap without B -/
def Ho (B : Addr) (H : Hp) : Hp := fun x => if x = B then none else H x
theorem ho_out {B : Addr} {H : Hp} : Same (Ho B H) H := fun b x e => by
  unfold Ho at e
  split at e
  · cases e
  · exact e
theorem ho_same {B : Addr} {H H' : Hp} (s : Same H H') : Same (Ho B H) (Ho B H') := fun b x e => by
  unfold Ho at e ⊢
  split at e
  · cases e
  · rename_i h; rw [if_neg h]; exact s _ _ e
theorem ho_mut {B : Addr} {H : Hp} {u : HO} : Same (Ho B H) (Ho B (upd H B u)) := fun b x e => by
  unfold Ho at e ⊢
  split at e
  · cases e
  · rename_i h; rw [if_neg h, upd_ne h]; exact e
theorem ho_first {B : Addr} {H : Hp} {u : HO} (nB : H B = none) : Same H (Ho B (upd H B u)) := fun b x e => by
  have h : b ≠ B := ne_of_none e nB
  show (if b = B then none else upd H B u b) = _
  rw [if_neg h, upd_ne h]
  exact e
theorem dp_newT {K : PySem.W.Frag} {H : Hp} {p : Addr} {xs : List V} {ds : List PyData} (np : H p = none) (h : DpAll K H xs ds) : Dp K (upd H p (.tup xs)) (.ref p) (.tuple ds) := .tup (st upd_same) (dpAll_mono (same_new np) h)
theorem dp_newL {K : PySem.W.Frag} {H : Hp} {p : Addr} {xs : List V} {ds : List PyData} (np : H p = none) (h : DpAll K H xs ds) : Dp K (upd H p (.lst xs)) (.ref p) (.list ds) := .lst (sq upd_same) (dpAll_mono (same_new np) h)
theorem dpo_newT {K : PySem.W.Frag} {H : Hp} {B p : Addr} {o : HO} {xs : List V} {ds : List PyData} (eB : H B = some o) (np : H p = none) (h : DpAll K (Ho B H) xs ds) : Dp K (Ho B (upd H p (.tup xs))) (.ref p) (.tuple ds) := by
  have hne : p ≠ B := fun e => by rw [e, eB] at np; cases np
  refine .tup (st ?_) (dpAll_mono (ho_same (same_new np)) h)
  show (if p = B then none else upd H p (.tup xs) p) = _
  rw [if_neg hne]
  exact upd_same
theorem dpo_newL {K : PySem.W.Frag} {H : Hp} {B p : Addr} {o : HO} {xs : List V} {ds : List PyData} (eB : H B = some o) (np : H p = none) (h : DpAll K (Ho B H) xs ds) : Dp K (Ho B (upd H p (.lst xs))) (.ref p) (.list ds) := by
  have hne : p ≠ B := fun e => by rw [e, eB] at np; cases np
  refine .lst (sq ?_) (dpAll_mono (ho_same (same_new np)) h)
  show (if p = B then none else upd H p (.lst xs) p) = _
  rw [if_neg hne]
  exact upd_same
/-! ### machines -/
abbrev nV (n : Nat) : V := .int (n : Int)
abbrev nD (n : Nat) : PyData := .int (n : Int)
structure MvT where
  st : Nat
  pl : Nat
  ns : Nat
  np : Nat
  sd : Option Nat
  sh : List (Nat × Nat)
def sdV : Option Nat → V
  | none => .non
  | some d => nV d
def sdD : Option Nat → PyData
  | none => .none
  | some d => nD d
def shD (p : Nat × Nat) : PyData := .tuple [nD p.1, nD p.2]
def MvT.data (m : MvT) : PyData := .tuple [nD m.st, nD m.pl, nD m.ns, nD m.np, sdD m.sd, .list (m.sh.map shD)]
structure MT where
  states : Nat
  places : Nat
  sst : Nat
  cnts : List Int
  crew : Nat
  moves : List MvT
def MT.data (M : MT) : PyData := .tuple [nD M.states, nD M.places, sitD M.sst M.cnts, nD M.crew, .list (M.moves.map MvT.data)]
structure ShOk (sh : List (Nat × Nat)) (P : Nat) : Prop where
  asc : (sh.map (·.1)).Pairwise (· < ·)
  fst : ∀ p ∈ sh, p.1 < P
  snd : ∀ p ∈ sh, p.2 < P
  sep : ∀ p ∈ sh, ∀ q ∈ sh, p.2 ≠ q.1
structure MvT.Fit (m : MvT) (S P : Nat) : Prop where
  st : m.st < S
  pl : m.pl < P
  ns : m.ns < S
  np : m.np < P
  sd : ∀ d, m.sd = some d → d < P
  sh : ShOk m.sh P
structure MT.Ok (M : MT) : Prop where
  s1 : 1 ≤ M.states
  s2 : M.states ≤ 4
  p1 : 1 ≤ M.places
  p2 : M.places ≤ 6
  ss : M.sst < M.states
  cl : M.cnts.length = M.places
  cb : ∀ c ∈ M.cnts, 0 ≤ c ∧ c < 3
  cr : M.crew < M.places
  ml : M.moves.length ≤ 12
  fit : ∀ m ∈ M.moves, m.Fit M.states M.places
  nd : M.moves.Nodup
def shiftAll (sh : List (Nat × Nat)) (cs : List Int) : List Int := sh.foldl (fun cs p => (cs.set p.2 (cs.getD p.2 0 + cs.getD p.1 0)).set p.1 0) cs
def bump (cs : List Int) (k : Nat) (z : Int) : List Int := cs.set k (cs.getD k 0 + z)
def MvT.mid (m : MvT) (cs : List Int) : List Int := shiftAll m.sh (bump cs m.pl (-1))
def MvT.aft (m : MvT) (cs : List Int) : List Int := match m.sd with
  | none => bump (m.mid cs) m.np 1
  | some d => bump (bump (m.mid cs) m.np 1) d 1
def MvT.can (m : MvT) (s : Int) (cs : List Int) : Bool := decide ((m.st : Int) = s) && decide (0 < cs.getD m.pl 0)
def canAt (ms : List MvT) (s : Int) (cs : List Int) (k : Nat) : Bool := match ms[k]? with
  | some m => m.can s cs
  | none => false
def canL (ms : List MvT) (s : Int) (cs : List Int) : List Nat := (List.range ms.length).filter (canAt ms s cs)
theorem shiftAll_len : ∀ (sh : List (Nat × Nat)) (cs : List Int), (shiftAll sh cs).length = cs.length
  | [], _ => rfl
  | p :: r, cs => by
    show (shiftAll r _).length = _
    rw [shiftAll_len r, List.length_set, List.length_set]
theorem bump_len (cs : List Int) (k : Nat) (z : Int) : (bump cs k z).length = cs.length := List.length_set
theorem mid_len (m : MvT) (cs : List Int) : (m.mid cs).length = cs.length := by
  unfold MvT.mid
  rw [shiftAll_len, bump_len]
theorem aft_len (m : MvT) (cs : List Int) : (m.aft cs).length = cs.length := by
  unfold MvT.aft
  split
  · rw [bump_len, mid_len]
  · rw [bump_len, bump_len, mid_len]
theorem shiftAll_snoc (sh : List (Nat × Nat)) (p : Nat × Nat) (cs : List Int) : shiftAll (sh ++ [p]) cs = ((shiftAll sh cs).set p.2 ((shiftAll sh cs).getD p.2 0 + (shiftAll sh cs).getD p.1 0)).set p.1 0 := by
  unfold shiftAll
  rw [List.foldl_append]
  rfl
theorem filt_yes {f : Nat → Bool} {i : Nat} (h : f i = true) : (List.range (i + 1)).filter f = (List.range i).filter f ++ [i] := by
  rw [List.range_succ, List.filter_append, List.filter_cons, if_pos h]
  rfl
theorem filt_no {f : Nat → Bool} {i : Nat} (h : f i = false) : (List.range (i + 1)).filter f = (List.range i).filter f := by
  rw [List.range_succ, List.filter_append, List.filter_cons, if_neg (by rw [h]; decide)]
  show _ ++ [] = _
  rw [List.append_nil]
theorem filt_len (n : Nat) (f : Nat → Bool) : ((List.range n).filter f).length ≤ n := by
  have h := List.length_filter_le f (List.range n)
  rw [List.length_range] at h
  exact h
theorem mem_canL {ms : List MvT} {s : Int} {cs : List Int} {k : Nat} : k ∈ canL ms s cs ↔ ∃ m, ms[k]? = some m ∧ m.can s cs = true := by
  unfold canL
  rw [List.mem_filter, List.mem_range]
  unfold canAt
  constructor
  · rintro ⟨h1, h2⟩
    rw [List.getElem?_eq_getElem h1] at h2
    exact ⟨_, List.getElem?_eq_getElem h1, h2⟩
  · rintro ⟨m, h1, h2⟩
    rw [h1]
    exact ⟨(List.getElem?_eq_some_iff.mp h1).1, h2⟩
section
variable {K : PySem.W.Frag} {H : Hp}
theorem dp_sd {v : V} {o : Option Nat} (h : Dp K H v (sdD o)) : v = sdV o := by
  cases o with
  | none => cases h; rfl
  | some d => exact dp_int h
theorem sd_dp (o : Option Nat) : Dp K H (sdV o) (sdD o) := by
  cases o with
  | none => exact .non
  | some d => exact .int _
theorem dp_sh {v : V} {p : Nat × Nat} (h : Dp K H v (shD p)) : ∃ a, v = .ref a ∧ SqT K H a [nV p.1, nV p.2] := by
  obtain ⟨a, xs, rfl, hs, h⟩ := dp_tup h
  obtain ⟨v1, r1, rfl, d1, h⟩ := dpa_cons h
  obtain ⟨v2, r2, rfl, d2, h⟩ := dpa_cons h
  rw [dp_int d1, dp_int d2, dpa_nil h] at hs
  exact ⟨a, rfl, hs⟩
theorem dp_mv {v : V} {m : MvT} (h : Dp K H v m.data) : ∃ a sa xs, v = .ref a ∧ SqT K H a [nV m.st, nV m.pl, nV m.ns, nV m.np, sdV m.sd, .ref sa] ∧ SqL K H sa xs ∧ DpAll K H xs (m.sh.map shD) := by
  obtain ⟨a, xs, rfl, hs, h⟩ := dp_tup h
  obtain ⟨v1, r1, rfl, d1, h⟩ := dpa_cons h
  obtain ⟨v2, r2, rfl, d2, h⟩ := dpa_cons h
  obtain ⟨v3, r3, rfl, d3, h⟩ := dpa_cons h
  obtain ⟨v4, r4, rfl, d4, h⟩ := dpa_cons h
  obtain ⟨v5, r5, rfl, d5, h⟩ := dpa_cons h
  obtain ⟨v6, r6, rfl, d6, h⟩ := dpa_cons h
  obtain rfl := dpa_nil h
  obtain ⟨sa, ys, rfl, h1, h2⟩ := dp_lst d6
  rw [dp_int d1, dp_int d2, dp_int d3, dp_int d4, dp_sd d5] at hs
  exact ⟨a, sa, ys, rfl, hs, h1, h2⟩
theorem dp_mt {v : V} {M : MT} (h : Dp K H v M.data) : ∃ a sv ma xs, v = .ref a ∧ SqT K H a [nV M.states, nV M.places, sv, nV M.crew, .ref ma] ∧ Sit K H sv M.sst M.cnts ∧ SqL K H ma xs ∧ DpAll K H xs (M.moves.map MvT.data) := by
  obtain ⟨a, xs, rfl, hs, h⟩ := dp_tup h
  obtain ⟨v1, r1, rfl, d1, h⟩ := dpa_cons h
  obtain ⟨v2, r2, rfl, d2, h⟩ := dpa_cons h
  obtain ⟨v3, r3, rfl, d3, h⟩ := dpa_cons h
  obtain ⟨v4, r4, rfl, d4, h⟩ := dpa_cons h
  obtain ⟨v5, r5, rfl, d5, h⟩ := dpa_cons h
  obtain rfl := dpa_nil h
  obtain ⟨ma, ys, rfl, h1, h2⟩ := dp_lst d5
  rw [dp_int d1, dp_int d2, dp_int d4] at hs
  exact ⟨a, v3, ma, ys, rfl, hs, dp_sit d3, h1, h2⟩
theorem dpa_map_at {α : Type} {f : α → PyData} {xs : List V} {as : List α} (h : DpAll K H xs (as.map f)) {i : Nat} {x : V} (hx : xs[i]? = some x) : ∃ a, as[i]? = some a ∧ Dp K H x (f a) := by
  obtain ⟨d, hd, dx⟩ := dpa_at h hx
  obtain ⟨a, ha, rfl⟩ : ∃ a, as[i]? = some a ∧ d = f a := by
    rw [List.getElem?_map] at hd
    cases e : as[i]? with
    | none => rw [e] at hd; cases hd
    | some a => rw [e] at hd; exact ⟨a, rfl, (Option.some.inj hd).symm⟩
  exact ⟨a, ha, dx⟩
theorem dpa_map_at' {α : Type} {f : α → PyData} {xs : List V} {as : List α} (h : DpAll K H xs (as.map f)) {i : Nat} {a : α} (ha : as[i]? = some a) : ∃ x, xs[i]? = some x ∧ Dp K H x (f a) := by
  obtain ⟨v, hv, dv⟩ := dpa_at' h (i := i) (d := f a) (by rw [List.getElem?_map, ha]; rfl)
  exact ⟨v, hv, dv⟩
theorem dpa_map_len {α : Type} {f : α → PyData} {xs : List V} {as : List α} (h : DpAll K H xs (as.map f)) : xs.length = as.length := by
  have := dpa_len h
  rw [List.length_map] at this
  exact this
end
theorem at_n {xs : List V} {i : Int} {j : Nat} {v : V} (e : i = (j : Int)) (h : xs[j]? = some v) : atI xs i = some v := by
  rw [e]
  exact atI_nat h
theorem hu65 {A : Around} {k : Nat} (hr : Room k A) : A.units + 65 < cLine := by
  have := hr.un
  omega
theorem opNotInD {X : Cx} (K : PySem.W.Frag) (hu : X.A.units + 65 < cLine) (h : X.K = K := by rfl) : OpR X (compareOp .NotIn) (rNotInD K) := h ▸ op_notInD hu
theorem opInD {X : Cx} (K : PySem.W.Frag) (hu : X.A.units + 65 < cLine) (h : X.K = K := by rfl) : OpR X (compareOp .In) (rInD K) := h ▸ op_inD hu
section
variable {P : Program} {w : World} {K : PySem.W.Frag} {mg : Str → Option Value} {base : Heap}
theorem set_int (cs : List Int) (k : Nat) (z : Int) : (cs.map V.int).set k (.int z) = (cs.set k z).map V.int := List.map_set.symm
/-- the situation after a move -/
def NewSit (H H' : Hp) (p : Addr) (s : Int) (cs : List Int) : Prop := ∃ ca, H p = none ∧ H ca = none ∧ ca ≠ p ∧ H' p = some (.tup [.int s, .ref ca]) ∧ H' ca = some (.lst (cs.map V.int))
theorem NewSit.sit {H H' : Hp} {p : Addr} {s : Int} {cs : List Int} (h : NewSit H H' p s cs) : Sit K H' (.ref p) s cs := by
  obtain ⟨ca, _, _, _, h1, h2⟩ := h
  exact ⟨p, ca, rfl, st h1, sq h2⟩
def spIsPos (K : PySem.W.Frag) : Sp := fun vs H Q _ => ∃ (v x : V) (M : MT) (i : Nat) (m : MvT) (s : Int) (cs : List Int), vs = [v, x, nV i] ∧ Dp K H v M.data ∧ Sit K H x s cs ∧ M.moves[i]? = some m ∧ m.pl < cs.length ∧ Q (.bl (m.can s cs)) H
def spStart (K : PySem.W.Frag) : Sp := fun vs H Q _ => ∃ (v : V) (M : MT) (n : Int), vs = [v, .int n] ∧ Dp K H v M.data ∧ 0 ≤ n ∧ M.crew < M.cnts.length ∧ ∀ H' p, Same H H' → NewSit H H' p M.sst (bump M.cnts M.crew n) → Q (.ref p) H'
end
/-! ### wide situations: counts that may be None -/
def oV : Option Int → V
  | none => .non
  | some i => .int i
def oD : Option Int → PyData
  | none => .none
  | some i => .int i
def WSit (K : PySem.W.Frag) (H : Hp) (v : V) (s : Int) (ns : List (Option Int)) : Prop := ∃ a ca, v = .ref a ∧ SqT K H a [.int s, .ref ca] ∧ SqL K H ca (ns.map oV)
theorem Same.wsit {K : PySem.W.Frag} {H H' : Hp} (e : Same H H') {v : V} {s : Int} {ns : List (Option Int)} (h : WSit K H v s ns) : WSit K H' v s ns := by
  obtain ⟨a, ca, e1, h1, h2⟩ := h
  exact ⟨a, ca, e1, Same.seqT e h1, e.seq h2⟩
def wsitD (s : Int) (ns : List (Option Int)) : PyData := .tuple [.int s, .list (ns.map oD)]
theorem dp_oV {K : PySem.W.Frag} {H : Hp} : ∀ n : Option Int, Dp K H (oV n) (oD n)
  | none => .non
  | some i => .int i
theorem dpa_os {K : PySem.W.Frag} {H : Hp} : ∀ ns : List (Option Int), DpAll K H (ns.map oV) (ns.map oD)
  | [] => .nil
  | n :: r => .cons (dp_oV n) (dpa_os r)
theorem wsit_dp {K : PySem.W.Frag} {H : Hp} {v : V} {s : Int} {ns : List (Option Int)} (h : WSit K H v s ns) : Dp K H v (wsitD s ns) := by
  obtain ⟨a, ca, rfl, h1, h2⟩ := h
  exact .tup h1 (.cons (.int _) (.cons (.lst h2 (dpa_os ns)) .nil))
theorem dp_oE {K : PySem.W.Frag} {H : Hp} {v : V} : ∀ {n : Option Int}, Dp K H v (oD n) → v = oV n
  | none, h => by cases h; rfl
  | some i, h => dp_int h
theorem dpa_osE {K : PySem.W.Frag} {H : Hp} : ∀ {ns : List (Option Int)} {vs : List V}, DpAll K H vs (ns.map oD) → vs = ns.map oV
  | [], _, h => dpa_nil h
  | n :: ns, vs, h => by
    obtain ⟨v, r, rfl, h1, h2⟩ := dpa_cons h
    rw [dp_oE h1, dpa_osE h2]
    rfl
theorem dp_wsit {K : PySem.W.Frag} {H : Hp} {v : V} {s : Int} {ns : List (Option Int)} (h : Dp K H v (wsitD s ns)) : WSit K H v s ns := by
  obtain ⟨a, xs, rfl, h1, h2⟩ := dp_tup h
  obtain ⟨v1, r1, rfl, d1, h2⟩ := dpa_cons h2
  obtain ⟨v2, r2, rfl, d2, h2⟩ := dpa_cons h2
  obtain rfl := dpa_nil h2
  obtain ⟨ca, cxs, rfl, h3, h4⟩ := dp_lst d2
  rw [dp_int d1] at h1
  rw [dpa_osE h4] at h3
  exact ⟨a, ca, rfl, h1, h3⟩
/-- a count that is enough for another one -/
def geO : Option Int → Option Int → Bool
  | none, _ => true
  | some m, some n => decide (n ≤ m)
  | some _, none => false
def geW : List (Option Int) → List (Option Int) → Bool
  | m :: ms, n :: ns => geO m n && geW ms ns
  | _, _ => true
theorem geO_refl : ∀ m : Option Int, geO m m = true
  | none => rfl
  | some m => decide_eq_true (Int.le_refl m)
theorem geW_refl : ∀ ms : List (Option Int), geW ms ms = true
  | [] => rfl
  | m :: ms => by
    show (geO m m && geW ms ms) = true
    rw [geO_refl, geW_refl ms]
    rfl
theorem geW_take {ms ns : List (Option Int)} {m n : Option Int} : ∀ {i : Nat}, ms[i]? = some m → ns[i]? = some n → geW (ms.take (i + 1)) (ns.take (i + 1)) = (geW (ms.take i) (ns.take i) && geO m n) := by
  induction ms generalizing ns with
  | nil => intro i h; simp at h
  | cons a ms ih =>
    intro i h1 h2
    cases ns with
    | nil => simp at h2
    | cons b ns =>
      cases i with
      | zero =>
        cases h1
        cases h2
        show (geO m n && geW (ms.take 0) (ns.take 0)) = (true && _)
        rw [List.take_zero, List.take_zero]
        show (geO m n && true) = _
        rw [Bool.and_true, Bool.true_and]
      | succ i =>
        show (geO a b && geW (ms.take (i + 1)) (ns.take (i + 1))) = ((geO a b && geW (ms.take i) (ns.take i)) && geO m n)
        rw [ih h1 h2, Bool.and_assoc]
theorem geW_false {ms ns : List (Option Int)} : ∀ {i : Nat}, geW (ms.take i) (ns.take i) = false → geW ms ns = false := by
  induction ms generalizing ns with
  | nil => intro i h; rw [List.take_nil] at h; cases h
  | cons a ms ih =>
    intro i h
    cases ns with
    | nil => rw [List.take_nil] at h; cases i <;> cases h
    | cons b ns =>
      cases i with
      | zero => cases h
      | succ i =>
        have h' : (geO a b && geW (ms.take i) (ns.take i)) = false := h
        show (geO a b && geW ms ns) = false
        cases hb : geO a b with
        | false => rfl
        | true =>
          rw [hb, Bool.true_and] at h'
          rw [ih h']
          rfl
/-- the first wide situation covers the second one -/
def covW (s : Int) (ms : List (Option Int)) (t : Int) (ns : List (Option Int)) : Bool := decide (s = t) && geW ms ns
theorem covW_refl (s : Int) (ms : List (Option Int)) : covW s ms s ms = true := by
  unfold covW
  rw [decide_eq_true (show s = s from rfl), geW_refl]
  rfl
theorem gdO {ds : List (Option Int)} {i : Nat} (h : i < ds.length) : ds[i]? = some (ds.getD i none) := by
  rw [List.getD_eq_getElem?_getD, List.getElem?_eq_getElem h]
  rfl
theorem gdO_mem {ds : List (Option Int)} {i : Nat} (h : i < ds.length) : ds.getD i none ∈ ds := List.mem_of_getElem? (gdO h)
theorem at_gdO {ds : List (Option Int)} {i : Int} {j : Nat} (e : i = (j : Int)) (h : j < ds.length) : atI (ds.map oV) i = some (oV (ds.getD j none)) := by
  rw [e]
  exact atI_nat (get_map (gdO h))
theorem oV_non {m : Option Int} : decide (oV m = .non) = m.isNone := by
  cases m with
  | none => rfl
  | some i => exact decide_eq_false fun z => by cases z
/-- a comprehension over a range, any values -/
theorem lc_valR {K : PySem.W.Frag} {n : Nat} (hn : n ≤ 90000) {j : Nat} {te : TE} {vs : List Nat} {σ : L2.St} {H1 : Hp} {D : Addr} {Qd : Hp → Prop} (nD : H1 D = none) (f : Nat → V) (hw : ∀ x, wipe ((wipe σ vs).set j x) vs = wipe σ vs)
    (hs : ∀ i H (Q : VK), i < n → Same H1 H → (∀ H4, Same H H4 → Q (f i) H4) → te ((wipe σ vs).set j (some (.int ((0 : Int) + (i : Int))))) H Q)
    (hd : ∀ H, Same H1 H → H D = some (.lst ((List.range n).map f)) → Qd H) :
    ∃ W : Nat → Nat → Hp → Prop, (∃ m, W 0 m (upd H1 D (.lst []))) ∧ ∀ i m H, W i m H →
      ((Itr 0 n).stop i H ∧ Qd H) ∨ ((Itr 0 n).go i H ∧ ∃ Nx : Hp → Prop, (∀ H', Nx H' → ∃ m', m' < m ∧ W (i + 1) m' H') ∧ ∀ x H', (Itr 0 n).yld i H x H' → gName j x (wipe σ vs) H' fun σ2 H2 => wipe σ2 vs = wipe σ vs ∧ tYes σ2 H2 fun b H3 =>
        if b = true then te σ2 H3 fun y H4 => ∃ acc, H4 D = some (.lst acc) ∧ acc.length < sizeLine ∧ Nx (upd H4 D (.lst (acc ++ [y]))) else Nx H3) := by
  refine lc_range (fun i H' => Same H1 H' ∧ H' D = some (.lst ((List.range i).map f))) ⟨same_new nD, upd_same⟩ ?_ fun H h => hd H h.1 h.2
  rintro i H hi ⟨sm, eD⟩
  refine ⟨hw _, ?_⟩
  show te _ H _
  refine hs i H _ hi sm fun H' s => ?_
  refine ⟨_, s _ _ eD, ?_, Same.mut (sm.trans s) nD, ?_⟩
  · rw [List.length_map, List.length_range]
    exact szl (by omega)
  · rw [upd_same, List.range_succ, List.map_append]
    rfl
section
variable {P : Program} {w : World} {K : PySem.W.Frag} {mg : Str → Option Value} {base : Heap}
end
section
variable {P : Program} {w : World} {K : PySem.W.Frag} {mg : Str → Option Value} {base : Heap}
/-- a comprehension of numbers over a range -/
theorem lc_intR {n : Nat} (hn : n ≤ 90000) {j : Nat} {te : TE} {vs : List Nat} {σ : L2.St} {H1 : Hp} {D : Addr} {Qd : Hp → Prop} (nD : H1 D = none) (f : Nat → Int) (hw : ∀ x, wipe ((wipe σ vs).set j x) vs = wipe σ vs)
    (hs : ∀ i H, i < n → Same H1 H → te ((wipe σ vs).set j (some (.int ((0 : Int) + (i : Int))))) H fun y H4 => y = .int (f i) ∧ Same H H4)
    (mono : ∀ σ H (Q Q' : VK), (∀ v H', Q v H' → Q' v H') → te σ H Q → te σ H Q')
    (hd : ∀ H, Same H1 H → H D = some (.lst (((List.range n).map f).map V.int)) → Qd H) :
    ∃ W : Nat → Nat → Hp → Prop, (∃ m, W 0 m (upd H1 D (.lst []))) ∧ ∀ i m H, W i m H →
      ((Itr 0 n).stop i H ∧ Qd H) ∨ ((Itr 0 n).go i H ∧ ∃ Nx : Hp → Prop, (∀ H', Nx H' → ∃ m', m' < m ∧ W (i + 1) m' H') ∧ ∀ x H', (Itr 0 n).yld i H x H' → gName j x (wipe σ vs) H' fun σ2 H2 => wipe σ2 vs = wipe σ vs ∧ tYes σ2 H2 fun b H3 =>
        if b = true then te σ2 H3 fun y H4 => ∃ acc, H4 D = some (.lst acc) ∧ acc.length < sizeLine ∧ Nx (upd H4 D (.lst (acc ++ [y]))) else Nx H3) := by
  refine lc_range (fun i H' => Same H1 H' ∧ H' D = some (.lst (((List.range i).map f).map V.int))) ⟨same_new nD, upd_same⟩ ?_ fun H h => hd H h.1 h.2
  rintro i H hi ⟨sm, eD⟩
  refine ⟨hw _, ?_⟩
  show te _ H _
  refine mono _ _ _ _ ?_ (hs i H hi sm)
  rintro v H' ⟨rfl, s⟩
  refine ⟨_, s _ _ eD, ?_, Same.mut (sm.trans s) nD, ?_⟩
  · rw [List.length_map, List.length_map, List.length_range]
    exact szl (by omega)
  · rw [upd_same, List.range_succ, List.map_append, List.map_append]
    rfl
abbrev s_law_cell : Stmt := topS 4
theorem sc_law_cell : FnScope ["script", "k"] ["script", "k"] (defScope s_law_cell) := ⟨rfl, rfl, rfl, by decide +kernel, rfl, by decide +kernel, by decide +kernel⟩
-- _law_cell slots: script=0 k=1 globals: len abs int
def spCellP (K : PySem.W.Frag) : Sp := fun vs H Q _ => ∃ (a : Addr) (ns : List Int) (k : Nat), vs = [.ref a, .int (k : Int)] ∧ SqL K H a (ns.map V.int) ∧ ∀ z : Int, 0 ≤ z → Q (.int z) H
theorem fd_law_cell {f : Addr} {fd : FuncData} (F : Fun K "_law_cell" "_law_cell" s_law_cell f fd) (m : mg "_law_cell" = some (.ref f)) (B : Bt mg) : Fd P w K mg base "_law_cell" ["script", "k"] 1 (spCellP K) := by
  refine ⟨f, fd, F.ok sc_law_cell (fun vs H Q E h => ?_) (fun cdv A outer s H vs Q E hr h => ?_), m, F.kp, F.binds (ps := ["script", "k"]) fun _ _ _ _ _ _ us hl => match us, hl with | [_, _], _ => rfl⟩
  · obtain ⟨a, ns, k, rfl, _⟩ := h
    rfl
  obtain ⟨a, ns, k, rfl, hs, q⟩ := h
  refine ⟨_, (pss_cons (ps_if (pt_cmpR op_lt (pv 1) (pe_callB (cLen K) (by rfl) B.len PySem.boot_len (pa_cons (pv 0) pa_nil)) (nomark _))
 (pss_one (ps_ret (pe_callB call_abs (by rfl) B.abs (by decide +kernel) (pa_cons (pe_callTy call_int1 (by rfl) B.int (by decide +kernel) (pa_cons (pe_ix (ixQ K) (pv 0) (pv 1) (fun _ _ => rfl)) pa_nil)) pa_nil))))
 pss_nil)
 (pss_one (ps_ret pe_int))), ?_⟩
  refine ⟨_, rfl, _, rfl, a, _, rfl, .inl hs, _, _, rfl, rfl, _, rfl, ite2 (fun e => ?_) (fun e => ?_)⟩
  · have e1 := of_decide_eq_true e
    rw [List.length_map] at e1
    have e2 : k < ns.length := by omega
    refine ⟨_, rfl, _, rfl, .inl ⟨a, _, _, _, rfl, rfl, hs, atI_nat (get_map (List.getElem?_eq_getElem e2)), .inl ⟨_, rfl, _, rfl, q _ ?_⟩⟩⟩
    split <;> omega
  · exact q _ (by decide)
abbrev s_law_digits : Stmt := topS 5
theorem sc_law_digits : FnScope ["cell", "base", "most", "digits", "large", "k"] ["cell", "base", "most"] (defScope s_law_digits) := ⟨rfl, rfl, rfl, by decide +kernel, rfl, by decide +kernel, by decide +kernel⟩
-- _law_digits slots: cell=0 base=1 most=2 digits=3 large=4 k=5 globals: range int
def spDigits (K : PySem.W.Frag) : Sp := fun vs H Q _ => ∃ (c b : Int) (n : Nat), vs = [.int c, .int b, .int (n : Int)] ∧ 0 ≤ c ∧ 0 < b ∧ b < 1073741824 ∧ n ≤ 10000 ∧
  ∀ H' p (ds : List Int), Same H H' → H p = none → H' p = some (.lst (ds.map V.int)) → ds.length = n → (∀ d ∈ ds, 0 ≤ d ∧ d < b) → Q (.ref p) H'
theorem fd_law_digits {f : Addr} {fd : FuncData} (F : Fun K "_law_digits" "_law_digits" s_law_digits f fd) (m : mg "_law_digits" = some (.ref f)) (B : Bt mg) : Fd P w K mg base "_law_digits" ["cell", "base", "most"] 1 (spDigits K) := by
  refine ⟨f, fd, F.ok sc_law_digits (fun vs H Q E h => ?_) (fun cdv A outer s H vs Q E hr h => ?_), m, F.kp, F.binds (ps := ["cell", "base", "most"]) fun _ _ _ _ _ _ us hl => match us, hl with | [_, _, _], _ => rfl⟩
  · obtain ⟨c, b, n, rfl, _⟩ := h
    rfl
  obtain ⟨c, b, n, rfl, hc, hb, hb2, hn, q⟩ := h
  refine ⟨_, (pss_cons (ps_set (i := 3) sc_law_digits.nd rfl (Or.inl rfl) (pe_lst pa_nil))
 (pss_cons (ps_set (i := 4) sc_law_digits.nd rfl (Or.inl rfl) (pe_cmpR op_ge (pv 0) (pe_op op_pow pe_int pe_int) (nomark _)))
 (pss_cons (ps_for PassesOwn.never rfl (pi_range1 rfl B.range (pa_cons (pv 2) pa_nil)) (pg_name (i := 5) sc_law_digits.nd rfl (Or.inl rfl))
 (pss_one (ps_if (pt_val (pv 4))
 (pss_cons (ps_expr (peBm K PySem.F.plainAttrs_list PySem.F.slot_list_append PySem.F.type_list_append mt_append (pv 3) (pa_cons (pe_op op_mod (pe_callTy call_int1 (by rfl) B.int (by decide +kernel) (pa_cons (pv 0) pa_nil)) (pv 1)) pa_nil)))
 (pss_one (ps_set (i := 0) sc_law_digits.nd rfl (Or.inl rfl) (pe_op op_fdiv (pv 0) (pv 1)))))
 (pss_one (ps_expr (peBm K PySem.F.plainAttrs_list PySem.F.slot_list_append PySem.F.type_list_append mt_append (pv 3) (pa_cons (pe_op op_mod (pe_op op_mod (pe_callTy call_int1 (by rfl) B.int (by decide +kernel) (pa_cons (pe_op op_add (pe_op op_add (pe_op op_mul (pv 0) pe_int) (pe_op op_mul (pe_op op_mul (pe_op op_add (pv 5) pe_int) (pe_op op_add (pv 5) pe_int)) pe_int)) (pe_op op_mul (pe_op op_fdiv (pv 0) pe_int) (pv 5))) pa_nil)) pe_int) (pv 1)) pa_nil)))))))
 (pss_one (ps_ret (pv 3)))))), ?_⟩
  refine ⟨sz (by decide), fun o no => ?_⟩
  refine ⟨_, rfl, _, _, rfl, rfl, ⟨by decide, by decide, by decide⟩, _, _, rfl, rfl, ?_⟩
  refine ⟨_, rfl, n, rfl, by omega, by omega, for_range (lo := 0) (n := n) (fun i σ' H' => ∃ (lg : Bool) (c' : Int) (y : Option V) (ds : List Int), σ' = [some (.int c'), some (.int b), some (.int (n : Int)), some (.ref o), some (.bl lg), y] ∧ 0 ≤ c' ∧ Same H H' ∧ H' o = some (.lst (ds.map V.int)) ∧ ds.length = i ∧ ∀ d ∈ ds, 0 ≤ d ∧ d < b) ⟨_, c, none, [], rfl, hc, same_new no, upd_same, rfl, fun d hd => by cases hd⟩ ?_ ?_⟩
  · rintro i σ' H' hi ⟨lg, c', y, ds, rfl, hc', sm, eo, hl, hd⟩
    have dl : (ds.map V.int).length < sizeLine := szl (by rw [List.length_map]; omega)
    have hm : ∀ z : Int, 0 ≤ z % b ∧ z % b < b := fun z => ⟨Int.emod_nonneg _ (by omega), Int.emod_lt_of_pos _ hb⟩
    have fin : ∀ (c2 d : Int), 0 ≤ c2 → (0 ≤ d ∧ d < b) → ∃ (lg' : Bool) (c' : Int) (y : Option V) (ds' : List Int), [some (V.int c2), some (.int b), some (.int (n : Int)), some (.ref o), some (.bl lg), some (.int (0 + (i : Int)))] = [some (.int c'), some (.int b), some (.int (n : Int)), some (.ref o), some (.bl lg'), y] ∧ 0 ≤ c' ∧ Same H (upd H' o (.lst (ds.map V.int ++ [.int d]))) ∧ (upd H' o (.lst (ds.map V.int ++ [.int d]))) o = some (.lst (ds'.map V.int)) ∧ ds'.length = i + 1 ∧ ∀ d ∈ ds', 0 ≤ d ∧ d < b := fun c2 d h1 h2 =>
      ⟨lg, c2, _, ds ++ [d], rfl, h1, Same.mut sm no, by rw [upd_same, List.map_append]; rfl, by rw [List.length_append, hl]; rfl, fun x hx => by
        rcases List.mem_append.mp hx with hx | hx
        · exact hd x hx
        · rw [List.mem_singleton.mp hx]; exact h2⟩
    refine ⟨_, rfl, lg, rfl, ?_⟩
    cases lg with
    | true =>
      refine iteT ?_
      refine ⟨_, rfl, .inl ⟨rfl, _, sq eo⟩, _, rfl, .inl ⟨_, rfl, _, rfl, _, _, rfl, rfl, hb, o, _, _, rfl, rfl, eo, dl, ?_⟩⟩
      refine ⟨_, rfl, _, rfl, _, _, rfl, rfl, ⟨hb, hb2⟩, ?_⟩
      exact fin _ _ (Int.ediv_nonneg hc' (by omega)) (hm _)
    | false =>
      refine iteF ?_
      refine ⟨_, rfl, .inl ⟨rfl, _, sq eo⟩, _, rfl, _, _, rfl, rfl, .inr ⟨by decide, by decide⟩, ?_⟩
      refine ⟨_, rfl, _, _, rfl, rfl, _, rfl, _, _, rfl, rfl, _, _, rfl, rfl, .inl ⟨by omega, by omega⟩, _, _, rfl, rfl, .inr ⟨by decide, by decide⟩, _, _, rfl, rfl, ?_⟩
      refine ⟨_, rfl, _, _, rfl, rfl, ⟨by decide, by decide⟩, _, rfl, _, _, rfl, rfl, .inr ⟨by omega, by omega⟩, _, _, rfl, rfl, ?_⟩
      refine .inl ⟨_, rfl, _, _, rfl, rfl, (by show (0 : Int) < 2147483647; decide), _, rfl, _, _, rfl, rfl, hb, o, _, _, rfl, rfl, eo, dl, ?_⟩
      exact fin _ _ hc' (hm _)
  · rintro σ' H' ⟨lg, c', y, ds, rfl, hc', sm, eo, hl, hd⟩
    exact ⟨_, rfl, q H' o ds sm no eo hl hd⟩
end
/-! ### min(xs, default=d) of whole numbers -/
section
open PySem.Sem
variable {prog : Program} {w : World} {A : Around} {R : Result → Shared → Prop} {I : Addr} {fp wr : List Addr} {n : Nat} {P : Nat → Value → Prop} {St : Nat → Heap → Prop}
theorem mind_loop {d : Value} (W : Walks prog w A.in1 I fp wr n P St) (bt : Nat → Nat → Bool) (cmp : CmpOf prog w A.in1 .Lt P bt) (S : Addr) (hS : S ∉ fp) :
    ∀ (k j : Nat) (s : Shared) (old : Array Value) (c : Nat), n - j = k → j ≤ n → St j s.heap → s.heap.get? S = some { cls := .type "list", dict := none, data := .seq old c, slots := #[] } →
    ((old = #[] ∧ j = 0) ∨ ∃ v, old = #[v, v] ∧ 1 ≤ j ∧ P (argBest bt (j - 1)) v) →
    (n = 0 → ∀ h' tk, (∀ b o, b ∉ wr → b ≠ S → s.heap.get? b = some o → h'.get? b = some o) → R (.ok (.ret d)) { s with heap := h', toks := tk }) →
    (0 < n → ∀ v h' tk, P (argBest bt (n - 1)) v → (∀ b o, b ∉ wr → b ≠ S → s.heap.get? b = some o → h'.get? b = some o) → R (.ok (.ret v)) { s with heap := h', toks := tk }) →
    codeAny (model prog w) A (.builtin "min.loop" ⟨[.ref I, .none, .ref S], [("default", d)]⟩) R s := by
  have Sw : S ∉ wr := fun h => hS (W.sub _ h)
  have nm : (toString "min" ++ toString ".loop" : String) = "min.loop" := by decide
  intro k
  induction k with
  | zero =>
    intro j s old c ek hj hst eS st r0 r1
    obtain rfl : j = n := by omega
    refine codeAny_builtin PySem.F.entry_min_loop ?_
    rw [Around.under_plainId PySem.F.plain_min_loop _]
    refine wpAny_bind (m := seqItems? (.ref S)) (wpAny_seqItems eS rfl ?_)
    refine wpAny_bind (wpAny_tryCatch (W.done s _ _ hst fun h' tk k1 => ?_))
    have eS' := k1 S _ Sw eS
    rcases st with ⟨rfl, rfl⟩ | ⟨v, rfl, h1, hP⟩
    · refine wpAny_bind (wpAny_rule (wpAny_pure (r0 rfl h' tk fun b o hw _ e => k1 b o hw e)))
    · refine wpAny_bind (m := updateSeq S (fun _ => #[])) ?_
      refine wpAny_updateSeq eS' rfl (wpAny_bind (wpAny_letGo (wpAny_pure ?_)))
      exact r1 (by omega) v _ tk hP fun b o hw hb e => (Heap.get?_update_other _ _ (Ne.symm hb)).trans (k1 b o hw e)
  | succ k ih =>
    intro j s old c ek hj hst eS st r0 r1
    have lt : j < n := by omega
    refine codeAny_builtin PySem.F.entry_min_loop ?_
    rw [Around.under_plainId PySem.F.plain_min_loop _]
    refine wpAny_bind (m := seqItems? (.ref S)) (wpAny_seqItems eS rfl ?_)
    refine wpAny_bind (wpAny_tryCatch (W.item j s _ _ lt hst fun v h' tk hP hst' k1 => ?_))
    have eS' := k1 S _ Sw eS
    have keep : ∀ {h2 : Heap}, (∀ b o, b ∉ wr → b ≠ S → h'.get? b = some o → h2.get? b = some o) → ∀ b o, b ∉ wr → b ≠ S → s.heap.get? b = some o → h2.get? b = some o := fun k2 b o hw hb e => k2 b o hw hb (k1 b o hw e)
    have upS : ∀ (x : Array Value) b o, b ≠ S → h'.get? b = some o → (h'.update S (Obj.mapSeq fun _ => x)).get? b = some o := fun x b o hb e => (Heap.get?_update_other _ _ (Ne.symm hb)).trans e
    have go : ∀ (x : Value), P (argBest bt j) x → (∀ (u : Unit), True) → codeAny (model prog w) A (.builtin "min.loop" ⟨[.ref I, .none, .ref S], [("default", d)]⟩) R { s with heap := h'.update S (Obj.mapSeq fun _ => #[x, x]), toks := tk } := fun x hx _ =>
      ih (j + 1) _ #[x, x] _ (by omega) (by omega) (W.frame _ _ _ hst' fun b hb o e => upS _ b o (fun z => hS (z ▸ hb)) e) (Heap.get?_update_self _ eS' rfl) (.inr ⟨x, rfl, by omega, by rw [Nat.add_sub_cancel]; exact hx⟩)
        (fun z => absurd z (by omega)) fun h0 v' h2 tk2 hP2 k2 => r1 h0 v' h2 tk2 hP2 fun b o hw hb e => k2 b o hw hb (upS _ b o hb (k1 b o hw e))
    rcases st with ⟨rfl, rfl⟩ | ⟨vb, rfl, h1, hPb⟩
    · refine wpAny_bind (m := updateSeq S (fun _ => #[v, v])) ?_
      refine wpAny_updateSeq eS' rfl ?_
      rw [nm]
      exact wpAny_pure ⟨plainId_quiet PySem.F.plain_min_loop _, go v hP fun _ => trivial⟩
    · refine wpAny_bind (wpAny_pure ?_)
      refine wpAny_bind (wpAny_tryCatch (wpAny_holding (wpAny_bind (cmp j (argBest bt (j - 1)) v vb _ _ _ hP hPb (wpAny_bind (wpAny_holding (wpAny_truthy_bool (wpAny_bind (wpAny_letGo (wpAny_pure ?_))))))))))
      have ab : argBest bt j = if bt j (argBest bt (j - 1)) then j else argBest bt (j - 1) := by
        obtain ⟨i, rfl⟩ : ∃ i, j = i + 1 := ⟨j - 1, by omega⟩
        rfl
      cases hb : bt j (argBest bt (j - 1)) with
      | true =>
        rw [hb, if_pos rfl] at ab
        simp only [if_true]
        refine wpAny_bind (m := updateSeq S (fun _ => #[v, v])) ?_
        refine wpAny_updateSeq eS' rfl (wpAny_bind (wpAny_letGo ?_))
        rw [nm]
        exact wpAny_pure ⟨plainId_quiet PySem.F.plain_min_loop _, go v (by rw [ab]; exact hP) fun _ => trivial⟩
      | false =>
        rw [hb] at ab
        simp only [Bool.false_eq_true, if_false] at ab ⊢
        refine wpAny_bind (wpAny_letGo ?_)
        rw [nm]
        refine wpAny_pure ⟨plainId_quiet PySem.F.plain_min_loop _, ih (j + 1) _ #[vb, vb] c (by omega) (by omega) hst' eS' (.inr ⟨vb, rfl, by omega, by rw [Nat.add_sub_cancel, ab]; exact hPb⟩) (fun z => absurd z (by omega)) fun h0 v' h2 tk2 hP2 k2 => ?_⟩
        exact r1 h0 v' h2 tk2 hP2 fun b o hw hb e => k2 b o hw hb (k1 b o hw e)
theorem mind_args (a d : Value) : argsOk "min" ⟨[a], [(Str.ofString "default", d)]⟩ := by unfold argsOk; kernel_rfl
theorem call_mind {E : Value → Shared → Prop} {s : Shared} {l : Addr} {d : Value} {xs : Array (Int × Tok)} {Q : Value → Shared → Prop} (hh : A.handled = none) (hl : s.heap.IsList l (intItems xs))
    (h0 : xs.size = 0 → ∀ h' tk, (∀ b o, s.heap.get? b = some o → h'.get? b = some o) → Q d { s with heap := h', toks := tk })
    (h1 : 0 < xs.size → ∀ v h' tk, (intItems xs)[argBest (fun i j => decide (numAt xs i < numAt xs j)) (xs.size - 1)]? = some v → (∀ b o, s.heap.get? b = some o → h'.get? b = some o) → Q v { s with heap := h', toks := tk }) :
    wpAny (model prog w) A (call (.builtin "min") [.ref l] [(Str.ofString "default", d)]) Q E s := by
  have nm : (toString "min" ++ toString ".loop" : String) = "min.loop" := by decide
  refine PyProof.Rows.kmk_tree PySem.F.kind_min PySem.F.plain_min PySem.F.entry_min (mind_args _ _) ?_
  refine wpAny_bind (wpAny_of_eq (show Builtin.Builtins.bindParams "min" ["key", "default"] 0 ⟨[], [(Str.ofString "default", d)]⟩ = pure [none, some d] from rfl) ?_)
  refine wpAny_bind (wpAny_pure ?_)
  refine wpAny_bind (iter_intList hl fun s2 e st hfp hlI => ?_)
  subst e
  refine wpAny_bind (wpAny_newObj_type ?_)
  rw [nm]
  have sz : (intItems xs).size = xs.size := by simp [intItems]
  have W := Walks.list (prog := prog) (w := w) (A := A.in1) hh s.heap.objs.size l hlI (intItems xs)
  have kept := @old_kept s l
  refine wpAny_pure ⟨plainId_quiet PySem.F.plain_min_loop _, ?_⟩
  refine mind_loop W _ (CmpOf.ints_lt (numAt xs) fun _ _ => intItems_at) (s.heap.push { cls := .type "list_iterator", data := .fields #[.ref l, .int 0 0] }).objs.size (fun hm => Nat.lt_irrefl _ (hfp _ hm)) _ 0 _ #[] _ rfl (Nat.zero_le _) (W.frame _ _ _ st fun b _ o e => Heap.get?_push_of_some _ e) (Heap.get?_push_size _ rfl) (.inl ⟨rfl, rfl⟩)
    (fun z h' tk k1 => h0 (by rw [← sz]; exact z) h' tk (kept fun b o hb e => k1 b o hb (Nat.ne_of_lt (Heap.lt_size e)) (Heap.get?_push_of_some _ e)))
    (fun z v h' tk hP k1 => h1 (by rw [← sz]; exact z) v h' tk (by rw [sz] at hP; exact hP) (kept fun b o hb e => k1 b o hb (Nat.ne_of_lt (Heap.lt_size e)) (Heap.get?_push_of_some _ e)))
end
section
variable {X : Cx}
def rMinD (K : PySem.W.Frag) : List V → List V → Hp → VK → Prop := fun vs zs H Q => ∃ (a : Addr) (ns : List Int), vs = [V.ref a] ∧ zs = [.non] ∧ SqL K H a (ns.map V.int) ∧ (ns = [] → Q .non H) ∧ ∀ m, m ∈ ns → (∀ y, y ∈ ns → m ≤ y) → Q (.int m) H
theorem cr_minD (hc : X.calm = true) : CallRK X (.builtin "min") [Str.ofString "default"] (rMinD X.K) := by
  intro pins s σ H vs zs us ws Q I r rz h
  obtain ⟨a, ns, rfl, rfl, hs, q0, q1⟩ := h
  obtain rfl := Vals.ref1 r
  obtain ⟨w1, rfl, e1⟩ := vals1 rz
  obtain rfl : w1 = Value.none := e1
  obtain ⟨its, rv, hl, _⟩ := I.list hs
  have hi := rv.ints
  obtain ⟨xs, e⟩ := hi.allInts.items
  have ens : (intItems xs).toList = its := by rw [← e]
  have hn : numsOf (intItems xs).toList = ns := by rw [ens]; exact hi.numsOf
  rw [nums_intItems] at hn
  have hL := hl.isList
  rw [e] at hL
  have ln : xs.size = ns.length := by rw [← hn]; simp
  refine call_mind (I.ok.hd hc) hL (fun z h' tk k => ?_) fun z v h' tk hv k => ?_
  · exact ⟨.non, H, I.kept k, rfl, q0 (List.length_eq_zero_iff.mp (by omega))⟩
  · obtain ⟨t, rfl⟩ := intItems_at hv
    obtain ⟨m1, m2⟩ := argBest_lt (numAt xs) (xs.size - 1)
    refine ⟨.int _, H, I.kept k, ⟨_, rfl⟩, q1 _ ?_ fun y hy => ?_⟩
    · rw [numAt_eq, ← hn]
      exact PySem.getD_mem (by rw [List.length_map, Array.length_toList]; omega)
    · rw [← hn] at hy
      obtain ⟨j, hj, rfl⟩ := mem_getD hy
      rw [List.length_map, Array.length_toList] at hj
      rw [← numAt_eq]
      exact m2 j (by omega)
theorem cMinD (K : PySem.W.Frag) (hc : X.calm = true) (h : X.K = K := by rfl) : CallRK X (.builtin "min") [Str.ofString "default"] (rMinD K) := h ▸ cr_minD hc
end
/-! ### drawn rows, each with a list of its own -/
section
variable {P : Program} {w : World} {K : PySem.W.Frag} {mg : Str → Option Value} {base : Heap}
abbrev Sp2 := Int × List Int
/-- the rows at t i with their counts at c i, no two of one list -/
structure Rws (G : Hp) (xs : List V) (bs : List Sp2) (t c : Nat → Addr) : Prop where
  len : xs.length = bs.length
  at' : ∀ i, i < bs.length → xs[i]? = some (.ref (t i))
  tup : ∀ i b, bs[i]? = some b → G (t i) = some (.tup [.int b.1, .ref (c i)])
  cnt : ∀ i b, bs[i]? = some b → G (c i) = some (.lst (b.2.map V.int))
  inj : ∀ i j, i < bs.length → j < bs.length → c i = c j → i = j
theorem Rws.nil {G : Hp} : Rws G [] [] (fun _ => 0) (fun _ => 0) := ⟨rfl, fun i h => absurd h (Nat.not_lt_zero _), fun i b h => by simp at h, fun i b h => by simp at h, fun i j h => absurd h (Nat.not_lt_zero _)⟩
theorem Rws.mono {G G' : Hp} {xs : List V} {bs : List Sp2} {t c : Nat → Addr} (h : Rws G xs bs t c) (s : Same G G') : Rws G' xs bs t c := ⟨h.len, h.at', fun i b e => s _ _ (h.tup i b e), fun i b e => s _ _ (h.cnt i b e), h.inj⟩
theorem Rws.snoc {G : Hp} {xs : List V} {bs : List Sp2} {t c : Nat → Addr} (h : Rws G xs bs t c) {T C : Addr} {b : Sp2} (hT : G T = some (.tup [.int b.1, .ref C])) (hC : G C = some (.lst (b.2.map V.int))) (hn : ∀ i, i < bs.length → c i ≠ C) :
    Rws G (xs ++ [.ref T]) (bs ++ [b]) (fun i => if i = bs.length then T else t i) (fun i => if i = bs.length then C else c i) := by
  have get : ∀ i b', (bs ++ [b])[i]? = some b' → (i = bs.length ∧ b' = b) ∨ (i < bs.length ∧ bs[i]? = some b') := fun i b' e => by
    rcases Nat.lt_trichotomy i bs.length with hlt | rfl | hgt
    · rw [List.getElem?_append_left hlt] at e; exact .inr ⟨hlt, e⟩
    · rw [List.getElem?_append_right (Nat.le_refl _), Nat.sub_self] at e; cases e; exact .inl ⟨rfl, rfl⟩
    · rw [List.getElem?_eq_none (by rw [List.length_append]; show bs.length + 1 ≤ i; omega)] at e; cases e
  refine ⟨by rw [List.length_append, List.length_append, h.len]; rfl, fun i hi => ?_, fun i b' e => ?_, fun i b' e => ?_, fun i j hi hj e => ?_⟩
  · rw [List.length_append] at hi
    by_cases e : i = bs.length
    · try dsimp only
      rw [if_pos e, e, ← h.len, List.getElem?_append_right (Nat.le_refl _), Nat.sub_self]
      rfl
    · have hl : i < bs.length := by have : i < bs.length + 1 := hi; omega
      try dsimp only
      rw [if_neg e, List.getElem?_append_left (by rw [h.len]; exact hl)]
      exact h.at' i hl
  · try dsimp only
    rcases get i b' e with ⟨rfl, rfl⟩ | ⟨hl, e'⟩
    · rw [if_pos rfl, if_pos rfl]; exact hT
    · rw [if_neg (by omega), if_neg (by omega)]; exact h.tup i b' e'
  · try dsimp only
    rcases get i b' e with ⟨rfl, rfl⟩ | ⟨hl, e'⟩
    · rw [if_pos rfl]; exact hC
    · rw [if_neg (by omega)]; exact h.cnt i b' e'
  · rw [List.length_append] at hi hj
    have hi' : i < bs.length + 1 := hi
    have hj' : j < bs.length + 1 := hj
    try dsimp only at e
    split at e
    · split at e
      · omega
      · exact absurd e.symm (hn j (by omega))
    · split at e
      · exact absurd e (hn i (by omega))
      · exact h.inj i j (by omega) (by omega) e
theorem Rws.dpa {G : Hp} : ∀ {bs : List Sp2} {xs : List V} {t c : Nat → Addr}, Rws G xs bs t c → DpAll K G xs (bs.map fun b => sitD b.1 b.2)
  | [], xs, t, c, h => by
    obtain rfl : xs = [] := List.length_eq_zero_iff.mp h.len
    exact .nil
  | b :: bs, xs, t, c, h => by
    cases xs with
    | nil => have := h.len; cases this
    | cons x xs =>
      have e0 := h.at' 0 (by show 0 < bs.length + 1; omega)
      have e0' : x = .ref (t 0) := Option.some.inj e0
      subst e0'
      refine .cons (sit_dp ⟨t 0, c 0, rfl, st (h.tup 0 b rfl), sq (h.cnt 0 b rfl)⟩) (Rws.dpa (t := fun i => t (i + 1)) (c := fun i => c (i + 1)) ⟨Nat.succ.inj h.len, fun i hi => h.at' (i + 1) (Nat.succ_lt_succ hi), fun i b' e => h.tup (i + 1) b' e, fun i b' e => h.cnt (i + 1) b' e, fun i j hi hj e => ?_⟩)
      have := h.inj (i + 1) (j + 1) (Nat.succ_lt_succ hi) (Nat.succ_lt_succ hj) e
      omega
def RowOk (S N : Nat) (top : Int) (b : Sp2) : Prop := b.2.length = N ∧ 0 ≤ b.1 ∧ b.1 < (S : Int) ∧ ∀ c ∈ b.2, 0 ≤ c ∧ c ≤ top
abbrev s_law_some : Stmt := topS 7
theorem sc_law_some : FnScope ["cell", "states", "places", "many", "most", "draws", "rows", "k", "part", "j"] ["cell", "states", "places", "many", "most"] (defScope s_law_some) := ⟨rfl, rfl, rfl, by decide +kernel, rfl, by decide +kernel, by decide +kernel⟩
-- _law_some slots: cell=0 states=1 places=2 many=3 most=4(cell) draws=5 rows=6 k=7 part=8(cell) j=9(None) globals: _law_digits range
def spSomeD (K : PySem.W.Frag) : Sp := fun vs H Q _ => ∃ (c : Int) (S N m top : Nat), vs = [.int c, nV S, nV N, nV m, nV top] ∧ 0 ≤ c ∧ 0 < S ∧ N ≤ 50 ∧ m ≤ 50 ∧
  ∀ (H' : Hp) (p : Addr) (xs : List V) (bs : List Sp2) (t c : Nat → Addr), Same H H' → H p = none → H' p = some (.lst xs) → Rws (Ho p H') xs bs t c → (∀ i, i < bs.length → H (c i) = none) → bs.length = m → (∀ b ∈ bs, RowOk S N top b) → Q (.ref p) H'
set_option maxHeartbeats 2000000 in
theorem fd_law_some {f : Addr} {fd : FuncData} (F : Fun K "_law_some" "_law_some" s_law_some f fd) (m : mg "_law_some" = some (.ref f)) (B : Bt mg) (D_law_digits : Fd P w K mg base "_law_digits" ["cell", "base", "most"] 1 (spDigits K)) : Fd P w K mg base "_law_some" ["cell", "states", "places", "many", "most"] 2 (spSomeD K) := by
  refine ⟨f, fd, F.ok sc_law_some (fun vs H Q E h => ?_) (fun cdv A outer s H vs Q E hr h => ?_), m, F.kp, F.binds (ps := ["cell", "states", "places", "many", "most"]) fun _ _ _ _ _ _ us hl => match us, hl with | [_, _, _, _, _], _ => rfl⟩
  · obtain ⟨c, S, N, m, top, rfl, _⟩ := h
    rfl
  obtain ⟨c, S, N, m, top, rfl, hc, hS, hN, hm, q⟩ := h
  refine ⟨_, (pss_cons (ps_set (i := 5) sc_law_some.nd rfl (Or.inl rfl) (pe_fn D_law_digits (hr.mono (by decide)) rfl (pa_cons (pv 0) (pa_cons pe_int (pa_cons (pe_op op_mul (pv 3) (pe_op op_add (pv 2) pe_int)) pa_nil)))))
 (pss_cons (ps_set (i := 6) sc_law_some.nd rfl (Or.inl rfl) (pe_lst pa_nil))
 (pss_cons (ps_for PassesOwn.never rfl (pi_range1 rfl B.range (pa_cons (pv 3) pa_nil)) (pg_name (i := 7) sc_law_some.nd rfl (Or.inl rfl))
 (pss_cons (ps_set (i := 8) sc_law_some.nd rfl (Or.inr rfl) (pe_slice (slL K) (pv 5) (po_some (pe_op op_mul (pv 7) (pe_op op_add (pv 2) pe_int))) (po_some (pe_op op_mul (pe_op op_add (pv 7) pe_int) (pe_op op_add (pv 2) pe_int)))))
 (pss_one (ps_expr (peBm K PySem.F.plainAttrs_list PySem.F.slot_list_append PySem.F.type_list_append mt_append (pv 6) (pa_cons (pe_tup (pa_cons (pe_op op_mod (pe_ix (ixL K) (pv 8) (pv 2) (fun _ _ => rfl)) (pv 1)) (pa_cons (pe_lc (own := [("j", 9)]) (g := gName 9) (by rfl) sc_law_some.nd (pi_range1 rfl B.range (pa_cons (pv 2) pa_nil)) (blkOk_by (own := [("j", 9)]) (N := ["cell", "states", "places", "many", "most", "draws", "rows", "k", "part", "j"]) (sc := (defScope s_law_some)) (by decide +kernel)) (fun _ _ _ _ _ => (pg_name (i := 9) sc_law_some.nd rfl (Or.inl rfl))) (fun _ _ _ _ _ => pts_nil) (fun _ _ _ _ _ => (pe_op op_fdiv (pe_op op_mod (pe_ix (ixL K) (pv 8) (pv 9) (fun _ _ => rfl)) (pe_op op_add (pv 4) pe_int)) (pe_op op_add pe_int (pe_op op_mod (pe_op op_fdiv (pe_ix (ixL K) (pv 8) (pv 9) (fun _ _ => rfl)) pe_int) pe_int))))) pa_nil))) pa_nil))))))
 (pss_one (ps_ret (pv 6)))))), ?_⟩
  have emul : (m : Int) * ((N : Int) + 1) = ((m * (N + 1) : Nat) : Int) := by push_cast; rfl
  have bmul : m * (N + 1) ≤ 50 * 51 := Nat.mul_le_mul hm (by omega)
  refine ⟨_, rfl, _, rfl, _, rfl, _, _, rfl, rfl, _, _, rfl, rfl, .inl ⟨by omega, by omega⟩, c, 27720, m * (N + 1), congrArg (fun z => [V.int c, V.int 27720, V.int z]) emul, hc, by decide, by decide, by omega, ?_⟩
  intro Hd pd ds s1 npd epd ld hd
  dsimp only [gName]
  refine ⟨sz (by decide), fun o no => ?_⟩
  dsimp only [gName]
  have pdo : pd ≠ o := fun e => by rw [e, no] at epd; cases epd
  have epd' : Ho o (upd Hd o (.lst [])) pd = some (.lst (ds.map V.int)) := by unfold Ho; rw [if_neg pdo, upd_ne pdo]; exact epd
  refine ⟨_, rfl, m, rfl, by omega, by omega, for_range (lo := 0) (n := m) (fun i σ' H' => ∃ (y7 y8 : Option V) (xs : List V) (bs : List Sp2) (t c' : Nat → Addr), σ' = [some (.int c), some (nV S), some (nV N), some (nV m), some (nV top), some (.ref pd), some (.ref o), y7, y8, none] ∧ Same Hd H' ∧ Same (Ho o (upd Hd o (.lst []))) (Ho o H') ∧ H' o = some (.lst xs) ∧ Rws (Ho o H') xs bs t c' ∧ (∀ i, i < bs.length → Hd (c' i) = none) ∧ bs.length = i ∧ ∀ b ∈ bs, RowOk S N top b) ⟨none, none, [], [], _, _, rfl, same_new no, Same.refl _, upd_same, .nil, (fun i h => absurd h (Nat.not_lt_zero _)), rfl, fun b hb => nomatch hb⟩ ?_ ?_⟩
  · rintro k σ' H' hk ⟨y7, y8, xs, bs, t, c', rfl, sx, sh, eo, rw', fr, bl, ok⟩
    have hz : (0 : Int) + (k : Int) = (k : Int) := by omega
    have e1 : ((0 : Int) + (k : Int)) * ((N : Int) + 1) = ((k * (N + 1) : Nat) : Int) := by rw [hz]; push_cast; rfl
    have e2 : ((0 : Int) + (k : Int) + 1) * ((N : Int) + 1) = ((k * (N + 1) + (N + 1) : Nat) : Int) := by rw [hz]; push_cast; rw [Int.add_mul, Int.one_mul]
    have b2 : k * (N + 1) + (N + 1) ≤ ds.length := by
      rw [ld, ← Nat.succ_mul]
      exact Nat.mul_le_mul_right _ hk
    have epk := ho_out _ _ (sh _ _ epd')
    dsimp only [gName]
    refine ⟨_, rfl, _, rfl, _, rfl, _, _, rfl, rfl, _, _, rfl, rfl, .inl ⟨by omega, by omega⟩, _, rfl, _, rfl, _, _, rfl, rfl, _, rfl, _, _, rfl, rfl, _, _, rfl, rfl, .inl ⟨by omega, by omega⟩, _, rfl, pd, _, rfl, sq epk, fun q1 m1 => ?_⟩
    dsimp only [gName]
    have ec := cut_ints (ds := ds) b2 e1 e2
    have lps : ((ds.drop (k * (N + 1))).take (N + 1)).length = N + 1 := by rw [List.length_take, List.length_drop]; omega
    have hps : ∀ d ∈ (ds.drop (k * (N + 1))).take (N + 1), 0 ≤ d := fun d h => (hd d (List.mem_of_mem_drop (List.mem_of_mem_take h))).1
    have ep1 : (upd H' q1 (.lst (cutV (ds.map V.int) (some (((0 : Int) + (k : Int)) * ((N : Int) + 1))) (some (((0 : Int) + (k : Int) + 1) * ((N : Int) + 1)))))) q1 = some (.lst (((ds.drop (k * (N + 1))).take (N + 1)).map V.int)) := by rw [upd_same, ec]
    have s12 : Same H' (upd H' q1 (.lst (cutV (ds.map V.int) (some (((0 : Int) + (k : Int)) * ((N : Int) + 1))) (some (((0 : Int) + (k : Int) + 1) * ((N : Int) + 1)))))) := same_new m1
    generalize upd H' q1 (.lst (cutV (ds.map V.int) (some (((0 : Int) + (k : Int)) * ((N : Int) + 1))) (some (((0 : Int) + (k : Int) + 1) * ((N : Int) + 1))))) = H2 at ep1 s12 ⊢
    generalize (ds.drop (k * (N + 1))).take (N + 1) = ps at lps hps ep1
    have eo2 := s12 _ _ eo
    refine ⟨_, rfl, .inl ⟨rfl, xs, sq eo2⟩, ?_⟩
    refine ⟨_, rfl, _, rfl, _, _, _, _, rfl, rfl, sq ep1, at_gd (j := N) rfl (by omega), _, rfl, _, _, rfl, rfl, (show (0 : Int) < (S : Int) by omega), ?_⟩
    have tp : (0 : Int) < (top : Int) + 1 := by omega
    refine ⟨_, rfl, N, rfl, by omega, by omega, fun D nD => ?_⟩
    refine lc_valR (K := K) (n := N) (by omega) nD (fun j => V.int (ps.getD j 0 % ((top : Int) + 1) / (1 + ps.getD j 0 / 100 % 2))) (fun _ => rfl) (fun j Hx Q' hj sj q' => ?_) fun H3 s3 e3 => ?_
    · have hz : (0 : Int) + (j : Int) = (j : Int) := by omega
      have m2 := mod_in (ps.getD j 0 / 100) (show (0 : Int) < 2 by decide)
      refine ⟨_, rfl, _, rfl, _, _, _, _, rfl, rfl, sj.seq (sq ep1), at_gd hz (by omega), _, rfl, _, _, rfl, rfl, _, _, rfl, rfl, tp, ?_⟩
      exact ⟨_, rfl, _, rfl, _, _, _, _, rfl, rfl, sj.seq (sq ep1), at_gd hz (by omega), _, _, rfl, rfl, ⟨by decide, by decide⟩, _, _, rfl, rfl, (by show (0 : Int) < 2; decide), _, _, rfl, rfl, _, _, rfl, rfl, ⟨by omega, by omega⟩, q' _ (Same.refl _)⟩
    replace e3 : H3 D = some (.lst (((List.range N).map fun j => ps.getD j 0 % ((top : Int) + 1) / (1 + ps.getD j 0 / 100 % 2)).map V.int)) := by
      rw [List.map_map]
      exact e3
    have lcs : ((List.range N).map fun j => ps.getD j 0 % ((top : Int) + 1) / (1 + ps.getD j 0 / 100 % 2)).length = N := by rw [List.length_map, List.length_range]
    have hcs : ∀ z ∈ (List.range N).map fun j => ps.getD j 0 % ((top : Int) + 1) / (1 + ps.getD j 0 / 100 % 2), 0 ≤ z ∧ z ≤ (top : Int) := fun z hz => by
      obtain ⟨j, _, rfl⟩ := List.mem_map.mp hz
      have m1 := mod_in (ps.getD j 0) tp
      have m2 := mod_in (ps.getD j 0 / 100) (show (0 : Int) < 2 by decide)
      have d0 : (0 : Int) ≤ 1 + ps.getD j 0 / 100 % 2 := by omega
      exact ⟨Int.ediv_nonneg m1.1 d0, Int.le_trans (Int.ediv_le_self _ m1.1) (by omega)⟩
    generalize ((List.range N).map fun j => ps.getD j 0 % ((top : Int) + 1) / (1 + ps.getD j 0 / 100 % 2)) = cs at e3 lcs hcs
    have nD' : H' D = none := s12.free nD
    refine ⟨szc 2, fun t' nt => ?_⟩
    have eo3 := s3 _ _ eo2
    have xl := rw'.len
    refine ⟨o, xs, _, rfl, rfl, (same_new nt) _ _ eo3, szl (by omega), ?_⟩
    have sx3 := s12.trans (s3.trans (same_new (o := HO.tup [V.int (ps.getD N 0 % (S : Int)), V.ref D]) nt))
    have tD : t' ≠ D := fun e => by rw [e, e3] at nt; cases nt
    have to' : t' ≠ o := fun e => by rw [e, eo3] at nt; cases nt
    have Do : D ≠ o := fun e => by rw [e, eo] at nD'; cases nD'
    have ms := mod_in (ps.getD N 0) (show (0 : Int) < (S : Int) by omega)
    have shx : Same (Ho o H') (Ho o (upd (upd H3 t' (.tup [V.int (ps.getD N 0 % (S : Int)), V.ref D])) o (.lst (xs ++ [.ref t'])))) := (ho_same sx3).trans ho_mut
    refine ⟨_, _, xs ++ [.ref t'], bs ++ [(ps.getD N 0 % (S : Int), cs)], _, _, rfl, Same.mut (sx.trans sx3) no, sh.trans shx, upd_same, (rw'.mono shx).snoc (T := t') (C := D) (b := (ps.getD N 0 % (S : Int), cs)) ?_ ?_ (fun i hi e => ?_), ?_, by rw [List.length_append, bl]; rfl, ?_⟩
    · unfold Ho
      rw [if_neg to', upd_ne to']
      exact upd_same
    · unfold Ho
      rw [if_neg Do, upd_ne Do, upd_ne (Ne.symm tD)]
      exact e3
    · have := rw'.cnt i _ (List.getElem?_eq_getElem hi)
      rw [e] at this
      have := ho_out _ _ this
      rw [nD'] at this
      cases this
    · intro i hi
      rw [List.length_append] at hi
      try dsimp only
      split
      · exact sx.free nD'
      · exact fr i (by have : i < bs.length + 1 := hi; omega)
    · intro b hb
      rcases List.mem_append.mp hb with h | h
      · exact ok b h
      · rw [List.mem_singleton.mp h]; exact ⟨lcs, ms.1, ms.2, hcs⟩
  · rintro σ' H' ⟨y7, y8, xs, bs, t, c', rfl, sx, sh, eo, rw', fr, bl, ok⟩
    refine ⟨_, rfl, q H' o xs bs t c' (s1.trans sx) (s1.free no) eo rw' (fun i hi => s1.free (fr i hi)) bl ok⟩
end
/-! ### the least crew -/
def mx0 (z : Int) : Int := if z > 0 then z else 0
def butOk (cr : Nat) (sc cs : List Int) : Bool := (List.range cs.length).all fun i => decide (i = cr) || decide (cs.getD i 0 ≤ sc.getD i 0)
def crewOf (ss : Int) (sc : List Int) (cr : Nat) (e : Sp2) : Option Int := if e.1 = ss ∧ butOk cr sc e.2 = true then some (mx0 (e.2.getD cr 0 - sc.getD cr 0)) else none
/-- o is the least of the numbers, if there are any -/
def DueOk (o : Option Int) (xs : List Int) : Prop := match o with
  | none => xs = []
  | some m => m ∈ xs ∧ ∀ y ∈ xs, m ≤ y
theorem DueOk.uniq {o p : Option Int} {xs : List Int} (h : DueOk o xs) (h' : DueOk p xs) : o = p := by
  cases o with
  | none =>
    cases p with
    | none => rfl
    | some m =>
      have e : xs = [] := h
      rw [e] at h'
      exact nomatch h'.1
  | some m =>
    cases p with
    | none =>
      have e : xs = [] := h'
      rw [e] at h
      exact nomatch h.1
    | some n =>
      have a := h.2 n h'.1
      have b := h'.2 m h.1
      rw [show m = n by omega]
theorem DueOk.none' {xs : List Int} (h : DueOk none xs) : xs = [] := h
theorem DueOk.snoc {o : Option Int} {xs : List Int} {z : Int} (h : DueOk o xs) : DueOk (if (match o with | none => true | some m => decide (z < m)) = true then some z else o) (xs ++ [z]) := by
  cases o with
  | none =>
    have e : xs = [] := h
    subst e
    exact ⟨List.mem_cons_self, fun y hy => by rw [List.mem_singleton.mp hy]; exact Int.le_refl _⟩
  | some m =>
    dsimp only
    split
    · rename_i e
      have := of_decide_eq_true e
      exact ⟨List.mem_append_right _ List.mem_cons_self, fun y hy => by
        rcases List.mem_append.mp hy with hy | hy
        · have := h.2 y hy; omega
        · rw [List.mem_singleton.mp hy]; exact Int.le_refl _⟩
    · rename_i e
      have : ¬ z < m := fun q => e (decide_eq_true q)
      exact ⟨List.mem_append_left _ h.1, fun y hy => by
        rcases List.mem_append.mp hy with hy | hy
        · exact h.2 y hy
        · rw [List.mem_singleton.mp hy]; omega⟩
theorem geAll_iff : ∀ {ms ns : List Int}, ms.length = ns.length → (geAll ms ns = true ↔ ∀ i, i < ns.length → ns.getD i 0 ≤ ms.getD i 0)
  | [], [], _ => ⟨fun _ i h => absurd h (Nat.not_lt_zero _), fun _ => rfl⟩
  | m :: ms, n :: ns, h => by
    have ih := geAll_iff (ms := ms) (ns := ns) (Nat.succ.inj h)
    show (decide (n ≤ m) && geAll ms ns) = true ↔ _
    rw [Bool.and_eq_true, decide_eq_true_eq, ih]
    constructor
    · rintro ⟨h1, h2⟩ i hi
      cases i with
      | zero => exact h1
      | succ i => exact h2 i (Nat.lt_of_succ_lt_succ hi)
    · intro h
      exact ⟨h 0 (Nat.succ_pos _), fun i hi => h (i + 1) (Nat.succ_lt_succ hi)⟩
theorem getD_set {cs : List Int} {k i : Nat} {z : Int} (hk : k < cs.length) : (cs.set k z).getD i 0 = if i = k then z else cs.getD i 0 := by
  rw [List.getD_eq_getElem?_getD, List.getElem?_set]
  by_cases e : k = i
  · subst e
    rw [if_pos rfl, if_pos rfl, if_pos hk]
    rfl
  · rw [if_neg e, if_neg (fun z => e z.symm), List.getD_eq_getElem?_getD]
theorem butOk_iff {cr : Nat} {sc cs : List Int} : butOk cr sc cs = true ↔ ∀ i, i < cs.length → i ≠ cr → cs.getD i 0 ≤ sc.getD i 0 := by
  unfold butOk
  rw [List.all_eq_true]
  constructor
  · intro h i hi ne
    have := h i (List.mem_range.mpr hi)
    rw [decide_eq_false ne, Bool.false_or] at this
    exact of_decide_eq_true this
  · intro h i hi
    by_cases e : i = cr
    · rw [decide_eq_true e]; rfl
    · rw [decide_eq_false e, Bool.false_or]
      exact decide_eq_true (h i (List.mem_range.mp hi) e)
theorem cov_crew {ss : Int} {sc : List Int} {cr : Nat} {e : Sp2} (hl : sc.length = e.2.length) (hc : cr < sc.length) : covB ss (sc.set cr (sc.getD cr 0 + mx0 (e.2.getD cr 0 - sc.getD cr 0))) e.1 e.2 = (crewOf ss sc cr e).isSome := by
  unfold covB crewOf
  have key : geAll (sc.set cr (sc.getD cr 0 + mx0 (e.2.getD cr 0 - sc.getD cr 0))) e.2 = butOk cr sc e.2 := by
    rw [Bool.eq_iff_iff, geAll_iff (by rw [List.length_set]; exact hl), butOk_iff]
    constructor
    · intro h i hi ne
      have := h i hi
      rw [getD_set hc, if_neg ne] at this
      exact this
    · intro h i hi
      rw [getD_set hc]
      by_cases e1 : i = cr
      · rw [if_pos e1, e1]
        unfold mx0
        split <;> omega
      · rw [if_neg e1]
        exact h i hi e1
  rw [key]
  by_cases h1 : e.1 = ss
  · rw [decide_eq_true h1.symm, Bool.true_and]
    by_cases h2 : butOk cr sc e.2 = true
    · rw [if_pos ⟨h1, h2⟩, h2]; rfl
    · rw [if_neg (fun z => h2 z.2)]
      cases h3 : butOk cr sc e.2 with
      | true => exact absurd h3 h2
      | false => rfl
  · rw [decide_eq_false (fun z => h1 z.symm), if_neg (fun z => h1 z.1)]
    rfl
section
variable {P : Program} {w : World} {K : PySem.W.Frag} {mg : Str → Option Value} {base : Heap}
abbrev s_crew_for : Stmt := topS 2
theorem sc_crew_for : FnScope ["machine", "situation", "state", "counts", "crew", "place", "count"] ["machine", "situation"] (defScope s_crew_for) := ⟨rfl, rfl, rfl, by decide +kernel, rfl, by decide +kernel, by decide +kernel⟩
-- crew_for slots: machine=0 situation=1 state=2 counts=3 crew=4 place=5 count=6 globals: enumerate max
def spCrewFor (K : PySem.W.Frag) : Sp := fun vs H Q _ => ∃ (x y : V) (M : MT) (e : Sp2), vs = [x, y] ∧ Dp K H x M.data ∧ Sit K H y e.1 e.2 ∧ M.cnts.length = e.2.length ∧ M.crew < M.cnts.length ∧ ∀ H', Same H H' → Q (oV (crewOf (M.sst : Int) M.cnts M.crew e)) H'
theorem fd_crew_for {f : Addr} {fd : FuncData} (F : Fun K "crew_for" "crew_for" s_crew_for f fd) (m : mg "crew_for" = some (.ref f)) (B : Bt mg) : Fd P w K mg base "crew_for" ["machine", "situation"] 1 (spCrewFor K) := by
  refine ⟨f, fd, F.ok sc_crew_for (fun vs H Q E h => ?_) (fun cdv A outer s H vs Q E hr h => ?_), m, F.kp, F.binds (ps := ["machine", "situation"]) fun _ _ _ _ _ _ us hl => match us, hl with | [_, _], _ => rfl⟩
  · obtain ⟨x, y, M, e, rfl, _⟩ := h
    rfl
  obtain ⟨x, y, M, ⟨t, cs⟩, rfl, hd, ⟨a, ca, rfl, ha, hca⟩, hl, hc, q⟩ := h
  obtain ⟨am, sv, ma, xm, rfl, ham, ⟨b, cb, rfl, hb, hcb⟩, _, _⟩ := dp_mt hd
  dsimp only at ha hca hl q
  refine ⟨_, (pss_cons (ps_asg (pe_ix (ixT K) (pv 0) pe_int (fun _ _ => rfl)) (pg_tup rfl (pgs_cons (pg_name (i := 2) sc_crew_for.nd rfl (Or.inl rfl)) (pgs_cons (pg_name (i := 3) sc_crew_for.nd rfl (Or.inl rfl)) pgs_nil))))
 (pss_cons (ps_if (pt_cmpR op_ne (pv 2) (pe_ix (ixT K) (pv 1) pe_int (fun _ _ => rfl)) (nomark _))
 (pss_one (ps_ret pe_non))
 pss_nil)
 (pss_cons (ps_set (i := 4) sc_crew_for.nd rfl (Or.inl rfl) (pe_ix (ixT K) (pv 0) pe_int (fun _ _ => rfl)))
 (pss_cons (ps_for PassesOwn.never rfl (pi_enum (by rfl) B.enumerate (pa_cons (pe_ix (ixT K) (pv 1) pe_int (fun _ _ => rfl)) pa_nil)) (pg_tup rfl (pgs_cons (pg_name (i := 5) sc_crew_for.nd rfl (Or.inl rfl)) (pgs_cons (pg_name (i := 6) sc_crew_for.nd rfl (Or.inl rfl)) pgs_nil)))
 (pss_one (ps_if (PW.pt (pw_and (pt_cmpR op_ne (pv 5) (pv 4) (nomark _)) (pw_and1 (pt_cmpR op_lt (pe_ix (ixL K) (pv 3) (pv 5) (fun _ _ => rfl)) (pv 6) (nomark _)))))
 (pss_one (ps_ret pe_non))
 pss_nil)))
 (pss_one (ps_ret (pe_callB (call_max2 rfl) (by rfl) B.max (by decide +kernel) (pa_cons pe_int (pa_cons (pe_op op_sub (pe_ix (ixL K) (pe_ix (ixT K) (pv 1) pe_int (fun _ _ => rfl)) (pv 4) (fun _ _ => rfl)) (pe_ix (ixL K) (pv 3) (pv 4) (fun _ _ => rfl))) pa_nil))))))))), ?_⟩
  refine ⟨_, rfl, _, _, _, _, rfl, rfl, ham, atI_nat (j := 2) rfl, b, _, rfl, hb, rfl, _, _, rfl, _, _, rfl, rfl, ?_⟩
  dsimp only [gName]
  refine ⟨_, rfl, _, rfl, _, _, _, _, rfl, rfl, ha, atI_nat (j := 0) rfl, rfl, _, rfl, ?_⟩
  rw [int_eqE]
  by_cases est : (M.sst : Int) = t
  · rw [decide_eq_true est]
    refine iteF ?_
    refine ⟨_, rfl, _, _, _, _, rfl, rfl, ham, atI_nat (j := 3) rfl, ?_⟩
    dsimp only [gName]
    have ll : (cs.map V.int).length = cs.length := List.length_map _
    refine ⟨_, rfl, _, _, _, _, rfl, rfl, ha, atI_nat (j := 1) rfl, ca, _, rfl, hca, for_it (walk_enum (K := K) (xs := cs.map V.int)) (fun i σ' H' => ∃ y5 y6 : Option V, σ' = [some (.ref am), some (.ref a), some (.int (M.sst : Int)), some (.ref cb), some (nV M.crew), y5, y6] ∧ Same H H' ∧ ∀ j, j < i → j ≠ M.crew → cs.getD j 0 ≤ M.cnts.getD j 0) ⟨none, none, rfl, Same.refl _, fun j hj => absurd hj (Nat.not_lt_zero _)⟩ (fun i σ' H' _ h => ?_) ?_ ?_⟩
    · obtain ⟨_, _, _, sm, _⟩ := h
      exact sm.seq hca
    · rintro i x σ' H' H2 hi ⟨y5, y6, rfl, sm, g⟩ ⟨T, x1, x2, rfl, nT, rfl, e1, e2⟩
      cases e1
      obtain ⟨z, hz, rfl⟩ := get_map_inv e2
      rw [ll] at hi
      have ez : z = cs.getD i 0 := by rw [gd hi] at hz; exact (Option.some.inj hz).symm
      subst ez
      have sm2 := sm.trans (same_new (o := HO.tup [V.int (i : Int), V.int (cs.getD i 0)]) nT)
      refine ⟨T, _, rfl, st upd_same, rfl, _, _, rfl, _, _, rfl, rfl, ?_⟩
      dsimp only [gName]
      have ok : (i = M.crew ∨ cs.getD i 0 ≤ M.cnts.getD i 0) → ∀ j, j < i + 1 → j ≠ M.crew → cs.getD j 0 ≤ M.cnts.getD j 0 := fun h j hj ne => by
        by_cases e : j = i
        · subst e
          rcases h with h | h
          · exact absurd h ne
          · exact h
        · exact g j (by omega) ne
      refine ⟨_, rfl, _, rfl, rfl, _, rfl, ?_⟩
      rw [int_eqE]
      by_cases ei : (i : Int) = (M.crew : Int)
      · rw [decide_eq_true ei]
        exact iteF (iteF ⟨_, _, rfl, sm2, ok (.inl (by omega))⟩)
      · rw [decide_eq_false ei]
        refine iteT ⟨_, rfl, _, rfl, _, _, _, _, rfl, rfl, sm2.seq hcb, at_gd rfl (by omega), _, rfl, _, _, rfl, rfl, _, rfl, ite2 (fun e => ?_) (fun e => ?_)⟩
        · have e1 := of_decide_eq_true e
          have : crewOf (M.sst : Int) M.cnts M.crew (t, cs) = none := by
            unfold crewOf
            rw [if_neg (fun z => by have : cs.getD i 0 ≤ M.cnts.getD i 0 := butOk_iff.mp z.2 i hi (by omega); omega)]
          have q' := q _ sm2
          rw [this] at q'
          exact q'
        · have e1 : ¬ M.cnts.getD i 0 < cs.getD i 0 := fun z => e (decide_eq_true z)
          exact ⟨_, _, rfl, sm2, ok (.inr (by omega))⟩
    · rintro σ' H' ⟨y5, y6, rfl, sm, g⟩
      rw [ll] at g
      have : crewOf (M.sst : Int) M.cnts M.crew (t, cs) = some (mx0 (cs.getD M.crew 0 - M.cnts.getD M.crew 0)) := by
        unfold crewOf
        rw [if_pos ⟨est.symm, butOk_iff.mpr fun i hi ne => g i hi ne⟩]
      have q' := q _ sm
      rw [this] at q'
      exact ⟨_, rfl, _, _, _, _, rfl, rfl, Same.seqT sm ha, atI_nat (j := 1) rfl, _, rfl, _, _, _, _, rfl, rfl, sm.seq hca, at_gd rfl (by omega), _, rfl, _, rfl, _, _, _, _, rfl, rfl, sm.seq hcb, at_gd rfl hc, _, _, rfl, rfl, _, _, rfl, q'⟩
  · rw [decide_eq_false est]
    have : crewOf (M.sst : Int) M.cnts M.crew (t, cs) = none := by
      unfold crewOf
      rw [if_neg (fun z => est z.1.symm)]
    have q' := q _ (Same.refl _)
    rw [this] at q'
    exact iteT q'
abbrev s_least_crew : Stmt := topS 1
theorem sc_least_crew : FnScope ["machine", "chosen", "crews", "situation", "crew"] ["machine", "chosen"] (defScope s_least_crew) := ⟨rfl, rfl, rfl, by decide +kernel, rfl, by decide +kernel, by decide +kernel⟩
-- least_crew slots: machine=0(cell) chosen=1 crews=2 situation=3(None) crew=4(None) globals: min
def spLeastCrew (K : PySem.W.Frag) : Sp := fun vs H Q _ => ∃ (x : V) (a : Addr) (M : MT) (xs : List V) (bs : List Sp2), vs = [x, .ref a] ∧ Dp K H x M.data ∧ SqL K H a xs ∧ DpAll K H xs (bs.map fun b => sitD b.1 b.2) ∧ (∀ b ∈ bs, b.2.length = M.cnts.length) ∧ M.crew < M.cnts.length ∧ bs.length ≤ 90000 ∧
  ∀ H' o, Same H H' → DueOk o (bs.filterMap (crewOf (M.sst : Int) M.cnts M.crew)) → Q (oV o) H'
theorem fm_snoc {α β : Type} {f : α → Option β} {xs : List α} {i : Nat} {x : α} (h : xs[i]? = some x) : (xs.take (i + 1)).filterMap f = (xs.take i).filterMap f ++ (match f x with | some y => [y] | none => []) := by
  rw [take_snoc h, List.filterMap_append]
  congr 1
  rw [List.filterMap_cons]
  cases f x <;> rfl
theorem fd_least_crew {f : Addr} {fd : FuncData} (F : Fun K "least_crew" "least_crew" s_least_crew f fd) (m : mg "least_crew" = some (.ref f)) (B : Bt mg) (D_crew_for : Fd P w K mg base "crew_for" ["machine", "situation"] 1 (spCrewFor K)) : Fd P w K mg base "least_crew" ["machine", "chosen"] 2 (spLeastCrew K) := by
  refine ⟨f, fd, F.ok sc_least_crew (fun vs H Q E h => ?_) (fun cdv A outer s H vs Q E hr h => ?_), m, F.kp, F.binds (ps := ["machine", "chosen"]) fun _ _ _ _ _ _ us hl => match us, hl with | [_, _], _ => rfl⟩
  · obtain ⟨x, a, M, xs, bs, rfl, _⟩ := h
    rfl
  obtain ⟨x, a, M, xs, bs, rfl, hd, ha, hx, hl, hc, hb, q⟩ := h
  have xl := dpa_map_len hx
  refine ⟨_, (pss_cons (ps_setLc (i := 2) (own := [("situation", 3)]) (g := gName 3) (by rfl) sc_least_crew.nd rfl rfl (sw_true rfl rfl rfl (by decide +kernel)) (piL K (pv 1)) (blkOk_by (own := [("situation", 3)]) (N := ["machine", "chosen", "crews", "situation", "crew"]) (sc := (defScope s_least_crew)) (by decide +kernel)) (fun _ _ _ _ _ => (pg_name (i := 3) sc_least_crew.nd rfl (Or.inl rfl))) (fun _ _ _ _ _ => pts_nil) (fun _ _ _ _ _ => (pe_fn D_crew_for (hr.mono (by decide)) rfl (pa_cons (pv 0) (pa_cons (pv 3) pa_nil)))))
 (pss_one (ps_ret ((pe_callBK (cMinD K rfl) (by rfl) B.min (by decide +kernel) (pa_cons (pe_lc (own := [("crew", 4)]) (g := gName 4) (by rfl) sc_least_crew.nd (piL K (pv 2)) (blkOk_by (own := [("crew", 4)]) (N := ["machine", "chosen", "crews", "situation", "crew"]) (sc := (defScope s_least_crew)) (by decide +kernel)) (fun _ _ _ _ _ => (pg_name (i := 4) sc_least_crew.nd rfl (Or.inl rfl))) (fun _ _ _ _ _ => (pts_one (pt_cmpR op_notN (pv 4) pe_non (nomark _)))) (fun _ _ _ _ _ => (pv 4))) pa_nil) (pk_cons pe_non pk_nil)))))), ?_⟩
  generalize hcf : crewOf (M.sst : Int) M.cnts M.crew = cf at q
  refine ⟨_, rfl, a, rfl, ⟨_, ha⟩, fun D nD => lc_list (xs := xs) (fun i H' => Same H H' ∧ H' D = some (.lst ((bs.take i).map fun b => oV (cf b)))) ⟨same_new nD, upd_same⟩ (fun _ H' _ h => h.1.seq ha) ?_ ?_⟩
  · rintro i u H' hu ⟨sm, eD⟩
    obtain ⟨b, hbi, du⟩ := dpa_map_at hx hu
    refine ⟨rfl, _, rfl, _, rfl, x, u, M, b, rfl, dp_mono sm hd, dp_sit (dp_mono sm du), (hl b (List.mem_of_getElem? hbi)).symm, hc, fun H2 s2 => ⟨_, s2 _ _ eD, ?_, Same.mut (sm.trans s2) nD, ?_⟩⟩
    · have := (List.getElem?_eq_some_iff.mp hbi).1
      rw [List.length_map, List.length_take]
      exact szl (by omega)
    · rw [upd_same, take_snoc hbi, List.map_append, hcf]
      rfl
  rintro H1 ⟨s1, e1⟩
  rw [xl, List.take_length] at e1
  dsimp only [gName]
  refine ⟨_, rfl, D, rfl, ⟨_, sq e1⟩, fun D2 nD2 => lc_list (xs := bs.map fun b => oV (cf b)) (fun i H' => Same H1 H' ∧ H' D2 = some (.lst (((bs.take i).filterMap cf).map V.int))) ⟨same_new nD2, upd_same⟩ (fun _ H' _ h => h.1.seq (sq e1)) ?_ ?_⟩
  · rintro i u H' hu ⟨sm, eD⟩
    obtain ⟨b, hbi, rfl⟩ := get_map_inv hu
    have lt := (List.getElem?_eq_some_iff.mp hbi).1
    rw [fm_snoc hbi]
    refine ⟨rfl, _, rfl, rfl, _, rfl, ?_⟩
    rw [oV_non]
    cases e : cf b with
    | none =>
      refine iteF ⟨sm, ?_⟩
      rw [List.append_nil]
      exact eD
    | some z =>
      refine iteT ⟨_, rfl, _, eD, ?_, Same.mut sm nD2, ?_⟩
      · rw [List.length_map]
        have := List.length_filterMap_le cf (bs.take i)
        rw [List.length_take] at this
        exact szl (by omega)
      · rw [upd_same, List.map_append]
        rfl
  rintro H2 ⟨s2, e2⟩
  rw [List.length_map, List.take_length] at e2
  refine ⟨D2, bs.filterMap cf, rfl, rfl, sq e2, fun hn => ?_, fun m hm hmin => ?_⟩
  · exact q H2 none (s1.trans s2) hn
  · exact q H2 (some m) (s1.trans s2) ⟨hm, hmin⟩
abbrev s_law_start : Stmt := topS 8
theorem sc_law_start : FnScope ["machine", "crew", "counts"] ["machine", "crew"] (defScope s_law_start) := ⟨rfl, rfl, rfl, by decide +kernel, rfl, by decide +kernel, by decide +kernel⟩
-- _law_start slots: machine=0 crew=1 counts=2 globals: list
def spLStart (K : PySem.W.Frag) : Sp := fun vs H Q _ => ∃ (x : V) (M : MT) (z : Int), vs = [x, .int z] ∧ Dp K H x M.data ∧ M.crew < M.cnts.length ∧ ∀ H' p, Same H H' → NewSit H H' p M.sst (bump M.cnts M.crew z) → Q (.ref p) H'
theorem fd_law_start {f : Addr} {fd : FuncData} (F : Fun K "_law_start" "_law_start" s_law_start f fd) (m : mg "_law_start" = some (.ref f)) (B : Bt mg) : Fd P w K mg base "_law_start" ["machine", "crew"] 1 (spLStart K) := by
  refine ⟨f, fd, F.ok sc_law_start (fun vs H Q E h => ?_) (fun cdv A outer s H vs Q E hr h => ?_), m, F.kp, F.binds (ps := ["machine", "crew"]) fun _ _ _ _ _ _ us hl => match us, hl with | [_, _], _ => rfl⟩
  · obtain ⟨x, M, z, rfl, _⟩ := h
    rfl
  obtain ⟨x, M, z, rfl, hd, hc, q⟩ := h
  obtain ⟨am, sv, ma, xm, rfl, ham, ⟨b, cb, rfl, hb, hcb⟩, _, _⟩ := dp_mt hd
  refine ⟨_, (pss_cons (ps_set (i := 2) sc_law_start.nd rfl (Or.inl rfl) (pe_callTy (cList K) (by rfl) B.list (by decide +kernel) (pa_cons (pe_ix (ixT K) (pe_ix (ixT K) (pv 0) pe_int (fun _ _ => rfl)) pe_int (fun _ _ => rfl)) pa_nil)))
 (pss_cons (ps_asg (pe_op op_add (pe_ix (ixL K) (pv 2) (pe_ix (ixT K) (pv 0) pe_int (fun _ _ => rfl)) (fun _ _ => rfl)) (pv 1)) (pg_sub (pv 2) (pe_ix (ixT K) (pv 0) pe_int (fun _ _ => rfl)) set_list))
 (pss_one (ps_ret (pe_tup (pa_cons (pe_ix (ixT K) (pe_ix (ixT K) (pv 0) pe_int (fun _ _ => rfl)) pe_int (fun _ _ => rfl)) (pa_cons (pv 2) pa_nil))))))), ?_⟩
  refine ⟨_, rfl, _, _, _, _, rfl, rfl, ham, atI_nat (j := 2) rfl, _, _, _, _, rfl, rfl, hb, atI_nat (j := 1) rfl, cb, _, rfl, .inl hcb, fun l nl => ?_⟩
  dsimp only [gName]
  have s1 := same_new (o := HO.lst (M.cnts.map V.int)) nl
  have ham1 := Same.seqT s1 ham
  refine ⟨_, rfl, _, rfl, _, _, _, _, rfl, rfl, ham1, atI_nat (j := 3) rfl, _, _, _, _, rfl, rfl, sq upd_same, at_gd rfl hc, _, rfl, _, _, rfl, rfl, _, rfl, _, rfl, _, _, _, _, rfl, rfl, ham1, atI_nat (j := 3) rfl, l, _, _, M.crew, rfl, rfl, upd_same, ixN_nat (by rw [List.length_map]; exact hc), ?_⟩
  rw [set_int]
  have s2 : Same H (upd (upd H l (.lst (M.cnts.map V.int))) l (.lst ((M.cnts.set M.crew (M.cnts.getD M.crew 0 + z)).map V.int))) := Same.mut s1 nl
  refine ⟨_, rfl, _, _, _, _, rfl, rfl, Same.seqT s2 ham, atI_nat (j := 2) rfl, _, _, _, _, rfl, rfl, Same.seqT s2 hb, atI_nat (j := 0) rfl, _, rfl, szc 2, fun p np => ?_⟩
  have pl : p ≠ l := fun e => by rw [e, upd_same] at np; cases np
  exact q _ p (s2.trans (same_new np)) ⟨l, s2.free np, nl, Ne.symm pl, upd_same, by rw [upd_ne (Ne.symm pl), upd_same]; rfl⟩
end
section
variable {P : Program} {w : World} {K : PySem.W.Frag} {mg : Str → Option Value} {base : Heap}
abbrev s_law_covers : Stmt := topS 6
theorem sc_law_covers : FnScope ["first", "second", "k"] ["first", "second"] (defScope s_law_covers) := ⟨rfl, rfl, rfl, by decide +kernel, rfl, by decide +kernel, by decide +kernel⟩
-- _law_covers slots: first=0 second=1 k=2 globals: range len
def spLCov (K : PySem.W.Frag) : Sp := fun vs H Q _ => ∃ (x y : V) (s t : Int) (ms ns : List Int), vs = [x, y] ∧ Sit K H x s ms ∧ Sit K H y t ns ∧ ms.length = ns.length ∧ ns.length ≤ 1000 ∧ Q (.bl (covB s ms t ns)) H
theorem fd_law_covers {f : Addr} {fd : FuncData} (F : Fun K "_law_covers" "_law_covers" s_law_covers f fd) (m : mg "_law_covers" = some (.ref f)) (B : Bt mg) : Fd P w K mg base "_law_covers" ["first", "second"] 1 (spLCov K) := by
  refine ⟨f, fd, F.ok sc_law_covers (fun vs H Q E h => ?_) (fun cdv A outer s H vs Q E hr h => ?_), m, F.kp, F.binds (ps := ["first", "second"]) fun _ _ _ _ _ _ us hl => match us, hl with | [_, _], _ => rfl⟩
  · obtain ⟨x, y, s, t, ms, ns, rfl, _⟩ := h
    rfl
  obtain ⟨x, y, s, t, ms, ns, rfl, ⟨a, ca, rfl, ha, hca⟩, ⟨b, cb, rfl, hb, hcb⟩, hl, hn, q⟩ := h
  refine ⟨_, (pss_cons (ps_if (pt_cmpR op_ne (pe_ix (ixT K) (pv 0) pe_int (fun _ _ => rfl)) (pe_ix (ixT K) (pv 1) pe_int (fun _ _ => rfl)) (nomark _))
 (pss_one (ps_ret pe_bl))
 pss_nil)
 (pss_cons (ps_for PassesOwn.never rfl (pi_range1 rfl B.range (pa_cons (pe_callB (cLen K) (by rfl) B.len PySem.boot_len (pa_cons (pe_ix (ixT K) (pv 1) pe_int (fun _ _ => rfl)) pa_nil)) pa_nil)) (pg_name (i := 2) sc_law_covers.nd rfl (Or.inl rfl))
 (pss_one (ps_if (pt_cmpR op_lt (pe_ix (ixL K) (pe_ix (ixT K) (pv 0) pe_int (fun _ _ => rfl)) (pv 2) (fun _ _ => rfl)) (pe_ix (ixL K) (pe_ix (ixT K) (pv 1) pe_int (fun _ _ => rfl)) (pv 2) (fun _ _ => rfl)) (nomark _))
 (pss_one (ps_ret pe_bl))
 pss_nil)))
 (pss_one (ps_ret pe_bl)))), ?_⟩
  refine ⟨_, rfl, _, _, _, _, rfl, rfl, ha, atI_nat (j := 0) rfl, _, rfl, _, _, _, _, rfl, rfl, hb, atI_nat (j := 0) rfl, rfl, _, rfl, ?_⟩
  by_cases est : s = t
  · subst est
    rw [show (!decide (V.int s = V.int s)) = false by rw [decide_eq_true rfl]; rfl]
    refine iteF ?_
    have ll : (ns.map V.int).length = ns.length := List.length_map _
    refine ⟨_, rfl, _, _, _, _, rfl, rfl, hb, atI_nat (j := 1) rfl, cb, _, rfl, .inl hcb, _, rfl, by rw [ll]; omega, by rw [ll]; omega, for_range (lo := 0) (n := (ns.map V.int).length) (fun i σ' H' => ∃ y2 : Option V, σ' = [some (.ref a), some (.ref b), y2] ∧ H' = H ∧ geAll (ms.take i) (ns.take i) = true) ⟨none, rfl, rfl, rfl⟩ ?_ ?_⟩
    · rintro i σ' H' hi ⟨y2, rfl, rfl, g⟩
      rw [ll] at hi
      have hz : (0 : Int) + (i : Int) = (i : Int) := by omega
      have hu : ms[i]? = some (ms.getD i 0) := gd (by omega)
      have hv : ns[i]? = some (ns.getD i 0) := gd hi
      refine ⟨_, rfl, _, _, _, _, rfl, rfl, ha, atI_nat (j := 1) rfl, _, rfl, _, _, _, _, rfl, rfl, hca, at_gd hz (by omega), _, rfl, _, _, _, _, rfl, rfl, hb, atI_nat (j := 1) rfl, _, rfl, _, _, _, _, rfl, rfl, hcb, at_gd hz hi, _, _, rfl, rfl, _, rfl, ite2 (fun e => ?_) (fun e => ?_)⟩
      · have e1 := of_decide_eq_true e
        have e2 : covB s ms s ns = false := by
          unfold covB
          rw [geAll_false (i := i + 1), Bool.and_false]
          rw [geAll_take hu hv, decide_eq_false (show ¬ ns.getD i 0 ≤ ms.getD i 0 by omega), Bool.and_false]
        rw [← e2]
        exact q
      · have e1 : ¬ ms.getD i 0 < ns.getD i 0 := fun z => e (decide_eq_true z)
        exact ⟨_, rfl, rfl, by rw [geAll_take hu hv, g, decide_eq_true (show ns.getD i 0 ≤ ms.getD i 0 by omega)]; rfl⟩
    · rintro σ' H' ⟨y2, rfl, rfl, g⟩
      rw [ll] at g
      have e2 : covB s ms s ns = true := by
        unfold covB
        rw [← hl, List.take_length, hl, List.take_length] at g
        rw [g, decide_eq_true (show s = s from rfl)]
        rfl
      rw [← e2]
      exact q
  · rw [show (!decide (V.int s = V.int t)) = true by rw [decide_eq_false (fun z => est (by cases z; rfl))]; rfl]
    refine iteT ?_
    rw [← show covB s ms t ns = false by unfold covB; rw [decide_eq_false est]; rfl]
    exact q
end
section
variable {P : Program} {w : World} {K : PySem.W.Frag} {mg : Str → Option Value} {base : Heap}
theorem intsG_nc {m : Nat} : ∀ {ns : List Int}, (∀ n ∈ ns, n.natAbs < 10 ^ 7) → NcL (ns.map PyData.int) ns.length m
  | [], _ => .nil
  | n :: ns, h => by
    have := NcL.cons (NcD.int (m := m) (h n List.mem_cons_self)) (intsG_nc (m := m) fun x hx => h x (List.mem_cons_of_mem _ hx))
    exact this.mono (by rw [List.length_cons]; omega) (Nat.le_refl _)
theorem sitG_nc {s : Int} {ns : List Int} (hs : s.natAbs < 10 ^ 7) (h : ∀ n ∈ ns, n.natAbs < 10 ^ 7) : NcD (sitD s ns) (ns.length + 3) 2 :=
  (NcL.tup (m := 1) (.cons (.int hs) (.cons (NcL.lst (intsG_nc (m := 0) h)) (.nil (c := 0))))).mono (by omega) (Nat.le_refl _)
theorem rowsG_nc {S N : Nat} {top : Int} (hS : S ≤ 1000) (ht : top < 10 ^ 7) : ∀ {bs : List Sp2}, (∀ b ∈ bs, RowOk S N top b) → NcL (bs.map fun b => sitD b.1 b.2) ((N + 3) * bs.length) 2
  | [], _ => .nil
  | b :: bs, h => by
    obtain ⟨h1, h2, h3, h4⟩ := h b List.mem_cons_self
    have a := sitG_nc (s := b.1) (ns := b.2) (by omega) fun c hc => by have := h4 c hc; omega
    rw [h1] at a
    exact (NcL.cons a (rowsG_nc hS ht fun x hx => h x (List.mem_cons_of_mem _ hx))).mono (by rw [List.length_cons, Nat.mul_succ]; omega) (Nat.le_refl _)
theorem nat_of {z : Int} (h : 0 ≤ z) : ∃ n : Nat, z = (n : Int) := ⟨z.toNat, (Int.toNat_of_nonneg h).symm⟩
theorem nD_nc {n m : Nat} (h : n < 100) : NcD (nD n) 1 m := NcD.int (by omega)
theorem min2_le {a b t : Int} (ha : 0 ≤ a ∧ a ≤ t) (hb : 0 ≤ b) : 0 ≤ (if b < a then b else a) ∧ (if b < a then b else a) ≤ t := by split <;> omega
/-- one number of the row i made greater -/
def mulRow (cr : Nat) (b : Sp2) : Sp2 := (b.1, b.2.set cr (b.2.getD cr 0 * 100003))
abbrev s_law : Stmt := topS 9
theorem sc_law : FnScope ["script", "first", "states", "places", "start", "crew", "machine", "members", "close", "element", "counts", "kept", "due", "need", "told", "k"] ["script"] (defScope s_law) := ⟨rfl, rfl, rfl, by decide +kernel, rfl, by decide +kernel, by decide +kernel⟩
-- law slots: script=0 first=1 states=2 places=3 start=4(cell) crew=5 machine=6 members=7 close=8 element=9(cell) counts=10 kept=11 due=12 need=13 told=14 k=15(None) globals: _law_digits _law_cell _law_some range repr max _law_covers _law_start least_crew isinstance bool int
def spLaw (K : PySem.W.Frag) : Sp := fun vs H Q _ => ∃ (a : Addr) (ns : List Int), vs = [.ref a] ∧ SqL K H a (ns.map V.int) ∧ ns.length ≤ 63 ∧ ∀ H', Q (.bl true) H'
set_option maxHeartbeats 4000000 in
theorem fd_law {f : Addr} {fd : FuncData} (F : Fun K "law" "law" s_law f fd) (m : mg "law" = some (.ref f)) (bind : ∀ (s : Shared) (v : Value), BindsTo s fd ⟨[v], []⟩ [("script", v)]) (B : Bt mg)
    (D_law_cell : Fd P w K mg base "_law_cell" ["script", "k"] 1 (spCellP K)) (D_law_digits : Fd P w K mg base "_law_digits" ["cell", "base", "most"] 1 (spDigits K)) (D_law_some : Fd P w K mg base "_law_some" ["cell", "states", "places", "many", "most"] 2 (spSomeD K))
    (D_law_covers : Fd P w K mg base "_law_covers" ["first", "second"] 1 (spLCov K)) (D_law_start : Fd P w K mg base "_law_start" ["machine", "crew"] 1 (spLStart K)) (D_least_crew : Fd P w K mg base "least_crew" ["machine", "chosen"] 2 (spLeastCrew K)) :
    TopOk P w K mg base f (spLaw K) := by
  refine top_ok (k := 3) F sc_law (by refine ⟨rfl, ?_, ?_⟩ <;> decide +kernel) bind fun cdv s H a Q hr h => ?_
  obtain ⟨a1, ns, ea, hs, hl, q⟩ := h
  cases ea
  refine ⟨_, (pss_cons (ps_set (i := 1) sc_law.nd rfl (Or.inl rfl) (pe_fn D_law_digits (hr.mono (by decide)) rfl (pa_cons (pe_fn D_law_cell (hr.mono (by decide)) rfl (pa_cons (pv 0) (pa_cons pe_int pa_nil))) (pa_cons pe_int (pa_cons pe_int pa_nil)))))
 (pss_cons (ps_set (i := 2) sc_law.nd rfl (Or.inl rfl) (pe_op op_add pe_int (pe_op op_mod (pe_ix (ixL K) (pv 1) pe_int (fun _ _ => rfl)) pe_int)))
 (pss_cons (ps_set (i := 3) sc_law.nd rfl (Or.inl rfl) (pe_op op_add pe_int (pe_op op_mod (pe_ix (ixL K) (pv 1) pe_int (fun _ _ => rfl)) pe_int)))
 (pss_cons (ps_set (i := 4) sc_law.nd rfl (Or.inr rfl) (pe_ix (ixL K) (pe_fn D_law_some (hr.mono (by decide)) rfl (pa_cons (pe_fn D_law_cell (hr.mono (by decide)) rfl (pa_cons (pv 0) (pa_cons pe_int pa_nil))) (pa_cons (pv 2) (pa_cons (pv 3) (pa_cons pe_int (pa_cons pe_int pa_nil)))))) pe_int (fun _ _ => rfl)))
 (pss_cons (ps_set (i := 5) sc_law.nd rfl (Or.inl rfl) (pe_op op_mod (pe_ix (ixL K) (pv 1) pe_int (fun _ _ => rfl)) (pv 3)))
 (pss_cons (ps_set (i := 6) sc_law.nd rfl (Or.inl rfl) (pe_tup (pa_cons (pv 2) (pa_cons (pv 3) (pa_cons (pv 4) (pa_cons (pv 5) (pa_cons (pe_lst pa_nil) pa_nil)))))))
 (pss_cons (ps_set (i := 7) sc_law.nd rfl (Or.inl rfl) (pe_fn D_law_some (hr.mono (by decide)) rfl (pa_cons (pe_fn D_law_cell (hr.mono (by decide)) rfl (pa_cons (pv 0) (pa_cons pe_int pa_nil))) (pa_cons (pv 2) (pa_cons (pv 3) (pa_cons (pe_op op_mod (pe_ix (ixL K) (pv 1) pe_int (fun _ _ => rfl)) pe_int) (pa_cons pe_int pa_nil)))))))
 (C8.pss_cut (ps_if (pt_cmpR op_eq (pe_op op_mod (pe_ix (ixL K) (pv 1) pe_int (fun _ _ => rfl)) pe_int) pe_int (nomark _))
 (pss_cons (ps_set (i := 8) sc_law.nd rfl (Or.inl rfl) (pe_lst pa_nil))
 (pss_cons (ps_for PassesOwn.never rfl (piL K (pv 7)) (pg_name (i := 9) sc_law.nd rfl (Or.inr rfl))
 (pss_cons (ps_setLc (i := 10) (own := [("k", 15)]) (g := gName 15) (by rfl) sc_law.nd rfl rfl (sw_true rfl rfl rfl (by decide +kernel)) (pi_range1 rfl B.range (pa_cons (pv 3) pa_nil)) (blkOk_by (own := [("k", 15)]) (N := ["script", "first", "states", "places", "start", "crew", "machine", "members", "close", "element", "counts", "kept", "due", "need", "told", "k"]) (sc := (defScope s_law)) (by decide +kernel)) (fun _ _ _ _ _ => (pg_name (i := 15) sc_law.nd rfl (Or.inl rfl))) (fun _ _ _ _ _ => pts_nil) (fun _ _ _ _ _ => (pe_callB (call_min2 rfl) (by rfl) B.min (by decide +kernel) (pa_cons (pe_ix (ixL K) (pe_ix (ixT K) (pv 9) pe_int (fun _ _ => rfl)) (pv 15) (fun _ _ => rfl)) (pa_cons (pe_ix (ixL K) (pe_ix (ixT K) (pv 4) pe_int (fun _ _ => rfl)) (pv 15) (fun _ _ => rfl)) pa_nil)))))
 (pss_cons (ps_asg (pe_op op_add (pe_ix (ixL K) (pe_ix (ixT K) (pv 9) pe_int (fun _ _ => rfl)) (pv 5) (fun _ _ => rfl)) (pe_op op_mul (pe_op op_mod (pe_ix (ixL K) (pv 1) pe_int (fun _ _ => rfl)) pe_int) pe_int)) (pg_sub (pv 10) (pv 5) set_list))
 (pss_one (ps_expr (peBm K PySem.F.plainAttrs_list PySem.F.slot_list_append PySem.F.type_list_append mt_append (pv 8) (pa_cons (pe_tup (pa_cons (pe_ifExp (pt_cmpR op_gt (pe_ix (ixL K) (pe_ix (ixT K) (pv 9) pe_int (fun _ _ => rfl)) pe_int (fun _ _ => rfl)) pe_int (nomark _)) (pe_ix (ixT K) (pv 4) pe_int (fun _ _ => rfl)) (pe_ix (ixT K) (pv 9) pe_int (fun _ _ => rfl))) (pa_cons (pv 10) pa_nil))) pa_nil)))))))
 (pss_one (ps_set (i := 7) sc_law.nd rfl (Or.inl rfl) (pv 8)))))
 pss_nil)
 (C8.pss_cut (ps_if (pt_cmpR op_eq (pe_op op_mod (pe_op op_fdiv (pe_ix (ixL K) (pv 1) pe_int (fun _ _ => rfl)) pe_int) pe_int) pe_int (nomark _))
 (pss_one (ps_for PassesOwn.never rfl (piL K (pv 7)) (pg_name (i := 9) sc_law.nd rfl (Or.inr rfl))
 (pss_one (ps_asg (pe_op op_mul (pe_ix (ixL K) (pe_ix (ixT K) (pv 9) pe_int (fun _ _ => rfl)) (pv 5) (fun _ _ => rfl)) pe_int) (pg_sub (pe_ix (ixT K) (pv 9) pe_int (fun _ _ => rfl)) (pv 5) set_list)))))
 pss_nil)
 (pss_cons (ps_set (i := 11) sc_law.nd rfl (Or.inl rfl) (pe_callB (cRepr K rfl hr.units) (by rfl) B.repr (by decide +kernel) (pa_cons (pe_lst (pa_cons (pv 6) (pa_cons (pv 7) pa_nil))) pa_nil)))
 (pss_cons (ps_set (i := 12) sc_law.nd rfl (Or.inl rfl) pe_non)
 (pss_cons (ps_for PassesOwn.never rfl (piL K (pv 7)) (pg_name (i := 9) sc_law.nd rfl (Or.inr rfl))
 (pss_cons (ps_set (i := 13) sc_law.nd rfl (Or.inl rfl) (pe_callB (call_max2 rfl) (by rfl) B.max (by decide +kernel) (pa_cons pe_int (pa_cons (pe_op op_sub (pe_ix (ixL K) (pe_ix (ixT K) (pv 9) pe_int (fun _ _ => rfl)) (pv 5) (fun _ _ => rfl)) (pe_ix (ixL K) (pe_ix (ixT K) (pv 4) pe_int (fun _ _ => rfl)) (pv 5) (fun _ _ => rfl))) pa_nil))))
 (pss_one (ps_if (PW.pt (pw_and (pt_val (pe_fn D_law_covers (hr.mono (by decide)) rfl (pa_cons (pe_fn D_law_start (hr.mono (by decide)) rfl (pa_cons (pv 6) (pa_cons (pv 13) pa_nil))) (pa_cons (pv 9) pa_nil)))) (pw_and1 (PW.pt (pw_or (pt_cmpR op_isN (pv 12) pe_non (nomark _)) (pw_or1 (pt_cmpR op_lt (pv 13) (pv 12) (nomark _))))))))
 (pss_one (ps_set (i := 12) sc_law.nd rfl (Or.inl rfl) (pv 13)))
 pss_nil))))
 (pss_cons (ps_set (i := 14) sc_law.nd rfl (Or.inl rfl) (pe_fn D_least_crew (hr.mono (by decide)) rfl (pa_cons (pv 6) (pa_cons (pv 7) pa_nil))))
 (pss_cons (ps_if (PW.pt (pw_or (pt_cmpR op_ne (pe_callB (cRepr K rfl hr.units) (by rfl) B.repr (by decide +kernel) (pa_cons (pe_lst (pa_cons (pv 6) (pa_cons (pv 7) pa_nil))) pa_nil)) (pv 11) (nomark _)) (pw_or1 (pt_val (pe_callB (cIsi K) (by rfl) B.isinstance (by decide +kernel) (pa_cons (pv 14) (pa_cons (pe_bltn (v := .ty "bool") (by rfl) B.bool (by decide +kernel) rfl) pa_nil)))))))
 (pss_one (ps_ret pe_bl))
 pss_nil)
 (pss_cons (ps_if (pt_cmpR op_isN (pv 12) pe_non (nomark _))
 (pss_one (ps_ret (pe_cmpR op_isN (pv 14) pe_non (nomark _))))
 pss_nil)
 (pss_one (ps_ret (pe_and (pe_callB (cIsi K) (by rfl) B.isinstance (by decide +kernel) (pa_cons (pv 14) (pa_cons (pe_bltn (v := .ty "int") (by rfl) B.int (by decide +kernel) rfl) pa_nil))) (pe_one (pe_cmpR op_eq (pv 14) (pv 12) (nomark _))))))))))))))))))))), ?_⟩
  refine ⟨_, rfl, a, ns, 0, rfl, hs, fun z0 hz0 => ⟨z0, 2520, 6, rfl, hz0, by decide, by decide, by decide, fun H1 pd ds s1 npd ed ld hd => ?_⟩⟩
  dsimp only [gName]
  have sd := sq (K := K) ed
  have d0 : ∀ {i : Nat}, i < 6 → 0 ≤ ds.getD i 0 := fun h => (hd _ (gd_mem (by omega))).1
  obtain ⟨S, eS⟩ := nat_of (show (0 : Int) ≤ 1 + ds.getD 0 0 % 3 by have := mod_in (ds.getD 0 0) (show (0 : Int) < 3 by decide); omega)
  have hS : 1 ≤ S ∧ S ≤ 3 := by have := mod_in (ds.getD 0 0) (show (0 : Int) < 3 by decide); omega
  refine ⟨_, rfl, _, _, _, _, rfl, rfl, sd, at_gd (j := 0) rfl (by omega), _, _, rfl, rfl, (by show (0 : Int) < 3; decide), _, _, rfl, rfl, ?_⟩
  dsimp only [gName]
  rw [eS]
  obtain ⟨N, eN⟩ := nat_of (show (0 : Int) ≤ 1 + ds.getD 1 0 % 6 by have := mod_in (ds.getD 1 0) (show (0 : Int) < 6 by decide); omega)
  have hN : 1 ≤ N ∧ N ≤ 6 := by have := mod_in (ds.getD 1 0) (show (0 : Int) < 6 by decide); omega
  refine ⟨_, rfl, _, _, _, _, rfl, rfl, sd, at_gd (j := 1) rfl (by omega), _, _, rfl, rfl, (by show (0 : Int) < 6; decide), _, _, rfl, rfl, ?_⟩
  dsimp only [gName]
  rw [eN]
  refine ⟨_, rfl, a, ns, 1, rfl, s1.seq hs, fun z1 hz1 => ⟨_, rfl, _, rfl, z1, S, N, 1, 4, rfl, hz1, by omega, by omega, by decide, fun H2 ps xs0 bs0 t0 c0 s2 nps eps rw0 _ bl0 ok0 => ?_⟩⟩
  obtain ⟨b0, rfl⟩ : ∃ b0, bs0 = [b0] := by
    match bs0, bl0 with
    | [b], _ => exact ⟨b, rfl⟩
  have w0 := rw0.mono ho_out
  refine ⟨_, _, _, _, rfl, rfl, sq eps, atI_nat (j := 0) (w0.at' 0 (by show 0 < 1; decide)), ?_⟩
  dsimp only [gName]
  obtain ⟨k1, k2, k3, k4⟩ := ok0 b0 List.mem_cons_self
  obtain ⟨ss, ess⟩ := nat_of k2
  have est : H2 (t0 0) = some (.tup [.int (ss : Int), .ref (c0 0)]) := by rw [← ess]; exact w0.tup 0 b0 rfl
  have esc : H2 (c0 0) = some (.lst (b0.2.map V.int)) := w0.cnt 0 b0 rfl
  generalize t0 0 = ts at est ⊢
  generalize c0 0 = cs0 at est esc ⊢
  clear w0 rw0 nps
  generalize hsc : b0.2 = sc at k1 k4 esc
  have s12 := s1.trans s2
  have sd2 := s2.seq sd
  have pn : (0 : Int) < (N : Int) := by omega
  obtain ⟨cr, ecr⟩ := nat_of (mod_in (ds.getD 2 0) pn).1
  have hcr : cr < N := by have := mod_in (ds.getD 2 0) pn; omega
  refine ⟨_, rfl, _, _, _, _, rfl, rfl, sd2, at_gd (j := 2) rfl (by omega), _, rfl, _, _, rfl, rfl, pn, ?_⟩
  dsimp only [gName]
  rw [ecr]
  refine ⟨_, rfl, _, rfl, _, rfl, _, rfl, sz (by decide), fun l nl => ⟨szc 5, fun am nam => ?_⟩⟩
  dsimp only [gName]
  have s23 := (same_new (o := HO.lst []) nl).trans (same_new (o := HO.tup [nV S, nV N, .ref ts, nV cr, .ref l]) nam)
  have dM : Dp K (upd (upd H2 l (.lst [])) am (.tup [nV S, nV N, .ref ts, nV cr, .ref l])) (.ref am) (MT.mk S N ss sc cr []).data :=
    .tup (st upd_same) (.cons (.int _) (.cons (.int _) (.cons (sit_dp ⟨ts, cs0, rfl, st (s23 _ _ est), sq (s23 _ _ esc)⟩) (.cons (.int _) (.cons (.lst (sq ((same_new nam) _ _ upd_same)) .nil) .nil)))))
  have est3 := s23 _ _ est
  have esc3 := s23 _ _ esc
  have sd3 := s23.seq sd2
  have hs3 := (s12.trans s23).seq hs
  generalize upd (upd H2 l (.lst [])) am (.tup [nV S, nV N, .ref ts, nV cr, .ref l]) = H3 at dM est3 esc3 sd3 hs3 ⊢
  clear s23 nl nam est esc sd2 eps s12 s1 s2 npd ed sd
  generalize hM : MT.mk S N ss sc cr [] = M at dM
  have hMs : M.sst = ss := by rw [← hM]
  have hMc : M.cnts = sc := by rw [← hM]
  have hMr : M.crew = cr := by rw [← hM]
  have ncM : NcD M.data (N + 20) 5 := by
    rw [← hM]
    have a := sitG_nc (s := (ss : Int)) (ns := sc) (by omega) fun c hc => by have := k4 c hc; omega
    rw [k1] at a
    show NcD (.tuple [nD S, nD N, sitD (ss : Int) sc, nD cr, .list []]) _ _
    exact (NcL.tup (m := 4) (.cons (nD_nc (by omega)) (.cons (nD_nc (by omega)) (.cons (a.mono (Nat.le_refl _) (by decide)) (.cons (nD_nc (by omega)) (.cons (NcL.lst (ds := []) (c := 0) (m := 3) .nil) (.nil (c := 0)))))))).mono (by omega) (Nat.le_refl _)
  -- members
  obtain ⟨mm, emm⟩ := nat_of (mod_in (ds.getD 3 0) (show (0 : Int) < 9 by decide)).1
  have hmm : mm ≤ 8 := by have := mod_in (ds.getD 3 0) (show (0 : Int) < 9 by decide); omega
  refine ⟨_, rfl, a, ns, 2, rfl, hs3, fun z2 hz2 => ⟨_, rfl, _, rfl, _, rfl, _, _, _, _, rfl, rfl, sd3, at_gd (j := 3) rfl (by omega), _, _, rfl, rfl, (by show (0 : Int) < 9; decide), z2, S, N, mm, 5, congrArg (fun z => [V.int z2, nV S, nV N, V.int z, V.int 5]) emm, hz2, by omega, by omega, by omega, fun H4 pm xs bs t c s4 npm epm rw1 fr1 bl1 ok1 => ?_⟩⟩
  dsimp only [gName]
  have pn2 := pn
  -- like the start
  refine ⟨fun σ' H' => ∃ (o : Addr) (xs : List V) (bs : List Sp2) (t c : Nat → Addr) (y8 y9 y10 : Option V), σ' = [some (.ref a), some (.ref pd), some (nV S), some (nV N), some (.ref ts), some (nV cr), some (.ref am), some (.ref o), y8, y9, y10, none, none, none, none, none] ∧ Same H3 H' ∧ H3 o = none ∧ H' o = some (.lst xs) ∧ Rws (Ho o H') xs bs t c ∧ (∀ i, i < bs.length → H3 (c i) = none) ∧ bs.length ≤ 8 ∧ ∀ b ∈ bs, RowOk S N 20 b, ?_, ?_⟩
  · refine ⟨_, rfl, _, _, _, _, rfl, rfl, s4.seq sd3, at_gd (j := 4) rfl (by omega), _, _, rfl, rfl, (by show (0 : Int) < 2; decide), rfl, _, rfl, ite2 (fun e => ?_) (fun e => ?_)⟩
    · refine ⟨sz (by decide), fun o no => ?_⟩
      dsimp only [gName]
      have w1 := rw1.mono ho_out
      have s4o := same_new (o := HO.lst []) no
      refine ⟨_, rfl, pm, rfl, ⟨_, sq (s4o _ _ epm)⟩, for_list (xs := xs) (fun i σ' H' => ∃ (xs2 : List V) (bs2 : List Sp2) (t2 c2 : Nat → Addr) (y9 y10 : Option V), σ' = [some (.ref a), some (.ref pd), some (nV S), some (nV N), some (.ref ts), some (nV cr), some (.ref am), some (.ref pm), some (.ref o), y9, y10, none, none, none, none, none] ∧ Same H4 H' ∧ H' o = some (.lst xs2) ∧ Rws (Ho o H') xs2 bs2 t2 c2 ∧ (∀ i, i < bs2.length → H4 (c2 i) = none) ∧ bs2.length = i ∧ ∀ b ∈ bs2, RowOk S N 20 b) ⟨[], [], _, _, none, none, rfl, s4o, upd_same, .nil, (fun i h => absurd h (Nat.not_lt_zero _)), rfl, fun b hb => nomatch hb⟩ ?_ ?_ ?_⟩
      · rintro i σ' H' _ ⟨xs2, bs2, t2, c2, y9, y10, rfl, sm, _⟩
        exact sm.seq (sq epm)
      · rintro i u σ' H' hu ⟨xs2, bs2, t2, c2, y9, y10, rfl, sm, eo, rw2, fr2, bl2, ok2⟩
        have hi : i < bs.length := by rw [← w1.len]; exact (List.getElem?_eq_some_iff.mp hu).1
        have hbi : bs[i]? = some bs[i] := List.getElem?_eq_getElem hi
        obtain rfl : u = .ref (t i) := Option.some.inj (hu.symm.trans (w1.at' i hi))
        obtain ⟨j1, j2, j3, j4⟩ := ok1 bs[i] (List.mem_of_getElem? hbi)
        have ht := w1.tup i _ hbi
        have hc := w1.cnt i _ hbi
        generalize bs[i] = b at hbi j1 j2 j3 j4 ht hc
        generalize t i = ti at ht ⊢
        generalize c i = ci at ht hc ⊢
        have s3m := s4.trans sm
        dsimp only [gName]
        refine ⟨_, rfl, N, rfl, by omega, by omega, fun D nD => ?_⟩
        refine lc_valR (K := K) (n := N) (by omega) nD (fun j => V.int (if sc.getD j 0 < b.2.getD j 0 then sc.getD j 0 else b.2.getD j 0)) (fun _ => rfl) (fun j Hx Q' hj sj q' => ?_) fun H5 s5 e5 => ?_
        · have hz : (0 : Int) + (j : Int) = (j : Int) := by omega
          exact ⟨_, rfl, _, _, _, _, rfl, rfl, st (sj _ _ (sm _ _ ht)), atI_nat (j := 1) rfl, _, rfl, _, _, _, _, rfl, rfl, sq (sj _ _ (sm _ _ hc)), at_gd hz (by omega), _, rfl, _, _, _, _, rfl, rfl, st (sj _ _ (s3m _ _ est3)), atI_nat (j := 1) rfl, _, rfl, _, _, _, _, rfl, rfl, sq (sj _ _ (s3m _ _ esc3)), at_gd hz (by omega), _, _, rfl, q' _ (Same.refl _)⟩
        replace e5 : H5 D = some (.lst (((List.range N).map fun j => if sc.getD j 0 < b.2.getD j 0 then sc.getD j 0 else b.2.getD j 0).map V.int)) := by
          rw [List.map_map]
          exact e5
        have lcs : ((List.range N).map fun j => if sc.getD j 0 < b.2.getD j 0 then sc.getD j 0 else b.2.getD j 0).length = N := by rw [List.length_map, List.length_range]
        have hcs : ∀ z ∈ (List.range N).map fun j => if sc.getD j 0 < b.2.getD j 0 then sc.getD j 0 else b.2.getD j 0, 0 ≤ z ∧ z ≤ 5 := fun z hz => by
          obtain ⟨j, hj, rfl⟩ := List.mem_map.mp hz
          have hj := List.mem_range.mp hj
          exact min2_le (j4 _ (gd_mem (by omega))) (k4 _ (gd_mem (by omega))).1
        generalize ((List.range N).map fun j => if sc.getD j 0 < b.2.getD j 0 then sc.getD j 0 else b.2.getD j 0) = cs at e5 lcs hcs
        dsimp only [gName]
        have v5 := mod_in (ds.getD 5 0) (show (0 : Int) < 4 by decide)
        have sm5 := sm.trans s5
        have s35 := s4.trans sm5
        refine ⟨_, rfl, _, _, _, _, rfl, rfl, st (sm5 _ _ ht), atI_nat (j := 1) rfl, _, rfl, _, _, _, _, rfl, rfl, sq (sm5 _ _ hc), at_gd rfl (by omega), _, rfl, _, _, _, _, rfl, rfl, s35.seq sd3, at_gd (j := 5) rfl (by omega), _, _, rfl, rfl, (by show (0 : Int) < 4; decide), _, _, rfl, rfl, .inl ⟨by omega, by omega⟩, _, _, rfl, rfl, _, rfl, _, rfl, D, _, _, cr, rfl, rfl, e5, ixN_nat (by rw [List.length_map]; omega), ?_⟩
        rw [set_int]
        have jc := j4 _ (gd_mem (ds := b.2) (i := cr) (by omega))
        have hcs2 : ∀ z ∈ cs.set cr (b.2.getD cr 0 + ds.getD 5 0 % 4 * 5), 0 ≤ z ∧ z ≤ 20 := fun z hz => by
          rcases List.mem_or_eq_of_mem_set hz with h | rfl
          · have := hcs z h; omega
          · omega
        have lcs2 : (cs.set cr (b.2.getD cr 0 + ds.getD 5 0 % 4 * 5)).length = N := by rw [List.length_set]; exact lcs
        generalize cs.set cr (b.2.getD cr 0 + ds.getD 5 0 % 4 * 5) = cs2 at hcs2 lcs2
        have sm6 : Same H' (upd H5 D (.lst (cs2.map V.int))) := Same.mut s5 nD
        have e6 : (upd H5 D (.lst (cs2.map V.int))) D = some (.lst (cs2.map V.int)) := upd_same
        generalize upd H5 D (.lst (cs2.map V.int)) = H6 at sm6 e6 ⊢
        have sm46 := sm.trans sm6
        have eo6 := sm6 _ _ eo
        refine ⟨_, rfl, .inl ⟨rfl, xs2, sq eo6⟩, ?_⟩
        refine ⟨_, rfl, _, _, _, _, rfl, rfl, st (sm46 _ _ ht), atI_nat (j := 1) rfl, _, _, _, _, rfl, rfl, sq (sm46 _ _ hc), at_gd (j := 0) rfl (by omega), _, _, rfl, rfl, _, rfl, ?_⟩
        have fin : ∀ z : Int, 0 ≤ z ∧ z < (S : Int) → ∀ u, H6 u = none → ∃ (l : Addr) (xs' : List V) (v : V), V.ref o = .ref l ∧ [V.ref u] = [v] ∧ (upd H6 u (.tup [.int z, .ref D])) l = some (.lst xs') ∧ xs'.length < sizeLine ∧ ∃ (xs2 : List V) (bs2 : List Sp2) (t2 c2 : Nat → Addr) (y9 y10 : Option V), [some (V.ref a), some (.ref pd), some (nV S), some (nV N), some (.ref ts), some (nV cr), some (.ref am), some (.ref pm), some (.ref o), some (.ref ti), some (.ref D), none, none, none, none, none] = [some (.ref a), some (.ref pd), some (nV S), some (nV N), some (.ref ts), some (nV cr), some (.ref am), some (.ref pm), some (.ref o), y9, y10, none, none, none, none, none] ∧ Same H4 (upd (upd H6 u (.tup [.int z, .ref D])) l (.lst (xs' ++ [v]))) ∧ (upd (upd H6 u (.tup [.int z, .ref D])) l (.lst (xs' ++ [v]))) o = some (.lst xs2) ∧ Rws (Ho o (upd (upd H6 u (.tup [.int z, .ref D])) l (.lst (xs' ++ [v])))) xs2 bs2 t2 c2 ∧ (∀ i, i < bs2.length → H4 (c2 i) = none) ∧ bs2.length = i + 1 ∧ ∀ b ∈ bs2, RowOk S N 20 b := fun z hz u nu => by
          have xl := rw2.len
          have nDo : D ≠ o := fun e => by rw [e, eo] at nD; cases nD
          have uo : u ≠ o := fun e => by rw [e, eo6] at nu; cases nu
          have uD : u ≠ D := fun e => by rw [e, e6] at nu; cases nu
          have smu := sm6.trans (same_new (o := HO.tup [V.int z, V.ref D]) nu)
          have shx : Same (Ho o H') (Ho o (upd (upd H6 u (.tup [.int z, .ref D])) o (.lst (xs2 ++ [.ref u])))) := (ho_same smu).trans ho_mut
          refine ⟨o, xs2, _, rfl, rfl, (same_new nu) _ _ eo6, szl (by omega), xs2 ++ [.ref u], bs2 ++ [(z, cs2)], _, _, _, _, rfl, Same.mut (sm.trans smu) no, upd_same, (rw2.mono shx).snoc (T := u) (C := D) (b := (z, cs2)) ?_ ?_ (fun i hi e => ?_), ?_, by rw [List.length_append, bl2]; rfl, ?_⟩
          · unfold Ho
            rw [if_neg uo, upd_ne uo]
            exact upd_same
          · unfold Ho
            rw [if_neg nDo, upd_ne nDo, upd_ne (Ne.symm uD)]
            exact e6
          · have := rw2.cnt i _ (List.getElem?_eq_getElem hi)
            rw [e] at this
            have := ho_out _ _ this
            rw [nD] at this
            cases this
          · intro i hi
            rw [List.length_append] at hi
            try dsimp only
            split
            · exact sm.free nD
            · exact fr2 i (by have : i < bs2.length + 1 := hi; omega)
          · intro b hb
            rcases List.mem_append.mp hb with h | h
            · exact ok2 b h
            · rw [List.mem_singleton.mp h]; exact ⟨lcs2, hz.1, hz.2, hcs2⟩
        refine ite2 (fun e => ?_) (fun e => ?_)
        · refine ⟨_, rfl, _, _, _, _, rfl, rfl, st ((s4.trans sm46) _ _ est3), atI_nat (j := 0) rfl, _, rfl, szc 2, fun u nu => ?_⟩
          exact fin _ ⟨by omega, by omega⟩ u nu
        · refine ⟨_, rfl, _, _, _, _, rfl, rfl, st (sm46 _ _ ht), atI_nat (j := 0) rfl, _, rfl, szc 2, fun u nu => ?_⟩
          exact fin _ ⟨j2, j3⟩ u nu
      · rintro σ' H' ⟨xs2, bs2, t2, c2, y9, y10, rfl, sm, eo, rw2, fr2, bl2, ok2⟩
        have xl := w1.len
        exact ⟨_, rfl, o, xs2, bs2, t2, c2, _, _, _, rfl, s4.trans sm, s4.free no, eo, rw2, fun i hi => s4.free (fr2 i hi), by omega, ok2⟩
    · exact ⟨pm, xs, bs, t, c, _, _, _, rfl, s4, npm, epm, rw1, fr1, by omega, fun b hb => by
        obtain ⟨j1, j2, j3, j4⟩ := ok1 b hb
        exact ⟨j1, j2, j3, fun c hc => by have := j4 c hc; omega⟩⟩
  clear rw1 fr1 bl1 ok1 epm npm s4 xs bs t c
  rintro σ' H5 ⟨o, xs, bs, t, c, y8, y9, y10, rfl, s5, no, eo, rw1, fr1, bl1, ok1⟩
  -- great counts
  refine ⟨fun σ' H' => ∃ (bs' : List Sp2) (y9 : Option V), σ' = [some (.ref a), some (.ref pd), some (nV S), some (nV N), some (.ref ts), some (nV cr), some (.ref am), some (.ref o), y8, y9, y10, none, none, none, none, none] ∧ Same H3 H' ∧ H' o = some (.lst xs) ∧ DpAll K H' xs (bs'.map fun b => sitD b.1 b.2) ∧ bs'.length ≤ 8 ∧ ∀ b ∈ bs', RowOk S N 2000060 b, ?_, ?_⟩
  · refine ⟨_, rfl, _, _, _, _, rfl, rfl, s5.seq sd3, at_gd (j := 5) rfl (by omega), _, _, rfl, rfl, ⟨by decide, by decide⟩, _, _, rfl, rfl, (by show (0 : Int) < 3; decide), rfl, _, rfl, ite2 (fun e => ?_) (fun e => ?_)⟩
    · have w1 := rw1.mono ho_out
      have xl := w1.len
      refine ⟨_, rfl, o, rfl, ⟨_, sq eo⟩, for_list (xs := xs) (fun i σ' H' => ∃ (bs' : List Sp2) (y9 : Option V), σ' = [some (.ref a), some (.ref pd), some (nV S), some (nV N), some (.ref ts), some (nV cr), some (.ref am), some (.ref o), y8, y9, y10, none, none, none, none, none] ∧ Same H3 H' ∧ H' o = some (.lst xs) ∧ Rws H' xs bs' t c ∧ bs'.length = bs.length ∧ (∀ b ∈ bs'.take i, RowOk S N 2000060 b) ∧ (∀ b ∈ bs'.drop i, RowOk S N 20 b)) ⟨bs, _, rfl, s5, eo, w1, rfl, (fun b hb => by rw [List.take_zero] at hb; cases hb), ok1⟩ ?_ ?_ ?_⟩
      · rintro i σ' H' _ ⟨bs', y9, rfl, _, eo', _⟩
        exact sq eo'
      · rintro i u σ' H' hu ⟨bs', y9, rfl, sm, eo', rw2, bl2, ok2, ok3⟩
        have hi : i < bs'.length := by rw [← rw2.len]; exact (List.getElem?_eq_some_iff.mp hu).1
        have hbi : bs'[i]? = some bs'[i] := List.getElem?_eq_getElem hi
        obtain rfl : u = .ref (t i) := Option.some.inj (hu.symm.trans (rw2.at' i hi))
        obtain ⟨j1, j2, j3, j4⟩ := ok3 bs'[i] (by rw [List.drop_eq_getElem_cons hi]; exact List.mem_cons_self)
        have ht := rw2.tup i _ hbi
        have hc := rw2.cnt i _ hbi
        have nci := fr1 i (by omega)
        have oc : o ≠ c i := fun e => by rw [← e, eo'] at hc; have := Option.some.inj hc; injection this with this; have hx := rw2.at' i hi; rw [this] at hx; obtain ⟨z, hz, e⟩ := get_map_inv hx; cases e
        generalize hb : bs'[i] = b at hbi j1 j2 j3 j4 ht hc
        dsimp only [gName]
        refine ⟨_, rfl, _, _, _, _, rfl, rfl, st ht, atI_nat (j := 1) rfl, _, rfl, _, _, _, _, rfl, rfl, sq hc, at_gd rfl (by omega), _, _, rfl, rfl, .inr ⟨by decide, by decide⟩, _, rfl, _, _, _, _, rfl, rfl, st ht, atI_nat (j := 1) rfl, _, rfl, c i, _, _, cr, rfl, rfl, hc, ixN_nat (by rw [List.length_map]; omega), ?_⟩
        rw [set_int]
        have jc := j4 _ (gd_mem (ds := b.2) (i := cr) (by omega))
        have tne : ∀ j b', bs'[j]? = some b' → t j ≠ c i := fun j b' e z => by
          have := rw2.tup j b' e
          rw [z, hc] at this
          cases this
        refine ⟨bs'.set i (mulRow cr b), _, rfl, Same.mut sm nci, by rw [upd_ne oc]; exact eo', ⟨by rw [List.length_set]; exact rw2.len, fun j hj => rw2.at' j (by rw [List.length_set] at hj; exact hj), fun j b' e => ?_, fun j b' e => ?_, fun j k hj hk => rw2.inj j k (by rw [List.length_set] at hj; exact hj) (by rw [List.length_set] at hk; exact hk)⟩, by rw [List.length_set]; exact bl2, fun b' hb' => ?_, fun b' hb' => ?_⟩
        · rw [List.getElem?_set] at e
          by_cases z : i = j
          · subst z
            rw [if_pos rfl, if_pos hi] at e
            cases e
            rw [upd_ne (tne i b hbi)]
            exact ht
          · rw [if_neg z] at e
            rw [upd_ne (tne j b' e)]
            exact rw2.tup j b' e
        · rw [List.getElem?_set] at e
          by_cases z : i = j
          · subst z
            rw [if_pos rfl, if_pos hi] at e
            cases e
            exact upd_same
          · rw [if_neg z] at e
            have hj := (List.getElem?_eq_some_iff.mp e).1
            rw [upd_ne (fun q => z (rw2.inj i j hi hj q.symm))]
            exact rw2.cnt j b' e
        · rw [List.take_add_one, List.getElem?_set, if_pos rfl, if_pos hi] at hb'
          rcases List.mem_append.mp hb' with h | h
          · refine ok2 b' ?_
            rw [List.take_set_of_le (Nat.le_refl _)] at h
            exact h
          · have : b' = mulRow cr b := List.mem_singleton.mp h
            rw [this]
            refine ⟨by show (b.2.set _ _).length = N; rw [List.length_set]; exact j1, j2, j3, fun z hz => ?_⟩
            rcases List.mem_or_eq_of_mem_set hz with h | rfl
            · have := j4 z h; omega
            · omega
        · rw [List.drop_set_of_lt (Nat.lt_succ_self i)] at hb'
          exact ok3 b' (by rw [List.drop_eq_getElem_cons hi]; exact List.mem_cons_of_mem _ hb')
      · rintro σ' H' ⟨bs', y9, rfl, sm, eo', rw2, bl2, ok2, ok3⟩
        rw [List.take_of_length_le (by rw [rw2.len]; exact Nat.le_refl _)] at ok2
        exact ⟨bs', _, rfl, sm, eo', rw2.dpa, by omega, ok2⟩
    · exact ⟨bs, _, rfl, s5, eo, (rw1.mono ho_out).dpa, bl1, fun b hb => by
        obtain ⟨j1, j2, j3, j4⟩ := ok1 b hb
        exact ⟨j1, j2, j3, fun c hc => by have := j4 c hc; omega⟩⟩
  clear rw1 fr1 bl1 ok1 eo s5 bs t c H5
  rintro σ' H5 ⟨bs, y9, rfl, s5, eo, dx, bl, ok⟩
  have dM5 := dp_mono s5 dM
  have dL5 : Dp K H5 (.ref o) (.list (bs.map fun b => sitD b.1 b.2)) := .lst (sq eo) dx
  have xl := dpa_map_len dx
  have shw : Shw (.list [M.data, .list (bs.map fun b => sitD b.1 b.2)]) := ((NcL.cons ncM (NcL.cons (((rowsG_nc (by omega) (by decide) ok).mono (Nat.le_refl _) (show 2 ≤ 4 by decide)).lst) (NcL.nil (c := 0)))).lst).shw (by
    have : (N + 3) * bs.length ≤ 9 * 8 := Nat.mul_le_mul (by omega) (by omega)
    omega) (by decide)
  refine ⟨_, rfl, _, rfl, szc 2, fun p np => ⟨p, _, rfl, .lst (sq upd_same) (.cons (dp_mono (same_new np) dM5) (.cons (dp_mono (same_new np) dL5) .nil)), shw.sh, shw.nd, shw.de, shw.ln, ?_⟩⟩
  dsimp only [gName]
  have s6 := same_new (o := HO.lst [V.ref am, V.ref o]) np
  generalize hkept : (PyData.list [M.data, .list (bs.map fun b => sitD b.1 b.2)]).shown = kept at *
  generalize upd H5 p (.lst [.ref am, .ref o]) = H6 at s6 ⊢
  have hlc : ∀ b ∈ bs, b.2.length = M.cnts.length := fun b hb => by rw [hMc, k1]; exact (ok b hb).1
  have hcM : M.crew < M.cnts.length := by rw [hMr, hMc, k1]; exact hcr
  generalize hcf : crewOf (M.sst : Int) M.cnts M.crew = cf
  have s36 := s5.trans s6
  refine ⟨_, rfl, o, rfl, ⟨_, sq (s6 _ _ eo)⟩, for_list (xs := xs) (fun i σ' H' => ∃ (due : Option Int) (y9 y13 : Option V), σ' = [some (.ref a), some (.ref pd), some (nV S), some (nV N), some (.ref ts), some (nV cr), some (.ref am), some (.ref o), y8, y9, y10, some (.str kept), some (oV due), y13, none, none] ∧ Same H6 H' ∧ DueOk due ((bs.take i).filterMap cf)) ⟨none, _, none, rfl, Same.refl _, rfl⟩ ?_ ?_ ?_⟩
  · rintro i σ' H' _ ⟨due, y9, y13, rfl, sm, _⟩
    exact sm.seq (sq (s6 _ _ eo))
  · rintro i u σ' H' hu ⟨due, y9, y13, rfl, sm, du⟩
    obtain ⟨b, hbi, dv⟩ := dpa_map_at dx hu
    have okb := ok b (List.mem_of_getElem? hbi)
    have s5m := s6.trans sm
    have s3m := s36.trans sm
    obtain ⟨ua, uc, rfl, hua, huc⟩ := dp_sit (dp_mono s5m dv)
    have du5 := dp_mono s5m dv
    dsimp only [gName]
    refine ⟨_, rfl, _, _, _, _, rfl, rfl, hua, atI_nat (j := 1) rfl, _, rfl, _, _, _, _, rfl, rfl, huc, at_gd rfl (by rw [okb.1]; omega), _, rfl, _, _, _, _, rfl, rfl, st (s3m _ _ est3), atI_nat (j := 1) rfl, _, rfl, _, _, _, _, rfl, rfl, sq (s3m _ _ esc3), at_gd rfl (by omega), _, _, rfl, rfl, _, _, rfl, ?_⟩
    dsimp only [gName]
    refine ⟨_, rfl, _, rfl, .ref am, M, mx0 (b.2.getD cr 0 - sc.getD cr 0), rfl, dp_mono s3m dM, hcM, fun H7 p7 s7 nw => ?_⟩
    have cov := cov_crew (ss := (M.sst : Int)) (sc := M.cnts) (cr := M.crew) (e := b) (by rw [hMc, k1, okb.1]) hcM
    rw [hMc, hMr] at nw cov
    unfold bump at nw
    refine ⟨_, rfl, _, _, _, _, _, _, rfl, nw.sit, Same.sit s7 (dp_sit du5), by rw [List.length_set, k1, okb.1], by rw [okb.1]; omega, _, rfl, ?_⟩
    rw [cov]
    have ecf : crewOf (M.sst : Int) sc cr b = cf b := by rw [← hcf, hMc, hMr]
    rw [fm_snoc hbi]
    cases hcb : cf b with
    | none =>
      rw [ecf, hcb]
      refine iteF (iteF ⟨due, _, _, rfl, sm.trans s7, ?_⟩)
      rw [List.append_nil]
      exact du
    | some z =>
      have ez : mx0 (b.2.getD cr 0 - sc.getD cr 0) = z := by
        rw [← ecf] at hcb
        unfold crewOf at hcb
        split at hcb
        · exact Option.some.inj hcb
        · cases hcb
      rw [ecf, hcb]
      refine iteT ?_
      have dn := du.snoc (z := z)
      refine ⟨_, rfl, rfl, _, rfl, ?_⟩
      rw [oV_non]
      cases due with
      | none => exact iteT (iteT ⟨_, rfl, some z, _, _, by rw [← ez]; rfl, sm.trans s7, dn⟩)
      | some m =>
        refine iteF ⟨_, rfl, _, rfl, _, _, rfl, rfl, _, rfl, ?_⟩
        change DueOk (if decide (z < m) = true then some z else some m) _ at dn
        rw [← ez] at dn
        cases hlt : decide (mx0 (b.2.getD cr 0 - sc.getD cr 0) < m) with
        | true =>
          have e1 := of_decide_eq_true hlt
          unfold mx0 at e1
          rw [hlt, if_pos rfl, ez] at dn
          refine iteTx (decide_eq_true e1) ⟨_, rfl, some z, _, _, by rw [← ez]; rfl, sm.trans s7, dn⟩
        | false =>
          have e1 := of_decide_eq_false hlt
          unfold mx0 at e1
          rw [hlt, if_neg (by decide), ez] at dn
          refine iteFx (decide_eq_false e1) ⟨some m, _, _, rfl, sm.trans s7, dn⟩
  · rintro σ' H' ⟨due, y9, y13, rfl, sm, du⟩
    rw [List.take_of_length_le (by omega)] at du
    have s5m := s6.trans sm
    have s3m := s36.trans sm
    refine ⟨_, rfl, _, rfl, .ref am, o, M, xs, bs, rfl, dp_mono s3m dM, sq (s5m _ _ eo), dpAll_mono s5m dx, hlc, hcM, by omega, fun H7 told s7 dt => ?_⟩
    rw [hcf] at dt
    obtain rfl := du.uniq dt
    dsimp only [gName]
    have s57 := s5m.trans s7
    refine ⟨_, rfl, _, rfl, szc 2, fun p' np' => ⟨p', _, rfl, .lst (sq upd_same) (.cons (dp_mono (s57.trans (same_new np')) dM5) (.cons (dp_mono (s57.trans (same_new np')) dL5) .nil)), shw.sh, shw.nd, shw.de, shw.ln, _, rfl, rfl, _, rfl, ?_⟩⟩
    rw [hkept, neM]
    refine iteF ?_
    have nb : Ans (tB (tCB (rIsi K) (tCons (tVar 14) (tCons (tC (.ty "bool")) tNil)))) [some (V.ref a), some (.ref pd), some (nV S), some (nV N), some (.ref ts), some (nV cr), some (.ref am), some (.ref o), y8, y9, y10, some (.str kept), some (oV due), y13, some (oV due), none] (upd H7 p' (.lst [.ref am, .ref o])) false := by
      cases due with
      | none => exact ansIsi (T := "NoneType") (b := false) (fun Q q => ⟨_, rfl, q⟩) (.base .non) (by decide +kernel)
      | some z => exact ansIsi (T := "int") (b := false) (fun Q q => ⟨_, rfl, q⟩) (.base (.int _)) (by decide +kernel)
    refine ansF nb (iteF ?_)
    cases due with
    | none =>
      refine ⟨_, rfl, rfl, _, rfl, iteTx rfl ⟨_, rfl, rfl, q _⟩⟩
    | some z =>
      refine ⟨_, rfl, rfl, _, rfl, iteFx rfl ?_⟩
      refine ⟨_, rfl, V.int z, _, _, _, true, rfl, .ty "int", .base (.int _), kit_ty (by decide +kernel), ⟨true, rfl, iteT ⟨_, rfl, _, rfl, rfl, ?_⟩⟩⟩
      rw [decide_eq_true rfl]
      exact q _
end
theorem all_mk {l : PySem.W.OpenLaw} {w : World} {K : PySem.W.Frag} {h : Heap} {mg : Str → Option Value} {fa f1 f2 f3 f4 f5 f6 f7 f8 : Addr} (X : K.In h) (G : h.Ns mainGlobals mg) (hfa : mg "law" = some (.ref fa))
    {od1 an1 od2 an2 od3 an3 od4 an4 od5 an5 od6 an6 od7 an7 od8 an8 : Option Addr} {sl1 sl2 sl3 sl4 sl5 sl6 sl7 sl8 : Array (Option Value)} {oc1 kV1 dc1 pm1 cd1 ct1 oc2 kV2 dc2 pm2 cd2 ct2 oc3 kV3 dc3 pm3 cd3 ct3 oc4 kV4 dc4 pm4 cd4 ct4 oc5 kV5 dc5 pm5 cd5 ct5 oc6 kV6 dc6 pm6 cd6 ct6 oc7 kV7 dc7 pm7 cd7 ct7 oc8 kV8 dc8 pm8 cd8 ct8 : Value}
    (a1 : PySem.W.nsIn K mainGlobals "crew_for" = some (some (.ref f1))) (l1 : K.lookup f1 = some ⟨oc1, od1, .func (PySem.W.fnOf "crew_for" "crew_for" (defArgs s_crew_for) (defBody s_crew_for) (defScope s_crew_for) .none kV1 dc1 pm1 an1 cd1 ct1), sl1⟩) (c1 : PySem.W.codeIn K cd1 "crew_for" = true) (k1 : PySem.W.keepIn K (.ref f1) = true)
    (a2 : PySem.W.nsIn K mainGlobals "least_crew" = some (some (.ref f2))) (l2 : K.lookup f2 = some ⟨oc2, od2, .func (PySem.W.fnOf "least_crew" "least_crew" (defArgs s_least_crew) (defBody s_least_crew) (defScope s_least_crew) .none kV2 dc2 pm2 an2 cd2 ct2), sl2⟩) (c2 : PySem.W.codeIn K cd2 "least_crew" = true) (k2 : PySem.W.keepIn K (.ref f2) = true)
    (a3 : PySem.W.nsIn K mainGlobals "_law_cell" = some (some (.ref f3))) (l3 : K.lookup f3 = some ⟨oc3, od3, .func (PySem.W.fnOf "_law_cell" "_law_cell" (defArgs s_law_cell) (defBody s_law_cell) (defScope s_law_cell) .none kV3 dc3 pm3 an3 cd3 ct3), sl3⟩) (c3 : PySem.W.codeIn K cd3 "_law_cell" = true) (k3 : PySem.W.keepIn K (.ref f3) = true)
    (a4 : PySem.W.nsIn K mainGlobals "_law_digits" = some (some (.ref f4))) (l4 : K.lookup f4 = some ⟨oc4, od4, .func (PySem.W.fnOf "_law_digits" "_law_digits" (defArgs s_law_digits) (defBody s_law_digits) (defScope s_law_digits) .none kV4 dc4 pm4 an4 cd4 ct4), sl4⟩) (c4 : PySem.W.codeIn K cd4 "_law_digits" = true) (k4 : PySem.W.keepIn K (.ref f4) = true)
    (a5 : PySem.W.nsIn K mainGlobals "_law_covers" = some (some (.ref f5))) (l5 : K.lookup f5 = some ⟨oc5, od5, .func (PySem.W.fnOf "_law_covers" "_law_covers" (defArgs s_law_covers) (defBody s_law_covers) (defScope s_law_covers) .none kV5 dc5 pm5 an5 cd5 ct5), sl5⟩) (c5 : PySem.W.codeIn K cd5 "_law_covers" = true) (k5 : PySem.W.keepIn K (.ref f5) = true)
    (a6 : PySem.W.nsIn K mainGlobals "_law_some" = some (some (.ref f6))) (l6 : K.lookup f6 = some ⟨oc6, od6, .func (PySem.W.fnOf "_law_some" "_law_some" (defArgs s_law_some) (defBody s_law_some) (defScope s_law_some) .none kV6 dc6 pm6 an6 cd6 ct6), sl6⟩) (c6 : PySem.W.codeIn K cd6 "_law_some" = true) (k6 : PySem.W.keepIn K (.ref f6) = true)
    (a7 : PySem.W.nsIn K mainGlobals "_law_start" = some (some (.ref f7))) (l7 : K.lookup f7 = some ⟨oc7, od7, .func (PySem.W.fnOf "_law_start" "_law_start" (defArgs s_law_start) (defBody s_law_start) (defScope s_law_start) .none kV7 dc7 pm7 an7 cd7 ct7), sl7⟩) (c7 : PySem.W.codeIn K cd7 "_law_start" = true) (k7 : PySem.W.keepIn K (.ref f7) = true)
    (a8 : PySem.W.nsIn K mainGlobals "law" = some (some (.ref f8))) (l8 : K.lookup f8 = some ⟨oc8, od8, .func (PySem.W.fnOf "law" "law" (defArgs s_law) (defBody s_law) (defScope s_law) .none kV8 dc8 pm8 an8 cd8 ct8), sl8⟩) (c8 : PySem.W.codeIn K cd8 "law" = true) (k8 : PySem.W.keepIn K (.ref f8) = true)
    (z_len : PySem.W.nsIn K mainGlobals "len" = some none) (z_int : PySem.W.nsIn K mainGlobals "int" = some none) (z_abs : PySem.W.nsIn K mainGlobals "abs" = some none) (z_range : PySem.W.nsIn K mainGlobals "range" = some none) (z_min : PySem.W.nsIn K mainGlobals "min" = some none) (z_str : PySem.W.nsIn K mainGlobals "str" = some none) (z_isinstance : PySem.W.nsIn K mainGlobals "isinstance" = some none) (z_bool : PySem.W.nsIn K mainGlobals "bool" = some none) (z_dict : PySem.W.nsIn K mainGlobals "dict" = some none) (z_sum : PySem.W.nsIn K mainGlobals "sum" = some none) (z_list : PySem.W.nsIn K mainGlobals "list" = some none) (z_tuple : PySem.W.nsIn K mainGlobals "tuple" = some none) (z_repr : PySem.W.nsIn K mainGlobals "repr" = some none) (z_sorted : PySem.W.nsIn K mainGlobals "sorted" = some none) (z_enumerate : PySem.W.nsIn K mainGlobals "enumerate" = some none) (z_zip : PySem.W.nsIn K mainGlobals "zip" = some none) (z_all : PySem.W.nsIn K mainGlobals "all" = some none) (z_max : PySem.W.nsIn K mainGlobals "max" = some none) (z_set : PySem.W.nsIn K mainGlobals "set" = some none) (z_ValueError : PySem.W.nsIn K mainGlobals "ValueError" = some none) :
    ∀ base : Heap, K.In base → base.Ns mainGlobals mg → TopOk l.prog w K mg base fa (spLaw K) := by
  have e := hfa.symm.trans (PySem.W.mg_of X G a8)
  cases e
  have F1 := fun_mk (st := s_crew_for) l1 c1 k1
  have F2 := fun_mk (st := s_least_crew) l2 c2 k2
  have F3 := fun_mk (st := s_law_cell) l3 c3 k3
  have F4 := fun_mk (st := s_law_digits) l4 c4 k4
  have F5 := fun_mk (st := s_law_covers) l5 c5 k5
  have F6 := fun_mk (st := s_law_some) l6 c6 k6
  have F7 := fun_mk (st := s_law_start) l7 c7 k7
  have F8 := fun_mk (st := s_law) l8 c8 k8
  have B : Bt mg := { len := PySem.W.mg_none_of X G z_len, int := PySem.W.mg_none_of X G z_int, abs := PySem.W.mg_none_of X G z_abs, range := PySem.W.mg_none_of X G z_range, min := PySem.W.mg_none_of X G z_min, str := PySem.W.mg_none_of X G z_str, isinstance := PySem.W.mg_none_of X G z_isinstance, bool := PySem.W.mg_none_of X G z_bool, dict := PySem.W.mg_none_of X G z_dict, sum := PySem.W.mg_none_of X G z_sum, list := PySem.W.mg_none_of X G z_list, tuple := PySem.W.mg_none_of X G z_tuple, repr := PySem.W.mg_none_of X G z_repr, sorted := PySem.W.mg_none_of X G z_sorted, enumerate := PySem.W.mg_none_of X G z_enumerate, zip := PySem.W.mg_none_of X G z_zip, all := PySem.W.mg_none_of X G z_all, max := PySem.W.mg_none_of X G z_max, set := PySem.W.mg_none_of X G z_set, ValueError := PySem.W.mg_none_of X G z_ValueError }
  intro base _ _
  have D_crew_for := fd_crew_for (P := l.prog) (w := w) (base := base) F1 (PySem.W.mg_of X G a1) B
  have D_least_crew := fd_least_crew (P := l.prog) (w := w) (base := base) F2 (PySem.W.mg_of X G a2) B D_crew_for
  have D_law_cell := fd_law_cell (P := l.prog) (w := w) (base := base) F3 (PySem.W.mg_of X G a3) B
  have D_law_digits := fd_law_digits (P := l.prog) (w := w) (base := base) F4 (PySem.W.mg_of X G a4) B
  have D_law_covers := fd_law_covers (P := l.prog) (w := w) (base := base) F5 (PySem.W.mg_of X G a5) B
  have D_law_some := fd_law_some (P := l.prog) (w := w) (base := base) F6 (PySem.W.mg_of X G a6) B D_law_digits
  have D_law_start := fd_law_start (P := l.prog) (w := w) (base := base) F7 (PySem.W.mg_of X G a7) B
  exact fd_law F8 (PySem.W.mg_of X G a8) (fun s v => .of_eq rfl) B D_law_cell D_law_digits D_law_some D_law_covers D_law_start D_least_crew
end My
open PySem PySem.W PyProof.Rows
set_option maxRecDepth 100000 in
set_option maxHeartbeats 0 in
theorem PySem.Challenge.cw_legion_k46_least_crews_holds : PySem.Challenge.rw_legion_k46_least_crews.Holds := by
  w_on; o_law; k_head; (case hw => w_witness2)
  k_fill
  refine My.walk_top (l := PySem.Challenge.rw_legion_k46_least_crews) (n := 63) (sp := fun w => My.spLaw _) rfl (by decide) rfl (fun w h Y => PySem.W.kIn_of Y) ?F (fun _ _ a ns hl hS => ⟨a, ns, rfl, hS, hl, fun _ => rfl⟩)
  case F =>
    intro w mg fa h KX G hmg
    refine' My.all_mk KX G hmg ?a1 ?l1 ?c1 ?k1 ?a2 ?l2 ?c2 ?k2 ?a3 ?l3 ?c3 ?k3 ?a4 ?l4 ?c4 ?k4 ?a5 ?l5 ?c5 ?k5 ?a6 ?l6 ?c6 ?k6 ?a7 ?l7 ?c7 ?k7 ?a8 ?l8 ?c8 ?k8  ?z_len ?z_int ?z_abs ?z_range ?z_min ?z_str ?z_isinstance ?z_bool ?z_dict ?z_sum ?z_list ?z_tuple ?z_repr ?z_sorted ?z_enumerate ?z_zip ?z_all ?z_max ?z_set ?z_ValueError
    (case a1 => k_is); (case l1 => k_is); (case c1 => k_is); (case k1 => k_is)
    (case a2 => k_is); (case l2 => k_is); (case c2 => k_is); (case k2 => k_is)
    (case a3 => k_is); (case l3 => k_is); (case c3 => k_is); (case k3 => k_is)
    (case a4 => k_is); (case l4 => k_is); (case c4 => k_is); (case k4 => k_is)
    (case a5 => k_is); (case l5 => k_is); (case c5 => k_is); (case k5 => k_is)
    (case a6 => k_is); (case l6 => k_is); (case c6 => k_is); (case k6 => k_is)
    (case a7 => k_is); (case l7 => k_is); (case c7 => k_is); (case k7 => k_is)
    (case a8 => k_is); (case l8 => k_is); (case c8 => k_is); (case k8 => k_is)
    (case z_len => k_is); (case z_int => k_is); (case z_abs => k_is); (case z_range => k_is); (case z_min => k_is); (case z_str => k_is); (case z_isinstance => k_is); (case z_bool => k_is); (case z_dict => k_is); (case z_sum => k_is); (case z_list => k_is); (case z_tuple => k_is); (case z_repr => k_is); (case z_sorted => k_is); (case z_enumerate => k_is); (case z_zip => k_is); (case z_all => k_is); (case z_max => k_is); (case z_set => k_is); (case z_ValueError => k_is)
